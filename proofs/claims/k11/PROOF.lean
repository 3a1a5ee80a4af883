import PyProof.Rows.All
import Wide.All
import OpenK.AllK
import Wide.FinOn
import Lean
import PyProof.EqAt
import PyProof.EqKinds
import PyProof.TupleCall
import OpenK.KOwn
import PySem.Challenge.RW_aheadmill_k11_programs_read_back
import PyProof.NeKinds
set_option Elab.async false
set_option linter.all false
set_option maxRecDepth 100000
set_option exponentiation.threshold 2000
set_option maxHeartbeats 0
set_option genSizeOf false
namespace L2
open PySem PySem.Spec PyProof.Rows
abbrev Key:=Sum Int Str
noncomputable def keyIs:Key->Value->Bool
 | .inl k,v=>Value.isInt k v
 | .inr x,v=>Value.isStrOf x v
noncomputable def keyH (w:World):Key->Int
 | .inl k=>hashInt k
 | .inr x=>hashStr w x
theorem keyIs_shape:∀ {k:Key} {v:Value},keyIs k v = true->(∃ i t,k = Sum.inl i/\v = Value.int i t)\/(∃ x t,k = Sum.inr x/\v = Value.str x t)
 | .inl i,v,h=>by
  obtain ⟨t,e⟩:=Value.isInt_shape (k:=i) (v:=v) h
  exact .inl ⟨i,t,rfl,e⟩
 | .inr x,v,h=>by
  obtain ⟨t,e⟩:=Value.isStrOf_shape (x:=x) (v:=v) h
  exact .inr ⟨x,t,rfl,e⟩
theorem keyIs_int (i:Int)(t:Tok):keyIs (.inl i) (.int i t) = true:=by simp [keyIs,Value.isInt]
theorem keyIs_str (x:Str)(t:Tok):keyIs (.inr x) (.str x t) = true:=by simp [keyIs,Value.isStrOf]
theorem key_ll (a b:Int):decide ((Sum.inl a:Key) = Sum.inl b) = (a == b):=by
 by_cases e:a = b
 ·subst e;simp
 ·have h:¬ (Sum.inl a:Key) = Sum.inl b:=fun q=>e (Sum.inl.inj q)
  rw [decide_eq_false h]
  exact (beq_eq_false_iff_ne.mpr e).symm
theorem key_rr (a b:Str):decide ((Sum.inr a:Key) = Sum.inr b) = decide (a = b):=by
 by_cases e:a = b
 ·subst e;simp
 ·have h:¬ (Sum.inr a:Key) = Sum.inr b:=fun q=>e (Sum.inr.inj q)
  rw [decide_eq_false h,decide_eq_false e]
theorem key_lr (a:Int)(b:Str):decide ((Sum.inl a:Key) = Sum.inr b) = false:=decide_eq_false (fun q=>nomatch q)
theorem key_rl (a:Str)(b:Int):decide ((Sum.inr a:Key) = Sum.inl b) = false:=decide_eq_false (fun q=>nomatch q)
noncomputable def mixKind (prog:Program)(w:World):PySem.KeyKind prog w Key where
 is:=keyIs
 hash:=keyH w
 inj:=fun v a b ha hb=>by
  rcases keyIs_shape ha with ⟨i,t,rfl,rfl⟩ | ⟨x,t,rfl,rfl⟩
  ·rcases keyIs_shape hb with ⟨j,u,rfl,e⟩ | ⟨y,u,rfl,e⟩
   ·injection e with e1 _;rw [e1]
   ·exact nomatch e
  ·rcases keyIs_shape hb with ⟨j,u,rfl,e⟩ | ⟨y,u,rfl,e⟩
   ·exact nomatch e
   ·injection e with e1 _;rw [e1]
 byValue:=fun k v h=>by
  rcases keyIs_shape h with ⟨i,t,rfl,rfl⟩ | ⟨x,t,rfl,rfl⟩ <;> rfl
 pyHash:=fun hv h=>by
  rcases keyIs_shape hv with ⟨i,t,rfl,rfl⟩ | ⟨x,t,rfl,rfl⟩
  ·exact wpAny_pyHash_int h
  ·exact wpAny_pyHash_str h
 eqBool:=fun hu hv h=>by
  rcases keyIs_shape hu with ⟨i,t,rfl,rfl⟩ | ⟨x,t,rfl,rfl⟩
  ·rcases keyIs_shape hv with ⟨j,u,rfl,rfl⟩ | ⟨y,u,rfl,rfl⟩
   ·rw [key_ll] at h;exact wpAny_eqBool_int h
   ·rw [key_lr] at h;exact SeqAt.EqAt.int_str i t y u _ _ _ _ h
  ·rcases keyIs_shape hv with ⟨j,u,rfl,rfl⟩ | ⟨y,u,rfl,rfl⟩
   ·rw [key_rl] at h;exact SeqAt.EqAt.str_int x t j u _ _ _ _ h
   ·rw [key_rr] at h;exact wpAny_eqBool_str h
 «strs»:=fun k x t v h=>by
  rcases keyIs_shape h with ⟨i,u,rfl,e⟩ | ⟨y,u,rfl,e⟩
  ·exact nomatch e
  ·injection e with e1 _
   subst e1
   cases v <;> rfl
theorem mixKind_int (prog:Program)(w:World)(i:Int)(t:Tok):(mixKind prog w).is (.inl i) (.int i t) = true:=keyIs_int i t
theorem mixKind_str (prog:Program)(w:World)(x:Str)(t:Tok):(mixKind prog w).is (.inr x) (.str x t) = true:=keyIs_str x t
end L2
namespace L2
open PySem PySem.Spec PyProof.Rows
inductive V where
 | non | bl (b:Bool) | int (i:Int) | str (x:Str) | byt (b:Array UInt8) | flt (b:UInt64) | ref (a:Addr) | ty (n:String)
 deriving DecidableEq
noncomputable def RelV:V->Value->Prop
 | .non,u=>u = Value.none
 | .bl b,u=>u = Value.bool b
 | .int i,u=>∃ t,u = Value.int i t
 | .str x,u=>∃ t,u = Value.str x t
 | .byt b,u=>∃ t,u = Value.bytes b t
 | .flt b,u=>∃ t,u = Value.float b t
 | .ref a,u=>u = Value.ref a
 | .ty n,u=>u = Value.type n
abbrev Vals:List V->List Value->Prop:=Paired RelV
theorem Vals.length {xs:List V}{us:List Value}(r:Vals xs us):xs.length = us.length:=Paired.length r
theorem Vals.get:∀ {xs:List V} {us:List Value} {i:Nat} {x:V},Vals xs us->xs[i]? = some x->∃ u,us[i]? = some u/\RelV x u
 | _,_,_,_,.nil,e=>by simp at e
 | _,_,0,_,.cons r _,e=>by simp at e;subst e;exact ⟨_,rfl,r⟩
 | _,_,i + 1,x,.cons _ t,e=>by
  obtain ⟨u,h1,h2⟩:=Vals.get (i:=i) (x:=x) t (by simpa using e)
  exact ⟨u,by simpa using h1,h2⟩
theorem Vals.set {x:V}{u:Value}(r:RelV x u):∀ {xs:List V} {us:List Value} (i:Nat),Vals xs us->Vals (xs.set i x) (us.set i u)
 | _,_,_,.nil=>.nil
 | _,_,0,.cons _ t=>.cons r t
 | _,_,i + 1,.cons q t=>.cons q (Vals.set r i t)
theorem Vals.append:∀ {xs ys:List V} {us ws:List Value},Vals xs us->Vals ys ws->Vals (xs ++ ys) (us ++ ws)
 | _,_,_,_,.nil,s=>s
 | _,_,_,_,.cons r t,s=>.cons r (Vals.append t s)
theorem Vals.take:∀ {xs:List V} {us:List Value} (n:Nat),Vals xs us->Vals (xs.take n) (us.take n)
 | _,_,0,_=>.nil
 | _,_,_ + 1,.nil=>.nil
 | _,_,n + 1,.cons r t=>.cons r (Vals.take n t)
theorem Vals.drop:∀ {xs:List V} {us:List Value} (n:Nat),Vals xs us->Vals (xs.drop n) (us.drop n)
 | _,_,0,r=>r
 | _,_,_ + 1,.nil=>.nil
 | _,_,n + 1,.cons _ t=>Vals.drop n t
theorem Vals.none_of:∀ {xs:List V} {us:List Value} {i:Nat},Vals xs us->xs[i]? = none->us[i]? = none:=fun {xs us i} r e=>by
 have h1:=r.length
 have h2:xs.length <= i:=List.getElem?_eq_none_iff.mp e
 exact List.getElem?_eq_none_iff.mpr (by omega)
noncomputable def RelO:Option V->Option Value->Prop
 | some v,some u=>RelV v u
 | none,none=>True
 | _,_=>False
noncomputable def KV {κ:Type}:List (κ × V)->List (κ × Value)->Prop:=Paired fun (p:κ × V) (q:κ × Value)=>p.1 = q.1/\RelV p.2 q.2
noncomputable def kV:Key->V
 | .inl i=>.int i
 | .inr x=>.str x
inductive HO where

 | lst (xs:List V)

 | tup (xs:List V)

 | dK (kvs:List (Key × V)) | dT (kvs:List (List Key × V))

 | set (S:Int->Bool) (n:Nat)

 | ins (C dx:Addr) (fs:List (Str × V))

 | own (x:Addr)

 | xd (fs:List (Str × V))

 | met (f x:Addr)

 | rng (lo hi:Int)

 | frz (o:Obj) (u:HO)

 | tbl (ps:Array Value)

 | ext (φ:Heap->Prop)
abbrev Hp:=Addr->Option HO
noncomputable def upd (H:Hp)(a:Addr)(o:HO):Hp:=fun b=>if b = a then some o else H b
theorem upd_same {H:Hp}{a:Addr}{o:HO}:upd H a o a = some o:=by unfold upd;rw [if_pos rfl]
theorem upd_ne {H:Hp}{a b:Addr}{o:HO}(h:b ≠ a):upd H a o b = H b:=by unfold upd;rw [if_neg h]
theorem ne_of {H:Hp}{a b:Addr}{o u:HO}(h:H a = some o)(h':H b = some u)(d:o ≠ u):a ≠ b:=by
 intro e;subst e;rw [h] at h';exact d (Option.some.inj h')
theorem ne_of_none {H:Hp}{a b:Addr}{o:HO}(h:H a = some o)(h':H b = none):a ≠ b:=by
 intro e;subst e;rw [h] at h';cases h'
section
variable (P:Program)(w:World)
noncomputable def ObjOk (H:Hp)(h:Heap)(a:Addr):HO->Prop
 | .lst xs=>xs.length <= sizeLine/\∃ (its:List Value) (n:Nat),Vals xs its/\h.get? a = some { cls:=.type "list",data:=.seq its.toArray n }
 | .tup xs=>xs.length <= sizeLine/\∃ its:List Value,Vals xs its/\IsTup h a its.toArray
 | .dK kvs=>kvs.length <= sizeLine/\(a == sysModules) = false/\∃ vs,KV kvs vs/\h.DictOf (mixKind P w) a vs
 | .dT kvs=>kvs.length <= sizeLine/\(a == sysModules) = false/\∃ xs:List (List Key × Addr × Value),
  Paired (fun (p:List Key × V) (q:List Key × Addr × Value)=>p.1 = q.1/\H q.2.1 = some (.tup (p.1.map kV))/\RelV p.2 q.2.2) kvs xs /\
  ∃ o es ep,h.get? a = some o/\o.ExactDict/\o.data = .dict es ep/\es.toList = xs.map (entryOfKey (tupleKind (mixKind P w)))/\(xs.map (·.1)).Nodup
 | .set S n=>h.SetOf (intKind P w) a S n
 | .ins C dx fs=>H dx = some (.own a)/\fs.length <= 1000/\dx ≠ a/\h.get? a = some (PySem.W.instObj C dx) /\
  ∃ mA,h.Ns1 dx mA/\(∀ f,RelO (fs.lookup f) (mA f))/\PySem.Within mA (fs.map (·.1))
 | .own _=>∃ o,h.get? a = some o
 | .xd fs=>∃ mA,h.Ns1 a mA/\∀ f,RelO (fs.lookup f) (mA f)
 | .rng lo hi=>∃ t u v,h.get? a = some { cls:=.type "range",data:=.fields #[.int lo t,.int hi u,.int 1 v] }
 | .frz o u=>h.get? a = some o/\ObjOk H h a u
 | .tbl ps=>h.get? a = some { cls:=.none,data:=.fields ps }
 | .met f x=>h.get? a = some (PySem.W.methodObj (.ref f) (.ref x))
 | .ext φ=>φ h/\(∃ o,h.get? a = some o)/\∀ h1 h2:Heap,φ h1->(∀ o,h1.get? a = some o->h2.get? a = some o)->φ h2
noncomputable def HOk (H:Hp)(h:Heap):Prop:=∀ a o,H a = some o->ObjOk P w H h a o
end
section
variable {P:Program}{w:World}{H H':Hp}{h h':Heap}{a:Addr}{o:HO}
theorem ObjOk.lt (x:ObjOk P w H h a o):a < h.objs.size:=by
 cases o with
 | lst xs=>obtain ⟨_,_,_,_,e⟩:=x;exact Heap.lt_size e
 | tup xs=>obtain ⟨_,_,_,p⟩:=x;exact p.lt
 | dK kvs=>obtain ⟨_,_,_,_,o,_,_,e,_⟩:=x;exact Heap.lt_size e
 | dT kvs=>obtain ⟨_,_,_,_,o,_,_,e,_⟩:=x;exact Heap.lt_size e
 | set S n=>obtain ⟨o,_,_,_,e,_⟩:=x;exact Heap.lt_size e
 | ins C dx fs=>obtain ⟨_,_,_,e,_⟩:=x;exact Heap.lt_size e
 | own y=>obtain ⟨_,e⟩:=x;exact Heap.lt_size e
 | xd fs=>obtain ⟨_,⟨_,_,_,e,_⟩,_⟩:=x;exact Heap.lt_size e
 | rng lo hi=>obtain ⟨_,_,_,e⟩:=x;exact Heap.lt_size e
 | frz ob u=>obtain ⟨e,_⟩:=x;exact Heap.lt_size e
 | tbl ps=>exact Heap.lt_size (show h.get? a = some _ from x)
 | met f y=>exact Heap.lt_size (show h.get? a = some _ from x)
 | ext φ=>obtain ⟨_,⟨_,e⟩,_⟩:=x;exact Heap.lt_size e
theorem Paired.mapP {α β:Type}{F G:α->β->Prop}:∀ {l₁:List α} {l₂:List β},Paired F l₁ l₂->(∀ a b,F a b->G a b)->Paired G l₁ l₂
 | _,_,.nil,_=>.nil
 | _,_,.cons r t,f=>.cons (f _ _ r) (Paired.mapP t f)
theorem ObjOk.stay (x:ObjOk P w H h a o)(k:∀ b u,(b = a\/H b = some (.own a))->h.get? b = some u->h'.get? b = some u)
  (ho:∀ b,H b = some (.own a)->H' b = some (.own a)) (ht:∀ b xs,H b = some (.tup xs)->H' b = some (.tup xs)):ObjOk P w H' h' a o:=by
 induction o with
 | lst xs=>obtain ⟨z,its,n,r,e⟩:=x;exact ⟨z,its,n,r,k _ _ (.inl rfl) e⟩
 | tup xs=>obtain ⟨z,its,r,ob,e,c⟩:=x;exact ⟨z,its,r,ob,k _ _ (.inl rfl) e,c⟩
 | dK kvs=>obtain ⟨z,y,vs,r,ob,es,ep,e,c⟩:=x;exact ⟨z,y,vs,r,ob,es,ep,k _ _ (.inl rfl) e,c⟩
 | dT kvs =>
  obtain ⟨z,y,xs,r,ob,es,ep,e,c⟩:=x
  exact ⟨z,y,xs,Paired.mapP r fun p q z=>⟨z.1,ht _ _ z.2.1,z.2.2⟩,ob,es,ep,k _ _ (.inl rfl) e,c⟩
 | set S n=>obtain ⟨ob,es,ep,t,e,c⟩:=x;exact ⟨ob,es,ep,t,k _ _ (.inl rfl) e,c⟩
 | ins C dx fs =>
  obtain ⟨d,z,ne,e,mA,⟨od,es,ep,e2,c⟩,r⟩:=x
  exact ⟨ho _ d,z,ne,k _ _ (.inl rfl) e,mA,⟨od,es,ep,k _ _ (.inr d) e2,c⟩,r⟩
 | own y=>obtain ⟨ob,e⟩:=x;exact ⟨ob,k _ _ (.inl rfl) e⟩
 | xd fs=>obtain ⟨mA,⟨od,es,ep,e,c⟩,r⟩:=x;exact ⟨mA,⟨od,es,ep,k _ _ (.inl rfl) e,c⟩,r⟩
 | rng lo hi=>obtain ⟨t,u,v,e⟩:=x;exact ⟨t,u,v,k _ _ (.inl rfl) e⟩
 | frz ob u ih=>obtain ⟨e,q⟩:=x;exact ⟨k _ _ (.inl rfl) e,ih q⟩
 | tbl ps =>
  have e:h.get? a = some { cls:=.none,data:=.fields ps }:=x
  show h'.get? a = some { cls:=.none,data:=.fields ps }
  exact k a _ (.inl rfl) e
 | met f y =>
  have e:h.get? a = some (PySem.W.methodObj (.ref f) (.ref y)):=x
  show h'.get? a = some (PySem.W.methodObj (.ref f) (.ref y))
  exact k a _ (.inl rfl) e
 | ext φ=>obtain ⟨p,⟨o,e⟩,st⟩:=x;exact ⟨st _ _ p fun o q=>k _ _ (.inl rfl) q,⟨o,k _ _ (.inl rfl) e⟩,st⟩
theorem HOk.lt (x:HOk P w H h)(e:H a = some o):a < h.objs.size:=(x a o e).lt
theorem HOk.fresh (x:HOk P w H h)(e:h.objs.size <= a):H a = none:=by
 cases q:H a with
 | none=>rfl
 | some u=>exact absurd (Nat.lt_of_lt_of_le (x.lt q) e) (Nat.lt_irrefl _)
theorem HOk.kept (x:HOk P w H h)(k:∀ b u,h.get? b = some u->h'.get? b = some u):HOk P w H h':=fun a o e =>
 (x a o e).stay (fun b u _ q=>k b u q) (fun _ q=>q) fun _ _ q=>q
theorem HOk.laid (x:HOk P w H h)(k:∀ b u,h.get? b = some u->h'.get? b = some u)(hp:h.objs.size <= a)(new:ObjOk P w (upd H a o) h' a o):HOk P w (upd H a o) h':=fun b u e=>by
 have hn:=x.fresh hp
 by_cases hb:b = a
 ·subst hb;rw [upd_same] at e;cases e;exact new
 ·rw [upd_ne hb] at e
  exact (x b u e).stay (fun c v _ q=>k c v q) (fun c q=>by rw [upd_ne (ne_of_none q hn)];exact q) fun c xs q=>by rw [upd_ne (ne_of_none q hn)];exact q
end
noncomputable def Rd (H:Hp)(a:Addr)(u:HO):Prop:=H a = some u\/∃ o,H a = some (.frz o u)
theorem Rd.ok {P:Program}{w:World}{H:Hp}{h:Heap}{a:Addr}{u:HO}(r:Rd H a u)(x:HOk P w H h):ObjOk P w H h a u:=by
 rcases r with r | ⟨o,r⟩
 ·exact x a u r
 ·obtain ⟨_,q⟩:=x a _ r
  exact q
noncomputable def Mut:Option HO->Prop
 | some (.lst _)=>True
 | some (.dK _)=>True
 | some (.dT _)=>True
 | some (.set _ _)=>True
 | some (.ins _ _ _)=>True
 | some (.ext _)=>True
 | _=>False
section
variable {P:Program}{w:World}{H:Hp}{h h':Heap}{x e:Addr}{o':HO}
theorem HOk.write (ok:HOk P w H h)(mu:Mut (H x))(he:e = x\/H e = some (.own x))(k:∀ b u,b ≠ e->h.get? b = some u->h'.get? b = some u)(heo:∃ u,h'.get? e = some u)
  (new:ObjOk P w (upd H x o') h' x o'):HOk P w (upd H x o') h':=fun b u q=>by
 have nown:∀ c y,H c = some (.own y)->c ≠ x:=fun c y r z=>by subst z;rw [r] at mu;exact mu
 have ntup:∀ c xs,H c = some (.tup xs)->c ≠ x:=fun c xs r z=>by subst z;rw [r] at mu;exact mu
 by_cases hb:b = x
 ·subst hb;rw [upd_same] at q;cases q;exact new
 ·rw [upd_ne hb] at q
  by_cases hbe:b = e
  ·have q':H b = some (.own x):=by
    rcases he with z | z
    ·exact absurd (hbe.trans z) hb
    ·rw [hbe];exact z
   rw [q] at q';cases q'
   obtain ⟨v,hv⟩:=heo
   exact ⟨v,by rw [hbe];exact hv⟩
  ·refine (ok b u q).stay (fun c v hc r=>k c v ?_ r) (fun c r=>by rw [upd_ne (nown c b r)];exact r) fun c xs r=>by rw [upd_ne (ntup c xs r)];exact r
   rcases hc with rfl | hc
   ·exact hbe
   ·rintro rfl
    rcases he with z | z
    ·exact nown c b hc z
    ·rw [hc] at z;cases z;exact hb rfl
end
structure Un (fs ex:List Addr)(H H':Hp)(h h':Heap):Prop where
 keep:∀ b o,h.get? b = some o->H b = none->b ∉ fs->b ∉ ex->h'.get? b = some o
 slot:∀ b o,h.get? b = some o->H b = none->b ∈ fs->b ∉ ex->∃ sl,h'.get? b = some { o with slots:=sl }
 free:∀ b o,h.get? b = some o->H b = none->b ∉ ex->H' b = none
 there:∀ b o,h.get? b = some o->b ∉ ex->∃ o',h'.get? b = some o'
 tups:∀ b xs,H b = some (.tup xs)->H' b = some (.tup xs)
 frzs:∀ b o u,H b = some (.frz o u)->H' b = some (.frz o u)
 tbls:∀ b ps,H b = some (.tbl ps)->∃ more,H' b = some (.tbl (ps ++ more))
section
variable {fs fs' ex ex':List Addr}{H H1 H2:Hp}{h h1 h2 h':Heap}{a x e:Addr}{o:HO}
theorem Un.any (u:Un fs ex H H1 h h1){b:Addr}{ob:Obj}(q:h.get? b = some ob)(n:H b = none)(hx:b ∉ ex):∃ sl,h1.get? b = some { ob with slots:=sl }:=by
 by_cases hb:b ∈ fs
 ·exact u.slot b ob q n hb hx
 ·exact ⟨ob.slots,u.keep b ob q n hb hx⟩
theorem Un.kept (k:∀ b u,h.get? b = some u->h'.get? b = some u):Un fs ex H H h h' :=
 ⟨fun b ob q _ _ _=>k b ob q,fun b ob q _ _ _=>⟨ob.slots,k b ob q⟩,fun _ _ _ n _=>n,fun b ob q _=>⟨ob,k b ob q⟩,fun _ _ q=>q,fun _ _ _ q=>q,fun _ ps q=>⟨#[],by rw [q];simp⟩⟩
theorem Un.refl:Un fs ex H H h h:=Un.kept fun _ _ q=>q
theorem Un.laid (k:∀ b u,h.get? b = some u->h'.get? b = some u)(hp:h.objs.size <= a)(hn:H a = none):Un fs ex H (upd H a o) h h' where
 keep:=fun b u q _ _ _=>k b u q
 slot:=fun b u q _ _ _=>⟨u.slots,k b u q⟩
 free:=fun b u q n _=>by rw [upd_ne (Nat.ne_of_lt (Nat.lt_of_lt_of_le (Heap.lt_size q) hp))];exact n
 there:=fun b u q _=>⟨u,k b u q⟩
 tups:=fun b xs q=>by rw [upd_ne (ne_of_none q hn)];exact q
 frzs:=fun b u xs q=>by rw [upd_ne (ne_of_none q hn)];exact q
 tbls:=fun b ps q=>⟨#[],by rw [upd_ne (ne_of_none q hn),q];simp⟩
theorem Un.write (mu:Mut (H x))(he:e = x\/H e = some (.own x))(k:∀ b u,b ≠ e->h.get? b = some u->h'.get? b = some u)(heo:∃ u,h'.get? e = some u):Un fs ex H (upd H x o) h h':=by
 have hx:∀ b,H b = none->b ≠ x:=fun b n z=>by subst z;rw [n] at mu;exact mu
 have hb:∀ b,H b = none->b ≠ e:=fun b n z=>by
  subst z
  rcases he with r | r
  ·exact hx b n r
  ·rw [n] at r;cases r
 have hm:∀ b u,H b = some u->¬ Mut (some u)->b ≠ x:=fun b u q nm z=>by subst z;rw [q] at mu;exact nm mu
 refine ⟨fun b u q n _ _=>k b u (hb b n) q,fun b u q n _ _=>⟨u.slots,k b u (hb b n) q⟩,fun b u q n _=>by rw [upd_ne (hx b n)];exact n,fun b u q _=>?_,
  fun b xs q=>by rw [upd_ne (hm b _ q fun z=>z)];exact q,fun b u xs q=>by rw [upd_ne (hm b _ q fun z=>z)];exact q,fun b ps q=>⟨#[],by rw [upd_ne (hm b _ q fun z=>z),q];simp⟩⟩
 by_cases hbe:b = e
 ·subst hbe;exact heo
 ·exact ⟨u,k b u hbe q⟩
end
noncomputable def trk (h:Heap)(H:Hp):List Addr:=(List.range h.objs.size).filter fun a=>(H a).isSome
noncomputable def hidT (h:Heap)(H:Hp):Heap:=PySem.W.hideAll h (trk h H)
theorem hidT_size (h:Heap)(H:Hp):(hidT h H).objs.size = h.objs.size:=PySem.W.hideAll_size _ _
theorem hidT_get {h:Heap}{H:Hp}{b:Addr}{o:Obj}(e:h.get? b = some o)(n:H b = none):(hidT h H).get? b = some o :=
 PySem.W.hideAll_get _ e fun hm=>by
  have q:(H b).isSome = true:=(List.mem_filter.mp hm).2
  rw [n] at q;simp at q
theorem of_hidT {h:Heap}{H:Hp}{b:Addr}{o:Obj}(e:(hidT h H).get? b = some o):h.get? b = some o/\H b = none:=by
 have e':h.get? b = some o:=PySem.W.of_hideAll (trk h H) e
 refine ⟨e',?_⟩
 cases q:H b with
 | none=>rfl
 | some x =>
  have hm:b ∈ trk h H:=List.mem_filter.mpr ⟨List.mem_range.mpr (Heap.lt_size e'),by simp [q]⟩
  have z:(hidT h H).get? b = none:=PySem.W.hideAll_none (trk h H) hm
  rw [z] at e;cases e
end L2
namespace L2
open PySem PySem.Spec PyProof.Rows
structure Mod (K:PySem.W.Frag)(mg:Str->Option Value)(base:Heap):Prop where
 kin:K.In base
 glob:base.Ns mainGlobals mg
 blt:∃ mb,base.Ns builtinsNs mb/\∀ x:Str,x ≠ "__name__"->mb x = bootBuiltins x
 nolimit:base.NoLimit
structure Cx where
 prog:Program
 w:World
 K:PySem.W.Frag
 mg:Str->Option Value
 base:Heap
 A:Around
 N:List Str
 s₀:Shared
 H₀:Hp
 env:Env
 outer:List Env
 stack:List Env
 ex:List Addr
 fn:Str->Bool
 calm:Bool
 pn:List (Addr × Obj)
 xe:Value->Shared->Prop
noncomputable def frs (l:List Env):List Addr:=l.filterMap (·.frame)
noncomputable abbrev Cx.fs (X:Cx):List Addr:=frs X.outer
noncomputable def Vis (sc:Scope)(x:Str):Prop:=sc.names.lookup x = some .local\/sc.names.lookup x = some .cell\/sc.names.lookup x = some .free
noncomputable def Loc (sc:Scope)(x:Str):Prop:=sc.names.lookup x = some .local\/sc.names.lookup x = some .cell
noncomputable def Look (env:Env)(h:Heap)(m:Str->Option Value)(x:Str)(u:Value):Prop :=
 (env.kindOf x = some .local/\m x = some u)\/((env.kindOf x = some .cell\/env.kindOf x = some .free)/\∃ c,env.cells.lookup x = some c/\h.IsCell c (some u))
structure Cx.Ok (X:Cx):Prop where
 mod:Mod X.K X.mg X.base
 kind:X.env.scope.kind = .function
 glob:X.env.globals = mainGlobals
 blt:X.env.builtins = builtinsNs
 above:X.s₀.heap.objs.size <= X.env.locals
 inj:∀ x y c,X.env.cells.lookup x = some c->X.env.cells.lookup y = some c->x = y
 has:∀ x,(X.env.kindOf x = some .cell\/X.env.kindOf x = some .free)->∃ c,X.env.cells.lookup x = some c
 cab:∀ x c,X.fn x = true->X.env.cells.lookup x = some c->X.s₀.heap.objs.size <= c
 hd:X.calm = true->X.A.handled = none
 frames:X.A.frames = some X.stack
 stk:X.stack = X.outer\/(X.stack = X.env :: X.outer/\X.env.frame = some X.env.locals)
 exf:∀ b ∈ X.ex,b ≠ X.env.locals/\∀ x c,X.env.cells.lookup x = some c->c ≠ b
 bs:∀ b o,X.base.get? b = some o->X.s₀.heap.get? b = some o/\X.H₀ b = none
 bsz:X.base.objs.size <= X.s₀.heap.objs.size
 noex:∀ b o,X.base.get? b = some o->b ∉ X.ex
 exfs:∀ b ∈ X.ex,b ∉ X.fs
 funs:X.s₀.heap.FunFrames X.base X.outer
 frf:∀ b ∈ X.fs,X.H₀ b = none
structure Inv (X:Cx)(pins:List (Addr × Obj))(σ:List (Option V))(H:Hp)(s:Shared):Prop where
 ok:X.Ok
 os:s.os = X.s₀.os
 bare:AllBare s.gens
 base:Un X.fs X.ex X.H₀ H X.s₀.heap s.heap
 loc:∃ m,s.heap.Ns X.env.locals m/\∀ (i:Nat) (x:Str) (v:V),X.N[i]? = some x->σ[i]? = some (some v)->Vis X.env.scope x->∃ u,RelV v u/\Look X.env s.heap m x u
 cell:∀ x c,X.env.cells.lookup x = some c->∃ v,s.heap.IsCell c v
 free:H X.env.locals = none
 freeC:∀ x c,X.env.cells.lookup x = some c->H c = none
 pin:∀ p ∈ X.pn ++ pins,s.heap.get? p.1 = some p.2/\H p.1 = none/\p.1 ≠ X.env.locals/\p.1 ∉ X.fs/\∀ v,p.2.data ≠ .cell v
 hok:HOk X.prog X.w H s.heap
 len:σ.length = X.N.length
section
variable {X:Cx}{pins:List (Addr × Obj)}{σ:List (Option V)}{H H':Hp}{s:Shared}{h':Heap}
theorem Cx.Ok.nofr (ok:X.Ok){b:Addr}{o:Obj}(e:X.base.get? b = some o):b ∉ X.fs:=fun hb=>by
 have:=(ok.funs.mem hb).1
 rw [e] at this;cases this
theorem Inv.bs (I:Inv X pins σ H s):∀ b o,X.base.get? b = some o->s.heap.get? b = some o/\H b = none:=fun b o e =>
 ⟨I.base.keep b o (I.ok.bs b o e).1 (I.ok.bs b o e).2 (I.ok.nofr e) (I.ok.noex b o e),I.base.free b o (I.ok.bs b o e).1 (I.ok.bs b o e).2 (I.ok.noex b o e)⟩
theorem Inv.bk (I:Inv X pins σ H s):∀ b o,X.base.get? b = some o->s.heap.get? b = some o:=fun b o e=>(I.bs b o e).1
theorem Inv.mod (I:Inv X pins σ H s):Mod X.K X.mg X.base:=I.ok.mod
theorem Inv.kIn (I:Inv X pins σ H s):X.K.In s.heap:=I.ok.mod.kin.keeps I.bk
theorem Inv.lt (I:Inv X pins σ H s):X.env.locals < s.heap.objs.size:=let ⟨_,hn,_⟩:=I.loc;hn.lt
theorem Inv.sz (I:Inv X pins σ H s):X.s₀.heap.objs.size <= s.heap.objs.size:=Nat.le_trans I.ok.above (Nat.le_of_lt I.lt)
theorem Inv.nofs (I:Inv X pins σ H s){a:Addr}(h:s.heap.objs.size <= a):a ∉ X.fs:=fun hb=>by
 obtain ⟨_,o,ho,_⟩:=I.ok.funs.mem hb
 exact absurd (Nat.lt_of_lt_of_le (Heap.lt_size ho) (Nat.le_trans I.sz h)) (Nat.lt_irrefl _)
theorem Inv.cne (I:Inv X pins σ H s):∀ x c,X.env.cells.lookup x = some c->c ≠ X.env.locals:=fun x c e z=>by
 obtain ⟨v,o,ho,hd⟩:=I.cell x c e
 obtain ⟨m,⟨o',es,ep,ho',hd',_⟩,_⟩:=I.loc
 rw [z,ho'] at ho;cases ho;rw [hd'] at hd;cases hd
theorem Inv.funs (I:Inv X pins σ H s):s.heap.FunFrames X.base X.outer:=by
 have all:∀ (l:List Env),(∀ b ∈ frs l,b ∈ X.fs)->X.s₀.heap.FunFrames X.base l->s.heap.FunFrames X.base l:=by
  intro l
  induction l with
  | nil=>intro _ _;trivial
  | cons env r ih =>
   intro hs hl
   obtain ⟨hk,⟨L,o,hf,hn,ho,hd⟩,hr⟩:=hl
   have hL:L ∈ X.fs:=hs L (by unfold frs;rw [List.filterMap_cons,hf];exact List.mem_cons_self)
   obtain ⟨sl,e⟩:=I.base.slot L o ho (I.ok.frf L hL) hL fun z=>I.ok.exfs L z hL
   exact ⟨hk,⟨L,_,hf,hn,e,hd⟩,ih (fun b hb=>hs b (by unfold frs;rw [List.filterMap_cons,hf];exact List.mem_cons_of_mem _ hb)) hr⟩
 exact all X.outer (fun _ hb=>hb) I.ok.funs
theorem Inv.stack (I:Inv X pins σ H s):s.heap.FunFrames X.base X.stack:=by
 rcases I.ok.stk with e | ⟨e,hf⟩
 ·rw [e];exact I.funs
 ·rw [e]
  obtain ⟨m,hn,_⟩:=I.loc
  refine .cons (by rw [I.ok.kind];decide) hf hn ?_ I.funs
  exact Heap.get?_none_of_le (Nat.le_trans I.ok.bsz I.ok.above)
theorem Inv.stkSub (I:Inv X pins σ H s):∀ b ∈ frs X.stack,b ∈ X.env.locals :: X.fs:=fun b hb=>by
 rcases I.ok.stk with e | ⟨e,hf⟩
 ·rw [e] at hb;exact List.mem_cons_of_mem _ hb
 ·rw [e] at hb
  unfold frs at hb
  rw [List.filterMap_cons,hf] at hb
  exact hb
theorem Inv.stkFree (I:Inv X pins σ H s):∀ b ∈ frs X.stack,H b = none:=fun b hb=>by
 rcases List.mem_cons.mp (I.stkSub b hb) with e | hb
 ·rw [e];exact I.free
 ·obtain ⟨_,o,ho,_⟩:=I.ok.funs.mem hb
  exact I.base.free b o ho (I.ok.frf b hb) fun z=>I.ok.exfs b z hb
theorem Inv.step {g':Array GenState}{t':Nat}{d':Drawn}{ch:List Addr}(I:Inv X pins σ H s)
  (hch:∀ b ∈ ch,(b ∈ X.ex\/X.s₀.heap.objs.size <= b)/\b ≠ X.env.locals/\(∀ x c,X.env.cells.lookup x = some c->c ≠ b)/\∀ p ∈ X.pn ++ pins,p.1 ≠ b)
  (keep:∀ b o,b ≠ X.env.locals->b ∉ X.fs->b ∉ ch->s.heap.get? b = some o->H b = none->h'.get? b = some o)
  (slot:∀ b o,b ≠ X.env.locals->b ∈ X.fs->b ∉ ch->s.heap.get? b = some o->H b = none->∃ sl,h'.get? b = some { o with slots:=sl }) (free:∀ b o,b ∉ ch->s.heap.get? b = some o->H b = none->H' b = none)
  (there:∀ b o,b ∉ ch->s.heap.get? b = some o->∃ o',h'.get? b = some o')
  (tups:∀ b xs,H b = some (.tup xs)->H' b = some (.tup xs)) (frzs:∀ b o u,H b = some (.frz o u)->H' b = some (.frz o u)) (tbls:∀ b ps,H b = some (.tbl ps)->∃ more,H' b = some (.tbl (ps ++ more)))
  (ns:∀ m,s.heap.Ns X.env.locals m->h'.Ns X.env.locals m) (hok:HOk X.prog X.w H' h') (hg:AllBare g') :
  Inv X pins σ H' { s with heap:=h',gens:=g',drawn:=d',toks:=t' }:=by
 have neL:∀ b o,X.s₀.heap.get? b = some o->b ≠ X.env.locals:=fun b o e=>Nat.ne_of_lt (Nat.lt_of_lt_of_le (Heap.lt_size e) I.ok.above)
 have neC:∀ b o,X.s₀.heap.get? b = some o->b ∉ X.ex->b ∉ ch:=fun b o e hx hb=>by
  rcases (hch b hb).1 with z | z
  ·exact hx z
  ·exact absurd (Nat.lt_of_lt_of_le (Heap.lt_size e) z) (Nat.lt_irrefl _)
 have cellK:∀ x c,X.env.cells.lookup x = some c->∀ v,s.heap.IsCell c v->h'.IsCell c v:=fun x c e v ⟨o,ho,hd⟩=>by
  have nch:c ∉ ch:=fun z=>(hch c z).2.2.1 x c e rfl
  by_cases hc:c ∈ X.fs
  ·obtain ⟨sl,q⟩:=slot c o (I.cne x c e) hc nch ho (I.freeC x c e)
   exact ⟨_,q,hd⟩
  ·exact ⟨o,keep c o (I.cne x c e) hc nch ho (I.freeC x c e),hd⟩
 refine ⟨I.ok,I.os,hg,⟨fun b o e n hb hx=>?_,fun b o e n hb hx=>?_,fun b o e n hx=>?_,fun b o e hx=>?_,fun b xs e=>tups b xs (I.base.tups b xs e),fun b o xs e=>frzs b o xs (I.base.frzs b o xs e),fun b ps e=>?_⟩,?_,fun x c e=>?_,?_,fun x c e=>?_,fun p hp=>?_,hok,I.len⟩
 ·exact keep b o (neL b o e) hb (neC b o e hx) (I.base.keep b o e n hb hx) (I.base.free b o e n hx)
 ·obtain ⟨sl,e1⟩:=I.base.slot b o e n hb hx
  obtain ⟨sl',e2⟩:=slot b _ (neL b o e) hb (neC b o e hx) e1 (I.base.free b o e n hx)
  exact ⟨sl',e2⟩
 ·obtain ⟨o',e1⟩:=I.base.there b o e hx
  exact free b o' (neC b o e hx) e1 (I.base.free b o e n hx)
 ·obtain ⟨o',e1⟩:=I.base.there b o e hx
  exact there b o' (neC b o e hx) e1
 ·obtain ⟨m1,e1⟩:=I.base.tbls b ps e
  obtain ⟨m2,e2⟩:=tbls b _ e1
  exact ⟨m1 ++ m2,by rw [e2,Array.append_assoc]⟩
 ·obtain ⟨m,hn,hl⟩:=I.loc
  refine ⟨m,ns m hn,fun i x v e1 e2 e3=>?_⟩
  obtain ⟨u,r,l⟩:=hl i x v e1 e2 e3
  refine ⟨u,r,?_⟩
  rcases l with l | ⟨k,c,e,z⟩
  ·exact .inl l
  ·exact .inr ⟨k,c,e,cellK x c e _ z⟩
 ·obtain ⟨v,z⟩:=I.cell x c e
  exact ⟨v,cellK x c e v z⟩
 ·obtain ⟨m,⟨o,_,_,ho,_⟩,_⟩:=I.loc
  exact free _ o (fun z=>(hch _ z).2.1 rfl) ho I.free
 ·obtain ⟨v,o,ho,hd⟩:=I.cell x c e
  exact free c o (fun z=>(hch c z).2.2.1 x c e rfl) ho (I.freeC x c e)
 ·obtain ⟨e,n,ne,nf,d⟩:=I.pin p hp
  have nch:p.1 ∉ ch:=fun z=>(hch p.1 z).2.2.2 p hp rfl
  exact ⟨keep p.1 p.2 ne nf nch e n,free p.1 p.2 nch e n,ne,nf,d⟩
theorem Inv.un {t':Nat}(I:Inv X pins σ H s)(u:Un X.fs [] H H' s.heap h')(hok:HOk X.prog X.w H' h'):Inv X pins σ H' { s with heap:=h',toks:=t' }:=by
 obtain ⟨m,⟨o,es,ep,ho,r⟩,_⟩:=id I.loc
 obtain ⟨sl,hL⟩:=u.any ho I.free (by simp)
 exact I.step (g':=s.gens) (d':=s.drawn) (ch:=[]) (fun _ z=>nomatch z) (fun b o _ hb _ e n=>u.keep b o e n hb (by simp)) (fun b o _ hb _ e n=>u.slot b o e n hb (by simp)) (fun b o _ e n=>u.free b o e n (by simp)) (fun b o _ e=>u.there b o e (by simp)) u.tups u.frzs u.tbls (fun m' hm=>by
  obtain ⟨o',es',ep',ho',r'⟩:=hm
  rw [ho] at ho';cases ho'
  exact ⟨_,es',ep',hL,r'⟩) hok I.bare
theorem Inv.call {g':Array GenState}{t':Nat}{d':Drawn}{ch:List Addr}(I:Inv X pins σ H s)(u:Un (frs X.stack) ch H H' s.heap h')(hok:HOk X.prog X.w H' h')(hg:AllBare g')
  (hch:∀ b ∈ ch,(b ∈ X.ex\/X.s₀.heap.objs.size <= b)/\b ≠ X.env.locals/\(∀ x c,X.env.cells.lookup x = some c->c ≠ b)/\∀ p ∈ X.pn ++ pins,p.1 ≠ b) :
  Inv X pins σ H' { s with heap:=h',gens:=g',drawn:=d',toks:=t' }:=by
 obtain ⟨m,⟨o,es,ep,ho,r⟩,_⟩:=id I.loc
 obtain ⟨sl,hL⟩:=u.any ho I.free fun z=>(hch _ z).2.1 rfl
 exact I.step (ch:=ch) hch (fun b o hL hb hc e n=>u.keep b o e n (fun z=>(List.mem_cons.mp (I.stkSub b z)).elim hL hb) hc) (fun b o _ _ hc e n=>u.any e n hc) (fun b o hc e n=>u.free b o e n hc) (fun b o hc e=>u.there b o e hc) u.tups u.frzs u.tbls (fun m' hm=>by
  obtain ⟨o',es',ep',ho',r'⟩:=hm
  rw [ho] at ho';cases ho'
  exact ⟨_,es',ep',hL,r'⟩) hok hg
theorem Inv.turned {t':Nat}{it:Addr}(I:Inv X pins σ H s)(k:∀ b o,b ≠ it->s.heap.get? b = some o->h'.get? b = some o)(hn:H it = none)(hL:it ≠ X.env.locals)
  (h1:it ∈ X.ex\/X.s₀.heap.objs.size <= it) (h2:∀ x c,X.env.cells.lookup x = some c->c ≠ it) (h3:∀ p ∈ X.pn ++ pins,p.1 ≠ it):Inv X pins σ H { s with heap:=h',toks:=t' }:=by
 have nit:∀ b u,H b = some u->b ≠ it:=fun b u e z=>by rw [z,hn] at e;cases e
 refine I.step (g':=s.gens) (d':=s.drawn) (ch:=[it]) (fun b hb=>?_) (fun b o _ _ hc e _=>k b o (fun z=>hc (by simp [z])) e) (fun b o _ _ hc e _=>⟨o.slots,k b o (fun z=>hc (by simp [z])) e⟩) (fun _ _ _ _ n=>n)
  (fun b o hc e=>⟨o,k b o (fun z=>hc (by simp [z])) e⟩) (fun _ _ e=>e) (fun _ _ _ e=>e) (fun b ps e=>⟨#[],by rw [e];simp⟩) (fun m hm=>?_) (fun b u e=>?_) I.bare
 ·have e:b = it:=by simpa using hb
  subst e
  exact ⟨h1,hL,h2,h3⟩
 ·obtain ⟨o,es,ep,ho,r⟩:=hm
  exact ⟨o,es,ep,k _ o (Ne.symm hL) ho,r⟩
 ·refine (I.hok b u e).stay (fun c v hc q=>k c v ?_ q) (fun _ q=>q) fun _ _ q=>q
  rcases hc with z | z
  ·rw [z];exact nit b u e
  ·exact nit c _ z
theorem Inv.tok (I:Inv X pins σ H s)(t:Nat):Inv X pins σ H { s with toks:=t }:=I.un (h':=s.heap) (t':=t) Un.refl I.hok
theorem Inv.kept {t':Nat}(I:Inv X pins σ H s)(k:∀ b u,s.heap.get? b = some u->h'.get? b = some u):Inv X pins σ H { s with heap:=h',toks:=t' }:=I.un (Un.kept k) (I.hok.kept k)
theorem Inv.laid {a:Addr}{o:HO}{t':Nat}(I:Inv X pins σ H s)(k:∀ b u,s.heap.get? b = some u->h'.get? b = some u)(hp:s.heap.objs.size <= a)(new:ObjOk X.prog X.w (upd H a o) h' a o) :
 Inv X pins σ (upd H a o) { s with heap:=h',toks:=t' }:=I.un (Un.laid k hp (I.hok.fresh hp)) (I.hok.laid k hp new)
theorem Inv.write {x e:Addr}{o:HO}{t':Nat}(I:Inv X pins σ H s)(mu:Mut (H x))(he:e = x\/H e = some (.own x))(k:∀ b u,b ≠ e->s.heap.get? b = some u->h'.get? b = some u)(heo:∃ u,h'.get? e = some u)
 (new:ObjOk X.prog X.w (upd H x o) h' x o):Inv X pins σ (upd H x o) { s with heap:=h',toks:=t' }:=I.un (Un.write mu he k heo) (I.hok.write mu he k heo new)
theorem Inv.pins_of {pins':List (Addr × Obj)}(I:Inv X pins σ H s)(h:∀ p ∈ pins',s.heap.get? p.1 = some p.2/\H p.1 = none/\p.1 ≠ X.env.locals/\p.1 ∉ X.fs/\∀ v,p.2.data ≠ .cell v):Inv X pins' σ H s :=
 ⟨I.ok,I.os,I.bare,I.base,I.loc,I.cell,I.free,I.freeC,fun p hp=>(List.mem_append.mp hp).elim (fun z=>I.pin p (List.mem_append_left _ z)) (h p),I.hok,I.len⟩
theorem nodup_ix {N:List Str}(hN:N.Nodup){i j:Nat}{x:Str}(a:N[i]? = some x)(b:N[j]? = some x):i = j:=by
 obtain ⟨h1,e1⟩:=List.getElem?_eq_some_iff.mp a
 obtain ⟨h2,e2⟩:=List.getElem?_eq_some_iff.mp b
 exact (List.getElem_inj hN).mp (e1.trans e2.symm)
theorem store_ok2 {M:Model}{A:Around}{E:Value->Shared->Prop}{i:Nat}{x:Str}{v:V}{u:Value}{Q:Unit->Shared->Prop}(I:Inv X pins σ H s)(hN:X.N.Nodup)(hi:X.N[i]? = some x)(hx:Loc X.env.scope x)(r:RelV v u)
  (h:∀ s',Inv X pins (σ.set i (some v)) H s'->(∃ a,Heap.SameBut a s.heap s'.heap/\(a = X.env.locals\/X.env.cells.lookup x = some a))->Q () s') (hf:X.fn x = true\/X.env.scope.names.lookup x = some .local:=by first | exact .inl rfl | exact .inr rfl | assumption):wpAny M A (storeName X.env x u) Q E s:=by
 obtain ⟨m,hn,hl⟩:=id I.loc
 have hcls:(X.env.scope.kind == .class || (X.env.scope.kind == .module && X.env.locals != X.env.globals)) = false:=by rw [I.ok.kind];rfl
 have hiσ:i < σ.length:=by rw [I.len];exact (List.getElem?_eq_some_iff.mp hi).1
 have cne:=I.cne
 have tracked:∀ {a:Addr} {h':Heap},(∃ o,s.heap.get? a = some o/\H a = none)->Heap.SameBut a s.heap h'->HOk X.prog X.w H h':=fun {a h'} ha hs b ob e=>by
  obtain ⟨_,_,hfree⟩:=ha
  refine (I.hok b ob e).stay (fun c w' hc q=>(hs.2 c ?_).trans q) (fun _ q=>q) fun _ _ q=>q
  rintro rfl
  rcases hc with rfl | hc
  ·rw [hfree] at e;cases e
  ·rw [hfree] at hc;cases hc
 rcases hx with hk | hk
 ·refine wpAny_storeName_local hk hn (fun h' hn' hs=>?_) hcls
  obtain ⟨oL,_,_,hoL,_⟩:=id hn
  refine h _ ⟨I.ok,I.os,I.bare,⟨fun b o e n hb hx=>?_,fun b o e n hb hx=>?_,I.base.free,fun b o e hx=>?_,I.base.tups,I.base.frzs,I.base.tbls⟩,⟨_,hn',fun j y v' e1 e2 e3=>?_⟩,fun y c e=>?_,I.free,I.freeC,fun p hp=>?_,tracked ⟨oL,hoL,I.free⟩ hs,by simpa using I.len⟩ ⟨_,hs,.inl rfl⟩
  ·exact (hs.2 b (Nat.ne_of_lt (Nat.lt_of_lt_of_le (Heap.lt_size e) I.ok.above))).trans (I.base.keep b o e n hb hx)
  ·obtain ⟨sl,e1⟩:=I.base.slot b o e n hb hx
   exact ⟨sl,(hs.2 b (Nat.ne_of_lt (Nat.lt_of_lt_of_le (Heap.lt_size e) I.ok.above))).trans e1⟩
  ·obtain ⟨o',e1⟩:=I.base.there b o e hx
   exact ⟨o',(hs.2 b (Nat.ne_of_lt (Nat.lt_of_lt_of_le (Heap.lt_size e) I.ok.above))).trans e1⟩
  ·by_cases hj:j = i
   ·subst hj
    rw [hi] at e1;cases e1
    rw [List.getElem?_set_self hiσ] at e2
    cases e2
    exact ⟨u,r,.inl ⟨hk,by simp⟩⟩
   ·rw [List.getElem?_set_ne (Ne.symm hj)] at e2
    obtain ⟨u',r',q⟩:=hl j y v' e1 e2 e3
    refine ⟨u',r',?_⟩
    rcases q with ⟨k,e⟩ | ⟨k,c,e,z⟩
    ·refine .inl ⟨k,?_⟩
     have:y ≠ x:=fun e=>hj (nodup_ix hN e1 (e ▸ hi))
     simp [this,e]
    ·exact .inr ⟨k,c,e,z.sameBut hs (cne y c e)⟩
  ·obtain ⟨w',z⟩:=I.cell y c e
   exact ⟨w',z.sameBut hs (cne y c e)⟩
  ·obtain ⟨e,n,ne,nf,d⟩:=I.pin p hp
   exact ⟨(hs.2 p.1 ne).trans e,n,ne,nf,d⟩
 ·have hfn:X.fn x = true:=by
   rcases hf with z | z
   ·exact z
   ·rw [z] at hk;cases hk
  obtain ⟨c,hc⟩:=I.ok.has x (.inl hk)
  obtain ⟨w',z⟩:=I.cell x c hc
  refine wpAny_storeName_cell I.ok.kind hk hc z (fun h' hc' hs=>?_)
  obtain ⟨oc,hoc,hocd⟩:=id z
  refine h { s with heap:=h' } ⟨I.ok,I.os,I.bare,⟨fun b o e n hb hx=>?_,fun b o e n hb hx=>?_,I.base.free,fun b o e hx=>?_,I.base.tups,I.base.frzs,I.base.tbls⟩,⟨m,hn.sameBut hs (Ne.symm (cne x c hc)),fun j y v' e1 e2 e3=>?_⟩,fun y c' e=>?_,I.free,I.freeC,fun p hp=>?_,tracked ⟨oc,hoc,I.freeC x c hc⟩ hs,by simpa using I.len⟩ ⟨c,hs,.inr hc⟩
  ·exact (hs.2 b (Nat.ne_of_lt (Nat.lt_of_lt_of_le (Heap.lt_size e) (I.ok.cab x c hfn hc)))).trans (I.base.keep b o e n hb hx)
  ·obtain ⟨sl,e1⟩:=I.base.slot b o e n hb hx
   exact ⟨sl,(hs.2 b (Nat.ne_of_lt (Nat.lt_of_lt_of_le (Heap.lt_size e) (I.ok.cab x c hfn hc)))).trans e1⟩
  ·obtain ⟨o',e1⟩:=I.base.there b o e hx
   exact ⟨o',(hs.2 b (Nat.ne_of_lt (Nat.lt_of_lt_of_le (Heap.lt_size e) (I.ok.cab x c hfn hc)))).trans e1⟩
  ·by_cases hj:j = i
   ·subst hj
    rw [hi] at e1;cases e1
    rw [List.getElem?_set_self hiσ] at e2
    cases e2
    exact ⟨u,r,.inr ⟨.inl hk,c,hc,hc'⟩⟩
   ·rw [List.getElem?_set_ne (Ne.symm hj)] at e2
    obtain ⟨u',r',q⟩:=hl j y v' e1 e2 e3
    refine ⟨u',r',?_⟩
    rcases q with q | ⟨k,c',e,z'⟩
    ·exact .inl q
    ·refine .inr ⟨k,c',e,z'.sameBut hs ?_⟩
     rintro rfl
     exact hj (nodup_ix hN e1 (I.ok.inj _ _ _ e hc ▸ hi))
  ·by_cases hcc:c' = c
   ·subst hcc;exact ⟨_,hc'⟩
   ·obtain ⟨w2,z2⟩:=I.cell y c' e
    exact ⟨w2,z2.sameBut hs hcc⟩
  ·obtain ⟨e,n,ne,nf,d⟩:=I.pin p hp
   refine ⟨(hs.2 p.1 ?_).trans e,n,ne,nf,d⟩
   intro q
   rw [q,hoc] at e
   have q':oc = p.2:=Option.some.inj e
   exact d w' (by rw [<- q'];exact hocd)
theorem store_ok {M:Model}{A:Around}{E:Value->Shared->Prop}{i:Nat}{x:Str}{v:V}{u:Value}{Q:Unit->Shared->Prop}(I:Inv X pins σ H s)(hN:X.N.Nodup)(hi:X.N[i]? = some x)(hx:Loc X.env.scope x)(r:RelV v u)
  (h:∀ s',Inv X pins (σ.set i (some v)) H s'->Q () s') (hf:X.fn x = true\/X.env.scope.names.lookup x = some .local:=by first | exact .inl rfl | exact .inr rfl | assumption):wpAny M A (storeName X.env x u) Q E s :=
 store_ok2 I hN hi hx r (fun s' I' _=>h s' I') hf
theorem Inv.call' {s':Shared}{ch:List Addr}(I:Inv X pins σ H s)(ho:s'.os = s.os)(u:Un (frs X.stack) ch H H' s.heap s'.heap)(hok:HOk X.prog X.w H' s'.heap)(hg:AllBare s'.gens)
  (hch:∀ b ∈ ch,(b ∈ X.ex\/X.s₀.heap.objs.size <= b)/\b ≠ X.env.locals/\(∀ x c,X.env.cells.lookup x = some c->c ≠ b)/\∀ p ∈ X.pn ++ pins,p.1 ≠ b):Inv X pins σ H' s':=by
 obtain ⟨h',g',d',t',o'⟩:=s'
 have e:o' = s.os:=ho
 subst e
 exact I.call (g':=g') (t':=t') (d':=d') u hok hg hch
end
abbrev XK:=Value->Option Addr->Hp->Prop
abbrev St:=List (Option V)
abbrev VK:=V->Hp->Prop
abbrev TE:=St->Hp->VK->Prop
abbrev TT:=St->Hp->(Bool->Hp->Prop)->Prop
abbrev TA:=St->Hp->(List V->Hp->Prop)->Prop
structure Ends where
 nx:St->Hp->Prop
 rt:VK
 bk:St->Hp->Prop:=fun _ _=>False
 ct:St->Hp->Prop:=fun _ _=>False
abbrev TS:=Ends->St->Hp->Prop
noncomputable def EP (X:Cx)(pins:List (Addr × Obj))(σ:St)(Q:VK)(u:Value)(s':Shared):Prop:=∃ v H',Inv X pins σ H' s'/\RelV v u/\Q v H'
noncomputable def TP (X:Cx)(pins:List (Addr × Obj))(σ:St)(Q:Bool->Hp->Prop)(b:Bool)(s':Shared):Prop:=∃ H',Inv X pins σ H' s'/\Q b H'
noncomputable def AP (X:Cx)(pins:List (Addr × Obj))(σ:St)(Q:List V->Hp->Prop)(us:List Value)(s':Shared):Prop:=∃ vs H',Inv X pins σ H' s'/\Vals vs us/\Q vs H'
noncomputable def SP (X:Cx)(pins:List (Addr × Obj))(D:Ends)(f:Flow)(s':Shared):Prop :=
 match f with
 | .next=>∃ σ' H',Inv X pins σ' H' s'/\D.nx σ' H'
 | .brk=>∃ σ' H',Inv X pins σ' H' s'/\D.bk σ' H'
 | .cont=>∃ σ' H',Inv X pins σ' H' s'/\D.ct σ' H'
 | .ret u=>∃ v σ' H',Inv X pins σ' H' s'/\RelV v u/\D.rt v H'
noncomputable def PE (X:Cx)(e:Expr)(t:TE):Prop :=
 ∀ (pins:List (Addr × Obj)) (s:Shared) (σ:St) (H:Hp) (Q:VK),Inv X pins σ H s->t σ H Q->wpAny (model X.prog X.w) X.A (eval e X.env) (EP X pins σ Q) X.xe s
noncomputable def PT (X:Cx)(e:Expr)(t:TT):Prop :=
 ∀ (pins:List (Addr × Obj)) (s:Shared) (σ:St) (H:Hp) (Q:Bool->Hp->Prop),Inv X pins σ H s->t σ H Q->wpAny (model X.prog X.w) X.A (isTrue e X.env (eval e X.env)) (TP X pins σ Q) X.xe s
noncomputable def PW (X:Cx)(e:Expr)(t:TT):Prop :=
 ∀ (whole:Sem Value) (pins:List (Addr × Obj)) (s:Shared) (σ:St) (H:Hp) (Q:Bool->Hp->Prop),Inv X pins σ H s->t σ H Q->wpAny (model X.prog X.w) X.A (isTrue e X.env whole) (TP X pins σ Q) X.xe s
theorem PW.pt {X:Cx}{e:Expr}{t:TT}(h:PW X e t):PT X e t:=h _
noncomputable def PA (X:Cx)(es:List Expr)(t:TA):Prop :=
 ∀ (pos:Pos) (pins:List (Addr × Obj)) (s:Shared) (σ:St) (H:Hp) (Q:List V->Hp->Prop),Inv X pins σ H s->t σ H Q->wpAny (model X.prog X.w) X.A (spliced (backTo pos (starEach es X.env))) (AP X pins σ Q) X.xe s
noncomputable def PS (X:Cx)(st:Stmt)(t:TS):Prop :=
 ∀ (pins:List (Addr × Obj)) (s:Shared) (σ:St) (H:Hp) (D:Ends),Inv X pins σ H s->t D σ H->wpAny (model X.prog X.w) X.A (exec st X.env) (SP X pins D) X.xe s
noncomputable def PSs (X:Cx)(st:List Stmt)(t:TS):Prop :=
 ∀ (pins:List (Addr × Obj)) (s:Shared) (σ:St) (H:Hp) (D:Ends),Inv X pins σ H s->t D σ H->wpAny (model X.prog X.w) X.A (execs st X.env) (SP X pins D) X.xe s
theorem thn {α:Type}{t:Sem α}{Q Q':α->Shared->Prop}{M:Model}{A:Around}{E:Value->Shared->Prop}{s:Shared}(h:wpAny M A t Q E s)(hQ:∀ a s,Q a s->Q' a s):wpAny M A t Q' E s:=wpAny_mono h hQ fun _ _ x=>x
end L2
namespace L2
open PySem PySem.Spec PyProof.Rows
section
variable {X:Cx}
noncomputable def tVar (i:Nat):TE:=fun σ H Q=>∃ v,σ[i]? = some (some v)/\Q v H
noncomputable def tC (v:V):TE:=fun _ H Q=>Q v H
theorem pe_var {i:Nat} {x:Str} {pos:Pos} (hN:X.N[i]? = some x) (hv:Vis X.env.scope x) (hd:(x == ("__debug__":Str)) = false:=by decide) (hcd:(x == ("__classdict__":Str)) = false:=by decide):PE X (.Name x pos) (tVar i):=by
 intro pins s σ H Q I h
 obtain ⟨v,e,h⟩:=h
 obtain ⟨m,hn,hl⟩:=I.loc
 obtain ⟨u,r,l⟩:=hl i x v hN e hv
 have fin:EP X pins σ Q u s:=⟨v,H,I,r,h⟩
 rcases l with ⟨hk,hm⟩ | ⟨hk,c,hc,hcell⟩
 ·exact wpAny_Name (wpAny_loadName_local I.ok.kind hk hn hm fin) hd
 ·rcases hk with hk | hk
  ·exact wpAny_Name (wpAny_loadName_cell I.ok.kind hk hc hcell fin) hd
  ·exact wpAny_Name (wpAny_loadName_free I.ok.kind hk hc hcell fin hcd) hd
theorem pe_int {i j pos}:PE X (.Constant (.int i) j pos) (tC (.int i)):=fun _ _ _ H _ I h=>wpAny_Constant_int ⟨.int i,H,I.tok _,⟨_,rfl⟩,h⟩
theorem pe_bl {b j pos}:PE X (.Constant (.bool b) j pos) (tC (.bl b)):=fun _ _ _ H _ I h=>Constant_bool ⟨.bl b,H,I,rfl,h⟩
theorem pe_non {j pos}:PE X (.Constant .none j pos) (tC .non):=fun _ _ _ H _ I h=>Constant_none ⟨.non,H,I,rfl,h⟩
theorem pe_str {x j pos}:PE X (.Constant (.str x) j pos) (tC (.str x)):=fun _ _ _ H _ I h=>Calls.Constant_str ⟨.str x,H,I.tok _,⟨_,rfl⟩,h⟩
noncomputable def Gl (X:Cx)(x:Str):Prop:=X.env.kindOf x = some .globalImplicit
theorem ld_glob {E:Value->Shared->Prop}{pins:List (Addr × Obj)}{s:Shared}{σ:St}{H:Hp}{x:Str}{u:Value}{pos:Pos}{Q:Value->Shared->Prop}(I:Inv X pins σ H s)(hg:Gl X x)(hm:X.mg x = some u)(h:Q u s)
  (hd:(x == ("__debug__":Str)) = false:=by decide):wpAny (model X.prog X.w) X.A (eval (.Name x pos) X.env) Q E s :=
 Calls.Name_function_global I.ok.kind hg (Calls.loadGlobal_global (by rw [I.ok.glob];exact I.mod.glob.keeps I.bk) hm h) hd
theorem ld_blt {E:Value->Shared->Prop}{pins:List (Addr × Obj)}{s:Shared}{σ:St}{H:Hp}{x:Str}{u:Value}{pos:Pos}{Q:Value->Shared->Prop}(I:Inv X pins σ H s)(hg:Gl X x)(hm:X.mg x = none)(hv:bootBuiltins x = some u)(h:Q u s)
  (hn:x ≠ "__name__":=by decide) (hd:(x == ("__debug__":Str)) = false:=by decide):wpAny (model X.prog X.w) X.A (eval (.Name x pos) X.env) Q E s:=by
 obtain ⟨mb,h1,h2⟩:=I.mod.blt
 exact Calls.Name_function_global I.ok.kind hg (Calls.loadGlobal_builtin (by rw [I.ok.glob];exact I.mod.glob.keeps I.bk) hm (by rw [I.ok.blt];exact h1.keeps I.bk) ((h2 x hn).trans hv) h) hd
theorem pe_glob {x:Str} {v:V} {u:Value} {pos:Pos} (hg:Gl X x) (hm:X.mg x = some u) (r:RelV v u) (hd:(x == ("__debug__":Str)) = false:=by decide):PE X (.Name x pos) (tC v) :=
 fun _ _ _ H _ I h=>ld_glob I hg hm ⟨v,H,I,r,h⟩ hd
theorem pe_bltn {x:Str} {v:V} {u:Value} {pos:Pos} (hg:Gl X x) (hm:X.mg x = none) (hv:bootBuiltins x = some u) (r:RelV v u) (hn:x ≠ "__name__":=by decide) (hd:(x == ("__debug__":Str)) = false:=by decide):PE X (.Name x pos) (tC v) :=
 fun _ _ _ H _ I h=>ld_blt I hg hm hv ⟨v,H,I,r,h⟩ hn hd
variable {a b:Expr}{ta tb:TE}{pos:Pos}
variable {tA tB':TT}{rest:List Expr}
noncomputable def tAnd (t u:TT):TT:=fun σ H Q=>t σ H fun c H1=>if c = true then u σ H1 Q else Q false H1
noncomputable def tOr (t u:TT):TT:=fun σ H Q=>t σ H fun c H1=>if c = true then Q true H1 else u σ H1 Q
noncomputable def tNot (t:TT):TT:=fun σ H Q=>t σ H fun c H1=>Q (!c) H1
theorem pw_and1 (ha:PT X a tA):PW X (.BoolOp .And [a] pos) tA:=by
 intro wh pins s σ H Q I h
 refine isTrue_and (thn (ha pins s σ H Q I h) fun c s1 e=>?_)
 cases c with
 | true=>exact isTrue_and_nil e
 | false=>exact e
theorem pw_or1 (ha:PT X a tA):PW X (.BoolOp .Or [a] pos) tA:=by
 intro wh pins s σ H Q I h
 refine isTrue_or (thn (ha pins s σ H Q I h) fun c s1 e=>?_)
 cases c with
 | false=>exact isTrue_or_nil e
 | true=>exact e
theorem pw_and (ha:PT X a tA)(hb:PW X (.BoolOp .And (b :: rest) pos) tB'):PW X (.BoolOp .And (a :: b :: rest) pos) (tAnd tA tB'):=by
 intro wh pins s σ H Q I h
 refine isTrue_and (thn (ha pins s σ H _ I h) fun c s1 ⟨H1,I1,q1⟩=>?_)
 cases c with
 | true=>exact hb wh pins s1 σ H1 Q I1 q1
 | false=>exact ⟨H1,I1,q1⟩
theorem pw_or (ha:PT X a tA)(hb:PW X (.BoolOp .Or (b :: rest) pos) tB'):PW X (.BoolOp .Or (a :: b :: rest) pos) (tOr tA tB'):=by
 intro wh pins s σ H Q I h
 refine isTrue_or (thn (ha pins s σ H _ I h) fun c s1 ⟨H1,I1,q1⟩=>?_)
 cases c with
 | true=>exact ⟨H1,I1,q1⟩
 | false=>exact hb wh pins s1 σ H1 Q I1 q1
theorem pt_not (ha:PT X a tA):PT X (.UnaryOp .Not a pos) (tNot tA):=by
 intro pins s σ H Q I h
 exact isTrue_not (ha pins s σ H (fun c H1=>Q (!c) H1) I h)
theorem pe_one {op}{t:TE}(h:PE X a t):PE X (.BoolOp op [a] pos) t:=fun pins s σ H Q I hw=>BoolOp_one (h pins s σ H Q I hw)
noncomputable def tIf (t:TT)(ta tb:TE):TE:=fun σ H Q=>t σ H fun c H1=>if c = true then ta σ H1 Q else tb σ H1 Q
theorem pe_ifExp {c:Expr}(hc:PT X c tA)(ha:PE X a ta)(hb:PE X b tb):PE X (.IfExp c a b pos) (tIf tA ta tb):=by
 intro pins s σ H Q I h
 refine wpAny_IfExp (thn (hc pins s σ H _ I h) fun d s1 ⟨H1,I1,q1⟩=>?_)
 cases d with
 | true=>exact ha pins s1 σ H1 Q I1 q1
 | false=>exact hb pins s1 σ H1 Q I1 q1
end
end L2
namespace L2
open PySem PySem.Spec PyProof.Rows
noncomputable def SqL (K:PySem.W.Frag)(H:Hp)(a:Addr)(xs:List V):Prop :=
 Rd H a (.lst xs) \/
  ∃ (o:Obj) (its:Array Value) (n:Nat),K.lookup a = some o/\o.cls = .type "list"/\o.dict = none/\o.data = .seq its n/\its.size <= sizeLine/\Vals xs its.toList
noncomputable def SqT (K:PySem.W.Frag)(H:Hp)(a:Addr)(xs:List V):Prop :=
 Rd H a (.tup xs) \/
  ∃ (o:Obj) (its:Array Value) (n:Nat),K.lookup a = some o/\o.cls = .type "tuple"/\o.data = .seq its n/\its.size <= sizeLine/\Vals xs its.toList
noncomputable def absV:Value->Option V
 | .none=>some .non
 | .bool b=>some (.bl b)
 | .int i _=>some (.int i)
 | .str x _=>some (.str x)
 | .bytes b _=>some (.byt b)
 | .float b _=>some (.flt b)
 | .ref a=>some (.ref a)
 | .type n=>some (.ty n)
 | _=>none
theorem RelV.abs {x:V}{u:Value}(r:RelV x u):absV u = some x:=by
 cases x with
 | non=>cases r;rfl
 | bl _=>cases r;rfl
 | int _=>obtain ⟨t,rfl⟩:=r;rfl
 | str _=>obtain ⟨t,rfl⟩:=r;rfl
 | byt _=>obtain ⟨t,rfl⟩:=r;rfl
 | flt _=>obtain ⟨t,rfl⟩:=r;rfl
 | ref _=>cases r;rfl
 | ty _=>cases r;rfl
theorem RelV.inj {x y:V}{u:Value}(r:RelV x u)(q:RelV y u):x = y:=Option.some.inj (r.abs.symm.trans q.abs)
theorem Vals.inj:∀ {xs ys:List V} {us:List Value},Vals xs us->Vals ys us->xs = ys
 | _,_,_,.nil,.nil=>rfl
 | _,_,_,.cons r t,.cons r' t'=>by rw [r.inj r',Vals.inj t t']
section
variable {X:Cx}{pins:List (Addr × Obj)}{σ:St}{H:Hp}{s:Shared}{a:Addr}{xs ys:List V}
theorem SqL.of {K:PySem.W.Frag}(h:H a = some (.lst xs)):SqL K H a xs:=.inl (.inl h)
theorem SqT.of {K:PySem.W.Frag}(h:H a = some (.tup xs)):SqT K H a xs:=.inl (.inl h)
theorem Inv.list (I:Inv X pins σ H s)(h:SqL X.K H a xs):∃ its:List Value,Vals xs its/\PlainL s.heap a its.toArray/\xs.length <= sizeLine:=by
 rcases h with h | ⟨o,its,n,hk,hc,hd,hs,hz,r⟩
 ·obtain ⟨z,its,n,r,e⟩:=h.ok I.hok
  exact ⟨its,r,⟨_,n,e,rfl,rfl,rfl⟩,z⟩
 ·refine ⟨its.toList,r,⟨o,n,I.kIn a o hk,hc,hd,by simpa using hs⟩,?_⟩
  have e:=r.length
  simp only [Array.length_toList] at e
  omega
theorem Inv.tuple (I:Inv X pins σ H s)(h:SqT X.K H a xs):∃ its:List Value,Vals xs its/\IsTup s.heap a its.toArray/\xs.length <= sizeLine:=by
 rcases h with h | ⟨o,its,n,hk,hc,hs,hz,r⟩
 ·obtain ⟨z,its,r,p⟩:=h.ok I.hok
  exact ⟨its,r,p,z⟩
 ·refine ⟨its.toList,r,⟨o,I.kIn a o hk,hc,n,by simpa using hs⟩,?_⟩
  have e:=r.length
  simp only [Array.length_toList] at e
  omega
theorem Inv.list_inj (I:Inv X pins σ H s)(h:SqL X.K H a xs)(h':SqL X.K H a ys):xs = ys:=by
 obtain ⟨its,r,⟨o,n,e,_,_,d⟩,_⟩:=I.list h
 obtain ⟨its',r',⟨o',n',e',_,_,d'⟩,_⟩:=I.list h'
 rw [e] at e';cases e'
 rw [d] at d'
 injection d' with d1 _
 have:its = its':=by simpa using congrArg Array.toList d1
 subst this
 exact r.inj r'
theorem Inv.tuple_inj (I:Inv X pins σ H s)(h:SqT X.K H a xs)(h':SqT X.K H a ys):xs = ys:=by
 obtain ⟨its,r,⟨o,e,_,n,d⟩,_⟩:=I.tuple h
 obtain ⟨its',r',⟨o',e',_,n',d'⟩,_⟩:=I.tuple h'
 rw [e] at e';cases e'
 rw [d] at d'
 injection d' with d1 _
 have:its = its':=by simpa using congrArg Array.toList d1
 subst this
 exact r.inj r'
end
section
variable {X:Cx}{pins:List (Addr × Obj)}{σ:St}{H:Hp}{s:Shared}{E:Value->Shared->Prop}
end
section
variable {X:Cx}{st:Stmt}{rest:List Stmt}{t u:TS}{e:Expr}{te:TE}{pos:Pos}
noncomputable def tNext:TS:=fun D σ H=>D.nx σ H
noncomputable def tSeq (t u:TS):TS:=fun D σ H=>t { D with nx:=u D } σ H
theorem pss_nil:PSs X [] tNext:=fun _ _ σ H _ I h=>wpAny_execs_nil ⟨σ,H,I,h⟩
theorem pss_cons (h1:PS X st t)(h2:PSs X rest u):PSs X (st :: rest) (tSeq t u):=by
 intro pins s σ H D I h
 refine wpAny_execs_cons (thn (h1 pins s σ H { D with nx:=u D } I h) fun f s1 q=>?_)
 cases f with
 | next =>
  obtain ⟨σ',H',I',q⟩:=q
  exact h2 pins s1 σ' H' D I' q
 | ret v=>exact q
 | brk=>exact q
 | cont=>exact q
noncomputable def tBreak:TS:=fun D σ H=>D.bk σ H
noncomputable def tCont:TS:=fun D σ H=>D.ct σ H
theorem ps_pass:PS X (.Pass pos) tNext:=fun _ _ σ H _ I h=>wpAny_Pass ⟨σ,H,I,h⟩
theorem ps_break:PS X (.Break pos) tBreak:=fun _ _ σ H _ I h=>wpAny_Break ⟨σ,H,I,h⟩
theorem ps_continue:PS X (.Continue pos) tCont:=fun _ _ σ H _ I h=>wpAny_Continue ⟨σ,H,I,h⟩
theorem Inv.quiet {pins:List (Addr × Obj)}{σ:St}{H:Hp}{s:Shared}(I:Inv X pins σ H s):interactive X.env = false:=by simp [interactive,I.ok.kind]
noncomputable def tDrop (te:TE):TS:=fun D σ H=>te σ H fun _ H1=>D.nx σ H1
theorem ps_expr (he:PE X e te)(hs:swapsWith e none pos.line X.env = pure false:=by rfl):PS X (.Expr e pos) (tDrop te):=by
 intro pins s σ H D I h
 exact wpAny_Expr_any (thn (he pins s σ H _ I h) fun v s1 ⟨x,H1,I1,r1,q1⟩=>⟨σ,H1,I1,q1⟩) I.quiet hs
noncomputable def tRet (te:TE):TS:=fun D σ H=>te σ H D.rt
theorem ps_ret (he:PE X e te):PS X (.Return (some e) pos) (tRet te):=by
 intro pins s σ H D I h
 exact wpAny_Return_some (thn (he pins s σ H _ I h) fun v s1 ⟨x,H1,I1,r1,q1⟩=>⟨x,σ,H1,I1,r1,q1⟩)
noncomputable def tRetN:TS:=fun D _ H=>D.rt .non H
theorem ps_retN:PS X (.Return none pos) tRetN:=fun _ _ σ H _ I h=>wpAny_Return_none ⟨.non,σ,H,I,rfl,h⟩
noncomputable def tIfS (c:TT)(t u:TS):TS:=fun D σ H=>c σ H fun b H1=>if b = true then t D σ H1 else u D σ H1
theorem ps_if {c:Expr}{a b:List Stmt}{tc:TT}(hc:PT X c tc)(ha:PSs X a t)(hb:PSs X b u):PS X (.If c a b pos) (tIfS tc t u):=by
 intro pins s σ H D I h
 refine wpAny_If (thn (hc pins s σ H _ I h) fun d s1 ⟨H1,I1,q1⟩=>?_)
 cases d with
 | true=>exact ha pins s1 σ H1 D I1 q1
 | false=>exact hb pins s1 σ H1 D I1 q1
noncomputable def tNever:TS:=fun _ _ _=>False
theorem ps_never:PS X st tNever:=fun _ _ _ _ _ _ h=>h.elim
end
abbrev TG:=V->St->Hp->(St->Hp->Prop)->Prop
abbrev TGs:=List V->St->Hp->(St->Hp->Prop)->Prop
noncomputable def PG (X:Cx)(target:Expr)(t:TG):Prop :=
 ∀ (pins:List (Addr × Obj)) (s:Shared) (σ:St) (H:Hp) (v:V) (u:Value) (Q:St->Hp->Prop),Inv X pins σ H s->RelV v u->t v σ H Q ->
  wpAny (model X.prog X.w) X.A (assign target X.env u) (fun _ s'=>∃ σ' H',Inv X pins σ' H' s'/\Q σ' H') X.xe s
noncomputable def PGs (X:Cx)(ts:List Expr)(t:TGs):Prop :=
 ∀ (pins:List (Addr × Obj)) (s:Shared) (σ:St) (H:Hp) (vs:List V) (us:List Value) (Q:St->Hp->Prop),Inv X pins σ H s->Vals vs us->t vs σ H Q ->
  wpAny (model X.prog X.w) X.A (assignInOrder ((assignEach ts X.env).map (·.2)) us) (fun _ s'=>∃ σ' H',Inv X pins σ' H' s'/\Q σ' H') X.xe s
abbrev TSet:=V->V->V->Hp->(Hp->Prop)->Prop
noncomputable def PSet (X:Cx)(t:TSet):Prop :=
 ∀ (pins:List (Addr × Obj)) (s:Shared) (σ:St) (H:Hp) (o i v:V) (ov iv u:Value) (Q:Hp->Prop),Inv X pins σ H s->RelV o ov->RelV i iv->RelV v u->t o i v H Q ->
  wpAny (model X.prog X.w) X.A (setItem ov iv u) (fun _ s'=>∃ H',Inv X pins σ H' s'/\Q H') X.xe s
abbrev TIp:=V->V->Hp->VK->Prop
noncomputable def PIp (X:Cx)(op:Operator)(t:TIp):Prop :=
 ∀ (pins:List (Addr × Obj)) (s:Shared) (σ:St) (H:Hp) (x y:V) (v u:Value) (Q:VK),Inv X pins σ H s->RelV x v->RelV y u->t x y H Q ->
  wpAny (model X.prog X.w) X.A (inplaceOp op v u) (EP X pins σ Q) X.xe s
section
variable {X:Cx}{pos:Pos}
noncomputable def gName (i:Nat):TG:=fun v σ H Q=>Q (σ.set i (some v)) H
theorem pg_name {i:Nat}{x:Str}(hN:X.N.Nodup)(hi:X.N[i]? = some x)(hx:Loc X.env.scope x)(hf:X.fn x = true\/X.env.scope.names.lookup x = some .local:=by first | exact .inl rfl | exact .inr rfl | assumption):PG X (.Name x pos) (gName i):=by
 intro pins s σ H v u Q I r h
 exact wpAny_assign_Name (store_ok I hN hi hx r (fun s' I'=>⟨_,H,I',h⟩) hf)
noncomputable def gNil:TGs:=fun vs σ H Q=>vs = []/\Q σ H
noncomputable def gCons (t:TG)(u:TGs):TGs:=fun vs σ H Q=>∃ v r,vs = v :: r/\t v σ H fun σ' H'=>u r σ' H' Q
theorem pgs_nil:PGs X [] gNil:=by
 intro pins s σ H vs us Q I r h
 obtain ⟨e,h⟩:=h
 subst e
 cases r
 exact assignInOrder_nil ⟨σ,H,I,h⟩
theorem pgs_cons {e:Expr}{es:List Expr}{t:TG}{u:TGs}(h1:PG X e t)(h2:PGs X es u)
  (hs:(assignEach (e :: es) X.env).map (·.2) = assign e X.env :: (assignEach es X.env).map (·.2):=by rfl):PGs X (e :: es) (gCons t u):=by
 intro pins s σ H vs us Q I r h
 obtain ⟨v,vr,e1,h⟩:=h
 subst e1
 cases r with
 | cons r rr =>
  rw [hs]
  refine assignInOrder_cons (thn (h1 pins s σ H _ _ _ I r h) fun _ s1 ⟨σ1,H1,I1,q1⟩=>?_)
  exact h2 pins s1 σ1 H1 _ _ Q I1 rr q1
noncomputable def gSub (to ti:TE)(t:TSet):TG:=fun v σ H Q=>to σ H fun o H1=>ti σ H1 fun i H2=>t o i v H2 fun H3=>Q σ H3
theorem pg_sub {o i:Expr}{to ti:TE}{t:TSet}(ho:PE X o to)(hi:PE X i ti)(hs:PSet X t)
  (ha:∀ v,assign (.Subscript o i pos) X.env v = (do
   let ov <- holding [v] (eval o X.env)
   let iv <- holding [v,ov] (eval i X.env)
   standAt pos
   holding [v,ov,iv] (setItem ov iv v)
   release [v,ov,iv] []):=by intro _;rfl):PG X (.Subscript o i pos) (gSub to ti t):=by
 intro pins s σ H v u Q I r h
 rw [ha]
 refine wpAny_bind (wpAny_holding (thn (ho pins s σ H _ I h) fun ov s1 ⟨x,H1,I1,r1,q1⟩=>?_))
 refine wpAny_bind (wpAny_holding (thn (hi pins s1 σ H1 _ I1 q1) fun iv s2 ⟨y,H2,I2,r2,q2⟩=>?_))
 refine wpAny_bind (wpAny_standAt (wpAny_bind (wpAny_holding (thn (hs pins s2 σ H2 x y v ov iv u _ I2 r1 r2 r q2) fun _ s3 ⟨H3,I3,q3⟩=>?_))))
 exact wpAny_release ⟨σ,H3,I3,q3⟩
noncomputable def tAsg (te:TE)(g:TG):TS:=fun D σ H=>te σ H fun x H1=>g x σ H1 D.nx
theorem ps_asg {tg e:Expr}{te:TE}{g:TG}(he:PE X e te)(hg:PG X tg g)(hs:swapsWithSole [tg] e pos.line X.env = pure false:=by rfl)(hw:swappedStores [tg] e X.env = pure none:=by rfl)
  (h1:(assignEach [tg] X.env).map (·.2) = [assign tg X.env]:=by rfl):PS X (.Assign [tg] e pos) (tAsg te g):=by
 intro pins s σ H D I h
 refine wpAny_Assign_stores (thn (he pins s σ H _ I h) fun v s1 ⟨x,H1,I1,r1,q1⟩=>?_) hs hw
 rw [h1]
 exact thn (hg pins s1 σ H1 x v _ I1 r1 q1) fun _ s2 q=>q
noncomputable def tPar (i j:Nat)(ta:TA):TS:=fun D σ H=>ta σ H fun vs H1=>∃ v w,vs = [v,w]/\D.nx ((σ.set i (some v)).set j (some w)) H1
theorem ps_par {i j:Nat}{x y:Str}{a b:Expr}{ta:TA}{px py pt:Pos}{kt k2 pt2}(hc:X.calm = true)(hN:X.N.Nodup)(hi:X.N[i]? = some x)(hj:X.N[j]? = some y)(hij:i ≠ j)
  (hx:X.env.scope.names.lookup x = some .local) (hy:X.env.scope.names.lookup y = some .local) (ha:PA X [a,b] ta)
  (hw:swappedStores [.Tuple [.Name x px,.Name y py] kt pt] (.Tuple [a,b] k2 pt2) X.env = pure (some [x,y]))
  (hs:swapsWithSole [.Tuple [.Name x px,.Name y py] kt pt] (.Tuple [a,b] k2 pt2) pos.line X.env = pure false:=by rfl) :
  PS X (.Assign [.Tuple [.Name x px,.Name y py] kt pt] (.Tuple [a,b] k2 pt2) pos) (tPar i j ta):=by
 intro pins s σ H D I h
 rw [exec_Assign_arm]
 refine wpAny_bind (wpAny_standAt ?_)
 rw [hs]
 refine wpAny_bind (wpAny_pure ?_)
 rw [if_neg (by decide)]
 refine wpAny_bind (Tuple_ (thn (ha _ pins s σ H _ I h) fun us s1 ⟨vs,H1,I1,r1,q1⟩=>?_))
 obtain ⟨v,w,e1,q1⟩:=q1
 subst e1
 obtain ⟨u1,u2,rfl,rv,rw'⟩:∃ u1 u2,us = [u1,u2]/\RelV v u1/\RelV w u2:=by
  cases r1 with
  | cons p q =>
   cases q with
   | cons p' q' =>
    cases q'
    exact ⟨_,_,rfl,p,p'⟩
 refine wpAny_newObj_type ?_ (by show 2 <= sizeLine;decide)
 have I2:Inv X pins σ H1 { s1 with heap:=s1.heap.push { cls:=.type "tuple",data:=.seq [u1,u2].toArray } }:=I1.kept (t':=s1.toks) fun b o e=>Heap.get?_push_of_some _ e
 rw [hw]
 refine wpAny_bind (wpAny_pure ?_)
 show wpAny (model X.prog X.w) X.A (do rule "assign.swapped-stores";let items <- unpackItems (.ref s1.heap.objs.size) 2 none;assignInOrder [fun v=>bindName X.env y v,fun v=>bindName X.env x v] items.reverse;pure Flow.next) _ _ _
 refine wpAny_bind (wpAny_rule (wpAny_bind (unpackItems_tuple (items:=#[u1,u2]) (I.ok.hd hc) (IsTup.new s1.heap _) fun h' hx'=>?_)))
 have I3:=I2.kept (h':=h') (t':=s1.toks) fun b o e=>hx' b o (Nat.ne_of_lt (Heap.lt_size e)) e
 show wpAny _ _ (assignInOrder [fun v=>bindName X.env y v,fun v=>bindName X.env x v] [u2,u1] >>= fun _=>pure Flow.next) _ _ _
 refine wpAny_bind (assignInOrder_cons (wpAny_bindName (store_ok I3 hN hj (.inl hy) rw' (fun s2 I4=>?_) (.inr hy))))
 refine assignInOrder_cons (wpAny_bindName (store_ok I4 hN hi (.inl hx) rv (fun s3 I5=>assignInOrder_nil (wpAny_pure ?_)) (.inr hx)))
 rw [List.set_comm _ _ (Ne.symm hij)] at I5
 exact ⟨_,H1,I5,q1⟩
noncomputable def tAug (i:Nat)(te:TE)(ti:TIp):TS:=fun D σ H=>∃ x,σ[i]? = some (some x)/\te σ H fun y H1=>ti x y H1 fun z H2=>D.nx (σ.set i (some z)) H2
theorem ps_aug {i:Nat}{x:Str}{e:Expr}{te:TE}{op:Operator}{ti:TIp}{pos':Pos}(hN:X.N.Nodup)(hi:X.N[i]? = some x)(hx:Loc X.env.scope x)(he:PE X e te)(ho:PIp X op ti)(hf:X.fn x = true\/X.env.scope.names.lookup x = some .local:=by first | exact .inl rfl | exact .inr rfl | assumption) :
  PS X (.AugAssign (.Name x pos') op e pos) (tAug i te ti):=by
 intro pins s σ H D I h
 obtain ⟨v,e1,h⟩:=h
 obtain ⟨m,hn,hl⟩:=I.loc
 have vis:Vis X.env.scope x:=by rcases hx with k | k;exact .inl k;exact .inr (.inl k)
 obtain ⟨u,r,l⟩:=hl i x v hi e1 vis
 refine wpAny_AugAssign_Name ?_
 have go:wpAny (model X.prog X.w) X.A (eval e X.env) (fun w s₂=>wpAny (model X.prog X.w) X.A (inplaceOp op u w) (fun r s₃=>wpAny (model X.prog X.w) X.A (storeName X.env x r) (fun _=>SP X pins D .next) X.xe s₃) X.xe s₂) X.xe s:=by
  refine thn (he pins s σ H _ I h) fun w s1 ⟨y,H1,I1,r1,q1⟩=>?_
  refine thn (ho pins s1 σ H1 v y u w _ I1 r r1 q1) fun z s2 ⟨zv,H2,I2,r2,q2⟩=>?_
  exact store_ok I2 hN hi hx r2 (fun s3 I3=>⟨_,H2,I3,q2⟩) hf
 rcases l with ⟨hk,hm⟩ | ⟨hk,c,hc,hcell⟩
 ·exact wpAny_loadName_local I.ok.kind hk hn hm go
 ·rcases hk with hk | hk
  ·exact wpAny_loadName_cell I.ok.kind hk hc hcell go
  ·rcases hx with k | k
   ·have:X.env.scope.names.lookup x = some .free:=hk
    rw [k] at this;cases this
   ·have:X.env.scope.names.lookup x = some .free:=hk
    rw [k] at this;cases this
noncomputable def ipI (f:Int->Int->Int):TIp:=fun x y H Q=>∃ i j,x = .int i/\y = .int j/\Q (.int (f i j)) H
theorem ip_add:PIp X .Add (ipI fun i j=>i + j):=by
 intro pins s σ H x y v u Q I r1 r2 h
 obtain ⟨i,j,e1,e2,q⟩:=h
 subst e1;subst e2
 obtain ⟨t,rfl⟩:=r1
 obtain ⟨t',rfl⟩:=r2
 exact iadd_int ⟨.int _,H,I.tok _,⟨_,rfl⟩,q⟩
theorem ip_sub:PIp X .Sub (ipI fun i j=>i - j):=by
 intro pins s σ H x y v u Q I r1 r2 h
 obtain ⟨i,j,e1,e2,q⟩:=h
 subst e1;subst e2
 obtain ⟨t,rfl⟩:=r1
 obtain ⟨t',rfl⟩:=r2
 exact isub_int ⟨.int _,H,I.tok _,⟨_,rfl⟩,q⟩
end
section
variable {X:Cx}{pos:Pos}
end
structure It where
 go:Nat->Hp->Prop
 yld:Nat->Hp->V->Hp->Prop
 stop:Nat->Hp->Prop
noncomputable def FpOk (X:Cx)(pins:List (Addr × Obj))(H:Hp)(b:Addr):Prop :=
 H b = none/\b ≠ X.env.locals/\b ∉ X.fs/\(b ∈ X.ex\/X.s₀.heap.objs.size <= b)/\(∀ x c,X.env.cells.lookup x = some c->c ≠ b)/\∀ p ∈ X.pn ++ pins,p.1 ≠ b
theorem Inv.fpOk {X:Cx}{pins:List (Addr × Obj)}{σ:St}{H H':Hp}{s:Shared}{b:Addr}(I:Inv X pins σ H s)(hb:s.heap.objs.size <= b)(hn:H' b = none):FpOk X pins H' b:=by
 refine ⟨hn,Nat.ne_of_gt (Nat.lt_of_lt_of_le I.lt hb),I.nofs hb,.inr (Nat.le_trans I.sz hb),fun x c e z=>?_,fun p hp z=>?_⟩
 ·obtain ⟨v,q⟩:=I.cell x c e
  exact absurd (Nat.lt_of_lt_of_le q.lt (by rw [z];exact hb)) (Nat.lt_irrefl _)
 ·exact absurd (Nat.lt_of_lt_of_le (Heap.lt_size (I.pin p hp).1) (by rw [z];exact hb)) (Nat.lt_irrefl _)
structure Turn (P:Program)(w:World)(K:PySem.W.Frag)(tg:Expr)(J:It)(fp:List Addr)(it:Addr)(tn:Nat->Heap->Prop):Prop where
 mem:it ∈ fp
 obj:∀ i h,tn i h->∀ b ∈ fp,∃ o,h.get? b = some o/\∀ v,o.data ≠ .cell v
 keep:∀ i h h',tn i h->(∀ b ∈ fp,∀ o,h.get? b = some o->h'.get? b = some o)->tn i h'
 item:∀ (X:Cx),X.prog = P->X.w = w->X.K = K->X.calm = true->∀ (i:Nat) (pins:List (Addr × Obj)) (s:Shared) (σ:St) (H:Hp) (E:Value->Shared->Prop),Inv X pins σ H s->(∀ b ∈ fp,FpOk X pins H b)->tn i s.heap->J.go i H ->
  wpAny (model P w) X.A (pyNext (.ref it)) (fun r s1=>∃ u,r = some u /\
   wpAny (model P w) X.A (letOwnedTupleGo tg (.ref it) u) (fun _ s2=>∃ x H',Inv X pins σ H' s2/\RelV x u/\J.yld i H x H'/\tn (i + 1) s2.heap/\∀ b ∈ fp,H' b = none) E s1) E s
 done:∀ (X:Cx),X.prog = P->X.w = w->X.K = K->X.calm = true->∀ (i:Nat) (pins:List (Addr × Obj)) (s:Shared) (σ:St) (H:Hp) (E:Value->Shared->Prop),Inv X pins σ H s->(∀ b ∈ fp,FpOk X pins H b)->tn i s.heap->J.stop i H ->
  wpAny (model P w) X.A (pyNext (.ref it)) (fun r s1=>r = none/\Inv X pins σ H s1) E s
 self:∀ (A:Around) (i:Nat) (s:Shared) (Q:Value->Shared->Prop) (E:Value->Shared->Prop),tn i s.heap->Q (.ref it) s->wpAny (model P w) A (pyIter (.ref it)) Q E s
abbrev TI:=St->Hp->(It->Hp->Prop)->Prop
noncomputable def PIE (X:Cx)(pins:List (Addr × Obj))(σ:St)(tg:Expr)(R:It->Hp->Prop)(itv:Value)(s2:Shared):Prop :=
 ∃ (it:Addr) (fp:List Addr) (tn:Nat->Heap->Prop) (J:It) (H':Hp),itv = .ref it/\Inv X pins σ H' s2/\Turn X.prog X.w X.K tg J fp it tn/\tn 0 s2.heap/\(∀ b ∈ fp,FpOk X pins H' b)/\R J H'
noncomputable def PI (X:Cx)(tg iter:Expr)(wi:TI):Prop :=
 ∀ (pins:List (Addr × Obj)) (s:Shared) (σ:St) (H:Hp) (R:It->Hp->Prop),Inv X pins σ H s->wi σ H R ->
  wpAny (model X.prog X.w) X.A (eval iter X.env) (fun v s1=>wpAny (model X.prog X.w) X.A (pyIter v) (PIE X pins σ tg R) X.xe s1) X.xe s
theorem go_of {M:Model}{A:Around}{E:Value->Shared->Prop}{s:Shared}{tg:Expr}{it:Addr}{u:Value}{o:Obj}{n:String}{vs:Array Value}{Q:Unit->Shared->Prop}(ho:s.heap.get? it = some o)(hc:o.cls = .type n)(hd:o.data = .fields vs)
    (hn:["enumerate","zip","dict_itemiterator","dict_reverseitemiterator","odict_iterator","itertools.zip_longest","itertools.pairwise"].contains n = false) (hQ:Q () s):wpAny M A (letOwnedTupleGo tg (.ref it) u) Q E s:=by
  unfold letOwnedTupleGo
  cases tg <;> first
    | exact wpAny_pure hQ
    | (cases u <;> first
        | exact wpAny_pure hQ
        | (refine wpAny_bind (wpAny_load ho ?_)
           rw [hc,hd]
           show wpAny M A (if (["enumerate","zip","dict_itemiterator","dict_reverseitemiterator","odict_iterator","itertools.zip_longest","itertools.pairwise"].contains n && vs[0]? == some (rawInt _)) = true then _ else _) Q E s
           rw [if_neg (by intro h;rw [hn,Bool.false_and] at h;cases h)]
           exact wpAny_pure hQ))
noncomputable def Itl (K:PySem.W.Frag)(a:Addr):It :=
 ⟨fun i H=>∃ xs x,SqL K H a xs/\xs[i]? = some x,fun i H x H'=>H' = H/\∀ xs,SqL K H a xs->xs[i]? = some x,fun i H=>∃ xs,SqL K H a xs/\xs.length <= i⟩
noncomputable def Itt (K:PySem.W.Frag)(a:Addr):It :=
 ⟨fun i H=>∃ xs x,SqT K H a xs/\xs[i]? = some x,fun i H x H'=>H' = H/\∀ xs,SqT K H a xs->xs[i]? = some x,fun i H=>∃ xs,SqT K H a xs/\xs.length <= i⟩
noncomputable def Itr (lo:Int)(n:Nat):It:=⟨fun i _=>i < n,fun i H x H'=>H' = H/\x = .int (lo + i),fun i _=>n <= i⟩
theorem turn_list {P:Program}{w:World}{K:PySem.W.Frag}{tg:Expr}(a it:Addr):Turn P w K tg (Itl K a) [it] it (fun i h=>h.IsListIter it a i) where
 mem:=by simp
 obj:=fun i h st b hb=>by
  have e:b = it:=by simpa using hb
  subst e
  obtain ⟨o,e,c,d⟩:=st
  exact ⟨o,e,fun v z=>by rw [d] at z;cases z⟩
 keep:=fun i h h' st k=>st.at fun o e=>k it (by simp) o e
 item:=by
  intro X hP hw hK hc i pins s σ H E I hf st hg
  subst hP hw hK
  obtain ⟨xs,x,hq,hx⟩:=hg
  obtain ⟨its,rv,p,hz⟩:=I.list hq
  obtain ⟨u,hu,ru⟩:=rv.get hx
  obtain ⟨f0,f1,f2,f3,f4,f5⟩:=hf it (by simp)
  refine wpAny_pyNext_list_item st p.isList (x:=u) (by simpa using hu) fun h' st' sb=>?_
  have I1:Inv X pins σ H { s with heap:=h' }:=I.turned (t':=s.toks) (fun b o hb e=>(sb.2 b hb).trans e) f0 f1 f3 f4 f5
  obtain ⟨o,e,c,d⟩:=id st'
  exact ⟨u,rfl,go_of (s:={ s with heap:=h' }) e c d (by decide) ⟨x,H,I1,ru,⟨rfl,fun ys hy=>by rw [I.list_inj hy hq];exact hx⟩,st',fun b hb=>(hf b hb).1⟩⟩
 done:=by
  intro X hP hw hK hc i pins s σ H E I hf st hg
  subst hP hw hK
  obtain ⟨xs,hq,hx⟩:=hg
  obtain ⟨its,rv,p,hz⟩:=I.list hq
  obtain ⟨f0,f1,f2,f3,f4,f5⟩:=hf it (by simp)
  have hl:=rv.length
  exact wpAny_pyNext_list_end (I.ok.hd hc) st p.isList (by simp;omega) fun h' eb=>⟨rfl,I.turned (t':=s.toks) (fun b o hb e=>eb b o hb e) f0 f1 f3 f4 f5⟩
 self:=fun _ _ _ _ _ st h=>wpAny_pyIter_listiter st h
theorem turn_tuple {P:Program}{w:World}{K:PySem.W.Frag}{tg:Expr}(a it:Addr):Turn P w K tg (Itt K a) [it] it (fun i h=>h.IsTupleIter it a i) where
 mem:=by simp
 obj:=fun i h st b hb=>by
  have e:b = it:=by simpa using hb
  subst e
  obtain ⟨o,e,c,d⟩:=st
  exact ⟨o,e,fun v z=>by rw [d] at z;cases z⟩
 keep:=fun i h h' st k=>st.at fun o e=>k it (by simp) o e
 item:=by
  intro X hP hw hK hc i pins s σ H E I hf st hg
  subst hP hw hK
  obtain ⟨xs,x,hq,hx⟩:=hg
  obtain ⟨its,rv,p,hz⟩:=I.tuple hq
  obtain ⟨u,hu,ru⟩:=rv.get hx
  obtain ⟨f0,f1,f2,f3,f4,f5⟩:=hf it (by simp)
  refine wpAny_pyNext_tuple_item st (show s.heap.IsTuple a its.toArray from p) (x:=u) (by simpa using hu) fun h' st' sb=>?_
  have I1:Inv X pins σ H { s with heap:=h' }:=I.turned (t':=s.toks) (fun b o hb e=>(sb.2 b hb).trans e) f0 f1 f3 f4 f5
  obtain ⟨o,e,c,d⟩:=id st'
  exact ⟨u,rfl,go_of (s:={ s with heap:=h' }) e c d (by decide) ⟨x,H,I1,ru,⟨rfl,fun ys hy=>by rw [I.tuple_inj hy hq];exact hx⟩,st',fun b hb=>(hf b hb).1⟩⟩
 done:=by
  intro X hP hw hK hc i pins s σ H E I hf st hg
  subst hP hw hK
  obtain ⟨xs,hq,hx⟩:=hg
  obtain ⟨its,rv,p,hz⟩:=I.tuple hq
  obtain ⟨f0,f1,f2,f3,f4,f5⟩:=hf it (by simp)
  have hl:=rv.length
  exact wpAny_pyNext_tuple_end (I.ok.hd hc) st (show s.heap.IsTuple a its.toArray from p) (by simp;omega) fun h' eb=>⟨rfl,I.turned (t':=s.toks) (fun b o hb e=>eb b o hb e) f0 f1 f3 f4 f5⟩
 self:=fun _ _ _ _ _ st h=>wpAny_pyIter_tupleiter st h
theorem turn_range {P:Program}{w:World}{K:PySem.W.Frag}{tg:Expr}(it:Addr)(lo:Int)(n:Nat):Turn P w K tg (Itr lo n) [it] it (fun i h=>IsRangeIter h it (lo + (i:Nat) * 1) ((n:Int) - (i:Nat)) 1) where
 mem:=by simp
 obj:=fun i h st b hb=>by
  have e:b = it:=by simpa using hb
  subst e
  exact ⟨_,st,fun v z=>by
   have z':Data.fields _ = Data.cell v:=z
   cases z'⟩
 keep:=fun i h h' st k=>k it (by simp) _ st
 item:=by
  intro X hP hw hK hc i pins s σ H E I hf st hg
  subst hP hw hK
  obtain ⟨f0,f1,f2,f3,f4,f5⟩:=hf it (by simp)
  have W:=Walks.range (prog:=X.prog) (w:=X.w) (I.ok.hd hc) it lo 1 n
  refine W.item i s _ _ hg st fun v h' tk hv st' kk=>?_
  obtain ⟨t,rfl⟩:=hv
  have I1:Inv X pins σ H { s with heap:=h',toks:=tk }:=I.turned (fun b o hb e=>kk b o (by simpa using hb) e) f0 f1 f3 f4 f5
  refine ⟨_,rfl,go_of (s:={ s with heap:=h',toks:=tk }) (n:="range_iterator") st' rfl rfl (by decide) ⟨.int (lo + i),H,I1,⟨t,?_⟩,⟨rfl,rfl⟩,st',fun b hb=>(hf b hb).1⟩⟩
  rw [Int.mul_one]
 done:=by
  intro X hP hw hK hc i pins s σ H E I hf st hg
  subst hP hw hK
  obtain ⟨f0,f1,f2,f3,f4,f5⟩:=hf it (by simp)
  exact wpAny_pyNext_range_end (I.ok.hd hc) st (by have:n <= i:=hg;omega) fun h' eb=>⟨rfl,I.turned (t':=s.toks) (fun b o hb e=>eb b o hb e) f0 f1 f3 f4 f5⟩
 self:=fun _ _ _ _ _ st h=>wpAny_pyIter_rangeiter st h
end L2
namespace L2
open PySem PySem.Spec PyProof.Rows
section
variable {X:Cx}{tg:Expr}
theorem range_it {pins:List (Addr × Obj)}{σ:St}{H:Hp}{s:Shared}{R:It->Hp->Prop}{E:Value->Shared->Prop}{lo hi:Int}{t u v:Tok}{tk:Nat}(I:Inv X pins σ H s)(h1:-(2 ^ 62) <= lo)(h2:lo < 2 ^ 62)(h3:-(2 ^ 62) <= hi)(h4:hi < 2 ^ 62)
  (q:R (Itr lo (hi - lo).toNat) H):wpAny (model X.prog X.w) X.A (pyIter (.ref s.heap.objs.size)) (PIE X pins σ tg R) E { s with heap:=s.heap.push { cls:=.type "range",data:=.fields #[.int lo t,.int hi u,.int 1 v] },toks:=tk }:=by
 refine wpAny_pyIter_range (IsRange.new ..) (small_one h1 h2 h3 h4) ?_
 have I1:Inv X pins σ H { s with heap:=s.heap.push { cls:=.type "range",data:=.fields #[.int lo t,.int hi u,.int 1 v] },toks:=tk }:=I.kept fun b o e=>Heap.get?_push_of_some _ e
 refine ⟨(s.heap.push { cls:=.type "range",data:=.fields #[.int lo t,.int hi u,.int 1 v] }).objs.size,[(s.heap.push { cls:=.type "range",data:=.fields #[.int lo t,.int hi u,.int 1 v] }).objs.size],_,_,H,rfl,
  I1.kept (t':=tk) fun b o e=>Heap.get?_push_of_some _ e,turn_range _ lo (hi - lo).toNat,?_,fun b hb=>?_,q⟩
 ·have e1:lo + ((0:Nat):Int) * 1 = lo:=by simp
  have e2:(((hi - lo).toNat:Nat):Int) - ((0:Nat):Int) = Builtin.Range.rangeSize lo hi 1:=by rw [rangeSize_one];split <;> omega
  show IsRangeIter _ _ (lo + ((0:Nat):Int) * 1) ((((hi - lo).toNat:Nat):Int) - ((0:Nat):Int)) 1
  rw [e1,e2]
  exact Heap.get?_push_size _ rfl
 ·have e:b = (s.heap.push { cls:=.type "range",data:=.fields #[.int lo t,.int hi u,.int 1 v] }).objs.size:=by simpa using hb
  subst e
  exact I1.fpOk (Nat.le_refl _) (I1.hok.fresh (Nat.le_refl _))
noncomputable def iRng1 (ta:TA):TI:=fun σ H R=>ta σ H fun vs H1=>∃ j:Int,vs = [.int j]/\-(2 ^ 62) <= j/\j < 2 ^ 62/\R (Itr 0 j.toNat) H1
noncomputable def iRng2 (ta:TA):TI:=fun σ H R=>ta σ H fun vs H1=>∃ i j:Int,vs = [.int i,.int j]/\(-(2 ^ 62) <= i/\i < 2 ^ 62/\-(2 ^ 62) <= j/\j < 2 ^ 62)/\R (Itr i (j - i).toNat) H1
theorem pi_range1 {a:Expr} {ta:TA} {p pos:Pos} (hg:Gl X "range") (hm:X.mg "range" = none) (ha:PA X [a] ta) (hs:starEach [a] X.env = [(false,eval a X.env)]:=by rfl):PI X tg (.Call (.Name "range" p) [a] [] pos) (iRng1 ta):=by
 intro pins s σ H R I h
 refine Call_ (ld_blt I hg hm boot_range (PyProof.Rows.callWith_type1 (thn (ha pos pins s σ H _ I h) fun us s1 ⟨vs,H1,I1,r1,q1⟩=>?_) hs rfl))
 obtain ⟨j,e,q1,q2,q⟩:=q1
 subst e
 cases r1 with
 | cons r rr =>
  cases rr
  obtain ⟨t,rfl⟩:=r
  exact call_range_1 (range_it I1 (by omega) (by omega) q1 q2 (by simpa using q))
theorem pi_range2 {a b:Expr} {ta:TA} {p pos:Pos} (hg:Gl X "range") (hm:X.mg "range" = none) (ha:PA X [a,b] ta) (hs:starEach [a,b] X.env = [(false,eval a X.env),(false,eval b X.env)]:=by rfl) (hs2:starEach [b] X.env = [(false,eval b X.env)]:=by rfl) :
  PI X tg (.Call (.Name "range" p) [a,b] [] pos) (iRng2 ta):=by
 intro pins s σ H R I h
 refine Call_ (ld_blt I hg hm boot_range (PyProof.Rows.callWith_type1 (thn (ha pos pins s σ H _ I h) fun us s1 ⟨vs,H1,I1,r1,q1⟩=>?_) (by rw [hs,hs2]) (by rw [hs2];rfl)))
 obtain ⟨i,j,e,⟨q1,q2,q3,q4⟩,q⟩:=q1
 subst e
 cases r1 with
 | cons r rr =>
  cases rr with
  | cons r' rr =>
   cases rr
   obtain ⟨t,rfl⟩:=r
   obtain ⟨t',rfl⟩:=r'
   exact call_range_2 (range_it I1 q1 q2 q3 q4 q)
noncomputable def tFor (wi:TI)(g:TG)(tb:TS):TS:=fun D σ H=>wi σ H fun J H1=>∃ W:Nat->Nat->St->Hp->Prop,(∃ m,W 0 m σ H1)/\∀ i m σ H,W i m σ H ->
 (J.stop i H/\D.nx σ H)\/(J.go i H/\∃ N:St->Hp->Prop,(∀ σ' H',N σ' H'->∃ m',m' < m/\W (i + 1) m' σ' H')/\∀ x H',J.yld i H x H'->g x σ H' fun σ2 H2=>tb { D with nx:=N,ct:=N,bk:=D.nx } σ2 H2)
noncomputable def pinsAt (fp:List Addr)(h:Heap):List (Addr × Obj):=fp.filterMap fun b=>(h.get? b).map fun o=>(b,o)
theorem mem_pinsAt {fp:List Addr}{h:Heap}{b:Addr}{o:Obj}(hb:b ∈ fp)(e:h.get? b = some o):(b,o) ∈ pinsAt fp h:=List.mem_filterMap.mpr ⟨b,hb,by rw [e];rfl⟩
theorem of_pinsAt {fp:List Addr}{h:Heap}{p:Addr × Obj}(hp:p ∈ pinsAt fp h):p.1 ∈ fp/\h.get? p.1 = some p.2:=by
 obtain ⟨b,hb,e⟩:=List.mem_filterMap.mp hp
 cases q:h.get? b with
 | none=>rw [q] at e;cases e
 | some o =>
  rw [q] at e
  have e':(b,o) = p:=Option.some.inj e
  subst e'
  exact ⟨hb,q⟩
theorem Inv.pinned {pins:List (Addr × Obj)}{σ:St}{H:Hp}{s:Shared}{fp:List Addr}(I:Inv X pins σ H s)(hf:∀ b ∈ fp,FpOk X pins H b)(ho:∀ b ∈ fp,∃ o,s.heap.get? b = some o/\∀ v,o.data ≠ .cell v):Inv X (pins ++ pinsAt fp s.heap) σ H s :=
 I.pins_of fun p hp=>(List.mem_append.mp hp).elim (fun z=>I.pin p (List.mem_append_right _ z)) fun z=>by
  obtain ⟨hb,e⟩:=of_pinsAt z
  obtain ⟨f0,f1,f2,_⟩:=hf p.1 hb
  obtain ⟨o,e',d⟩:=ho p.1 hb
  rw [e] at e';cases e'
  exact ⟨e,f0,f1,f2,d⟩
theorem Inv.unpinned {pins pl:List (Addr × Obj)}{σ:St}{H:Hp}{s:Shared}(I:Inv X (pins ++ pl) σ H s):Inv X pins σ H s:=I.pins_of fun p hp=>I.pin p (List.mem_append_right _ (List.mem_append_left _ hp))
theorem ps_for {iter:Expr}{body:List Stmt}{wi:TI}{g:TG}{tb:TS}{pos:Pos}(hp:PassesOwn (model X.prog X.w) X.A X.env X.xe)(hc:X.calm = true)(hi:PI X tg iter wi)(hg:PG X tg g)(hb:PSs X body tb)
  (hs:∀ x,foldedSetIterable iter X.env x = pure x:=by intro _;rfl):PS X (.For tg iter body [] pos) (tFor wi g tb):=by
 intro pins s σ H D I h
 refine wpAny_For (thn (hi pins s σ H _ I h) fun v s1 h1=>thn h1 fun itv s2 h2=>?_) hs
 obtain ⟨it,fp,tn,J,H2,e,I2,T,st2,f2,W,⟨m0,w0⟩,turn⟩:=h2
 subst e
 have stat:∀ {H':Hp},(∀ b ∈ fp,H' b = none)->∀ b ∈ fp,FpOk X pins H' b:=fun hn b hb=>⟨hn b hb,(f2 b hb).2⟩
 refine codeAny_forLoop_any (fun n s'=>∃ i σ' H',Inv X pins σ' H' s'/\tn i s'.heap/\(∀ b ∈ fp,H' b = none)/\W i n σ' H') ?_ m0 ⟨0,σ,H2,I2,st2,fun b hb=>(f2 b hb).1,w0⟩
 rintro n s3 ⟨i,σ3,H3,I3,st3,fr3,w3⟩
 rcases turn i n σ3 H3 w3 with ⟨stop,qn⟩ | ⟨go,N,hN,step⟩
 ·refine wpAny_passesOwn hp (thn (T.done X rfl rfl rfl hc i pins s3 σ3 H3 X.xe I3 (stat fr3) st3 stop) fun r s4 ⟨hr,I4⟩=>?_)
  subst hr
  exact wpAny_execs_nil ⟨σ3,H3,I4,qn⟩
 ·refine wpAny_passesOwn hp (thn (T.item X rfl rfl rfl hc i pins s3 σ3 H3 X.xe I3 (stat fr3) st3 go) fun r s4 ⟨u,hr,h4⟩=>?_)
  subst hr
  refine wpAny_passesOwn hp (thn h4 fun _ s5 ⟨x,H5,I5,r5,y5,st5,fr5⟩=>?_)
  have I5':=I5.pinned (stat fr5) (T.obj _ _ st5)
  refine wpAny_passesOwn hp (thn (hg _ s5 σ3 H5 x u _ I5' r5 (step x H5 y5)) fun _ s6 ⟨σ6,H6,I6,q6⟩=>?_)
  refine wpAny_passesOwn hp (thn (hb _ s6 σ6 H6 _ I6 q6) fun f s7 q7=>?_)
  have again:∀ {σ7:St} {H7:Hp},Inv X (pins ++ pinsAt fp s5.heap) σ7 H7 s7->N σ7 H7->∃ m,m < n/\∃ i σ' H',Inv X pins σ' H' s7/\tn i s7.heap/\(∀ b ∈ fp,H' b = none)/\W i m σ' H':=fun {σ7 H7} I7 n7=>by
   obtain ⟨m',hm,w7⟩:=hN σ7 H7 n7
   refine ⟨m',hm,i + 1,σ7,H7,I7.unpinned,T.keep _ _ _ st5 fun b hb o e=>(I7.pin (b,o) (List.mem_append_right _ (List.mem_append_right _ (mem_pinsAt hb e)))).1,fun b hb=>?_,w7⟩
   obtain ⟨o,e,d⟩:=T.obj _ _ st5 b hb
   exact (I7.pin (b,o) (List.mem_append_right _ (List.mem_append_right _ (mem_pinsAt hb e)))).2.1
  cases f with
  | next=>obtain ⟨σ7,H7,I7,n7⟩:=q7;exact again I7 n7
  | cont=>obtain ⟨σ7,H7,I7,n7⟩:=q7;exact again I7 n7
  | brk=>obtain ⟨σ7,H7,I7,q7⟩:=q7;exact ⟨σ7,H7,I7.unpinned,q7⟩
  | ret v=>obtain ⟨x7,σ7,H7,I7,r7,q7⟩:=q7;exact ⟨x7,σ7,H7,I7.unpinned,r7,q7⟩
end
end L2
namespace L2
open PySem PySem.Spec PyProof.Rows
abbrev R2:=V->V->Hp->VK->Prop
noncomputable def OpR (X:Cx)(f:Value->Value->Sem Value)(r:R2):Prop :=
 ∀ (pins:List (Addr × Obj)) (s:Shared) (σ:St) (H:Hp) (x y:V) (v u:Value) (Q:VK),Inv X pins σ H s->RelV x v->RelV y u->r x y H Q ->
  wpAny (model X.prog X.w) X.A (f v u) (EP X pins σ Q) X.xe s
noncomputable def UnR (X:Cx)(f:Value->Sem Value)(r:V->Hp->VK->Prop):Prop :=
 ∀ (pins:List (Addr × Obj)) (s:Shared) (σ:St) (H:Hp) (x:V) (v:Value) (Q:VK),Inv X pins σ H s->RelV x v->r x H Q ->
  wpAny (model X.prog X.w) X.A (f v) (EP X pins σ Q) X.xe s
noncomputable def CallR (X:Cx)(f:Value)(r:List V->Hp->VK->Prop):Prop :=
 ∀ (pins:List (Addr × Obj)) (s:Shared) (σ:St) (H:Hp) (xs:List V) (us:List Value) (Q:VK),Inv X pins σ H s->Vals xs us->r xs H Q ->
  wpAny (model X.prog X.w) X.A (call f us) (EP X pins σ Q) X.xe s
noncomputable def TruR (X:Cx)(r:V->Hp->(Bool->Hp->Prop)->Prop):Prop :=
 ∀ (pins:List (Addr × Obj)) (s:Shared) (σ:St) (H:Hp) (x:V) (v:Value) (Q:Bool->Hp->Prop),Inv X pins σ H s->RelV x v->r x H Q ->
  wpAny (model X.prog X.w) X.A (truthy v) (TP X pins σ Q) X.xe s
noncomputable def tOp (r:R2)(ta tb:TE):TE:=fun σ H Q=>ta σ H fun x H1=>tb σ H1 fun y H2=>r x y H2 Q
noncomputable def tUn (r:V->Hp->VK->Prop)(ta:TE):TE:=fun σ H Q=>ta σ H fun x H1=>r x H1 Q
noncomputable def rI (C:Int->Int->Prop)(g:Int->Int->V):R2:=fun x y H Q=>∃ i j,x = .int i/\y = .int j/\C i j/\Q (g i j) H
noncomputable def rI0 (g:Int->Int->V):R2:=fun x y H Q=>∃ i j,x = .int i/\y = .int j/\Q (g i j) H
noncomputable def rU (g:Int->V):V->Hp->VK->Prop:=fun x H Q=>∃ i,x = .int i/\Q (g i) H
section
variable {X:Cx}{a b c:Expr}{ta tb tc:TE}{pos:Pos}
theorem binT (ha:PE X a ta)(hb:PE X b tb){pins:List (Addr × Obj)}{s:Shared}{σ:St}{H:Hp}{R:V->V->Hp->Prop}(I:Inv X pins σ H s)
  (h:ta σ H fun x H1=>tb σ H1 fun y H2=>R x y H2) {Q:Value->Shared->Prop} {f:Value->Value->Sem Value}
  (hf:∀ v u s2 x y H2,Inv X pins σ H2 s2->RelV x v->RelV y u->R x y H2->wpAny (model X.prog X.w) X.A (f v u) Q X.xe s2) :
  wpAny (model X.prog X.w) X.A (eval a X.env) (fun v s₁=>wpAny (model X.prog X.w) X.A (eval b X.env) (fun u s₂=>wpAny (model X.prog X.w) X.A (f v u) Q X.xe s₂) X.xe s₁) X.xe s:=by
 refine thn (ha pins s σ H _ I h) fun v s1 ⟨x,H1,I1,r1,q1⟩=>?_
 refine thn (hb pins s1 σ H1 _ I1 q1) fun u s2 ⟨y,H2,I2,r2,q2⟩=>?_
 exact hf v u s2 x y H2 I2 r1 r2 q2
theorem pe_op {op:Operator}{r:R2}(ho:OpR X (binaryOp op) r)(ha:PE X a ta)(hb:PE X b tb):PE X (.BinOp a op b pos) (tOp r ta tb):=by
 intro pins s σ H Q I h
 exact wpAny_BinOp (binT ha hb I h fun v u s2 x y H2 I2 rx ry q=>ho pins s2 σ H2 x y v u Q I2 rx ry q)
theorem pe_un {op:UnaryOp}{r:V->Hp->VK->Prop}(ho:UnR X (unaryOp op) r)(ha:PE X a ta):PE X (.UnaryOp op a pos) (tUn r ta):=by
 intro pins s σ H Q I h
 exact UnaryOp_ (thn (ha pins s σ H _ I h) fun v s1 ⟨x,H1,I1,r1,q1⟩=>ho pins s1 σ H1 x v Q I1 r1 q1)
theorem opI {f:Value->Value->Sem Value}{C:Int->Int->Prop}{g:Int->Int->Int}
  (rule:∀ (i j:Int) (t u:Tok) (s:Shared) (Q:Value->Shared->Prop) (E:Value->Shared->Prop),C i j->Q (.int (g i j) s.toks) { s with toks:=s.toks + 1 }->wpAny (model X.prog X.w) X.A (f (.int i t) (.int j u)) Q E s) :
  OpR X f (rI C fun i j=>.int (g i j)):=by
 intro pins s σ H x y v u Q I rx ry h
 obtain ⟨i,j,rfl,rfl,hc,q⟩:=h
 obtain ⟨t,rfl⟩:=rx
 obtain ⟨t',rfl⟩:=ry
 exact rule i j t t' s _ _ hc ⟨.int (g i j),H,I.tok _,⟨_,rfl⟩,q⟩
theorem opI0 {f:Value->Value->Sem Value}{g:Int->Int->Int}
  (rule:∀ (i j:Int) (t u:Tok) (s:Shared) (Q:Value->Shared->Prop) (E:Value->Shared->Prop),Q (.int (g i j) s.toks) { s with toks:=s.toks + 1 }->wpAny (model X.prog X.w) X.A (f (.int i t) (.int j u)) Q E s) :
  OpR X f (rI0 fun i j=>.int (g i j)):=by
 intro pins s σ H x y v u Q I rx ry h
 obtain ⟨i,j,rfl,rfl,q⟩:=h
 obtain ⟨t,rfl⟩:=rx
 obtain ⟨t',rfl⟩:=ry
 exact rule i j t t' s _ _ ⟨.int (g i j),H,I.tok _,⟨_,rfl⟩,q⟩
theorem opB0 {f:Value->Value->Sem Value}{g:Int->Int->Bool}
  (rule:∀ (i j:Int) (t u:Tok) (s:Shared) (Q:Value->Shared->Prop) (E:Value->Shared->Prop),Q (.bool (g i j)) s->wpAny (model X.prog X.w) X.A (f (.int i t) (.int j u)) Q E s) :
  OpR X f (rI0 fun i j=>.bl (g i j)):=by
 intro pins s σ H x y v u Q I rx ry h
 obtain ⟨i,j,rfl,rfl,q⟩:=h
 obtain ⟨t,rfl⟩:=rx
 obtain ⟨t',rfl⟩:=ry
 exact rule i j t t' s _ _ ⟨.bl (g i j),H,I,rfl,q⟩
noncomputable def CPow (i j:Int):Prop:=0 <= j/\j <= 1000000/\i.natAbs < 2 ^ 64
theorem two_pow_nn (k:Nat):(0:Int) <= 2 ^ k:=by
 rw [two_pow_cast]
 exact Int.natCast_nonneg _
theorem op_add:OpR X (binaryOp .Add) (rI0 fun i j=>.int (i + j)):=opI0 fun _ _ _ _ _ _ _ q=>add_int q
theorem op_sub:OpR X (binaryOp .Sub) (rI0 fun i j=>.int (i - j)):=opI0 fun _ _ _ _ _ _ _ q=>sub_int q
theorem op_mod:OpR X (binaryOp .Mod) (rI (fun _ j=>0 < j) fun i j=>.int (i % j)):=opI fun i j _ _ _ _ _ hc q=>by
 have h1:(0:Int) < j:=hc
 exact mod_int' (by omega) (by rw [Int.fmod_eq_emod_of_nonneg i (by omega)];exact q)
theorem op_pow:OpR X (binaryOp .Pow) (rI CPow fun i j=>.int (i ^ j.toNat)):=opI fun _ _ _ _ _ _ _ hc q=>pow_int_small hc.1 hc.2.1 hc.2.2 q
theorem op_shl:OpR X (binaryOp .LShift) (rI CPow fun i j=>.int (i * 2 ^ j.toNat)):=opI fun _ _ _ _ _ _ _ hc q=>lshift_int_small hc.1 hc.2.1 hc.2.2 q
theorem op_shr:OpR X (binaryOp .RShift) (rI (fun _ j=>0 <= j) fun i j=>.int (i / 2 ^ j.toNat)):=opI fun i j _ _ _ _ _ hc q =>
 rshift_int hc (by rw [Int.fdiv_eq_ediv_of_nonneg i (two_pow_nn _)];exact q)
theorem op_and:OpR X (binaryOp .BitAnd) (rI0 fun i j=>.int (Builtin.bitAnd i j)):=opI0 fun _ _ _ _ _ _ _ q=>and_int q
theorem op_or:OpR X (binaryOp .BitOr) (rI0 fun i j=>.int (Builtin.bitOr i j)):=opI0 fun _ _ _ _ _ _ _ q=>or_int q
theorem op_xor:OpR X (binaryOp .BitXor) (rI0 fun i j=>.int (Builtin.bitXor i j)):=opI0 fun _ _ _ _ _ _ _ q=>xor_int q
theorem unI {f:Value->Sem Value}{g:Int->Int}
  (rule:∀ (i:Int) (t:Tok) (s:Shared) (Q:Value->Shared->Prop) (E:Value->Shared->Prop),Q (.int (g i) s.toks) { s with toks:=s.toks + 1 }->wpAny (model X.prog X.w) X.A (f (.int i t)) Q E s) :
  UnR X f (rU fun i=>.int (g i)):=by
 intro pins s σ H x v Q I rx h
 obtain ⟨i,rfl,q⟩:=h
 obtain ⟨t,rfl⟩:=rx
 exact rule i t s _ _ ⟨.int (g i),H,I.tok _,⟨_,rfl⟩,q⟩
theorem un_neg:UnR X (unaryOp .USub) (rU fun i=>.int (-i)):=unI fun _ _ _ _ _ q=>neg_int q
end
noncomputable def scal:V->V->Bool
 | .non,.non=>true | .non,.int _=>true | .int _,.non=>true | .non,.bl _=>true | .bl _,.non=>true | .non,.str _=>true | .str _,.non=>true
 | .int _,.int _=>true | .bl _,.bl _=>true | .str _,.str _=>true | .byt _,.byt _=>true
 | .int _,.str _=>true | .str _,.int _=>true | .bl _,.str _=>true | .str _,.bl _=>true
 | _,_=>false
noncomputable def rEq:R2:=fun x y H Q=>scal x y = true/\Q (.bl (decide (x = y))) H
noncomputable def rNe:R2:=fun x y H Q=>scal x y = true/\Q (.bl (!decide (x = y))) H
theorem dec_int {i j:Int}:decide (V.int i = V.int j) = (i == j):=by
 rw [Bool.eq_iff_iff]
 simp
theorem dec_bl {i j:Bool}:decide (V.bl i = V.bl j) = (i == j):=by
 rw [Bool.eq_iff_iff]
 simp
theorem dec_str {i j:Str}:decide (V.str i = V.str j) = (i == j):=by
 rw [Bool.eq_iff_iff]
 simp
theorem dec_byt {i j:Array UInt8}:decide (V.byt i = V.byt j) = (i.toList == j.toList):=by
 rw [Bool.eq_iff_iff]
 cases i
 cases j
 simp
section
variable {X:Cx}{a b c:Expr}{ta tb tc:TE}{pos:Pos}
theorem fin_bl {pins:List (Addr × Obj)}{σ:St}{H:Hp}{s:Shared}{Q:VK}{k k':Bool}(I:Inv X pins σ H s)(q:Q (.bl k) H)(e:k = k'):EP X pins σ Q (.bool k') s:=by
 subst e
 exact ⟨.bl k,H,I,rfl,q⟩
theorem op_eq:OpR X (compareOp .Eq) rEq:=by
 intro pins s σ H x y v u Q I rx ry h
 obtain ⟨hs,q⟩:=h
 cases x with
 | non =>
  cases rx
  cases y with
  | non=>cases ry;exact PySem.EqNone.eq_none_none (fin_bl I q (by simp))
  | bl j=>cases ry;exact PySem.EqNone.eq_none_bool (fin_bl I q (by simp))
  | int j=>obtain ⟨t',rfl⟩:=ry;exact PySem.EqNone.eq_none_int (fin_bl I q (by simp))
  | str j=>obtain ⟨t',rfl⟩:=ry;exact PySem.EqNone.eq_none_str (fin_bl I q (by simp))
  | _=>exact absurd (show false = true from hs) Bool.false_ne_true
 | bl i =>
  cases rx
  cases y with
  | non=>cases ry;exact PySem.EqNone.eq_bool_none (fin_bl I q (by simp))
  | bl j=>cases ry;exact eq_bool (fin_bl I q dec_bl)
  | str j=>obtain ⟨t',rfl⟩:=ry;exact PySem.EqMixed.eq_bool_str (fin_bl I q (by simp))
  | _=>exact absurd (show false = true from hs) Bool.false_ne_true
 | int i =>
  obtain ⟨t,rfl⟩:=rx
  cases y with
  | non=>cases ry;exact PySem.EqNone.eq_int_none (fin_bl I q (by simp))
  | int j=>obtain ⟨t',rfl⟩:=ry;exact eq_int (fin_bl I q dec_int)
  | str j=>obtain ⟨t',rfl⟩:=ry;exact PySem.EqMixed.eq_int_str (fin_bl I q (by simp))
  | _=>exact absurd (show false = true from hs) Bool.false_ne_true
 | str i =>
  obtain ⟨t,rfl⟩:=rx
  cases y with
  | non=>cases ry;exact PySem.EqNone.eq_str_none (fin_bl I q (by simp))
  | bl j=>cases ry;exact PySem.EqMixed.eq_str_bool (fin_bl I q (by simp))
  | int j=>obtain ⟨t',rfl⟩:=ry;exact PySem.EqMixed.eq_str_int (fin_bl I q (by simp))
  | str j=>obtain ⟨t',rfl⟩:=ry;exact eq_str (fin_bl I q dec_str)
  | _=>exact absurd (show false = true from hs) Bool.false_ne_true
 | byt i =>
  obtain ⟨t,rfl⟩:=rx
  cases y with
  | byt j=>obtain ⟨t',rfl⟩:=ry;exact PySem.W.eq_bytes (fin_bl I q dec_byt)
  | _=>exact absurd (show false = true from hs) Bool.false_ne_true
 | _=>cases y <;> exact absurd (show false = true from hs) Bool.false_ne_true
theorem op_ne:OpR X (compareOp .NotEq) rNe:=by
 intro pins s σ H x y v u Q I rx ry h
 obtain ⟨hs,q⟩:=h
 cases x with
 | non =>
  cases rx
  cases y with
  | non=>cases ry;exact PySem.EqNone.ne_none_none (fin_bl I q (by simp))
  | bl j=>cases ry;exact PySem.EqNone.ne_none_bool (fin_bl I q (by simp))
  | int j=>obtain ⟨t',rfl⟩:=ry;exact PySem.EqNone.ne_none_int (fin_bl I q (by simp))
  | str j=>obtain ⟨t',rfl⟩:=ry;exact PySem.EqNone.ne_none_str (fin_bl I q (by simp))
  | _=>exact absurd (show false = true from hs) Bool.false_ne_true
 | bl i =>
  cases rx
  cases y with
  | non=>cases ry;exact PySem.EqNone.ne_bool_none (fin_bl I q (by simp))
  | bl j=>cases ry;exact ne_bool (fin_bl I q (congrArg not dec_bl))
  | str j=>obtain ⟨t',rfl⟩:=ry;exact PySem.EqMixed.ne_bool_str (fin_bl I q (by simp))
  | _=>exact absurd (show false = true from hs) Bool.false_ne_true
 | int i =>
  obtain ⟨t,rfl⟩:=rx
  cases y with
  | non=>cases ry;exact PySem.EqNone.ne_int_none (fin_bl I q (by simp))
  | int j=>obtain ⟨t',rfl⟩:=ry;exact ne_int (fin_bl I q (congrArg not dec_int))
  | str j=>obtain ⟨t',rfl⟩:=ry;exact PySem.EqMixed.ne_int_str (fin_bl I q (by simp))
  | _=>exact absurd (show false = true from hs) Bool.false_ne_true
 | str i =>
  obtain ⟨t,rfl⟩:=rx
  cases y with
  | non=>cases ry;exact PySem.EqNone.ne_str_none (fin_bl I q (by simp))
  | bl j=>cases ry;exact PySem.EqMixed.ne_str_bool (fin_bl I q (by simp))
  | int j=>obtain ⟨t',rfl⟩:=ry;exact PySem.EqMixed.ne_str_int (fin_bl I q (by simp))
  | str j=>obtain ⟨t',rfl⟩:=ry;exact ne_str (fin_bl I q (congrArg not dec_str))
  | _=>exact absurd (show false = true from hs) Bool.false_ne_true
 | byt i =>
  obtain ⟨t,rfl⟩:=rx
  cases y with
  | byt j=>obtain ⟨t',rfl⟩:=ry;exact PySem.W.ne_bytes (fin_bl I q (congrArg not dec_byt))
  | _=>exact absurd (show false = true from hs) Bool.false_ne_true
 | _=>cases y <;> exact absurd (show false = true from hs) Bool.false_ne_true
theorem op_lt:OpR X (compareOp .Lt) (rI0 fun i j=>.bl (decide (i < j))):=opB0 fun _ _ _ _ _ _ _ q=>lt_int q
theorem op_le:OpR X (compareOp .LtE) (rI0 fun i j=>.bl (decide (i <= j))):=opB0 fun _ _ _ _ _ _ _ q=>le_int q
theorem op_gt:OpR X (compareOp .Gt) (rI0 fun i j=>.bl (decide (j < i))):=opB0 fun _ _ _ _ _ _ _ q=>gt_int q
theorem op_ge:OpR X (compareOp .GtE) (rI0 fun i j=>.bl (decide (j <= i))):=opB0 fun _ _ _ _ _ _ _ q=>ge_int q
theorem op_isN:OpR X (compareOp .Is) (fun x y H Q=>y = .non/\Q (.bl (decide (x = .non))) H):=by
 intro pins s σ H x y v u Q I rx ry h
 obtain ⟨rfl,q⟩:=h
 cases ry
 refine is_none_gen (fin_bl I q ?_)
 cases x <;> first
  | (cases rx;rfl)
  | (obtain ⟨t,rfl⟩:=rx;rfl)
theorem op_notN:OpR X (compareOp .IsNot) (fun x y H Q=>y = .non/\Q (.bl (!decide (x = .non))) H):=by
 intro pins s σ H x y v u Q I rx ry h
 obtain ⟨rfl,q⟩:=h
 cases ry
 refine isnot_none_gen (fin_bl I q ?_)
 cases x <;> first
  | (cases rx;rfl)
  | (obtain ⟨t,rfl⟩:=rx;rfl)
theorem OpR.or {f:Value->Value->Sem Value}{r r':R2}(h:OpR X f r)(h':OpR X f r'):OpR X f (fun x y H Q=>r x y H Q\/r' x y H Q):=by
 intro pins s σ H x y v u Q I rx ry q
 rcases q with q | q
 ·exact h pins s σ H x y v u Q I rx ry q
 ·exact h' pins s σ H x y v u Q I rx ry q
theorem pe_cmpR {op:CmpOp}{r:R2}(ho:OpR X (compareOp op) r)(ha:PE X a ta)(hb:PE X b tb)(hm:behindInMarks op b = false):PE X (.Compare a [op] [b] pos) (tOp r ta tb):=by
 intro pins s σ H Q I h
 exact wpAny_Compare1 (binT ha hb I h fun v u s2 x y H2 I2 rx ry q=>ho pins s2 σ H2 x y v u Q I2 rx ry q) hm
noncomputable def tTest (t:TE):TT:=fun σ H Q=>t σ H fun x H'=>∃ k,x = .bl k/\Q k H'
theorem pt_cmpR {op:CmpOp}{r:R2}(ho:OpR X (compareOp op) r)(ha:PE X a ta)(hb:PE X b tb)(hm:behindInMarks op b = false):PT X (.Compare a [op] [b] pos) (tTest (tOp r ta tb)):=by
 intro pins s σ H Q I h
 refine wpAny_isTrue_Compare1 (thn (ha pins s σ H _ I h) fun v s1 ⟨x,H1,I1,r1,q1⟩=>thn (hb pins s1 σ H1 _ I1 q1) fun u s2 ⟨y,H2,I2,r2,q2⟩ =>
  thn (ho pins s2 σ H2 x y v u _ I2 r1 r2 q2) fun c s3 ⟨z,H3,I3,r3,k,e,q3⟩=>?_) hm
 subst e
 cases r3
 exact wpAny_truthy_bool ⟨H3,I3,q3⟩
noncomputable def tChain (r r':R2)(ta tb tc:TE):TE:=fun σ H Q=>ta σ H fun x H1=>tb σ H1 fun y H2=>r x y H2 fun z H3=>∃ k,z = .bl k /\
 (if k = true then tc σ H3 fun w' H4=>r' y w' H4 Q else Q (.bl false) H3)
theorem pe_chain {op op':CmpOp}{r r':R2}(ho:OpR X (compareOp op) r)(ho':OpR X (compareOp op') r')(ha:PE X a ta)(hb:PE X b tb)(hc:PE X c tc)
  (hm:lastMarks [op,op'] [b,c] = false:=by with_unfolding_all rfl):PE X (.Compare a [op,op'] [b,c] pos) (tChain r r' ta tb tc):=by
 intro pins s σ H Q I h
 refine Compare_chain (thn (ha pins s σ H _ I h) fun v s1 ⟨x,H1,I1,r1,q1⟩=>chain_link (thn (hb pins s1 σ H1 _ I1 q1) fun u s2 ⟨y,H2,I2,r2,q2⟩ =>
  thn (ho pins s2 σ H2 x y v u _ I2 r1 r2 q2) fun d s3 ⟨z,H3,I3,r3,k,e,q3⟩=>?_)) hm
 subst e
 cases r3
 refine wpAny_truthy_bool ?_
 cases k with
 | false=>exact ite_ff ⟨.bl false,H3,I3,rfl,q3⟩
 | true=>exact ite_tt (chain_last (thn (hc pins s3 σ H3 _ I3 q3) fun w' s4 ⟨z',H4,I4,r4,q4⟩=>ho' pins s4 σ H4 y z' u w' Q I4 r2 r4 q4))
theorem pt_chain {op op':CmpOp}{r r':R2}(ho:OpR X (compareOp op) r)(ho':OpR X (compareOp op') r')(ha:PE X a ta)(hb:PE X b tb)(hc:PE X c tc)
  (hm:lastMarks [op,op'] [b,c] = false:=by with_unfolding_all rfl):PT X (.Compare a [op,op'] [b,c] pos) (tTest (tChain r r' ta tb tc)):=by
 intro pins s σ H Q I h
 refine isTrue_chain (thn (ha pins s σ H _ I h) fun v s1 ⟨x,H1,I1,r1,q1⟩=>test_link (thn (hb pins s1 σ H1 _ I1 q1) fun u s2 ⟨y,H2,I2,r2,q2⟩ =>
  thn (ho pins s2 σ H2 x y v u _ I2 r1 r2 q2) fun d s3 ⟨z,H3,I3,r3,k,e,q3⟩=>?_)) hm
 subst e
 cases r3
 refine wpAny_truthy_bool ?_
 cases k with
 | false =>
  obtain ⟨k',e',q'⟩:=q3
  cases e'
  exact ite_ff ⟨H3,I3,q'⟩
 | true =>
  refine ite_tt (test_last (thn (hc pins s3 σ H3 _ I3 q3) fun w' s4 ⟨z',H4,I4,r4,q4⟩=>thn (ho' pins s4 σ H4 y z' u w' _ I4 r2 r4 q4) fun d' s5 ⟨z2,H5,I5,r5,k2,e2,q5⟩=>?_))
  subst e2
  cases r5
  exact wpAny_truthy_bool ⟨H5,I5,q5⟩
noncomputable def TruV (K:PySem.W.Frag)(x:V)(H:Hp)(k:Bool):Prop :=
 match x with
 | .non=>k = false
 | .bl b=>k = b
 | .int i=>k = (i != 0)
 | .str y=>y.length <= sizeLine/\k = ((y.length:Int) != 0)
 | .byt y=>y.size <= sizeLine/\k = ((y.size:Int) != 0)
 | .ref p=>(∃ xs,SqL K H p xs/\k = !xs.isEmpty)\/(∃ xs,SqT K H p xs/\k = !xs.isEmpty)\/∃ kvs,H p = some (.dK kvs)/\k = !kvs.isEmpty
 | _=>False
theorem isEmpty_kv {κ:Type}{kvs:List (κ × V)}{vs:List (κ × Value)}(r:KV kvs vs):(!vs.isEmpty) = !kvs.isEmpty:=by
 cases r <;> rfl
theorem isEmpty_of {xs:List V}{its:List Value}(r:Vals xs its):(!its.toArray.isEmpty) = !xs.isEmpty:=by
 cases r <;> simp
theorem line63:(sizeLine:Nat) < 2 ^ 63:=by rw [sizeLine_eq];decide
theorem tru_ok:TruR X (fun x H Q=>∃ k,TruV X.K x H k/\Q k H):=by
 intro pins s σ H x v Q I rx h
 obtain ⟨k,e,q⟩:=h
 have hl:=line63
 have hs:sizeLine = 16777216:=sizeLine_eq
 cases x with
 | non =>
  cases rx
  have e':k = false:=e
  subst e'
  exact truthy_none ⟨H,I,q⟩
 | bl b =>
  cases rx
  have e':k = b:=e
  subst e'
  exact wpAny_truthy_bool ⟨H,I,q⟩
 | int i =>
  obtain ⟨t,rfl⟩:=rx
  have e':k = (i != 0):=e
  subst e'
  exact PySem.P.truthy_int ⟨H,I,q⟩
 | str y =>
  obtain ⟨t,rfl⟩:=rx
  obtain ⟨hy,e'⟩:y.length <= sizeLine/\k = ((y.length:Int) != 0):=e
  subst e'
  exact PySem.P.truthy_str (by omega) ⟨H,I.tok _,q⟩
 | byt y =>
  obtain ⟨t,rfl⟩:=rx
  obtain ⟨hy,e'⟩:y.size <= sizeLine/\k = ((y.size:Int) != 0):=e
  subst e'
  exact PySem.W.truthy_bytes (by omega) ⟨H,I.tok _,q⟩
 | ref p =>
  cases rx
  have e':(∃ xs,SqL X.K H p xs/\k = !xs.isEmpty)\/(∃ xs,SqT X.K H p xs/\k = !xs.isEmpty)\/∃ kvs,H p = some (.dK kvs)/\k = !kvs.isEmpty:=e
  rcases e' with ⟨xs,hx,e'⟩ | ⟨xs,hx,e'⟩ | ⟨kvs,hx,e'⟩
  ·subst e'
   obtain ⟨its,r,pl,hz⟩:=I.list hx
   have hlen:=r.length
   exact wpAny_truthy_list pl.isList (by simp only [List.size_toArray];omega) ⟨H,I.tok _,by rw [isEmpty_of r];exact q⟩
  ·subst e'
   obtain ⟨its,r,pl,hz⟩:=I.tuple hx
   have hlen:=r.length
   exact truthy_tuple pl (by simp only [List.size_toArray];omega) ⟨H,I.tok _,by rw [isEmpty_of r];exact q⟩
  ·subst e'
   obtain ⟨hz,hS,vs,r,m⟩:kvs.length <= sizeLine/\(p == sysModules) = false/\∃ vs,KV kvs vs/\s.heap.DictOf (mixKind X.prog X.w) p vs:=I.hok p _ hx
   have hlen:kvs.length = vs.length:=Paired.length r
   exact wpAny_truthy_dict hS m (by omega) ⟨H,I.tok _,by rw [isEmpty_kv r];exact q⟩
 | _=>exact (show False from e).elim
theorem pt_truth (ha:PE X a ta)(he:∀ whole,isTrue a X.env whole = (do let v <- whole;standAt a.pos;holding [v] (truthy v))) :
  PT X a (fun σ H Q=>ta σ H fun x H'=>∃ k,TruV X.K x H' k/\Q k H'):=by
 intro pins s σ H Q I h
 exact isTrue_plain (thn (ha pins s σ H _ I h) fun v s1 ⟨x,H1,I1,r1,q1⟩=>tru_ok pins s1 σ H1 x v Q I1 r1 q1) (he _)
theorem op_add_str:OpR X (binaryOp .Add) (fun x y H Q=>∃ i j,x = .str i/\y = .str j/\i.length + j.length <= sizeLine/\Q (.str (i ++ j)) H):=by
 intro pins s σ H x y v u Q I rx ry h
 obtain ⟨i,j,rfl,rfl,hz,q⟩:=h
 obtain ⟨t,rfl⟩:=rx
 obtain ⟨t',rfl⟩:=ry
 exact add_str (fun t' tk=>⟨.str (i ++ j),H,I.tok _,⟨_,rfl⟩,q⟩) hz
theorem vals1 {x:V}{us:List Value}(r:Vals [x] us):∃ u,us = [u]/\RelV x u:=by
 cases r with
 | cons r1 r2=>cases r2;exact ⟨_,rfl,r1⟩
theorem vals2 {x y:V}{us:List Value}(r:Vals [x,y] us):∃ u w',us = [u,w']/\RelV x u/\RelV y w':=by
 cases r with
 | cons r1 r2 =>
  cases r2 with
  | cons r3 r4=>cases r4;exact ⟨_,_,rfl,r1,r3⟩
theorem call_max2 (hc:X.calm = true):CallR X (.builtin "max") (fun xs H Q=>∃ i j,xs = [.int i,.int j]/\Q (.int (if j > i then j else i)) H):=by
 intro pins s σ H xs us Q I r h
 obtain ⟨i,j,rfl,q⟩:=h
 obtain ⟨u,w',rfl,⟨t,rfl⟩,⟨t',rfl⟩⟩:=vals2 r
 refine max_two_ints (I.ok.hd hc) fun h' tk k=>⟨_,H,I.kept k,?_,q⟩
 by_cases hj:j > i
 ·rw [if_pos hj,if_pos hj];exact ⟨_,rfl⟩
 ·rw [if_neg hj,if_neg hj];exact ⟨_,rfl⟩
theorem call_min2 (hc:X.calm = true):CallR X (.builtin "min") (fun xs H Q=>∃ i j,xs = [.int i,.int j]/\Q (.int (if j < i then j else i)) H):=by
 intro pins s σ H xs us Q I r h
 obtain ⟨i,j,rfl,q⟩:=h
 obtain ⟨u,w',rfl,⟨t,rfl⟩,⟨t',rfl⟩⟩:=vals2 r
 refine min_two_ints (I.ok.hd hc) fun h' tk k=>⟨_,H,I.kept k,?_,q⟩
 by_cases hj:j < i
 ·rw [if_pos hj,if_pos hj];exact ⟨_,rfl⟩
 ·rw [if_neg hj,if_neg hj];exact ⟨_,rfl⟩
theorem call_int1:CallR X (.type "int") (fun xs H Q=>(∃ i,xs = [.int i]/\Q (.int i) H)\/∃ k,xs = [.bl k]/\Q (.int (if k then 1 else 0)) H):=by
 intro pins s σ H xs us Q I r h
 rcases h with ⟨i,rfl,q⟩ | ⟨k,rfl,q⟩
 ·obtain ⟨u,rfl,t,rfl⟩:=vals1 r
  exact call_int_int ⟨.int i,H,I,⟨_,rfl⟩,q⟩
 ·obtain ⟨u,rfl,r1⟩:=vals1 r
  cases r1
  exact call_int_bool ⟨.int (if k then 1 else 0),H,I.tok _,⟨_,rfl⟩,q⟩
theorem call_str_int:CallR X (.type "str") (fun xs H Q=>∃ i,xs = [.int i]/\i.natAbs.log2 < 1920/\Q (.str (toString i)) H):=by
 intro pins s σ H xs us Q I r h
 obtain ⟨i,rfl,hz,q⟩:=h
 obtain ⟨u,rfl,t,rfl⟩:=vals1 r
 exact PySem.P.str_of_int hz ⟨.str _,H,I.tok _,⟨_,rfl⟩,q⟩
end
end L2
namespace L2
open PySem PySem.Spec PyProof.Rows
section
variable {prog:Program}{w:World}{A:Around}{E:Value->Shared->Prop}{s:Shared}{K:PySem.W.Frag}{x dx C f:Addr}{mA:Str->Option Value}{name:Str}{v:Value}
end
theorem RelO.some_of {v:V}{o:Option Value}(r:RelO (some v) o):∃ u,o = some u/\RelV v u:=by
 cases o with
 | none=>exact (show False from r).elim
 | some u=>exact ⟨u,rfl,r⟩
theorem RelO.none_of {o:Option Value}(r:RelO none o):o = none:=by
 cases o with
 | none=>rfl
 | some u=>exact (show False from r).elim
section
variable {P:Program}{w:World}{H H':Hp}{h h':Heap}{a C dx:Addr}{fs fs':List (Str × V)}
end
section
variable {X:Cx}{pins:List (Addr × Obj)}{σ:St}{H:Hp}{s:Shared}{a C dx:Addr}{fs:List (Str × V)}{f:Str}{v:V}{A:Around}{E:Value->Shared->Prop}
end
section
variable {X:Cx}{o e value:Expr}{f:Str}{pos pos' tpos:Pos}{ta tv:TE}
end
section
variable {X:Cx}{pins:List (Addr × Obj)}{σ:St}{H:Hp}{s:Shared}{A:Around}{E:Value->Shared->Prop}{Q:Value->Shared->Prop}{c:Value}{b:Bool}
end
end L2
namespace L2
open PySem PySem.Spec PyProof.Rows
structure Room (k:Nat)(A:Around):Prop where
 hd:A.handled = none
 dp:A.depth + 3 * k + 5 < recursionLimit
 un:A.units + 16 * k + 200 < cLine
theorem Room.mono {j k:Nat}{A:Around}(r:Room k A)(h:j <= k):Room j A:=⟨r.hd,by have:=r.dp;omega,by have:=r.un;omega⟩
theorem Room.deeper {k:Nat}{A:Around}(r:Room (k + 1) A)(env:Env):Room k (A.deeper env) :=
 ⟨r.hd,by have:=r.dp;show A.depth + 1 + 3 * k + 5 < _;omega,by have:=r.un;show A.units + 3 + 16 * k + 200 < _;omega⟩
theorem Room.depth {k:Nat}{A:Around}(r:Room k A):A.depth < recursionLimit:=by have:=r.dp;omega
theorem Room.units {k:Nat}{A:Around}(r:Room k A):A.units + 64 < cLine:=by have:=r.un;omega
noncomputable def tNil:TA:=fun _ H Q=>Q [] H
noncomputable def tCons (ta:TE)(tr:TA):TA:=fun σ H Q=>ta σ H fun x H1=>tr σ H1 fun xs H2=>Q (x :: xs) H2
section
variable {X:Cx}{e:Expr}{es:List Expr}{te:TE}{t:TA}{pos:Pos}
theorem pa_nil:PA X [] tNil:=fun _ _ _ _ H Q I h=>Calls.spliced_nil ⟨[],H,I,.nil,h⟩
theorem pa_cons (ha:PE X e te)(hr:PA X es t)(hs:starEach (e :: es) X.env = (false,eval e X.env) :: starEach es X.env:=by rfl):PA X (e :: es) (tCons te t):=by
 intro pos pins s σ H Q I h
 rw [hs]
 show wpAny _ _ (spliced ((false,eval e X.env) :: backTo pos (starEach es X.env))) _ _ s
 refine Calls.spliced_cons (thn (ha pins s σ H _ I h) fun u s1 ⟨x,H1,I1,r1,q1⟩=>?_)
 exact thn (hr pos pins s1 σ H1 _ I1 q1) fun us s2 ⟨xs,H2,I2,r2,q2⟩=>⟨x :: xs,H2,I2,.cons r1 r2,q2⟩
noncomputable def tTup (t:TA):TE:=fun σ H Q=>t σ H fun xs H1=>xs.length <= sizeLine/\∀ p,H1 p = none->Q (.ref p) (upd H1 p (.tup xs))
noncomputable def tLst (t:TA):TE:=fun σ H Q=>t σ H fun xs H1=>xs.length <= sizeLine/\∀ p,H1 p = none->Q (.ref p) (upd H1 p (.lst xs))
theorem pe_tup {x1}(h:PA X es t):PE X (.Tuple es x1 pos) (tTup t):=by
 intro pins s σ H Q I hq
 refine wpAny_Tuple_spliced (thn (h pos pins s σ H _ I hq) fun us s1 ⟨xs,H1,I1,r,z,q⟩=>⟨by rw [<- r.length];exact z,?_⟩)
 have hf:H1 s1.heap.objs.size = none:=I1.hok.fresh (Nat.le_refl _)
 refine ⟨.ref s1.heap.objs.size,upd H1 s1.heap.objs.size (.tup xs),I1.laid (t':=s1.toks) (fun b u e=>Heap.get?_push_of_some _ e) (Nat.le_refl _) ?_,rfl,q _ hf⟩
 exact ⟨z,us,r,⟨_,Heap.get?_push_size _ rfl,rfl,_,rfl⟩⟩
theorem pe_lst (h:PA X es t):PE X (.List es pos) (tLst t):=by
 intro pins s σ H Q I hq
 refine wpAny_List_spliced (thn (h pos pins s σ H _ I hq) fun us s1 ⟨xs,H1,I1,r,z,q⟩=>⟨by rw [<- r.length];exact z,?_⟩)
 have hf:H1 s1.heap.objs.size = none:=I1.hok.fresh (Nat.le_refl _)
 refine ⟨.ref s1.heap.objs.size,upd H1 s1.heap.objs.size (.lst xs),I1.laid (t':=s1.toks) (fun b u e=>Heap.get?_push_of_some _ e) (Nat.le_refl _) ?_,rfl,q _ hf⟩
 exact ⟨z,us,0,r,Heap.get?_push_size _ rfl⟩
end
abbrev Sp:=List V->Hp->VK->XK->Prop
abbrev CXT:=List Env->Hp->Shared->XK->Value->Shared->Prop
structure Env0 (P:Program)(w:World)(K:PySem.W.Frag)(mg:Str->Option Value)(base:Heap)(A:Around)(outer:List Env)(s:Shared)(H:Hp):Prop where
 frames:A.frames = some outer
 mod:Mod K mg base
 bs:∀ b o,base.get? b = some o->s.heap.get? b = some o/\H b = none
 bsz:base.objs.size <= s.heap.objs.size
 funs:s.heap.FunFrames base outer
 frf:∀ b ∈ frs outer,H b = none
 hok:HOk P w H s.heap
 bare:AllBare s.gens
noncomputable def CE (outer:List Env)(P:Program)(w:World)(H:Hp)(s:Shared)(Q:VK)(u:Value)(s':Shared):Prop :=
 ∃ v H',s'.os = s.os/\AllBare s'.gens/\Un (frs outer) [] H H' s.heap s'.heap/\HOk P w H' s'.heap/\RelV v u/\Q v H'
noncomputable def CR (CX:CXT)(outer:List Env)(P:Program)(w:World)(H:Hp)(s:Shared)(Q:VK)(E:XK)(r:Result)(s':Shared):Prop :=
 match r with
 | .ok (.ret u)=>CE outer P w H s Q u s'
 | .ok _=>False
 | .error e=>CX outer H s E e s'
structure FnOk (P:Program)(w:World)(K:PySem.W.Frag)(mg:Str->Option Value)(base:Heap)(CX:CXT)(k:Nat)(f:Addr)(fd:FuncData)(ps:List Str)(sp:Sp):Prop where
 len:∀ vs H Q E,sp vs H Q E->vs.length = ps.length
 run:∀ (A:Around) (outer:List Env) (s:Shared) (H:Hp) (args:Args) (us:List Value) (vs:List V) (Q:VK) (E:XK),Room k A->Env0 P w K mg base A outer s H->BindsTo s fd args (ps.zip us)->Vals vs us->sp vs H Q E ->
  codeAny (model P w) A (.call (.ref f) args) (CR CX outer P w H s Q E) s
theorem FnOk.imp {P:Program}{w:World}{K:PySem.W.Frag}{mg:Str->Option Value}{base:Heap}{CX:CXT}{k:Nat}{f:Addr}{fd:FuncData}{ps:List Str}{sp sp':Sp}(F:FnOk P w K mg base CX k f fd ps sp)
  (h:∀ vs H Q E,sp' vs H Q E->sp vs H Q E):FnOk P w K mg base CX k f fd ps sp' :=
 ⟨fun vs H Q E q=>F.len vs H Q E (h _ _ _ _ q),fun A outer s H args us vs Q E hr he hb hv hs=>F.run A outer s H args us vs Q E hr he hb hv (h _ _ _ _ hs)⟩
section
variable {X:Cx}{pins:List (Addr × Obj)}{σ:St}{H:Hp}{s s':Shared}
theorem Inv.env0 (I:Inv X pins σ H s):Env0 X.prog X.w X.K X.mg X.base X.A X.stack s H :=
 ⟨I.ok.frames,I.ok.mod,I.bs,Nat.le_trans I.ok.bsz I.sz,I.stack,I.stkFree,I.hok,I.bare⟩
theorem Inv.after {Q:VK}{u:Value}(I:Inv X pins σ H s)(h:CE X.stack X.prog X.w H s Q u s'):EP X pins σ Q u s':=by
 obtain ⟨v,H',os,bare,un,hok,r,q⟩:=h
 obtain ⟨hh,g,d,t,os'⟩:=s'
 obtain rfl:os' = s.os:=os
 exact ⟨v,H',I.call (h':=hh) (g':=g) (d':=d) (t':=t) (ch:=[]) un hok bare (fun b z=>absurd z (by simp)),r,q⟩
end
noncomputable def tCall (sp:Sp)(dvs:List V)(E:XK)(t:TA):TE:=fun σ H Q=>t σ H fun vs H1=>sp (vs ++ dvs) H1 Q E
noncomputable def Binds (K:PySem.W.Frag)(fd:FuncData)(ps:List Str)(ds:List Value):Prop :=
 ∀ (s:Shared) (us:List Value),K.In s.heap->(us ++ ds).length = ps.length->BindsTo s fd ⟨us,[]⟩ (ps.zip (us ++ ds))
theorem Binds.all {K:PySem.W.Frag}{fd:FuncData}{ps:List Str}(h:∀ us:List Value,us.length = ps.length->bindArgs fd ⟨us,[]⟩ = pure (ps.zip us)):Binds K fd ps []:=fun s us _ hl=>by
 rw [List.append_nil] at hl ⊢
 exact .of_eq (h us hl)
noncomputable def Passes (CX:CXT)(X:Cx)(E:XK):Prop:=∀ (pins:List (Addr × Obj)) (σ:St) (H:Hp) (s:Shared) (e:Value) (s':Shared),Inv X pins σ H s->CX X.stack H s E e s'->X.xe e s'
section
variable {X:Cx}{CX:CXT}{k:Nat}{f C:Addr}{fd:FuncData}{ps:List Str}{sp:Sp}{dvs:List V}{ds:List Value}{E:XK}{x m:Str}{p pos apos:Pos}{e o:Expr}{es:List Expr}{ta:TE}{t:TA}
theorem run_fn {pins:List (Addr × Obj)}{σ:St}{H:Hp}{s:Shared}{Q:VK}{us:List Value}{vs:List V}(F:FnOk X.prog X.w X.K X.mg X.base CX k f fd ps sp)(hr:Room k X.A)(hb:Binds X.K fd ps ds)(hd:Vals dvs ds)(hx:Passes CX X E)
  (I:Inv X pins σ H s) (r:Vals vs us) (h:sp (vs ++ dvs) H Q E):wpAny (model X.prog X.w) X.A (call (.ref f) us) (EP X pins σ Q) X.xe s:=by
 have r2:Vals (vs ++ dvs) (us ++ ds):=r.append hd
 have hl:(us ++ ds).length = ps.length:=by rw [<- r2.length];exact F.len _ _ _ _ h
 refine wpAny_call (codeAny_mono (F.run X.A X.stack s H ⟨us,[]⟩ (us ++ ds) (vs ++ dvs) Q E hr I.env0 (hb s us I.kIn hl) r2 h) fun r s' hq=>?_)
 cases r with
 | error e=>exact hx pins σ H s e s' I hq
 | ok fl =>
  cases fl with
  | ret u=>exact I.after hq
  | next=>exact False.elim hq
  | brk=>exact False.elim hq
  | cont=>exact False.elim hq
theorem pe_call (F:FnOk X.prog X.w X.K X.mg X.base CX k f fd ps sp)(hr:Room k X.A)(hg:Gl X x)(hm:X.mg x = some (.ref f))(hk:PySem.W.keepIn X.K (.ref f) = true)(hb:Binds X.K fd ps ds)(hd:Vals dvs ds)(hx:Passes CX X E)
  (ha:PA X (e :: es) t) (hdb:(x == ("__debug__":Str)) = false:=by decide) (he:starEach (e :: es) X.env = (false,eval e X.env) :: starEach es X.env:=by rfl) (hpl:(backTo pos (starEach es X.env)).any (·.1) = false:=by rfl) :
  PE X (.Call (.Name x p) (e :: es) [] pos) (tCall sp dvs E t):=by
 intro pins s σ H Q I h
 refine wpAny_Call_Name_kw (ld_glob I hg hm ?_ hdb)
 refine PySem.W.callWith_K (h₀:=X.base) I.ok.mod.kin hk (thn (ha pos pins s σ H _ I h) fun us s1 ⟨vs,H1,I1,r,q⟩=>⟨I1.kIn,?_⟩) he hpl
 exact run_fn F hr hb hd hx I1 r q
theorem pe_call0 (F:FnOk X.prog X.w X.K X.mg X.base CX k f fd ps sp)(hr:Room k X.A)(hg:Gl X x)(hm:X.mg x = some (.ref f))(hk:PySem.W.keepIn X.K (.ref f) = true)(hb:Binds X.K fd ps ds)(hd:Vals dvs ds)(hx:Passes CX X E)
  (hdb:(x == ("__debug__":Str)) = false:=by decide):PE X (.Call (.Name x p) [] [] pos) (tCall sp dvs E tNil):=by
 intro pins s σ H Q I h
 refine wpAny_Call_Name_kw (ld_glob I hg hm ?_ hdb)
 exact PySem.W.callWith_K0 I.kIn hk (run_fn (us:=[]) F hr hb hd hx I .nil h)
end
noncomputable def PK (X:Cx)(kws:List Keyword)(t:TA):Prop :=
 ∀ (pos:Pos) (pins:List (Addr × Obj)) (s:Shared) (σ:St) (H:Hp) (Q:List V->Hp->Prop),Inv X pins σ H s->t σ H Q->wpAny (model X.prog X.w) X.A (evalAll ((backToKw pos (keywordEach kws X.env)).map (·.2))) (AP X pins σ Q) X.xe s
section
variable {X:Cx}{CX:CXT}{k:Nat}{f C:Addr}{fd:FuncData}{ps ks:List Str}{sp:Sp}{E:XK}{x m:Str}{p pos apos kpos:Pos}{e o:Expr}{es:List Expr}{kws:List Keyword}{te ta:TE}{t tk:TA}{nm:Option Str}
theorem pk_nil:PK X [] tNil:=fun _ _ _ _ H Q I h=>wpAny_evalAll_nil ⟨[],H,I,.nil,h⟩
theorem pk_cons (ha:PE X e te)(hr:PK X kws t):PK X (⟨nm,e,kpos⟩ :: kws) (tCons te t):=by
 intro pos pins s σ H Q I h
 show wpAny _ _ (evalAll ((do let v <- eval e X.env;standAt pos;pure v) :: (backToKw pos (keywordEach kws X.env)).map (·.2))) _ _ s
 refine wpAny_evalAll_cons (wpAny_bind (thn (ha pins s σ H _ I h) fun u s1 ⟨x,H1,I1,r1,q1⟩=>wpAny_bind (wpAny_standAt (wpAny_pure ?_))))
 exact thn (hr pos pins s1 σ H1 _ I1 q1) fun us s2 ⟨xs,H2,I2,r2,q2⟩=>⟨x :: xs,H2,I2,.cons r1 r2,q2⟩
variable {g:List Value->List Value->List Value}{gV:List V->List V->List V}
end
structure FnScope (N P:List Str)(sc:Scope):Prop where
 kind:sc.kind = .function
 co:sc.isCoroutine = false
 gen:sc.isGenerator = false
 nd:N.Nodup
 pre:N.take P.length = P
 par:∀ x ∈ P,sc.names.lookup x = some .local\/sc.names.lookup x = some .cell
 nofree:∀ y ∈ sc.names,y.2 ≠ .free
theorem bindL_out {kindOf:Str->Option NameKind}{x:Str}:∀ {binds:List (Str × Value)} {m:Str->Option Value},(∀ v,(x,v) ∉ binds)->bindL kindOf binds m x = m x
 | [],_,_=>rfl
 | (n,v) :: r,m,h=>by
  unfold bindL
  rw [bindL_out fun w hw=>h w (List.mem_cons_of_mem _ hw)]
  split
  ·have:x ≠ n:=by rintro rfl;exact h v List.mem_cons_self
   simp [this]
  ·rfl
theorem bindC_out {kindOf:Str->Option NameKind}{x:Str}:∀ {binds:List (Str × Value)} {m:Str->Option Value},(∀ v,(x,v) ∉ binds)->bindC kindOf binds m x = m x
 | [],_,_=>rfl
 | (n,v) :: r,m,h=>by
  unfold bindC
  rw [bindC_out fun w hw=>h w (List.mem_cons_of_mem _ hw)]
  split
  ·rfl
  ·have:x ≠ n:=by rintro rfl;exact h v List.mem_cons_self
   simp [this]
theorem bindL_get {kindOf:Str->Option NameKind}{x:Str}{v:Value}:∀ {P:List Str} {vs:List Value} {i:Nat} {m:Str->Option Value},P.Nodup->P[i]? = some x->vs[i]? = some v->kindOf x = some .local ->
  bindL kindOf (P.zip vs) m x = some v
 | [],_,_,_,_,h,_,_=>by simp at h
 | _ :: _,[],_,_,_,_,h,_=>by simp at h
 | p :: P,w :: vs,0,m,nd,h1,h2,hk=>by
  simp at h1 h2;subst h1;subst h2
  show bindL kindOf ((p,w) :: P.zip vs) m p = _
  unfold bindL
  rw [bindL_out fun v hv=>(List.nodup_cons.mp nd).1 (List.of_mem_zip hv).1,if_pos hk]
  simp
 | p :: P,w :: vs,i + 1,m,nd,h1,h2,hk=>by
  show bindL kindOf ((p,w) :: P.zip vs) m x = _
  unfold bindL
  exact bindL_get (i:=i) (List.nodup_cons.mp nd).2 (by simpa using h1) (by simpa using h2) hk
theorem bindC_get {kindOf:Str->Option NameKind}{x:Str}{v:Value}:∀ {P:List Str} {vs:List Value} {i:Nat} {m:Str->Option Value},P.Nodup->P[i]? = some x->vs[i]? = some v->kindOf x ≠ some .local ->
  bindC kindOf (P.zip vs) m x = some v
 | [],_,_,_,_,h,_,_=>by simp at h
 | _ :: _,[],_,_,_,_,h,_=>by simp at h
 | p :: P,w :: vs,0,m,nd,h1,h2,hk=>by
  simp at h1 h2;subst h1;subst h2
  show bindC kindOf ((p,w) :: P.zip vs) m p = _
  unfold bindC
  rw [bindC_out fun v hv=>(List.nodup_cons.mp nd).1 (List.of_mem_zip hv).1,if_neg hk]
  simp
 | p :: P,w :: vs,i + 1,m,nd,h1,h2,hk=>by
  show bindC kindOf ((p,w) :: P.zip vs) m x = _
  unfold bindC
  exact bindC_get (i:=i) (List.nodup_cons.mp nd).2 (by simpa using h1) (by simpa using h2) hk
noncomputable def start (N:List Str)(vs:List V):St:=vs.map some ++ List.replicate (N.length - vs.length) none
noncomputable def cxOf (CX:CXT)(P:Program)(w:World)(K:PySem.W.Frag)(mg:Str->Option Value)(base:Heap)(N:List Str)(qual:Str)(scope:Scope)(f:Addr)(cd:Value)(A:Around)(outer:List Env)(s:Shared)(H:Hp)(E:XK):Cx where
 prog:=P
 w:=w
 K:=K
 mg:=mg
 base:=base
 A:=A.deeper (envOfC qual scope s.heap.objs.size f cd)
 N:=N
 s₀:=s
 H₀:=H
 env:=envOfC qual scope s.heap.objs.size f cd
 outer:=outer
 stack:=envOfC qual scope s.heap.objs.size f cd :: outer
 ex:=[]
 calm:=true
 fn:=fun _=>true
 pn:=[]
 xe:=fun e s'=>wpAny (model P w) (A.deeper (envOfC qual scope s.heap.objs.size f cd)) (leaving (envOfC qual scope s.heap.objs.size f cd) e) (fun _ s''=>CX outer H s E e s'') (fun e' s''=>CX outer H s E e' s'') s'
theorem cell_has {sc:Scope}{n:Nat}{x:Str}(h:sc.names.lookup x = some .cell):∃ c,(cellsFrom n sc.names []).lookup x = some c:=by
 have q:=PySem.W.cellsFrom_some sc.names n [] (.inl h)
 exact Option.isSome_iff_exists.mp q
theorem inv_start {CX:CXT}{P:Program}{w:World}{K:PySem.W.Frag}{mg:Str->Option Value}{base:Heap}{N ps:List Str}{qual:Str}{scope:Scope}{f:Addr}{cd:Value}{A:Around}{outer:List Env}{s s1:Shared}{H:Hp}{E:XK}{us:List Value}{vs:List V}
  (S:FnScope N ps scope) (hd:A.handled = none) (e0:Env0 P w K mg base A outer s H) (hl:vs.length = ps.length) (r:Vals vs us)
  (x:InCallC s s.heap.objs.size (bindL (envOfC qual scope s.heap.objs.size f cd).kindOf (ps.zip us) fun _=>none) (cellsFrom (s.heap.objs.size + 1) scope.names []) (bindC (envOfC qual scope s.heap.objs.size f cd).kindOf (ps.zip us) fun _=>none) s1) :
  Inv (cxOf CX P w K mg base N qual scope f cd A outer s H E) [] (start N vs) H s1:=by
 have hpl:ps.length <= N.length:=by have:=congrArg List.length S.pre;rw [List.length_take] at this;omega
 obtain ⟨h1,tk,rfl,hk⟩:=x.done
 have noA:∀ b:Addr,b ∉ (cxOf CX P w K mg base N qual scope f cd A outer s H E).ex:=fun b z=>absurd (show b ∈ ([]:List Addr) from z) (by simp)
 refine ⟨⟨e0.mod,S.kind,rfl,rfl,Nat.le_refl _,fun y z c h1 h2=>?_,fun y hy=>?_,fun y c _ h=>?_,fun _=>hd,Around.frames_deeper e0.frames,.inr ⟨rfl,rfl⟩,fun b z=>absurd z (noA b),e0.bs,e0.bsz,fun b _ _=>noA b,fun b z=>absurd z (noA b),e0.funs,e0.frf⟩,
  rfl,e0.bare,Un.kept hk,⟨_,x.toInCall.ns,fun i y v h1 h2 h3=>?_⟩,fun y c h=>⟨_,x.cell y c h⟩,e0.hok.fresh (Nat.le_refl _),fun y c h=>?_,fun p hp=>absurd (show p ∈ ([]:List (Addr × Obj)) from hp) (by simp),e0.hok.kept hk,?_⟩
 ·exact name_of_addr x.apart (PySem.mem_of_lookup h1) (PySem.mem_of_lookup h2)
 ·have hy:scope.names.lookup y = some .cell\/scope.names.lookup y = some .free:=hy
  rcases hy with hy | hy
  ·exact cell_has hy
  ·exact absurd rfl (S.nofree _ (PySem.mem_of_lookup hy))
 ·exact Nat.le_of_lt (x.above y c (PySem.mem_of_lookup h))
 ·have hi:i < vs.length:=by
   unfold start at h2
   by_cases hi:i < vs.length
   ·exact hi
   ·rw [List.getElem?_append_right (by simpa using hi)] at h2
    rw [List.getElem?_replicate] at h2
    split at h2 <;> cases h2
  have ha:vs[i]? = some v:=by
   unfold start at h2
   rw [List.getElem?_append_left (by simpa using hi),List.getElem?_map] at h2
   cases e:vs[i]? with
   | none=>rw [e] at h2;cases h2
   | some a=>rw [e] at h2;cases h2;rfl
  obtain ⟨u,hu,rv⟩:=r.get ha
  have hp:ps[i]? = some y:=by
   rw [<- S.pre,List.getElem?_take_of_lt (by omega)];exact h1
  have ndP:ps.Nodup:=by rw [<- S.pre];exact S.nd.sublist (List.take_sublist _ _)
  refine ⟨u,rv,?_⟩
  rcases S.par y (List.mem_of_getElem? hp) with k | k
  ·exact .inl ⟨k,bindL_get ndP hp hu k⟩
  ·obtain ⟨c,e⟩:=cell_has (n:=s.heap.objs.size + 1) k
   refine .inr ⟨.inl k,c,e,?_⟩
   have q:=x.cell y c e
   rw [bindC_get ndP hp hu (by show scope.names.lookup y ≠ _;rw [k];decide)] at q
   exact q
 ·exact e0.hok.fresh (Nat.le_of_lt (x.above y c (PySem.mem_of_lookup h)))
 ·unfold start
  show _ = N.length
  rw [List.length_append,List.length_map,List.length_replicate]
  omega
theorem fn_of {CX:CXT}{P:Program}{w:World}{K:PySem.W.Frag}{mg:Str->Option Value}{base:Heap}{k:Nat}{f:Addr}{name qual:Str}{params:Arguments}{body:List Stmt}{scope:Scope}{dV kV doc pm cdv ct oc:Value}{an od:Option Addr}
  {osl:Array (Option Value)} {N ps:List Str} {sp:Sp} (lk:K.lookup f = some ⟨oc,od,.func (PySem.W.fnOf name qual params body scope dV kV doc pm an cdv ct),osl⟩) (hcd:PySem.W.codeIn K cdv qual = true) (S:FnScope N ps scope)
  (len:∀ vs H Q E,sp vs H Q E->vs.length = ps.length)
  (hbody:∀ (A:Around) (outer:List Env) (s:Shared) (H:Hp) (vs:List V) (Q:VK) (E:XK),Room k (A.deeper (envOfC qual scope s.heap.objs.size f cdv))->sp vs H Q E ->
   ∃ t,PSs (cxOf CX P w K mg base N qual scope f cdv A outer s H E) body t/\t { nx:=fun _ H'=>Q .non H',rt:=Q } (start N vs) H) :
  FnOk P w K mg base CX (k + 1) f (PySem.W.fnOf name qual params body scope dV kV doc pm an cdv ct) ps sp:=by
 refine ⟨len,fun A outer s H args us vs Q E hr e0 hb r hsp=>?_⟩
 have hl:=len _ _ _ _ hsp
 have KX:K.In s.heap:=e0.mod.kin.keeps fun b o e=>(e0.bs b o e).1
 have lim:s.heap.NoLimit:=e0.mod.nolimit.keeps fun b o e=>(e0.bs b o e).1
 have hkind:∀ y ∈ ps.zip us,scope.names.lookup y.1 = some .local\/(scope.names.lookup y.1 = some .cell/\((cellsFrom (s.heap.objs.size + 1) scope.names []).lookup y.1).isSome = true):=fun ⟨n,v⟩ hy=>by
  rcases S.par n (List.of_mem_zip hy).1 with q | q
  ·exact .inl q
  ·exact .inr ⟨q,PySem.W.cellsFrom_some _ _ _ (.inl q)⟩
 refine codeAny_call_function hr.depth (KX _ _ lk) rfl S.co S.gen rfl (PySem.W.codeRec_of KX hcd) (hb _ _ _ _ ?_)
 refine wpAny_newFunctionEnv_cells S.kind hkind fun env he s1 x=>?_
 subst he
 refine ⟨lim.keeps x.toInCall.keep,codeAny_func ?_⟩
 obtain ⟨t,ht,hq⟩:=hbody A outer s H vs Q E (hr.deeper _) hsp
 have I:Inv (cxOf CX P w K mg base N qual scope f cdv A outer s H E) [] (start N vs) H s1:=inv_start S hr.hd e0 hl r x
 refine wpAny_mono (ht [] s1 (start N vs) H _ I hq) (fun fl s' hs=>?_) fun e s' hs=>hs
 have fin:∀ {σ':St} {H':Hp} {v:V} {u:Value},Inv (cxOf CX P w K mg base N qual scope f cdv A outer s H E) [] σ' H' s'->RelV v u->Q v H'->CE outer P w H s Q u s' :=
  fun {σ' H' v u} J rv q=>⟨v,H',J.os,J.bare,J.base,J.hok,rv,q⟩
 cases fl with
 | ret u =>
  obtain ⟨v,σ',H',J,rv,q⟩:=hs
  exact fin J rv q
 | next =>
  obtain ⟨σ',H',J,q⟩:=hs
  exact fin (v:=V.non) (u:=Value.none) J rfl q
 | brk =>
  obtain ⟨_,_,_,q⟩:=hs
  exact False.elim q
 | cont =>
  obtain ⟨_,_,_,q⟩:=hs
  exact False.elim q
end L2
namespace L2
open PySem PySem.Spec PyProof.Rows
section
variable {X:Cx}{x:Str}{p pos:Pos}{e:Expr}{es:List Expr}{t:TA}{id T:String}{r:List V->Hp->VK->Prop}
noncomputable def tCB (r:List V->Hp->VK->Prop)(t:TA):TE:=fun σ H Q=>t σ H fun vs H1=>r vs H1 Q
theorem pe_callB (hc:CallR X (.builtin id) r) (hg:Gl X x) (hm:X.mg x = none) (hv:bootBuiltins x = some (.builtin id)) (ha:PA X (e :: es) t) (hn:x ≠ "__name__":=by decide) (hdb:(x == ("__debug__":Str)) = false:=by decide)
  (he:starEach (e :: es) X.env = (false,eval e X.env) :: starEach es X.env:=by rfl) (hpl:(backTo pos (starEach es X.env)).any (·.1) = false:=by rfl):PE X (.Call (.Name x p) (e :: es) [] pos) (tCB r t):=by
 intro pins s σ H Q I h
 refine wpAny_Call_Name_kw (ld_blt I hg hm hv ?_ hn hdb)
 exact PyProof.Rows.callWith_builtin1 (thn (ha pos pins s σ H _ I h) fun us s1 ⟨vs,H1,I1,r1,q1⟩=>hc pins s1 σ H1 vs us Q I1 r1 q1) he hpl
theorem pe_callTy (hc:CallR X (.type T) r) (hg:Gl X x) (hm:X.mg x = none) (hv:bootBuiltins x = some (.type T)) (ha:PA X (e :: es) t) (hn:x ≠ "__name__":=by decide) (hdb:(x == ("__debug__":Str)) = false:=by decide)
  (he:starEach (e :: es) X.env = (false,eval e X.env) :: starEach es X.env:=by rfl) (hpl:(backTo pos (starEach es X.env)).any (·.1) = false:=by rfl):PE X (.Call (.Name x p) (e :: es) [] pos) (tCB r t):=by
 intro pins s σ H Q I h
 refine wpAny_Call_Name_kw (ld_blt I hg hm hv ?_ hn hdb)
 exact PyProof.Rows.callWith_type1 (thn (ha pos pins s σ H _ I h) fun us s1 ⟨vs,H1,I1,r1,q1⟩=>hc pins s1 σ H1 vs us Q I1 r1 q1) he hpl
end
end L2
namespace HT
open PySem PyProof.Rows
section
open PySem.SeqAt
open PySem.AutoSeq1 (wpAny_loadPart')
open PySem.MeetsSeq PySem.MeetsSeq2 PySem.MeetsSeq3
end
section
variable {prog:Program}{w:World}{A:Around}{E:Value->Shared->Prop}{s:Shared}
theorem cat_tup {t b:Addr}{vs ws:List Value}{Q:Value->Shared->Prop}(ht:IsTup s.heap t vs.toArray)(hb:IsTup s.heap b ws.toArray)(hv:vs ≠ [])
  (h1:ws = []->Q (.ref t) s) (h2:ws ≠ []->Q (.ref s.heap.objs.size) { s with heap:=s.heap.push { cls:=.type "tuple",data:=.seq (vs ++ ws).toArray } })
  (hsz:vs.length + ws.length <= sizeLine):wpAny (model prog w) A (binaryOp .Add (.ref t) (.ref b)) Q E s:=by
 obtain ⟨⟨cls,dd,data,sl⟩,ho,hc,n,hd⟩:=id ht
 obtain ⟨⟨cls2,dd2,data2,sl2⟩,ho2,hc2,n2,hd2⟩:=id hb
 simp only at hc hd hc2 hd2
 subst hc hd hc2 hd2
 have e:vs.toArray ++ ws.toArray = (vs ++ ws).toArray:=by simp
 by_cases hw:ws = []
 ·exact concat_meets ⟨_,ho,rfl⟩ ⟨_,ho2,rfl⟩ noFill_tuple_add seq_tuple_add PySem.F.slot_tuple_add PySem.F.entry_tuple_add (PySem.F.args_tuple_add_2 _ _)
   (tuple_addW1 t b vs.toArray ws.toArray n n2 dd dd2 sl sl2 (by simpa using hv) (by simp [hw])) ⟨ho,ho2,h1 hw⟩
 ·refine concat_meets ⟨_,ho,rfl⟩ ⟨_,ho2,rfl⟩ noFill_tuple_add seq_tuple_add PySem.F.slot_tuple_add PySem.F.entry_tuple_add (PySem.F.args_tuple_add_2 _ _)
   (tuple_addW2 t b vs.toArray ws.toArray n n2 dd dd2 sl sl2 (by simpa using hv) (by simpa using hw) (by rw [List.size_toArray,List.size_toArray];exact hsz)) ⟨ho,ho2,?_⟩
  rw [e]
  exact h2 hw
noncomputable def sIx (n d:Nat):Option Int->Nat
 | none=>d
 | some v=>if v < 0 then (v + (n:Int)).toNat else min v.toNat n
theorem sIx_none (n d:Nat):sIx n d none = d:=rfl
theorem sIx_nat (n d k:Nat):sIx n d (some (k:Int)) = min k n:=by
 show (if (k:Int) < 0 then ((k:Int) + (n:Int)).toNat else min (k:Int).toNat n) = min k n
 rw [if_neg (by omega),Int.toNat_natCast]
theorem sIx_le (n d:Nat)(hd:d <= n)(o:Option Int):sIx n d o <= n:=by
 cases o with
 | none=>exact hd
 | some v =>
  show (if v < 0 then (v + (n:Int)).toNat else min v.toNat n) <= n
  by_cases hv:v < 0
  ·rw [if_pos hv];omega
  ·rw [if_neg hv];exact Nat.min_le_right _ _
theorem clip_eq (v:Int)(n d:Nat):(if v < 0 then max (v + (n:Int)) 0 else min v (n:Int)) = ((sIx n d (some v):Nat):Int):=by
 show (if v < 0 then max (v + (n:Int)) 0 else min v (n:Int)) = (((if v < 0 then (v + (n:Int)).toNat else min v.toNat n):Nat):Int)
 by_cases hv:v < 0
 ·simp only [if_pos hv];omega
 ·simp only [if_neg hv];omega
theorem adjust_gen (lo hi:Option Int)(n:Nat):Builtin.Slice.sliceAdjust lo hi 1 (n:Int) = (((sIx n 0 lo:Nat):Int),((sIx n n hi:Nat):Int)):=by
 have h1:¬ ((1:Int) < 0):=by omega
 unfold Builtin.Slice.sliceAdjust
 simp only [h1,if_false]
 refine Prod.ext ?_ ?_
 ·cases lo with
  | none=>rfl
  | some v=>exact clip_eq v n 0
 ·cases hi with
  | none=>rfl
  | some v=>exact clip_eq v n n
theorem places_gen (i j:Nat):Builtin.Slice.slicePlaces (i:Int) (j:Int) 1 = j - i:=by
 unfold Builtin.Slice.slicePlaces
 have h1:(1:Int) > 0:=by omega
 simp only [h1,if_true,Int.ediv_one]
 split <;> omega
theorem slicePart_ {v:Value}{o:Option Int}{Q:Option Int->Shared->Prop}(p:IsPart v o)(h:Q o s):wpAny (model prog w) A (Builtin.Slice.slicePartIndex v) Q E s:=by
 cases p with
 | none=>exact slicePart_none h
 | int i t=>exact slicePart_int h
theorem sliceApplied_gen {sl:Addr}{vl vu:Value}{lo hi:Option Int}{n:Nat}{Q:Int × Int × Nat->Shared->Prop}(hs:s.heap.IsSliceOf sl vl vu .none)(pl:IsPart vl lo)(pu:IsPart vu hi)
  (h:Q (((sIx n 0 lo:Nat):Int),1,sIx n n hi - sIx n 0 lo) s):wpAny (model prog w) A (Builtin.Slice.sliceApplied (.ref sl) (pure (n:Int))) Q E s:=by
 obtain ⟨os,hos,hcs,hds⟩:=id hs
 unfold Builtin.Slice.sliceApplied Builtin.Slice.sliceFields
 refine wpAny_bind (wpAny_bind (wpAny_field hos hds (x:=vl) rfl (wpAny_bind (wpAny_field hos hds (x:=vu) rfl (wpAny_bind (wpAny_field hos hds (x:=.none) rfl (wpAny_pure ?_)))))))
 refine wpAny_bind (slicePart_none ?_)
 show wpAny _ _ (if ((1:Int) == 0) = true then _ else _) _ _ s
 rw [if_neg (by decide)]
 refine wpAny_bind (slicePart_ pl (wpAny_bind (slicePart_ pu (wpAny_bind (wpAny_pure ?_)))))
 show wpAny _ _ (match Builtin.Slice.sliceAdjust lo hi 1 (n:Int) with | (lo,hi)=>pure (lo,(1:Int),Builtin.Slice.slicePlaces lo hi 1)) _ _ s
 rw [adjust_gen lo hi n]
 show wpAny _ _ (pure (((sIx n 0 lo:Nat):Int),(1:Int),Builtin.Slice.slicePlaces ((sIx n 0 lo:Nat):Int) ((sIx n n hi:Nat):Int) 1)) _ _ s
 rw [places_gen]
 exact wpAny_pure h
theorem pick_gen (xs:Array Value)(i k:Nat):((List.range k).filterMap fun (m:Nat)=>xs[((i:Int) + (m:Int) * 1).toNat]?).toArray = ((xs.toList.drop i).take k).toArray:=by
 have e:(fun (m:Nat)=>xs[((i:Int) + (m:Int) * 1).toNat]?) = fun m=>xs[i + m]?:=by
  funext m
  have:((i:Int) + (m:Int) * 1).toNat = i + m:=by omega
  rw [this]
 rw [e]
 have:=pick_run xs i k
 rw [List.filterMap_map] at this
 have e2:((fun x=>xs[x]?) ∘ fun x=>i + x) = fun m=>xs[i + m]?:=rfl
 rw [e2] at this
 rw [this]
theorem getItem_tuple_cut {t sl:Addr}{items:Array Value}{vl vu:Value}{lo hi:Option Int}{Q:Value->Shared->Prop}(ht:IsTup s.heap t items)(hs:s.heap.IsSliceOf sl vl vu .none)(pl:IsPart vl lo)(pu:IsPart vu hi)
  (hw:¬ (sIx items.size 0 lo = 0/\sIx items.size items.size hi = items.size))
  (h:Q (.ref s.heap.objs.size) { s with heap:=s.heap.push { cls:=.type "tuple",data:=.seq ((items.toList.drop (sIx items.size 0 lo)).take (sIx items.size items.size hi - sIx items.size 0 lo)).toArray } })
  (hsz:items.size <= sizeLine):wpAny (model prog w) A (getItem (.ref t) (.ref sl)) Q E s:=by
 have htake:sizeOk (.seq ((items.toList.drop (sIx items.size 0 lo)).take (sIx items.size items.size hi - sIx items.size 0 lo)).toArray):=by
  show ((items.toList.drop (sIx items.size 0 lo)).take (sIx items.size items.size hi - sIx items.size 0 lo)).toArray.size <= sizeLine
  rw [List.size_toArray,List.length_take,List.length_drop,Array.length_toList]
  omega
 have hj:sIx items.size items.size hi <= items.size:=sIx_le _ _ (Nat.le_refl _) hi
 obtain ⟨os,hos,hcs,hds⟩:=id hs
 have hTs:s.TypeIs (.ref sl) "slice":=⟨os,hos,hcs⟩
 unfold getItem
 try with_reducible refine wpAny_holding ?_
 first | refine wpAny_bind (wpAny_pure ?_) | skip
 refine wpAny_bind (wpAny_sequenceKey ht.typeIs (by decide) ?_)
 refine wpAny_bind (wpAny_callSpecial?_slot (name:=Str.ofString "__getitem__") ht.typeIs PyProof.Rows.slot_tuple_getitem
  (wpAny_call_entry PyProof.Rows.slot_tuple_getitem ht.typeIs entry_tuple_getitem ?_ (args_tuple_getitem _ _)))
 show wpAny _ _ (Builtin.Tuple.tupleItemsOf (.ref t) >>= _) _ _ s
 refine wpAny_bind (tupleItemsOf_ ht ?_)
 refine wpAny_bind (wpAny_typeOf hTs ?_)
 rw [if_pos (by decide)]
 refine wpAny_bind (sliceApplied_gen hs pl pu ?_)
 have hno:¬ ((((sIx items.size 0 lo:Nat):Int) == 0 && (1:Int) == 1 && (sIx items.size items.size hi - sIx items.size 0 lo) == items.size) = true):=by
  intro q
  rw [Bool.and_eq_true,Bool.and_eq_true] at q
  have q1:((sIx items.size 0 lo:Nat):Int) = 0:=eq_of_beq q.1.1
  have q2:sIx items.size items.size hi - sIx items.size 0 lo = items.size:=eq_of_beq q.2
  exact hw ⟨by omega,by omega⟩
 show wpAny _ _ (if (((sIx items.size 0 lo:Nat):Int) == 0 && (1:Int) == 1 && (sIx items.size items.size hi - sIx items.size 0 lo) == items.size) = true then _ else _) _ _ s
 rw [if_neg hno,pick_gen]
 first
  | exact wpAny_bind (m:=Builtin.Tuple.tupleExact _) (wpAny_newObj_type (wpAny_pure ⟨_,rfl,wpAny_pure h⟩) htake)
  | exact wpAny_bind (m:=Builtin.Tuple.tupleExact _) (wpAny_newObj_type (wpAny_bind (wpAny_pure (wpAny_pure ⟨_,rfl,wpAny_pure h⟩))) htake)
  | exact wpAny_bind (wpAny_bind (m:=Builtin.Tuple.tupleExact _) (wpAny_newObj_type (wpAny_pure (wpAny_pure ⟨_,rfl,wpAny_pure h⟩)) htake))
  | exact wpAny_bind (wpAny_bind (m:=Builtin.Tuple.tupleExact _) (wpAny_newObj_type (wpAny_pure ⟨_,rfl,wpAny_pure h⟩) htake))
end
end HT
namespace L2
open PySem PySem.Spec PyProof.Rows
abbrev TO:=St->Hp->(Option Int->Hp->Prop)->Prop
noncomputable def PO (X:Cx)(e:Option Expr)(t:TO):Prop :=
 ∀ (pins:List (Addr × Obj)) (s:Shared) (σ:St) (H:Hp) (Q:Option Int->Hp->Prop),Inv X pins σ H s->t σ H Q ->
  wpAny (model X.prog X.w) X.A (evalPart e X.env) (fun u s'=>∃ o H',Inv X pins σ H' s'/\IsPart u o/\Q o H') X.xe s
noncomputable def tNoPart:TO:=fun _ H Q=>Q none H
noncomputable def tPart (t:TE):TO:=fun σ H Q=>t σ H fun x H1=>∃ i,x = .int i/\Q (some i) H1
section
variable {X:Cx}{e:Expr}{te:TE}{lo hi:Option Expr}{tl th:TO}{pos p2:Pos}
theorem po_none:PO X none tNoPart:=by
 intro pins s σ H Q I h
 rw [evalPart_none]
 exact wpAny_pure ⟨none,H,I,.none,h⟩
theorem po_some (h:PE X e te):PO X (some e) (tPart te):=by
 intro pins s σ H Q I hw
 rw [evalPart_some]
 refine thn (h pins s σ H _ I hw) fun u s1 ⟨x,H1,I1,r1,q1⟩=>?_
 obtain ⟨i,rfl,q⟩:=q1
 obtain ⟨t,rfl⟩:=r1
 exact ⟨some i,H1,I1,.int i t,q⟩
noncomputable def SlR (X:Cx)(r:V->Option Int->Option Int->Hp->VK->Prop):Prop :=
 ∀ (pins:List (Addr × Obj)) (s:Shared) (σ:St) (H:Hp) (x:V) (v vl vu:Value) (lo hi:Option Int) (sl:Addr) (Q:VK),Inv X pins σ H s->RelV x v->s.heap.IsSliceOf sl vl vu .none->IsPart vl lo->IsPart vu hi->r x lo hi H Q ->
  ∃ T id,typeLookup (.type T) "__getitem__" = pure (some (.builtin id))/\s.TypeIs v T/\wpAny (model X.prog X.w) X.A (getItem v (.ref sl)) (EP X pins σ Q) X.xe s
theorem SlR.or {r r':V->Option Int->Option Int->Hp->VK->Prop}(h:SlR X r)(h':SlR X r'):SlR X (fun x lo hi H Q=>r x lo hi H Q\/r' x lo hi H Q):=by
 intro pins s σ H x v vl vu lo hi sl Q I rx hs pl pu q
 rcases q with q | q
 ·exact h pins s σ H x v vl vu lo hi sl Q I rx hs pl pu q
 ·exact h' pins s σ H x v vl vu lo hi sl Q I rx hs pl pu q
noncomputable def tSl (r:V->Option Int->Option Int->Hp->VK->Prop)(te:TE)(tl th:TO):TE:=fun σ H Q=>te σ H fun x H1=>tl σ H1 fun l H2=>th σ H2 fun u H3=>r x l u H3 Q
theorem pe_slice {r:V->Option Int->Option Int->Hp->VK->Prop}(hr:SlR X r)(he:PE X e te)(hl:PO X lo tl)(hu:PO X hi th):PE X (.Subscript e (.Slice lo hi none p2) pos) (tSl r te tl th):=by
 intro pins s σ H Q I h
 refine Subscript_ (thn (he pins s σ H _ I h) fun v s1 ⟨x,H1,I1,r1,q1⟩=>?_)
 refine wpAny_Slice (thn (hl pins s1 σ H1 _ I1 q1) fun vl s2 ⟨l,H2,I2,pl,q2⟩=>thn (hu pins s2 σ H2 _ I2 q2) fun vu s3 ⟨u,H3,I3,pu,q3⟩=>?_)
 rw [evalPart_none]
 refine wpAny_pure ?_
 have I4:Inv X pins σ H3 { s3 with heap:=s3.heap.push { cls:=.type "slice",data:=.fields #[vl,vu,.none] } }:=I3.kept (t':=s3.toks) fun b ob q=>Heap.get?_push_of_some _ q
 obtain ⟨T,id,hT,ht,hg⟩:=hr pins { s3 with heap:=s3.heap.push { cls:=.type "slice",data:=.fields #[vl,vu,.none] } } σ H3 x v vl vu l u s3.heap.objs.size Q I4 r1 (Heap.IsSliceOf.new ..) pl pu q3
 show wpAny (model X.prog X.w) X.A (subscriptTail e (.Slice lo hi none p2) v (.ref s3.heap.objs.size)) (EP X pins σ Q) X.xe { s3 with heap:=s3.heap.push { cls:=.type "slice",data:=.fields #[vl,vu,.none] } }
 exact tail_any (ops:=[.ref s3.heap.objs.size,v]) ht hT hg (by with_unfolding_all rfl)
noncomputable def cutV (xs:List V)(lo hi:Option Int):List V:=(xs.drop (HT.sIx xs.length 0 lo)).take (HT.sIx xs.length xs.length hi - HT.sIx xs.length 0 lo)
theorem cutV_length (xs:List V)(lo hi:Option Int):(cutV xs lo hi).length <= xs.length:=by
 unfold cutV
 rw [List.length_take,List.length_drop]
 omega
noncomputable def rSlT (K:PySem.W.Frag):V->Option Int->Option Int->Hp->VK->Prop:=fun x lo hi H Q=>∃ a xs,x = .ref a/\SqT K H a xs /\
 ¬ (HT.sIx xs.length 0 lo = 0/\HT.sIx xs.length xs.length hi = xs.length)/\∀ p,H p = none->Q (.ref p) (upd H p (.tup (cutV xs lo hi)))
theorem sl_tup:SlR X (rSlT X.K):=by
 intro pins s σ H x v vl vu lo hi sl Q I rx hs pl pu h
 obtain ⟨a,xs,rfl,hx,hw,q⟩:=h
 cases rx
 obtain ⟨its,r,ht,hz⟩:=I.tuple hx
 have hlen:its.toArray.size = xs.length:=by rw [List.size_toArray];exact r.length.symm
 refine ⟨"tuple",_,PyProof.Rows.slot_tuple_getitem.lookup,ht.typeIs,?_⟩
 refine HT.getItem_tuple_cut ht hs pl pu (by rw [hlen];exact hw) ?_ (by rw [hlen];exact hz)
 rw [hlen]
 refine ⟨.ref s.heap.objs.size,_,I.laid (t':=s.toks) (o:=.tup (cutV xs lo hi)) (fun b ob q=>Heap.get?_push_of_some _ q) (Nat.le_refl _) ?_,rfl,q _ (I.hok.fresh (Nat.le_refl _))⟩
 exact ⟨Nat.le_trans (cutV_length xs lo hi) hz,_,(r.drop (HT.sIx xs.length 0 lo)).take (HT.sIx xs.length xs.length hi - HT.sIx xs.length 0 lo),IsTup.new _ _⟩
noncomputable def rCatT (K:PySem.W.Frag):R2:=fun x y H Q=>∃ a b xs ys,x = .ref a/\y = .ref b/\SqT K H a xs/\SqT K H b ys/\xs ≠ []/\xs.length + ys.length <= sizeLine /\
 (ys = []->Q (.ref a) H)/\(ys ≠ []->∀ p,H p = none->Q (.ref p) (upd H p (.tup (xs ++ ys))))
theorem Vals.nil_iff {xs:List V}{us:List Value}(r:Vals xs us):us = [] ↔ xs = []:=by
 cases r with
 | nil=>simp
 | cons _ _=>simp
theorem op_catT:OpR X (binaryOp .Add) (rCatT X.K):=by
 intro pins s σ H x y v u Q I rx ry h
 obtain ⟨a,b,xs,ys,rfl,rfl,ha,hb,hx,hz,q1,q2⟩:=h
 cases rx
 cases ry
 obtain ⟨its,r1,p1,_⟩:=I.tuple ha
 obtain ⟨its2,r2,p2,_⟩:=I.tuple hb
 refine HT.cat_tup p1 p2 (fun z=>hx (r1.nil_iff.mp z)) (fun z=>⟨.ref a,H,I,rfl,q1 (r2.nil_iff.mp z)⟩) (fun z=>?_) (by rw [<- r1.length,<- r2.length];exact hz)
 refine ⟨.ref s.heap.objs.size,_,I.laid (t':=s.toks) (o:=.tup (xs ++ ys)) (fun b ob q=>Heap.get?_push_of_some _ q) (Nat.le_refl _) ?_,rfl,q2 (fun w=>z (r2.nil_iff.mpr w)) _ (I.hok.fresh (Nat.le_refl _))⟩
 exact ⟨by rw [List.length_append];exact hz,_,r1.append r2,IsTup.new _ _⟩
end
end L2
namespace L2
open PySem PySem.Spec PyProof.Rows
noncomputable def ixN (n:Nat)(i:Int):Option Nat:=if 0 <= i then (if i < n then some i.toNat else none) else if -(n:Int) <= i then some (i + n).toNat else none
noncomputable def atI {α:Type}(xs:List α)(i:Int):Option α:=(ixN xs.length i).bind fun j=>xs[j]?
theorem ixN_seq {n:Nat}{i:Int}{j:Nat}(h:ixN n i = some j):seqIndex? i n = some j/\j < n/\-(n:Int) <= i/\i < n:=by
 unfold ixN at h
 by_cases h0:0 <= i
 ·rw [if_pos h0] at h
  by_cases h1:i < n
  ·rw [if_pos h1] at h
   have e:i.toNat = j:=Option.some.inj h
   exact ⟨by rw [seqIndex_of h0 h1,e],by omega,by omega,h1⟩
  ·rw [if_neg h1] at h;cases h
 ·rw [if_neg h0] at h
  by_cases h1:-(n:Int) <= i
  ·rw [if_pos h1] at h
   have e:(i + n).toNat = j:=Option.some.inj h
   exact ⟨by rw [seqIndex_neg (by omega) h1,e],by omega,h1,by omega⟩
  ·rw [if_neg h1] at h;cases h
theorem atI_get {α:Type}{xs:List α}{i:Int}{v:α}(h:atI xs i = some v):∃ j,seqIndex? i xs.length = some j/\xs[j]? = some v/\j < xs.length/\-(xs.length:Int) <= i/\i < xs.length:=by
 unfold atI at h
 cases e:ixN xs.length i with
 | none=>rw [e] at h;cases h
 | some j =>
  rw [e] at h
  obtain ⟨h1,h2,h3,h4⟩:=ixN_seq e
  exact ⟨j,h1,h,h2,h3,h4⟩
theorem atI_nat {α:Type}{xs:List α}{j:Nat}{v:α}(h:xs[j]? = some v):atI xs (j:Int) = some v:=by
 have hj:j < xs.length:=(List.getElem?_eq_some_iff.mp h).1
 have e:ixN xs.length (j:Int) = some j:=by
  unfold ixN
  rw [if_pos (by omega),if_pos (by omega)];simp
 unfold atI;rw [e];exact h
noncomputable def PlainIx (b:Expr):Prop:=∀ o i,subscripted b false o i = operate [o,i] (getItem o i)
noncomputable def IxR (X:Cx)(r:R2):Prop :=
 ∀ (value slice:Expr) (pins:List (Addr × Obj)) (s:Shared) (σ:St) (H:Hp) (x y:V) (v u:Value) (Q:VK),Inv X pins σ H s->RelV x v->RelV y u->r x y H Q ->
  subscripted slice false v u = operate [v,u] (getItem v u)->wpAny (model X.prog X.w) X.A (subscriptTail value slice v u) (EP X pins σ Q) X.xe s
noncomputable def MtR (X:Cx)(id:String)(r:V->List V->Hp->VK->Prop):Prop :=
 ∀ (pins:List (Addr × Obj)) (s:Shared) (σ:St) (H:Hp) (x:V) (xs:List V) (v:Value) (us:List Value) (Q:VK),Inv X pins σ H s->RelV x v->Vals xs us->r x xs H Q ->
  wpAny (model X.prog X.w) X.A (call (.builtin id) (v :: us)) (EP X pins σ Q) X.xe s
section
variable {X:Cx}{a b:Expr}{ta tb:TE}{pos:Pos}
theorem IxR.or {r r':R2}(h:IxR X r)(h':IxR X r'):IxR X (fun x y H Q=>r x y H Q\/r' x y H Q):=by
 intro value slice pins s σ H x y v u Q I rx ry q hs
 rcases q with q | q
 ·exact h value slice pins s σ H x y v u Q I rx ry q hs
 ·exact h' value slice pins s σ H x y v u Q I rx ry q hs
theorem pe_ix {r:R2}(hr:IxR X r)(ha:PE X a ta)(hb:PE X b tb)(hs:PlainIx b):PE X (.Subscript a b pos) (tOp r ta tb):=by
 intro pins s σ H Q I h
 exact Subscript_ (binT ha hb I h fun v u s2 x y H2 I2 rx ry q=>hr a b pins s2 σ H2 x y v u Q I2 rx ry q (hs _ _))
noncomputable def rIxL (K:PySem.W.Frag):R2:=fun x y H Q=>∃ p xs i v,x = .ref p/\y = .int i/\SqL K H p xs/\atI xs i = some v/\Q v H
noncomputable def rIxT (K:PySem.W.Frag):R2:=fun x y H Q=>∃ p xs i v,x = .ref p/\y = .int i/\SqT K H p xs/\atI xs i = some v/\Q v H
noncomputable def rIxS:R2:=fun x y H Q=>∃ z i c,x = .str z/\y = .int i/\z.length <= sizeLine/\atI z.cps.toList i = some c/\Q (.str ⟨#[c]⟩) H
theorem ix_list:IxR X (rIxL X.K):=by
 intro value slice pins s σ H x y v u Q I rx ry h hs
 obtain ⟨p,xs,i,z,rfl,rfl,hq,he,q⟩:=h
 cases rx
 obtain ⟨t,rfl⟩:=ry
 obtain ⟨its,r,pl,hz⟩:=I.list hq
 obtain ⟨j,h1,h2,h3,h4,h5⟩:=atI_get he
 obtain ⟨w,ew,rw'⟩:=r.get h2
 have hl:=r.length
 have hn:=line63
 have fin:EP X pins σ Q w s:=⟨z,H,I,rw',q⟩
 by_cases h0:0 <= i
 ·have hj:i.toNat = j:=by
   rw [seqIndex_of h0 h5] at h1
   exact Option.some.inj h1
  exact item_listR pl.isList h0 (by omega) (by rw [hj];simpa using ew) fin hs
 ·have hj:(i + (its.toArray.size:Int)).toNat = j:=by
   rw [seqIndex_neg (by omega) h4] at h1
   rw [List.size_toArray,<- hl]
   exact Option.some.inj h1
  exact subscriptTail_builtinR (x:=w) pl.isList.typeIs slot_list_getitem.lookup
   (wpAny_getItem_list_neg (Q:=fun r s'=>r = w/\EP X pins σ Q r s') pl.isList (by omega) (by rw [List.size_toArray] <;> omega) (by omega) (by rw [hj];simpa using ew) ⟨rfl,fin⟩) hs
theorem ix_tup:IxR X (rIxT X.K):=by
 intro value slice pins s σ H x y v u Q I rx ry h hs
 obtain ⟨p,xs,i,z,rfl,rfl,hq,he,q⟩:=h
 cases rx
 obtain ⟨t,rfl⟩:=ry
 obtain ⟨its,r,pl,hz⟩:=I.tuple hq
 obtain ⟨j,h1,h2,h3,h4,h5⟩:=atI_get he
 obtain ⟨w,ew,rw'⟩:=r.get h2
 have hl:=r.length
 have hn:=line63
 have fin:EP X pins σ Q w s:=⟨z,H,I,rw',q⟩
 exact subscriptTail_builtinR (x:=w) pl.typeIs slot_tuple_getitem.lookup
  (getItem_tuple (j:=j) (Q:=fun r s'=>r = w/\EP X pins σ Q r s') pl (by omega) (by omega) (by rw [List.size_toArray,<- hl];exact h1) (by simpa using ew) ⟨rfl,fin⟩) hs
theorem ix_str:IxR X rIxS:=by
 intro value slice pins s σ H x y v u Q I rx ry h hs
 obtain ⟨z,i,c,rfl,rfl,hz,he,q⟩:=h
 obtain ⟨t,rfl⟩:=rx
 obtain ⟨t',rfl⟩:=ry
 obtain ⟨j,h1,h2,h3,h4,h5⟩:=atI_get he
 have hl:z.cps.toList.length = z.length:=by simp [Str.length]
 rw [hl] at h1 h4 h5
 have hn:=line63
 exact tail_any (typeIs_str s z t) slot_str_getitem.lookup (getItem_str (c:=c) (by
  have e1:decide (i < -(2 ^ 63:Int)) = false:=decide_eq_false (by omega)
  have e2:decide (i ≥ 2 ^ 63) = false:=decide_eq_false (by omega)
  rw [e1,e2,Bool.or_false]) (by rw [h1];simpa using h2) ⟨.str ⟨#[c]⟩,H,I.tok _,⟨_,rfl⟩,q⟩) hs
noncomputable def rIx (K:PySem.W.Frag):R2:=fun x y H Q=>rIxL K x y H Q\/rIxT K x y H Q\/rIxS x y H Q
theorem ix_seq:IxR X (rIx X.K):=ix_list.or (ix_tup.or ix_str)
theorem mapSeq_set (its:List Value)(n j:Nat)(u:Value):Obj.mapSeq (·.setIfInBounds j u) { cls:=.type "list",data:=.seq its.toArray n } = { cls:=.type "list",data:=.seq (its.set j u).toArray n }:=by
 simp [Obj.mapSeq]
theorem Inv.lst {pins:List (Addr × Obj)}{σ:St}{H:Hp}{s:Shared}{p:Addr}{xs:List V}(I:Inv X pins σ H s)(h:H p = some (.lst xs)) :
  ∃ (its:List Value) (n:Nat),Vals xs its/\s.heap.get? p = some { cls:=.type "list",data:=.seq its.toArray n }/\xs.length <= sizeLine:=by
 obtain ⟨z,its,n,r,e⟩:=I.hok p _ h
 exact ⟨its,n,r,e,z⟩
theorem Inv.lstUpd {pins:List (Addr × Obj)}{σ:St}{H:Hp}{s:Shared}{p:Addr}{xs ys:List V}{its its':List Value}{n n':Nat}{f:Obj->Obj}(I:Inv X pins σ H s)(h:H p = some (.lst xs))
  (ho:s.heap.get? p = some { cls:=.type "list",data:=.seq its.toArray n }) (hf:f { cls:=.type "list",data:=.seq its.toArray n } = { cls:=.type "list",data:=.seq its'.toArray n' }) (r:Vals ys its') (hz:ys.length <= sizeLine) (t:Nat) :
  Inv X pins σ (upd H p (.lst ys)) { s with heap:=s.heap.update p f,toks:=t }:=by
 have e:(s.heap.update p f).get? p = some { cls:=.type "list",data:=.seq its'.toArray n' }:=by
  rw [Heap.get?_update_self f ho (by rw [hf] <;> rfl),hf]
 refine I.write (x:=p) (e:=p) (by rw [h];trivial) (.inl rfl) (fun b u hb q=>(Heap.get?_update_other _ _ (Ne.symm hb)).trans q) ⟨_,e⟩ ?_
 exact ⟨hz,its',n',r,e⟩
noncomputable def rSetL:V->V->V->Hp->(Hp->Prop)->Prop:=fun o i v H Q=>∃ p xs k j,o = .ref p/\i = .int k/\H p = some (.lst xs)/\ixN xs.length k = some j/\Q (upd H p (.lst (xs.set j v)))
theorem set_list:PSet X rSetL:=by
 intro pins s σ H o i v ov iv u Q I ro ri rv h
 obtain ⟨p,xs,k,j,rfl,rfl,hp,hj,q⟩:=h
 cases ro
 obtain ⟨t,rfl⟩:=ri
 obtain ⟨its,n,r,ho,hz⟩:=I.lst hp
 obtain ⟨h1,h2,h3,h4⟩:=ixN_seq hj
 have hl:=r.length
 have hn:=line63
 have I':Inv X pins σ (upd H p (.lst (xs.set j v))) { s with heap:=s.heap.update p (Obj.mapSeq (·.setIfInBounds j u)) } :=
  I.lstUpd hp ho (mapSeq_set its n j u) (r.set rv j) (by rw [List.length_set];exact hz) s.toks
 by_cases h0:0 <= k
 ·have hk:k.toNat = j:=by
   rw [seqIndex_of h0 h4] at h1
   exact Option.some.inj h1
  exact PySem.W.ki_setAt ho h0 (by omega) (by rw [List.size_toArray,<- hl];exact h4) (by rw [hk];exact ⟨_,I',q⟩)
 ·have hk:(k + (its.toArray.size:Int)).toNat = j:=by
   rw [seqIndex_neg (by omega) h3] at h1
   rw [List.size_toArray,<- hl]
   exact Option.some.inj h1
  exact PySem.W.ki_setBack ho (by omega) (by rw [List.size_toArray,<- hl];exact h3) (by omega) (by rw [hk];exact ⟨_,I',q⟩)
theorem slice_bounds (lo hi:Option Int)(n:Nat):(sliceBounds lo hi none n).1 = ((HT.sIx n 0 lo:Nat):Int)/\(sliceBounds lo hi none n).2.1 = ((HT.sIx n n hi:Nat):Int)/\(sliceBounds lo hi none n).2.2 = 1:=by
 refine ⟨?_,?_,rfl⟩
 ·cases lo with
  | none=>simp [sliceBounds,HT.sIx]
  | some i =>
   simp only [sliceBounds,HT.sIx,Option.getD_none,show (1:Int) > 0 by decide,if_true]
   by_cases h:i < 0
   ·simp only [h,if_true] <;> omega
   ·simp only [h,if_false] <;> omega
 ·cases hi with
  | none=>simp [sliceBounds,HT.sIx]
  | some i =>
   simp only [sliceBounds,HT.sIx,Option.getD_none,show (1:Int) > 0 by decide,if_true]
   by_cases h:i < 0
   ·simp only [h,if_true] <;> omega
   ·simp only [h,if_false] <;> omega
theorem slicePick_cut (its:List Value)(lo hi:Option Int):slicePick its.toArray lo hi none = ((its.drop (HT.sIx its.length 0 lo)).take (HT.sIx its.length its.length hi - HT.sIx its.length 0 lo)).toArray:=by
 obtain ⟨h1,h2,h3⟩:=slice_bounds lo hi its.toArray.size
 unfold slicePick
 rw [h1,h2,h3]
 simp only [sliceRange_one,pick_run,List.size_toArray] <;> rfl
noncomputable def rSlL (K:PySem.W.Frag):V->Option Int->Option Int->Hp->VK->Prop:=fun x lo hi H Q=>∃ a xs,x = .ref a/\SqL K H a xs/\∀ p,H p = none->Q (.ref p) (upd H p (.lst (cutV xs lo hi)))
theorem sl_list:SlR X (rSlL X.K):=by
 intro pins s σ H x v vl vu lo hi sl Q I rx hs pl pu h
 obtain ⟨a,xs,rfl,hx,q⟩:=h
 cases rx
 obtain ⟨its,r,ht,hz⟩:=I.list hx
 have hlen:=r.length
 refine ⟨"list",_,slot_list_getitem.lookup,ht.isList.typeIs,?_⟩
 refine wpAny_getItem_list_slice ht.isList hs pl pu .none (by simp) ?_ (by rw [List.size_toArray] <;> omega)
 rw [slicePick_cut,<- hlen]
 refine ⟨.ref s.heap.objs.size,_,I.laid (t':=s.toks) (o:=.lst (cutV xs lo hi)) (fun b ob q=>Heap.get?_push_of_some _ q) (Nat.le_refl _) ?_,rfl,q _ (I.hok.fresh (Nat.le_refl _))⟩
 exact ⟨Nat.le_trans (cutV_length xs lo hi) hz,_,0,(r.drop (HT.sIx xs.length 0 lo)).take (HT.sIx xs.length xs.length hi - HT.sIx xs.length 0 lo),Heap.get?_push_size _ rfl⟩
noncomputable def flatV:V->Bool
 | .non=>true
 | .bl _=>true
 | .int _=>true
 | .str _=>true
 | _=>false
noncomputable def eqV:V->V->Bool
 | .non,.non=>true
 | .bl a,.bl b=>a == b
 | .bl a,.int b=>(if a then 1 else 0) == b
 | .int a,.bl b=>a == (if b then 1 else 0)
 | .int a,.int b=>a == b
 | .str a,.str b=>a == b
 | _,_=>false
theorem eqAt_V {A:Around}{s:Shared}{y x:V}{u v:Value}(ry:RelV y u)(rx:RelV x v)(fy:flatV y = true)(fx:flatV x = true):SeqAt.EqAt A s u v (eqV y x):=by
 cases y with
 | non =>
  cases ry
  cases x with
  | non=>cases rx;exact SeqAt.EqAt.same _
  | bl b=>cases rx;exact SeqAt.EqAt.none_bool b
  | int b=>obtain ⟨t,rfl⟩:=rx;exact SeqAt.EqAt.none_int b t
  | str b=>obtain ⟨t,rfl⟩:=rx;exact SeqAt.EqAt.none_str b t
  | _=>exact absurd (show false = true from fx) Bool.false_ne_true
 | bl a =>
  cases ry
  cases x with
  | non=>cases rx;exact SeqAt.EqAt.bool_none a
  | bl b=>cases rx;exact SeqAt.EqAt.bool_bool a b
  | int b=>obtain ⟨t,rfl⟩:=rx;exact SeqAt.EqAt.bool_int a b t
  | str b=>obtain ⟨t,rfl⟩:=rx;exact SeqAt.EqAt.bool_str a b t
  | _=>exact absurd (show false = true from fx) Bool.false_ne_true
 | int a =>
  obtain ⟨t',rfl⟩:=ry
  cases x with
  | non=>cases rx;exact SeqAt.EqAt.int_none a t'
  | bl b=>cases rx;exact SeqAt.EqAt.int_bool a t' b
  | int b=>obtain ⟨t,rfl⟩:=rx;exact SeqAt.EqAt.int_int a t' b t
  | str b=>obtain ⟨t,rfl⟩:=rx;exact SeqAt.EqAt.int_str a t' b t
  | _=>exact absurd (show false = true from fx) Bool.false_ne_true
 | str a =>
  obtain ⟨t',rfl⟩:=ry
  cases x with
  | non=>cases rx;exact SeqAt.EqAt.str_none a t'
  | bl b=>cases rx;exact SeqAt.EqAt.str_bool a t' b
  | int b=>obtain ⟨t,rfl⟩:=rx;exact SeqAt.EqAt.str_int a t' b t
  | str b=>obtain ⟨t,rfl⟩:=rx;exact SeqAt.EqAt.str_str a t' b t
  | _=>exact absurd (show false = true from fx) Bool.false_ne_true
 | _=>exact absurd (show false = true from fy) Bool.false_ne_true
noncomputable def eqU (x:V)(u:Value):Bool:=match u with
 | .none=>eqV .non x
 | .bool b=>eqV (.bl b) x
 | .int i _=>eqV (.int i) x
 | .str z _=>eqV (.str z) x
 | _=>false
theorem eqU_of {x y:V}{u:Value}(r:RelV y u)(f:flatV y = true):eqU x u = eqV y x:=by
 cases y with
 | non=>cases r;rfl
 | bl b=>cases r;rfl
 | int i=>obtain ⟨t,rfl⟩:=r;rfl
 | str z=>obtain ⟨t,rfl⟩:=r;rfl
 | _=>exact absurd (show false = true from f) Bool.false_ne_true
theorem any_eqU {x:V}:∀ {xs:List V} {us:List Value},Vals xs us->xs.all flatV = true->us.any (eqU x) = xs.any fun y=>eqV y x
 | _,_,.nil,_=>rfl
 | y :: xs,u :: us,.cons r t,f=>by
  rw [List.all_cons,Bool.and_eq_true] at f
  rw [List.any_cons,List.any_cons,eqU_of r f.1,any_eqU t f.2]
theorem mem_eqAt {A:Around}{s:Shared}{x:V}{v:Value}(rx:RelV x v)(fx:flatV x = true):∀ {xs:List V} {us:List Value},Vals xs us->xs.all flatV = true->∀ u ∈ us,SeqAt.EqAt A s u v (eqU x u)
 | _,_,.nil,_=>fun u hu=>by cases hu
 | y :: xs,u :: us,.cons r t,f=>fun u' hu=>by
  rw [List.all_cons,Bool.and_eq_true] at f
  rcases List.mem_cons.mp hu with rfl | hu
  ·rw [eqU_of r f.1];exact eqAt_V r rx f.1 fx
  ·exact mem_eqAt rx fx t f.2 u' hu
noncomputable def inV (x:V)(xs:List V):Bool:=xs.any fun y=>eqV y x
noncomputable def rIn (K:PySem.W.Frag)(neg:Bool):R2:=fun x y H Q=>∃ p xs,y = .ref p/\(SqL K H p xs\/SqT K H p xs)/\flatV x = true/\xs.all flatV = true/\Q (.bl (if neg then !inV x xs else inV x xs)) H
theorem op_in_seq:OpR X (compareOp .In) (rIn X.K false):=by
 intro pins s σ H x y v u Q I rx ry h
 obtain ⟨p,xs,rfl,hq,fx,fs,q⟩:=h
 cases ry
 rcases hq with hq | hq
 ·obtain ⟨its,r,pl,hz⟩:=I.list hq
  refine SeqAt.in_listAt (eqU x) pl.isList (fun w hw=>mem_eqAt rx fx r fs w (by simpa using hw)) ⟨.bl _,H,I,rfl,?_⟩
  rw [show its.toArray.any (eqU x) = its.any (eqU x) by simp,any_eqU r fs]
  exact q
 ·obtain ⟨its,r,pl,hz⟩:=I.tuple hq
  refine SeqAt.in_tupleAt (eqU x) pl (fun w hw=>mem_eqAt rx fx r fs w (by simpa using hw)) ⟨.bl _,H,I,rfl,?_⟩
  rw [show its.toArray.any (eqU x) = its.any (eqU x) by simp,any_eqU r fs]
  exact q
theorem op_notIn_seq:OpR X (compareOp .NotIn) (rIn X.K true):=by
 intro pins s σ H x y v u Q I rx ry h
 obtain ⟨p,xs,rfl,hq,fx,fs,q⟩:=h
 cases ry
 rcases hq with hq | hq
 ·obtain ⟨its,r,pl,hz⟩:=I.list hq
  refine SeqAt.notIn_listAt (eqU x) pl.isList (fun w hw=>mem_eqAt rx fx r fs w (by simpa using hw)) ⟨.bl _,H,I,rfl,?_⟩
  rw [show its.toArray.any (eqU x) = its.any (eqU x) by simp,any_eqU r fs]
  exact q
 ·obtain ⟨its,r,pl,hz⟩:=I.tuple hq
  refine SeqAt.notIn_tupleAt (eqU x) pl (fun w hw=>mem_eqAt rx fx r fs w (by simpa using hw)) ⟨.bl _,H,I,rfl,?_⟩
  rw [show its.toArray.any (eqU x) = its.any (eqU x) by simp,any_eqU r fs]
  exact q
theorem call_len_seq:CallR X (.builtin "len") (fun xs H Q=>∃ p ys,xs = [.ref p]/\(SqL X.K H p ys\/SqT X.K H p ys)/\Q (.int ys.length) H):=by
 intro pins s σ H xs us Q I r h
 obtain ⟨p,ys,rfl,hq,q⟩:=h
 obtain ⟨u,rfl,rx⟩:=vals1 r
 cases rx
 have hn:=line63
 rcases hq with hq | hq
 ·obtain ⟨its,r',pl,hz⟩:=I.list hq
  have hlen:=r'.length
  exact Calls.call_len_list pl.isList (by simp only [List.size_toArray] <;> omega) ⟨.int ys.length,H,I.tok _,⟨s.toks + 1,by rw [List.size_toArray,hlen]⟩,q⟩
 ·obtain ⟨its,r',pl,hz⟩:=I.tuple hq
  have hlen:=r'.length
  exact len_tuple pl (by simp only [List.size_toArray] <;> omega) ⟨.int ys.length,H,I.tok _,⟨s.toks + 1,by rw [List.size_toArray,hlen]⟩,q⟩
theorem call_len_str:CallR X (.builtin "len") (fun xs H Q=>∃ z,xs = [.str z]/\z.length <= sizeLine/\Q (.int z.length) H):=by
 intro pins s σ H xs us Q I r h
 obtain ⟨z,rfl,hz,q⟩:=h
 obtain ⟨u,rfl,t,rfl⟩:=vals1 r
 have hn:=line63
 exact len_str (by omega) ⟨.int z.length,H,I.tok _,⟨_,rfl⟩,q⟩
theorem CallR.or {f:Value}{r r':List V->Hp->VK->Prop}(h:CallR X f r)(h':CallR X f r'):CallR X f (fun xs H Q=>r xs H Q\/r' xs H Q):=by
 intro pins s σ H xs us Q I rs q
 rcases q with q | q
 ·exact h pins s σ H xs us Q I rs q
 ·exact h' pins s σ H xs us Q I rs q
theorem call_list_of:CallR X (.type "list") (fun xs H Q=>∃ p ys,xs = [.ref p]/\(SqL X.K H p ys\/SqT X.K H p ys)/\∀ l,H l = none->Q (.ref l) (upd H l (.lst ys))):=by
 intro pins s σ H xs us Q I r h
 obtain ⟨p,ys,rfl,hq,q⟩:=h
 obtain ⟨u,rfl,rx⟩:=vals1 r
 cases rx
 have fin:∀ (its:List Value),Vals ys its->ys.length <= sizeLine->∀ (h':Heap) (c':Nat),(∀ b o',s.heap.get? b = some o'->h'.get? b = some o') ->
   h'.get? s.heap.objs.size = some { cls:=.type "list",dict:=none,data:=.seq its.toArray c',slots:=#[] }->EP X pins σ Q (.ref s.heap.objs.size) { s with heap:=h' }:=fun its r' hz h' c' kp e =>
  ⟨.ref s.heap.objs.size,_,I.laid (t':=s.toks) kp (Nat.le_refl _) (show ObjOk X.prog X.w _ h' _ (.lst ys) from ⟨hz,its,c',r',e⟩),rfl,q _ (I.hok.fresh (Nat.le_refl _))⟩
 rcases hq with hq | hq
 ·obtain ⟨its,r',pl,hz⟩:=I.list hq
  have hlen:=r'.length
  obtain ⟨o,ho,hc,n,hd⟩:=pl.isList
  exact call_list_seq p (.inl rfl) ho hc hd (fun h' c' kp e=>fin its r' hz h' c' kp e) (by simp only [List.size_toArray] <;> omega)
 ·obtain ⟨its,r',pl,hz⟩:=I.tuple hq
  have hlen:=r'.length
  obtain ⟨o,ho,hc,n,hd⟩:=pl
  exact call_list_seq p (.inr rfl) ho hc hd (fun h' c' kp e=>fin its r' hz h' c' kp e) (by simp only [List.size_toArray] <;> omega)
theorem call_tuple_of:CallR X (.type "tuple") (fun xs H Q=>∃ p ys,xs = [.ref p]/\((SqL X.K H p ys/\∀ l,H l = none->Q (.ref l) (upd H l (.tup ys)))\/(SqT X.K H p ys/\Q (.ref p) H))):=by
 intro pins s σ H xs us Q I r h
 obtain ⟨p,ys,rfl,h⟩:=h
 obtain ⟨u,rfl,rx⟩:=vals1 r
 cases rx
 rcases h with ⟨hq,q⟩ | ⟨hq,q⟩
 ·obtain ⟨its,r',pl,hz⟩:=I.list hq
  have hlen:=r'.length
  refine call_tuple_list pl.isList (fun h' kp=>?_) (by simp only [List.size_toArray] <;> omega)
  have I1:Inv X pins σ H { s with heap:=h' }:=I.kept (t':=s.toks) kp
  have I2:Inv X pins σ (upd H h'.objs.size (.tup ys)) { s with heap:=h'.push { cls:=.type "tuple",data:=.seq its.toArray } } :=
   I1.laid (t':=s.toks) (fun b o e=>Heap.get?_push_of_some _ e) (Nat.le_refl _) (show ObjOk X.prog X.w _ _ _ (.tup ys) from ⟨hz,its,r',IsTup.new _ _⟩)
  exact ⟨.ref h'.objs.size,_,I2,rfl,q _ (I1.hok.fresh (Nat.le_refl _))⟩
 ·obtain ⟨its,r',pl,hz⟩:=I.tuple hq
  exact call_tuple_same pl ⟨.ref p,H,I,rfl,q⟩
noncomputable def tyV (K:PySem.W.Frag)(T:String)(x:V)(H:Hp):Prop:=match x with
 | .str _=>T = "str"
 | .int _=>T = "int"
 | .ref p=>(T = "list"/\∃ xs,SqL K H p xs)\/(T = "tuple"/\∃ o,K.lookup p = some o/\o.cls = .type "tuple"/\o.dict = none) \/
  (T = "dict"/\((∃ kvs,H p = some (.dK kvs))\/∃ kvs,H p = some (.dT kvs)))\/(T = "set"/\∃ S n,H p = some (.set S n))
 | _=>False
theorem tyV_is {pins:List (Addr × Obj)}{σ:St}{H:Hp}{s:Shared}{T:String}{x:V}{v:Value}(I:Inv X pins σ H s)(r:RelV x v)(ty:tyV X.K T x H) :
  s.TypeIs v T/\∀ a,v = .ref a->∃ ob,s.heap.get? a = some ob/\ob.dict = none:=by
 cases x with
 | str z =>
  obtain ⟨t,rfl⟩:=r
  cases (show T = "str" from ty)
  exact ⟨typeIs_str s z t,fun _ e=>nomatch e⟩
 | int i =>
  obtain ⟨t,rfl⟩:=r
  cases (show T = "int" from ty)
  exact ⟨typeIs_int s i t,fun _ e=>nomatch e⟩
 | ref p =>
  cases r
  rcases ty with ⟨rfl,xs,hq⟩ | ⟨rfl,o,hk,hc,hd⟩ | ⟨rfl,hk⟩ | ⟨rfl,S,n,hk⟩
  ·obtain ⟨its,_,pl,_⟩:=I.list hq
   refine ⟨pl.isList.typeIs,fun a e=>?_⟩
   cases e
   obtain ⟨o,n,e,c,hd,_⟩:=pl
   exact ⟨o,e,hd⟩
  ·refine ⟨⟨o,I.kIn p o hk,hc⟩,fun a e=>?_⟩
   cases e
   exact ⟨o,I.kIn _ o hk,hd⟩
  ·have z:∃ o,s.heap.get? p = some o/\o.ExactDict:=by
    rcases hk with ⟨kvs,hk⟩ | ⟨kvs,hk⟩
    ·obtain ⟨_,_,_,_,o,_,_,e,ex,_⟩:=I.hok p _ hk
     exact ⟨o,e,ex⟩
    ·obtain ⟨_,_,_,_,o,_,_,e,ex,_⟩:=I.hok p _ hk
     exact ⟨o,e,ex⟩
   obtain ⟨o,e,ex⟩:=z
   refine ⟨⟨o,e,ex.1⟩,fun a e2=>?_⟩
   cases e2
   exact ⟨o,e,ex.2.1⟩
  ·obtain ⟨o,_,_,_,e,ex,_⟩:=I.hok p _ hk
   refine ⟨⟨o,e,ex.1⟩,fun a e2=>?_⟩
   cases e2
   exact ⟨o,e,ex.2.1⟩
 | _=>exact False.elim ty
noncomputable def tBM (K:PySem.W.Frag)(T:String)(r:V->List V->Hp->VK->Prop)(to:TE)(t:TA):TE:=fun σ H Q=>to σ H fun x H1=>tyV K T x H1/\t σ H1 fun xs H2=>r x xs H2 Q
variable {o e:Expr}{es:List Expr}{to:TE}{t:TA}{name:Str}{apos cpos:Pos}{T id:String}{r:V->List V->Hp->VK->Prop}
theorem pe_bm (pa:PlainAttrs T) (slot:Slot T name id) (hty:typeOf (.builtin id) = pure (.type "method_descriptor")) (hm:MtR X id r) (ho:PE X o to) (ha:PA X (e :: es) t)
  (hbase:attributeBase o name X.env (eval o X.env) = eval o X.env:=by rfl)
  (hfew:((backTo cpos (starEach (e :: es) X.env)).all (fun x=>!x.1) && (backToKw cpos (keywordEach [] X.env)).all (fun x=>x.1.isSome)
   && decide ((e :: es).length + ([]:List Keyword).length + (if ([]:List Keyword).isEmpty then 0 else 1) < 30)) = true:=by rfl)
  (hline:(apos.endLine == cpos.line) = true:=by rfl) (hs:starEach (e :: es) X.env = (false,eval e X.env) :: starEach es X.env:=by rfl) (hplain:(backTo cpos (starEach es X.env)).any (·.1) = false:=by rfl) :
  PE X (.Call (.Attribute o name apos) (e :: es) [] cpos) (tBM X.K T r to t):=by
 intro pins s σ H Q I h
 refine wpAny_Call_method_late hbase hfew hline rfl (thn (ho pins s σ H _ I h) fun v s1 ⟨x,H1,I1,r1,ty,q1⟩=>?_)
 obtain ⟨h1,h2⟩:=tyV_is I1 r1 ty
 refine ⟨T,id,pa,slot,hty,h1,h2,?_⟩
 have hA:=ha cpos pins s1 σ H1 _ I1 q1
 rw [hs] at hA ⊢
 refine Calls.callWith_builtin (by show (false || (backTo cpos (starEach es X.env)).any (·.1)) = false;rw [hplain] <;> rfl) (Calls.evalArgs_plain ?_)
 exact thn hA fun us s2 ⟨vs,H2,I2,r2,q2⟩=>hm pins s2 σ H2 x vs v us Q I2 r1 r2 q2
end
end L2
namespace L2
open PySem PySem.Spec PyProof.Rows
noncomputable def MtM (X:Cx)(id:String)(r:V->List V->Hp->VK->Prop):Prop :=
 ∀ (pins:List (Addr × Obj)) (s:Shared) (σ:St) (H:Hp) (x:V) (xs:List V) (v:Value) (us:List Value) (Q:VK),Inv X pins σ H s->RelV x v->Vals xs us->r x xs H Q ->
  wpAny (model X.prog X.w) X.A (call (.builtin id) (v :: us)) (EP X pins σ Q) X.xe s
theorem Vals.one:∀ {x:V} {us:List Value},Vals [x] us->∃ u,us = [u]/\RelV x u
 | _,_,.cons r .nil=>⟨_,rfl,r⟩
theorem Vals.rep {xs:List V}{us:List Value}(h:Vals xs us):∀ k:Nat,Vals (List.replicate k xs).flatten (List.replicate k us).flatten
 | 0=>.nil
 | k + 1=>by
  rw [List.replicate_succ,List.replicate_succ,List.flatten_cons,List.flatten_cons]
  exact Vals.append h (Vals.rep h k)
theorem foldl_rep (its:List Value):∀ (k:Nat) (acc:List Value),
  List.foldl (fun x1 x2=>x1 ++ x2) acc.toArray (List.replicate k its.toArray) = (acc ++ (List.replicate k its).flatten).toArray
 | 0,acc=>by simp
 | k + 1,acc=>by
  have e:acc.toArray ++ its.toArray = (acc ++ its).toArray:=by simp
  have e2:(acc ++ its) ++ (List.replicate k its).flatten = acc ++ (List.replicate (k + 1) its).flatten:=by
   rw [List.replicate_succ,List.flatten_cons,List.append_assoc]
  rw [<- e2,<- foldl_rep its k (acc ++ its),<- e,List.replicate_succ,List.foldl_cons]
section
variable {X:Cx}{pins:List (Addr × Obj)}{σ:St}{H:Hp}{s:Shared}{l b:Addr}{xs ys zs:List V}
theorem Inv.lset {its its':List Value}{n:Nat}{f:Array Value->Array Value}{t':Nat}(I:Inv X pins σ H s)(hH:H l = some (.lst xs))
  (e:s.heap.get? l = some { cls:=.type "list",data:=.seq its.toArray n }) (hf:f its.toArray = its'.toArray) (hv:Vals ys its') (hz:ys.length <= sizeLine) :
  Inv X pins σ (upd H l (.lst ys)) { s with heap:=s.heap.update l (Obj.mapSeq f),toks:=t' }:=by
 have q:=PySem.IsL.update e f
 rw [hf] at q
 refine I.write (x:=l) (e:=l) (by rw [hH];exact trivial) (.inl rfl) (fun b' u hb hu=>(Heap.get?_update_other s.heap (Obj.mapSeq f) (Ne.symm hb)).trans hu) ⟨_,q⟩ ?_
 exact ⟨hz,its',_,hv,q⟩
theorem Inv.lnew {its:List Value}{t':Nat}(I:Inv X pins σ H s)(hv:Vals ys its)(hz:ys.length <= sizeLine) :
  Inv X pins σ (upd H s.heap.objs.size (.lst ys)) { s with heap:=s.heap.push { cls:=.type "list",data:=.seq its.toArray },toks:=t' } :=
 I.laid (fun _ _ q=>Heap.get?_push_of_some _ q) (Nat.le_refl _) ⟨hz,its,0,hv,Heap.get?_push_size _ rfl⟩
theorem Inv.fresh (I:Inv X pins σ H s):H s.heap.objs.size = none:=I.hok.fresh (Nat.le_refl _)
theorem Inv.lstM (I:Inv X pins σ H s)(hH:H l = some (.lst xs)):xs.length <= sizeLine/\∃ (its:List Value) (n:Nat),Vals xs its/\xs.length = its.length/\s.heap.get? l = some { cls:=.type "list",data:=.seq its.toArray n }:=by
 obtain ⟨z,its,n,r,e⟩:=I.hok l _ hH
 exact ⟨z,its,n,r,r.length,e⟩
theorem notLongL {n:Nat}(h:n <= sizeLine):Builtin.List.listTooLong n = false:=by
 unfold Builtin.List.listTooLong
 exact decide_eq_false (by omega)
end
section
variable {X:Cx}
noncomputable def rAppend:V->List V->Hp->VK->Prop:=fun x vs H Q=>∃ l xs y,x = .ref l/\vs = [y]/\H l = some (.lst xs)/\xs.length < sizeLine/\Q .non (upd H l (.lst (xs ++ [y])))
theorem mt_append:MtM X "list.append" rAppend:=by
 intro pins s σ H x vs v us Q I rx rv h
 obtain ⟨l,xs,y,rfl,rfl,hH,hz,q⟩:=h
 cases rx
 obtain ⟨u,rfl,ru⟩:=rv.one
 obtain ⟨z,its,n,r,hl,e⟩:=I.lstM hH
 refine call_meets F.slot_list_append ⟨_,e,rfl⟩ F.entry_list_append (F.args_list_append_2 _ _) (PySem.list_append l its.toArray n u (by rw [List.size_toArray];omega)) ⟨e,?_⟩
 refine ⟨.non,_,I.lset (its':=its ++ [u]) hH e (by simp) (r.append (.cons ru .nil)) ?_,rfl,q⟩
 rw [List.length_append,List.length_singleton]
 omega
noncomputable def rCat:R2:=fun x y H Q=>∃ l b xs zs,x = .ref l/\y = .ref b/\H l = some (.lst xs)/\H b = some (.lst zs)/\xs.length + zs.length <= sizeLine/\∀ p,H p = none->Q (.ref p) (upd H p (.lst (xs ++ zs)))
theorem op_cat:OpR X (binaryOp .Add) rCat:=by
 intro pins s σ H x y v u Q I rx ry h
 obtain ⟨l,b,xs,zs,rfl,rfl,hH,hB,hz,q⟩:=h
 cases rx
 cases ry
 obtain ⟨z,its,n,r,hl,e⟩:=I.lstM hH
 obtain ⟨z2,its2,n2,r2,hl2,e2⟩:=I.lstM hB
 refine PySem.P.add_list e e2 ?_ (by rw [List.size_toArray,List.size_toArray];omega)
 have ea:its.toArray ++ its2.toArray = (its ++ its2).toArray:=by simp
 rw [ea]
 exact ⟨.ref _,_,I.lnew (t':=s.toks) (r.append r2) (by rw [List.length_append];omega),rfl,q _ I.fresh⟩
noncomputable def rRep:R2:=fun x y H Q=>∃ l k xs,x = .ref l/\y = .int k/\H l = some (.lst xs)/\-(2 ^ 63) <= k/\k < 2 ^ 63/\xs.length * k.toNat <= sizeLine /\
 ∀ p,H p = none->Q (.ref p) (upd H p (.lst (List.replicate k.toNat xs).flatten))
theorem len_rep {α:Type}(xs:List α)(k:Nat):(List.replicate k xs).flatten.length = k * xs.length:=by
 induction k with
 | zero=>simp
 | succ k ih=>rw [List.replicate_succ,List.flatten_cons,List.length_append,ih,Nat.succ_mul,Nat.add_comm]
theorem op_rep:OpR X (binaryOp .Mult) rRep:=by
 intro pins s σ H x y v u Q I rx ry h
 obtain ⟨l,k,xs,rfl,rfl,hH,h1,h2,hz,q⟩:=h
 cases rx
 obtain ⟨t,rfl⟩:=ry
 obtain ⟨z,its,n,r,hl,e⟩:=I.lstM hH
 have hlen:its.toArray.size * k.toNat <= sizeLine:=by rw [List.size_toArray,<- hl];exact hz
 have hcap:¬ its.toArray.size * k.toNat > (2 ^ 63 - 1) / 8:=by
  have:(sizeLine:Nat) <= (2 ^ 63 - 1) / 8:=by decide
  omega
 have hfit:¬ (!Builtin.List.listFitsIndex k) = true:=by
  rw [fitsIndex_both h1 h2]
  exact Bool.false_ne_true
 have hlong:¬ Builtin.List.listTooLong (its.toArray.size * k.toNat) = true:=by
  rw [notLongL hlen]
  exact Bool.false_ne_true
 have hnew:List.foldl (fun x1 x2=>x1 ++ x2) #[] (List.replicate (if its.toArray.isEmpty = true then 0 else k.toNat) its.toArray) = (List.replicate k.toNat its).flatten.toArray:=by
  have f0:∀ m:Nat,List.foldl (fun x1 x2=>x1 ++ x2) #[] (List.replicate m its.toArray) = (List.replicate m its).flatten.toArray:=fun m=>by
   have:=foldl_rep its m []
   rw [List.nil_append] at this
   exact this
  rw [f0]
  cases its with
  | nil=>simp
  | cons a r'=>rw [if_neg (by simp)]
 refine wpAny_binaryOp_repeat_ref (T:="list") (U:="int") (by decide) ⟨_,e,rfl⟩ (fun s'=>typeIs_int s' k t) noFill_list_mul F.fills_int_mul F.slot_int_rmul repeat_list F.slot_int_index.lookup
  (call_meets F.slot_int_rmul (typeIs_int s k t) F.entry_int_rmul (F.args_int_rmul_2 _ _) (int___rmul___int_list k t l its.toArray n)
   ⟨e,rfl,⟨_,e,rfl⟩,call_meets F.slot_list_mul ⟨_,e,rfl⟩ F.entry_list_mul (F.args_list_mul_2 _ _) (AutoListH.list___mul___list_int_3 l its.toArray n k t hfit hcap hlong) ⟨e,?_⟩⟩)
 rw [hnew]
 exact ⟨.ref _,_,I.lnew (t':=s.toks) (r.rep k.toNat) (by rw [len_rep,Nat.mul_comm];exact hz),rfl,q _ I.fresh⟩
end
section
variable {prog:Program}{w:World}{A:Around}{E:Value->Shared->Prop}{s:Shared}
set_option maxRecDepth 100000 in
end
section
variable {X:Cx}
end
end L2
namespace Att
open PySem PySem.W PySem.Calls PyProof.Rows
theorem ints_of_wellAll {P:Params}{h:Heap}:∀ (ns:List Int) (vs:List Value),WellAll P h vs (ns.map WData.int)->IntsAre vs ns:=by
 intro ns
 induction ns with
 | nil =>
  intro vs w
  rw [List.map_nil] at w
  cases w
  exact .nil
 | cons n ns ih =>
  intro vs w
  rw [List.map_cons] at w
  cases w with
  | cons a b =>
   cases a
   exact .cons _ _ (ih _ b)
theorem script_of {l:OpenLaw}{n:Nat}(hn:l.most = some n){P:Params}{h:Heap}{args:List WData}{vals:List Value}
  (hpre:l.row.toRowW.claim.pre args = true) (hwl:WellAll P h vals args) :
  ∃ a vs ns,vals = [Value.ref a]/\args = [WData.list (ns.map WData.int)]/\h.get? a = some { cls:=.type "list",data:=.seq vs.toArray }/\IntsAre vs ns/\ns.length <= n:=by
 have hsh:WShape.hasAll [] args [.list .int] = true:=(pre_splitW hpre).1
 have hc:l.pre.holds [] { args:=args } = true:=(pre_splitW hpre).2
 obtain ⟨d,r,rfl,h1,h2⟩:=hasAllW_cons hsh
 obtain rfl:=hasAllW_nil h2
 obtain ⟨xs,rfl,h3⟩:=hasW_list h1
 obtain ⟨ns,rfl⟩:=items_int h3
 have hlen:ns.length <= n:=by
  unfold OpenLaw.pre at hc
  have h4:(WTm.not (.lt (.lit (.int (n:Int))) (.len (.arg 0)))).holds [] { args:=[.list (ns.map .int)] } = true:=by
   have h4:=(holds_andW hc).1
   rw [hn] at h4
   exact h4
  have h5:=condW_of h4 (w_not (w_lt w_lit (w_len_list (w_arg rfl))))
  rw [List.length_map] at h5
  refine Nat.le_of_not_lt fun q=>?_
  have q':(n:Int) < ((ns.length:Nat):Int):=by omega
  first
   | (rw [decide_eq_true q'] at h5;exact absurd h5 (by decide))
   | (simp at h5;omega)
 cases hwl with
 | cons w1 w2 =>
  cases w2
  cases w1 with
  | list ho hall=>exact ⟨_,_,ns,rfl,rfl,ho,ints_of_wellAll ns _ hall,hlen⟩
theorem post_true (l:OpenLaw)(args:List WData):l.row.toRowW.claim.post args (.bool true) args = true :=
 postW_of (r:=l.row.toRowW) (X:=(true == true))
  (show WShape.has [] (.bool true) .bool = true by first | rfl | decide | simp [WShape.has,WShape.arms,WShape.armsAll])
  (show (WTm.eq .res (.lit (.bool true))).value [] { args:=args,res:=some (.bool true),after:=args } = some (.bool (true == true)) from w_eq_bool (w_res rfl) w_lit) rfl
theorem attach_call {l:OpenLaw}{n:Nat}{q:Program}{loose:List Str}{XP:(Str->Option Value)->Heap->Prop}{YP:World->Heap->Prop}{d:DefRec}
  (hn:l.most = some n) (hdf:d.params.defaults = [])
  (call:∀ (w:World) (s₀ s₁:Shared) (mg mb:Str->Option Value) (fa:Addr) (o:Obj) (pm cd doc:Value) (a:Addr) (vs:List Value) (ns:List Int),
   Ground q loose [] XP w s₀ mg mb s₁.heap->YP w s₁.heap ->
   s₁.heap.get? fa = some o->o.data = .func (docDef d.name d.params d.body d.scope pm cd doc)->s₁.heap.CodeRec cd d.name->mg d.name = some (.ref fa) ->
   s₁.heap.get? a = some { cls:=.type "list",data:=.seq vs.toArray }->IntsAre vs ns->ns.length <= n->s₁.gens = #[] ->
   codeAny (model l.prog w) callerA (.call (.ref fa) ⟨[.ref a],[]⟩) (fun r s'=>r = .ok (.ret (.bool true))/\OldK s₁.heap s'.heap/\s'.os = s₁.os/\AllBare s'.gens) s₁) :
  WalkO q loose XP YP l.row.toRowW d [] (fun f vs=>PySem.call f vs):=by
 intro w s₀ s₁ mg mb G Y fa o pm cd doc dV kV ho hd hcd hD hmg hg args vals as hpre hlay hrd hwl hlo
 obtain rfl:dV = .none:=Dflts.none hD hdf
 obtain rfl:kV = .none:=Dflts.noKw hD
 obtain ⟨a,vs,ns,rfl,rfl,hobj,hints,hlen⟩:=script_of hn hpre hwl
 refine enter_call (codeAny_mono (call w s₀ s₁ mg mb fa o pm cd doc a vs ns G Y ho (fd_plain hd) hcd hmg hobj hints hlen hg) fun r s' hq=>?_)
 obtain ⟨rfl,h2,h3,h4⟩:=hq
 exact ⟨.inl ⟨.bool true,.bool true,[],rfl,fun _=>rfl,.bool true,post_true l _,fun _=>⟨List.Pairwise.nil,fun _ hm=>(nomatch hm)⟩⟩,h2,h3,h4⟩
section
variable {prog:Program}{w:World}{A:Around}{E:Value->Shared->Prop}{s:Shared}{K:Frag}
end
end Att
namespace L2
open PySem PySem.Spec PyProof.Rows
theorem vals_ints:∀ {vs:List Value} {ns:List Int},IntsAre vs ns->Vals (ns.map V.int) vs
 | _,_,.nil=>.nil
 | _,_,.cons n t h=>.cons ⟨t,rfl⟩ (vals_ints h)
noncomputable def Only (H:Hp):Prop:=∀ b,H b = none\/∃ o xs,H b = some (.frz o (.lst xs))
theorem law_call {P:Program}{w:World}{K:PySem.W.Frag}{mg mb:Str->Option Value}{CX:CXT}{k:Nat}{fa a:Addr}{fd:FuncData}{x:Str}{sp:Sp}{s₁:Shared}{vs:List Value}{ns:List Int}
  (KX:K.In s₁.heap) (hns:s₁.heap.Ns mainGlobals mg) (hb:s₁.heap.Ns builtinsNs mb) (hbb:∀ x:Str,x ≠ "__name__"->mb x = bootBuiltins x) (hlim:s₁.heap.NoLimit) (hg:s₁.gens = #[])
  (ha:s₁.heap.get? a = some { cls:=.type "list",data:=.seq vs.toArray }) (hi:IntsAre vs ns) (hl:ns.length <= sizeLine) (hr:Room k callerA)
  (F:∀ base:Heap,K.In base->base.Ns mainGlobals mg->FnOk P w K mg base CX k fa fd [x] sp) (hbind:∀ (s:Shared) (u:Value),BindsTo s fd ⟨[u],[]⟩ [(x,u)])
  (hsp:∀ H:Hp,Only H->SqL K H a (ns.map V.int)->sp [.ref a] H (fun v _=>v = .bl true) fun _ _ _=>False)
  (hCX:∀ H e s',CX [] H s₁ (fun _ _ _=>False) e s'->False) :
  codeAny (model P w) callerA (.call (.ref fa) ⟨[.ref a],[]⟩) (fun r s'=>r = .ok (.ret (.bool true))/\OldK s₁.heap s'.heap/\s'.os = s₁.os/\AllBare s'.gens) s₁:=by
 have rv:=vals_ints hi
 have lenV:=hi.length
 have core:∀ H:Hp,Only H->SqL K H a (ns.map V.int)->HOk P w H s₁.heap->(∀ b,H b ≠ none->b = a)->(H a ≠ none->K.lookup a = none) ->
   codeAny (model P w) callerA (.call (.ref fa) ⟨[.ref a],[]⟩) (fun r s'=>r = .ok (.ret (.bool true))/\OldK s₁.heap s'.heap/\s'.os = s₁.os/\AllBare s'.gens) s₁:=by
  intro H hO hS hok hA hK
  have base_of:∀ {b:Addr} {o:Obj},s₁.heap.get? b = some o->H b = none->(hidT s₁.heap H).get? b = some o:=fun e n=>hidT_get e n
  have noA:∀ {b:Addr} {o:Obj} {es:Array DictEntry} {ep:Nat},s₁.heap.get? b = some o->o.data = .dict es ep->H b = none:=fun {b o es ep} e d=>by
   cases q:H b with
   | none=>rfl
   | some u =>
    have e':b = a:=hA b (by rw [q];simp)
    subst e'
    rw [ha] at e;cases e
    have d':Data.seq vs.toArray _ = Data.dict es ep:=d
    cases d'
  have nsK:∀ {b:Addr} {m:Str->Option Value},s₁.heap.Ns b m->(hidT s₁.heap H).Ns b m:=fun {b m} ⟨o,es,ep,e,d,r⟩=>⟨o,es,ep,base_of e (noA e d),d,r⟩
  have hKb:K.In (hidT s₁.heap H):=fun b o e=>base_of (KX b o e) (by
   cases q:H b with
   | none=>rfl
   | some u =>
    have e':b = a:=hA b (by rw [q];simp)
    subst e'
    rw [hK (by rw [q];simp)] at e;cases e)
  have hM:Mod K mg (hidT s₁.heap H):=⟨hKb,nsK hns,⟨mb,nsK hb,hbb⟩,let ⟨mc,h1,h2⟩:=hlim;⟨mc,nsK h1,h2⟩⟩
  have e0:Env0 P w K mg (hidT s₁.heap H) callerA [] s₁ H:=⟨rfl,hM,fun b o e=>of_hidT e,Nat.le_of_eq (hidT_size _ _),trivial,fun b hb=>absurd (show b ∈ ([]:List Addr) from hb) (by simp),hok,.of_eq hg⟩
  refine codeAny_mono ((F _ hKb (nsK hns)).run callerA [] s₁ H ⟨[.ref a],[]⟩ [.ref a] [.ref a] _ _ hr e0 (hbind s₁ (.ref a)) (.cons rfl .nil) (hsp H hO hS)) fun r s' h=>?_
  cases r with
  | error e=>exact (hCX H e s' h).elim
  | ok fl =>
   cases fl with
   | next=>exact False.elim h
   | brk=>exact False.elim h
   | cont=>exact False.elim h
   | ret u =>
    obtain ⟨v,H',os,bare,un,hok',r',q⟩:=h
    have q':v = .bl true:=q
    subst q'
    obtain rfl:u = Value.bool true:=r'
    refine ⟨rfl,OldK.of_keep fun b o e=>?_,os,bare⟩
    cases q:H b with
    | none=>exact un.keep b o e q (by intro z;exact absurd (show b ∈ ([]:List Addr) from z) (by simp)) (by simp)
    | some u =>
     rcases hO b with z | ⟨ob,xs,z⟩
     ·rw [q] at z;cases z
     ·have z2:=un.frzs b ob _ z
      obtain ⟨e1,_⟩:=hok b _ z
      obtain ⟨e2,_⟩:=hok' b _ z2
      rw [e] at e1;cases e1
      exact e2
 cases hk:K.lookup a with
 | some o =>
  have e:=KX a o hk
  rw [ha] at e
  cases e
  refine core (fun _=>none) (fun _=>.inl rfl) (.inr ⟨_,vs.toArray,_,hk,rfl,rfl,rfl,by rw [List.size_toArray,lenV];exact hl,by simpa using rv⟩) (fun b u z=>by have z':(none:Option HO) = some u:=z;cases z') (fun b z=>absurd rfl z) fun z=>absurd rfl z
 | none =>
  refine core (fun b=>if b = a then some (.frz { cls:=.type "list",data:=.seq vs.toArray } (.lst (ns.map V.int))) else none) (fun b=>?_) (.inl (.inr ⟨{ cls:=.type "list",data:=.seq vs.toArray },if_pos rfl⟩)) (fun b u z=>?_) (fun b z=>?_) fun _=>hk
  ·by_cases hb:b = a
   ·exact .inr ⟨_,_,if_pos hb⟩
   ·exact .inl (if_neg hb)
  ·by_cases hb:b = a
   ·have z':=(if_pos hb).symm.trans z
    cases z'
    subst hb
    exact ⟨ha,by rw [List.length_map];exact hl,vs,_,rv,ha⟩
   ·have z':=(if_neg hb).symm.trans z
    cases z'
  ·by_cases hb:b = a
   ·exact hb
   ·exact absurd (if_neg hb) z
end L2
namespace L2
open PySem PySem.Spec PyProof.Rows
theorem walk_of {l:PySem.W.OpenLaw}{n k:Nat}{q:Program}{loose:List Str}{XP:(Str->Option Value)->Heap->Prop}{YP:World->Heap->Prop}{d:DefRec}{K:Params->PySem.W.Frag}{CX:World->CXT}{sp:World->Sp}{x:Str}
  (hn:l.most = some n) (hn2:n <= sizeLine) (hdf:d.params.defaults = []) (hr:Room k callerA)
  (hY:∀ (w:World) (h:Heap),YP w h->(K w.params).In h)
  (F:∀ (w:World) (mg:Str->Option Value) (fa:Addr) (h:Heap),(K w.params).In h->h.Ns mainGlobals mg->mg d.name = some (.ref fa) ->
   ∃ fd:FuncData,(∀ (s:Shared) (u:Value),BindsTo s fd ⟨[u],[]⟩ [(x,u)]) /\
    ∀ base:Heap,(K w.params).In base->base.Ns mainGlobals mg->FnOk l.prog w (K w.params) mg base (CX w) k fa fd [x] (sp w))
  (hsp:∀ (w:World) (H:Hp) (a:Addr) (ns:List Int),ns.length <= n->Only H->SqL (K w.params) H a (ns.map V.int)->sp w [.ref a] H (fun v _=>v = .bl true) fun _ _ _=>False)
  (hCX:∀ (w:World) (H:Hp) (s:Shared) (e:Value) (s':Shared),CX w [] H s (fun _ _ _=>False) e s'->False) :
  PySem.W.WalkO q loose XP YP l.row.toRowW d [] (fun f vs=>PySem.call f vs):=by
 refine Att.attach_call hn hdf fun w s₀ s₁ mg mb fa o pm cd doc a vs ns G Y ho hd hcd hmg hobj hints hlen hg=>?_
 have KX:=hY w _ Y
 obtain ⟨fd,hb,hF⟩:=F w mg fa _ KX G.T.g hmg
 exact law_call KX G.T.g G.T.b G.T.builtins G.T.nolimit hg hobj hints (Nat.le_trans hlen hn2) hr hF hb (fun H hO hS=>hsp w H a ns hlen hO hS) fun H e s'=>hCX w H s₁ e s'
end L2
namespace L2
open PySem PySem.Spec PyProof.Rows
noncomputable def defArgs (s:Stmt):Arguments:=match s with
 | .FunctionDef _ a _ _ _ _ _ _ _ _=>a
 | _=>{ posonlyargs:=[],args:=[],vararg:=none,kwonlyargs:=[],kw_defaults:=[],kwarg:=none,defaults:=[] }
noncomputable def defBody (s:Stmt):List Stmt:=match s with
 | .FunctionDef _ _ b _ _ _ _ _ _ _=>b
 | _=>[]
noncomputable def defScope (s:Stmt):Scope:=match s with
 | .FunctionDef _ _ _ _ _ _ sc _ _ _=>sc
 | _=>{ kind:=.function,names:=[],isGenerator:=false,isCoroutine:=false }
abbrev E0:XK:=fun _ _ _=>False
section
variable {P:Program}{w:World}{K:PySem.W.Frag}{mg:Str->Option Value}{base:Heap}
end
section
variable {X:Cx}
end
end L2
set_option genSizeOf false
namespace L2
open PySem PySem.Spec PyProof.Rows
section
variable {κ:Type} [DecidableEq κ]
noncomputable def valV (kvs:List (κ × V))(k:κ):Option V:=(kvs.find? fun kv=>decide (kv.1 = k)).map (·.2)
noncomputable def putK (kvs:List (κ × V))(k:κ)(v:V):List (κ × V) :=
 if (kvs.any fun kv=>decide (kv.1 = k)) = true then kvs.map (fun kv=>if kv.1 = k then (kv.1,v) else kv) else kvs ++ [(k,v)]
noncomputable def dropK (kvs:List (κ × V))(k:κ):List (κ × V):=kvs.filter fun kv=>decide (kv.1 ≠ k)
theorem valV_pos {p:κ × V}{r:List (κ × V)}{k:κ}(e:p.1 = k):valV (p :: r) k = some p.2:=by simp [valV,List.find?_cons,e]
theorem valV_neg {p:κ × V}{r:List (κ × V)}{k:κ}(e:¬ p.1 = k):valV (p :: r) k = valV r k:=by simp [valV,List.find?_cons,e]
theorem valV_any (k:κ):∀ kvs:List (κ × V),(kvs.any fun kv=>decide (kv.1 = k)) = (valV kvs k).isSome
 | []=>rfl
 | p :: r=>by
  rw [List.any_cons]
  by_cases e:p.1 = k
  ·simp only [valV_pos e,decide_eq_true e,Bool.true_or,Option.isSome_some]
  ·rw [valV_neg e,decide_eq_false e,Bool.false_or];exact valV_any k r
theorem length_putK (kvs:List (κ × V))(k:κ)(v:V):(putK kvs k v).length <= kvs.length + 1:=by
 unfold putK
 split
 ·rw [List.length_map];omega
 ·rw [List.length_append,List.length_cons,List.length_nil];omega
theorem RelO.isSome_eq {o:Option V}{u:Option Value}(r:RelO o u):o.isSome = u.isSome:=by
 cases o with
 | none=>cases u with
  | none=>rfl
  | some _=>exact (show False from r).elim
 | some _=>cases u with
  | none=>exact (show False from r).elim
  | some _=>rfl
theorem RelO.getD {o:Option V}{u:Option Value}{d:V}{d':Value}(r:RelO o u)(rd:RelV d d'):RelV (o.getD d) (u.getD d'):=by
 cases o with
 | none=>cases u with
  | none=>exact rd
  | some _=>exact (show False from r).elim
 | some _=>cases u with
  | none=>exact (show False from r).elim
  | some _=>exact r
theorem KV.val {kvs:List (κ × V)}{vs:List (κ × Value)}(r:KV kvs vs)(k:κ):RelO (valV kvs k) (valueAt vs k):=by
 unfold KV at r
 induction r with
 | nil=>exact True.intro
 | @cons p q ps qs h t ih =>
  obtain ⟨h1,h2⟩:=h
  by_cases e:p.1 = k
  ·have e':q.1 = k:=h1.symm.trans e
   have b:valueAt (q :: qs) k = some q.2:=by simp [valueAt,List.find?_cons,e']
   rw [valV_pos e,b];exact h2
  ·have e':¬ q.1 = k:=fun z=>e (h1.trans z)
   have b:valueAt (q :: qs) k = valueAt qs k:=by simp [valueAt,List.find?_cons,e']
   rw [valV_neg e,b];exact ih
theorem KV.any {kvs:List (κ × V)}{vs:List (κ × Value)}(r:KV kvs vs)(k:κ):(kvs.any fun kv=>decide (kv.1 = k)) = vs.any fun kv=>decide (kv.1 = k):=by
 unfold KV at r
 induction r with
 | nil=>rfl
 | cons h t ih=>rw [List.any_cons,List.any_cons,ih,h.1]
theorem KV.repl {kvs:List (κ × V)}{vs:List (κ × Value)}(r:KV kvs vs)(k:κ){y:V}{u:Value}(ry:RelV y u) :
  KV (kvs.map fun kv=>if kv.1 = k then (kv.1,y) else kv) (vs.map fun kv=>if kv.1 = k then (kv.1,u) else kv):=by
 unfold KV at r ⊢
 induction r with
 | nil=>exact .nil
 | @cons p q ps qs h t ih =>
  rw [List.map_cons,List.map_cons]
  refine .cons ?_ ih
  obtain ⟨h1,h2⟩:=h
  by_cases e:p.1 = k
  ·rw [if_pos e,if_pos (h1.symm.trans e)];exact ⟨h1,ry⟩
  ·rw [if_neg e,if_neg (fun z=>e (h1.trans z))];exact ⟨h1,h2⟩
theorem KV.put {kvs:List (κ × V)}{vs:List (κ × Value)}(r:KV kvs vs)(k:κ){y:V}{u:Value}(ry:RelV y u):KV (putK kvs k y) (stored vs k u):=by
 unfold putK stored
 rw [r.any k]
 by_cases e:(vs.any fun kv=>decide (kv.1 = k)) = true
 ·rw [if_pos e,if_pos e];exact r.repl k ry
 ·rw [if_neg e,if_neg e];exact Paired.snoc r ⟨rfl,ry⟩
theorem KV.drop {kvs:List (κ × V)}{vs:List (κ × Value)}(r:KV kvs vs)(k:κ):KV (dropK kvs k) (without vs k):=by
 unfold KV at r ⊢
 unfold dropK without
 induction r with
 | nil=>exact .nil
 | @cons p q ps qs h t ih =>
  obtain ⟨h1,h2⟩:=h
  rw [List.filter_cons,List.filter_cons]
  by_cases e:p.1 = k
  ·have a:¬ decide (p.1 ≠ k) = true:=by simp [e]
   have b:¬ decide (q.1 ≠ k) = true:=by simp [h1.symm.trans e]
   rw [if_neg a,if_neg b];exact ih
  ·have e':¬ q.1 = k:=fun z=>e (h1.trans z)
   have a:decide (p.1 ≠ k) = true:=by simp [e]
   have b:decide (q.1 ≠ k) = true:=by simp [e']
   rw [if_pos a,if_pos b];exact .cons ⟨h1,h2⟩ ih
theorem KV.length {kvs:List (κ × V)}{vs:List (κ × Value)}(r:KV kvs vs):kvs.length = vs.length:=Paired.length r
theorem dropK_le (kvs:List (κ × V))(k:κ):(dropK kvs k).length <= kvs.length:=List.length_filter_le _ _
end
theorem kV_is {P:Program}{w:World}{k:Key}{u:Value}(r:RelV (kV k) u):(mixKind P w).is k u = true:=by
 cases k with
 | inl i=>obtain ⟨t,e⟩:=(show ∃ t,u = Value.int i t from r);subst e;exact mixKind_int P w i t
 | inr x=>obtain ⟨t,e⟩:=(show ∃ t,u = Value.str x t from r);subst e;exact mixKind_str P w x t
theorem items_are {P:Program}{w:World}:∀ {ks:List Key} {us:List Value},Vals (ks.map kV) us->ItemsAre (mixKind P w) ks us
 | [],_,r=>by rw [List.map_nil] at r;cases r;exact .nil
 | k :: ks,_,r=>by
  rw [List.map_cons] at r
  cases r with
  | cons h t=>exact .cons (kV_is h) (items_are t)
abbrev KT (H:Hp):List (List Key × V)->List (List Key × Addr × Value)->Prop:=Paired fun p q=>p.1 = q.1/\H q.2.1 = some (.tup (p.1.map kV))/\RelV p.2 q.2.2
theorem KT.val {H:Hp}{kvs:List (List Key × V)}{xs:List (List Key × Addr × Value)}(r:KT H kvs xs)(k:List Key):RelO (valV kvs k) ((atKey xs k).map (·.2)):=by
 induction r with
 | nil=>exact True.intro
 | @cons p q ps qs h t ih =>
  obtain ⟨h1,_,h2⟩:=h
  by_cases e:p.1 = k
  ·have e':q.1 = k:=h1.symm.trans e
   have b:atKey (q :: qs) k = some q.2:=by simp [atKey,List.find?_cons,e']
   rw [valV_pos e,b];exact h2
  ·have e':¬ q.1 = k:=fun z=>e (h1.trans z)
   have b:atKey (q :: qs) k = atKey qs k:=by simp [atKey,List.find?_cons,e']
   rw [valV_neg e,b];exact ih
theorem KT.repl {H:Hp}{kvs:List (List Key × V)}{xs:List (List Key × Addr × Value)}(r:KT H kvs xs)(k:List Key){y:V}{u:Value}(ry:RelV y u) :
  KT H (kvs.map fun kv=>if kv.1 = k then (kv.1,y) else kv) (xs.map (putAt k u)):=by
 induction r with
 | nil=>exact .nil
 | @cons p q ps qs h t ih =>
  rw [List.map_cons,List.map_cons]
  refine .cons ?_ ih
  obtain ⟨h1,h2,h3⟩:=h
  unfold putAt
  by_cases e:p.1 = k
  ·rw [if_pos e,if_pos (h1.symm.trans e)];exact ⟨h1,h2,ry⟩
  ·rw [if_neg e,if_neg (fun z=>e (h1.trans z))];exact ⟨h1,h2,h3⟩
theorem KT.put {H:Hp}{kvs:List (List Key × V)}{xs:List (List Key × Addr × Value)}(r:KT H kvs xs)(k:List Key){b:Addr}{y:V}{u:Value}(hb:H b = some (.tup (k.map kV)))(ry:RelV y u) :
  KT H (putK kvs k y) (storedH xs k b u):=by
 have e:(kvs.any fun kv=>decide (kv.1 = k)) = (atKey xs k).isSome:=by
  rw [valV_any,(r.val k).isSome_eq,Option.isSome_map]
 unfold putK storedH
 rw [e]
 by_cases q:(atKey xs k).isSome = true
 ·rw [if_pos q,if_pos q];exact r.repl k ry
 ·rw [if_neg q,if_neg q];exact Paired.snoc r ⟨rfl,hb,ry⟩
theorem KT.keeps {H H':Hp}{kvs:List (List Key × V)}{xs:List (List Key × Addr × Value)}(r:KT H kvs xs)(ht:∀ b ys,H b = some (.tup ys)->H' b = some (.tup ys)):KT H' kvs xs :=
 Paired.mapP r fun _ _ z=>⟨z.1,ht _ _ z.2.1,z.2.2⟩
section
variable {P:Program}{w:World}{H:Hp}{h:Heap}{a:Addr}
theorem rd_of {u:HO}(ok:HOk P w H h)(e:Rd H a u):ObjOk P w H h a u:=e.ok ok
theorem dk_rd {kvs:List (Key × V)}(ok:HOk P w H h)(e:Rd H a (.dK kvs)):kvs.length <= sizeLine/\(a == sysModules) = false/\∃ vs,KV kvs vs/\h.DictOf (mixKind P w) a vs :=
 show ObjOk P w H h a (.dK kvs) from rd_of ok e
theorem dk_of {kvs:List (Key × V)}(ok:HOk P w H h)(e:H a = some (.dK kvs)):kvs.length <= sizeLine/\(a == sysModules) = false/\∃ vs,KV kvs vs/\h.DictOf (mixKind P w) a vs:=dk_rd ok (.inl e)
theorem key_of {ks:List Key}(ok:HOk P w H h)(e:H a = some (.tup (ks.map kV))):(tupleKind (mixKind P w)).is h ks a:=by
 obtain ⟨_,its,r,o,h1,h2,n,h3⟩:=(show ObjOk P w H h a (.tup (ks.map kV)) from ok a _ e)
 exact ⟨o,its.toArray,n,h1,h2,h3,by simpa using items_are r⟩
theorem dt_rd {kvs:List (List Key × V)}(ok:HOk P w H h)(e:Rd H a (.dT kvs)):kvs.length <= sizeLine/\(a == sysModules) = false /\
  ∃ xs,KT H kvs xs/\h.DictOfH (tupleKind (mixKind P w)) a xs:=by
 obtain ⟨z,y,xs,r,o,es,ep,h1,h2,h3,h4,h5⟩:=(show ObjOk P w H h a (.dT kvs) from rd_of ok e)
 refine ⟨z,y,xs,r,o,es,ep,h1,h2,h3,h4,fun x hx=>?_,h5⟩
 have all:∀ {l:List (List Key × V)} {m:List (List Key × Addr × Value)},KT H l m->∀ x ∈ m,(tupleKind (mixKind P w)).is h x.1 x.2.1:=by
  intro l m q
  induction q with
  | nil=>intro x hx;exact nomatch hx
  | @cons p q ps qs hq t ih =>
   intro x hx
   rcases List.mem_cons.mp hx with e | hx
   ·subst e
    exact key_of ok (by rw [<- hq.1];exact hq.2.1)
   ·exact ih x hx
 exact all r x hx
theorem dt_of {kvs:List (List Key × V)}(ok:HOk P w H h)(e:H a = some (.dT kvs)):kvs.length <= sizeLine/\(a == sysModules) = false /\
 ∃ xs,KT H kvs xs/\h.DictOfH (tupleKind (mixKind P w)) a xs:=dt_rd ok (.inl e)
end
noncomputable def DGet (H:Hp)(a:Addr)(y:V)(r:Option V):Prop :=
 (∃ kvs k,Rd H a (.dK kvs)/\y = kV k/\r = valV kvs k)\/∃ kvs k b,Rd H a (.dT kvs)/\y = .ref b/\H b = some (.tup (k.map kV))/\r = valV kvs k
noncomputable def DPut (H:Hp)(a:Addr)(y v:V)(H':Hp):Prop :=
 (∃ kvs k,H a = some (.dK kvs)/\y = kV k/\kvs.length < sizeLine/\H' = upd H a (.dK (putK kvs k v))) \/
 ∃ kvs k b,H a = some (.dT kvs)/\y = .ref b/\H b = some (.tup (k.map kV))/\kvs.length < sizeLine/\H' = upd H a (.dT (putK kvs k v))
theorem DGet.k {H:Hp}{a:Addr}{kvs:List (Key × V)}{k:Key}(e:H a = some (.dK kvs)):DGet H a (kV k) (valV kvs k):=.inl ⟨kvs,k,.inl e,rfl,rfl⟩
theorem DPut.k {H:Hp}{a:Addr}{kvs:List (Key × V)}{k:Key}{v:V}(e:H a = some (.dK kvs))(hl:kvs.length < sizeLine):DPut H a (kV k) v (upd H a (.dK (putK kvs k v))):=.inl ⟨kvs,k,e,rfl,hl,rfl⟩
section
variable {X:Cx}{pins:List (Addr × Obj)}{σ:St}{H:Hp}{s:Shared}{a:Addr}{y v:V}{u r:Value}{o:Option V}{A:Around}{E:Value->Shared->Prop}
theorem Inv.big (I:Inv X pins σ H s):sysModules < s.heap.objs.size:=by
 have h:mainGlobals < s.heap.objs.size:=(I.mod.glob.keeps I.bk).lt
 exact Nat.lt_trans (by decide) h
theorem d_getItem {Q:Value->Shared->Prop}(hu:A.units + 1 < cLine)(I:Inv X pins σ H s)(g:DGet H a y (some v))(ry:RelV y u)(h:∀ w' s',Inv X pins σ H s'->RelV v w'->Q w' s') :
  wpAny (model X.prog X.w) A (getItem (.ref a) u) Q E s:=by
 rcases g with ⟨kvs,k,e,ey,l⟩ | ⟨kvs,k,b,e,ey,eb,l⟩
 ·subst ey
  obtain ⟨z,hd,vs,rel,dd⟩:=dk_rd I.hok e
  obtain ⟨w',hw,rw'⟩:=RelO.some_of (v:=v) (o:=valueAt vs k) (by rw [l];exact rel.val k)
  exact wpAny_getItem_of (kV_is ry) dd.mapOf hw (h w' _ (I.tok _) rw')
 ·subst ey
  cases (show u = Value.ref b from ry)
  obtain ⟨z,hd,xs,rel,dd⟩:=dt_rd I.hok e
  obtain ⟨w',hw,rw'⟩:=RelO.some_of (v:=v) (o:=(atKey xs k).map (·.2)) (by rw [l];exact rel.val k)
  obtain ⟨p,hp,hp2⟩:=Option.map_eq_some_iff.mp hw
  refine wpAny_getItem_heap (tupleKind_room_in1 hu) (key_of I.hok eb) dd hp ?_
  rw [hp2]
  exact h w' _ (I.tok _) rw'
theorem d_in {Q:Value->Shared->Prop}(hu:A.units + 1 < cLine)(I:Inv X pins σ H s)(g:DGet H a y o)(ry:RelV y u)(h:∀ s',Inv X pins σ H s'->Q (.bool o.isSome) s') :
  wpAny (model X.prog X.w) A (compareOp .In u (.ref a)) Q E s:=by
 rcases g with ⟨kvs,k,e,ey,l⟩ | ⟨kvs,k,b,e,ey,eb,l⟩
 ·subst ey
  obtain ⟨z,hd,vs,rel,dd⟩:=dk_rd I.hok e
  refine wpAny_in_of (kV_is ry) hd dd.mapOf ?_
  rw [<- (rel.val k).isSome_eq,<- l]
  exact h _ (I.tok _)
 ·subst ey
  cases (show u = Value.ref b from ry)
  obtain ⟨z,hd,xs,rel,dd⟩:=dt_rd I.hok e
  refine wpAny_in_heap (tupleKind_room_in1 hu) (key_of I.hok eb) hd dd ?_
  have q:=(rel.val k).isSome_eq
  rw [Option.isSome_map] at q
  rw [<- q,<- l]
  exact h _ (I.tok _)
theorem d_notIn {Q:Value->Shared->Prop}(hu:A.units + 1 < cLine)(I:Inv X pins σ H s)(g:DGet H a y o)(ry:RelV y u)(h:∀ s',Inv X pins σ H s'->Q (.bool (!o.isSome)) s') :
  wpAny (model X.prog X.w) A (compareOp .NotIn u (.ref a)) Q E s:=by
 rcases g with ⟨kvs,k,e,ey,l⟩ | ⟨kvs,k,b,e,ey,eb,l⟩
 ·subst ey
  obtain ⟨z,hd,vs,rel,dd⟩:=dk_rd I.hok e
  refine wpAny_notIn_of (kV_is ry) hd dd.mapOf ?_
  rw [<- (rel.val k).isSome_eq,<- l]
  exact h _ (I.tok _)
 ·subst ey
  cases (show u = Value.ref b from ry)
  obtain ⟨z,hd,xs,rel,dd⟩:=dt_rd I.hok e
  refine wpAny_notIn_heap (tupleKind_room_in1 hu) (key_of I.hok eb) hd dd ?_
  have q:=(rel.val k).isSome_eq
  rw [Option.isSome_map] at q
  rw [<- q,<- l]
  exact h _ (I.tok _)
theorem d_write {h':Heap}{t':Nat}{ob:HO}(I:Inv X pins σ H s)(mu:Mut (H a))(hs:Heap.SameBut a s.heap h')(he:∃ q,h'.get? a = some q)(new:ObjOk X.prog X.w (upd H a ob) h' a ob) :
  Inv X pins σ (upd H a ob) { s with heap:=h',toks:=t' } :=
 I.write (x:=a) (e:=a) mu (.inl rfl) (fun b q hb z=>(hs.2 b hb).trans z) he new
theorem dk_new {P:Program}{w:World}{H':Hp}{h':Heap}{kvs:List (Key × V)}{vs:List (Key × Value)}(z:kvs.length <= sizeLine)(hd:(a == sysModules) = false)(rel:KV kvs vs)(dd:h'.DictOf (mixKind P w) a vs) :
 ObjOk P w H' h' a (.dK kvs):=⟨z,hd,vs,rel,dd⟩
theorem d_setItem {H':Hp}{Q:Unit->Shared->Prop}(hu:A.units + 1 < cLine)(I:Inv X pins σ H s)(g:DPut H a y v H')(ry:RelV y u)(rv:RelV v r)(h:∀ s',Inv X pins σ H' s'->Q () s') :
  wpAny (model X.prog X.w) A (setItem (.ref a) u r) Q E s:=by
 rcases g with ⟨kvs,k,e,ey,l,eH⟩ | ⟨kvs,k,b,e,ey,eb,l,eH⟩
 ·subst ey eH
  obtain ⟨z,hd,vs,rel,dd⟩:=dk_of I.hok e
  have hz:vs.length <= sizeLine:=by rw [<- rel.length];exact z
  have hl:(putK kvs k v).length <= sizeLine:=by have:=length_putK kvs k v;omega
  refine wpAny_setItem_pairs (hsz:=hz) (kV_is ry) dd fun h' dd' hs=>h _ ?_
  have he:∃ q,h'.get? a = some q:=let ⟨q,_,_,hq,_⟩:=dd';⟨q,hq⟩
  exact d_write I (by rw [e];exact True.intro) hs he (dk_new hl hd (rel.put k rv) dd')
 ·subst ey eH
  cases (show u = Value.ref b from ry)
  obtain ⟨z,hd,xs,rel,dd⟩:=dt_of I.hok e
  have hz:xs.length <= sizeLine:=by rw [<- Paired.length rel];exact z
  have hl:(putK kvs k v).length <= sizeLine:=by have:=length_putK kvs k v;omega
  refine wpAny_setItem_heap (hsz:=hz) (tupleKind_room_in1 hu) (key_of I.hok eb) dd fun h' dd' hs=>h _ ?_
  obtain ⟨q,es,ep,hq,h2,h3,h4,_,h5⟩:=dd'
  refine d_write I (by rw [e];exact True.intro) hs ⟨q,hq⟩ ⟨hl,hd,_,(rel.put k eb rv).keeps fun c ys ec=>?_,q,es,ep,hq,h2,h3,h4,h5⟩
  rw [upd_ne (ne_of ec e (fun z=>nomatch z))]
  exact ec
end
section
variable {X:Cx}{pins:List (Addr × Obj)}{σ:St}{H:Hp}{s:Shared}{a:Addr}{kvs:List (Key × V)}{k:Key}{u:Value}{A:Around}{E:Value->Shared->Prop}
theorem d_pop {v:V}{more:List Value}{Q:Value->Shared->Prop}(I:Inv X pins σ H s)(e:H a = some (.dK kvs))(ry:RelV (kV k) u)(l:valV kvs k = some v)(hm:more = []\/∃ x,more = [x])
  (h:∀ w' s',Inv X pins σ (upd H a (.dK (dropK kvs k))) s'->RelV v w'->Q w' s'):wpAny (model X.prog X.w) A (call (.builtin "dict.pop") (.ref a :: u :: more)) Q E s:=by
 obtain ⟨z,hd,vs,rel,dd⟩:=dk_of I.hok e
 obtain ⟨w',hw,rw'⟩:=RelO.some_of (v:=v) (o:=valueAt vs k) (by rw [<- l];exact rel.val k)
 have hp:(keyPart u).isSome = true:=by
  cases k with
  | inl i=>obtain ⟨t,q⟩:=(show ∃ t,u = Value.int i t from ry);subst q;rfl
  | inr x=>obtain ⟨t,q⟩:=(show ∃ t,u = Value.str x t from ry);subst q;rfl
 have ha:argsOk "dict.pop" ⟨.ref a :: u :: more,[]⟩:=by
  rcases hm with q | ⟨x,q⟩
  ·subst q;exact PySem.F.args_dict_pop_2 _ _
  ·subst q;exact PySem.F.args_dict_pop_3 _ _ _
 refine call_meetsIn PySem.F.slot_dict_pop dd.typeIs PySem.F.entry_dict_pop ha (meets_dict_pop_there (mixKind X.prog X.w) a (kV_is ry) more hm hp)
  ⟨vs,w',dd,by rw [<- rel.length];exact z,hw,fun h' dd' hs=>h w' _ ?_ rw'⟩
 have he:∃ q,h'.get? a = some q:=let ⟨q,_,_,hq,_⟩:=dd';⟨q,hq⟩
 exact d_write I (by rw [e];exact True.intro) hs he (dk_new (Nat.le_trans (dropK_le kvs k) z) hd (rel.drop k) dd')
theorem d_popD {r:Value}{Q:Value->Shared->Prop}(I:Inv X pins σ H s)(e:H a = some (.dK kvs))(ry:RelV (kV k) u)(l:valV kvs k = none)(h:∀ s',Inv X pins σ H s'->Q r s') :
  wpAny (model X.prog X.w) A (call (.builtin "dict.pop") [.ref a,u,r]) Q E s:=by
 obtain ⟨z,hd,vs,rel,dd⟩:=dk_of I.hok e
 have hn:valueAt vs k = none:=RelO.none_of (by rw [<- l];exact rel.val k)
 have hp:(keyPart u).isSome = true:=by
  cases k with
  | inl i=>obtain ⟨t,q⟩:=(show ∃ t,u = Value.int i t from ry);subst q;rfl
  | inr x=>obtain ⟨t,q⟩:=(show ∃ t,u = Value.str x t from ry);subst q;rfl
 exact call_meetsIn PySem.F.slot_dict_pop dd.typeIs PySem.F.entry_dict_pop (PySem.F.args_dict_pop_3 _ _ _) (meets_dict_pop_default (mixKind X.prog X.w) a (kV_is ry) hd hp r) ⟨vs,dd,hn,h _ (I.tok _)⟩
end
theorem dict_typeIs {X:Cx}{pins:List (Addr × Obj)}{σ:St}{H:Hp}{s:Shared}{a:Addr}{y:V}{o:Option V}(I:Inv X pins σ H s)(g:DGet H a y o):s.TypeIs (.ref a) "dict":=by
 rcases g with ⟨kvs,k,e,_,_⟩ | ⟨kvs,k,b,e,_,_,_⟩
 ·obtain ⟨_,_,vs,_,dd⟩:=dk_rd I.hok e
  exact dd.typeIs
 ·obtain ⟨_,_,xs,_,dd⟩:=dt_rd I.hok e
  exact dd.typeIs
section
variable {X:Cx}{o i e value:Expr}{pos pos' tpos:Pos}{td ty tv:TE}
end
theorem dk_empty {P:Program}{w:World}{H:Hp}(h:Heap)(hb:sysModules < h.objs.size):ObjOk P w H (h.push { cls:=.type "dict",data:=.dict #[] }) h.objs.size (.dK []) :=
 ⟨Nat.zero_le _,beq_eq_false_iff_ne.mpr (Ne.symm (Nat.ne_of_lt hb)),[],.nil,Heap.DictOf.new h⟩
noncomputable def tDNewK:TE:=fun _ H Q=>∀ p,H p = none->Q (.ref p) (upd H p (.dK []))
section
variable {X:Cx}{pos:Pos}
theorem pe_dnewK:PE X (.Dict [] [] pos) tDNewK:=fun pins s σ H Q I h =>
 wpAny_Dict_empty ⟨.ref s.heap.objs.size,_,I.laid (a:=s.heap.objs.size) (o:=.dK []) (t':=s.toks) (fun _ _ q=>Heap.get?_push_of_some _ q) (Nat.le_refl _) (dk_empty s.heap I.big),rfl,h _ (I.hok.fresh (Nat.le_refl _))⟩
end
section
variable {X:Cx}{pins:List (Addr × Obj)}{σ:St}{H:Hp}{s:Shared}{a:Addr}{y d:V}{u r:Value}{o:Option V}{A:Around}{E:Value->Shared->Prop}
theorem d_get1 {Q:Value->Shared->Prop}(hu:A.units + 1 < cLine)(I:Inv X pins σ H s)(g:DGet H a y o)(ry:RelV y u)(h:∀ w' s',Inv X pins σ H s'->RelV (o.getD .non) w'->Q w' s') :
  wpAny (model X.prog X.w) A (call (.builtin "dict.get") [.ref a,u]) Q E s:=by
 rcases g with ⟨kvs,k,e,ey,l⟩ | ⟨kvs,k,b,e,ey,eb,l⟩
 ·subst ey
  obtain ⟨z,hd,vs,rel,dd⟩:=dk_rd I.hok e
  refine call_meetsIn PySem.F.slot_dict_get dd.typeIs PySem.F.entry_dict_get (PySem.F.args_dict_get_2 _ _) (meets_dict_get (mixKind X.prog X.w) a (kV_is ry) hd) ⟨_,dd.mapOf,h _ _ (I.tok _) ?_⟩
  rw [l]
  exact (rel.val k).getD rfl
 ·subst ey
  cases (show u = Value.ref b from ry)
  obtain ⟨z,hd,xs,rel,dd⟩:=dt_rd I.hok e
  refine call_meetsIn PySem.F.slot_dict_get dd.typeIs PySem.F.entry_dict_get (PySem.F.args_dict_get_2 _ _) (meetsH_dict_get (tupleKind (mixKind X.prog X.w)) a b hd) ⟨tupleKind_room_in1 hu,k,xs,key_of I.hok eb,dd,h _ _ (I.tok _) ?_⟩
  rw [l]
  exact (rel.val k).getD rfl
theorem d_get2 {Q:Value->Shared->Prop}(hu:A.units + 1 < cLine)(I:Inv X pins σ H s)(g:DGet H a y o)(ry:RelV y u)(rd:RelV d r)(h:∀ w' s',Inv X pins σ H s'->RelV (o.getD d) w'->Q w' s') :
  wpAny (model X.prog X.w) A (call (.builtin "dict.get") [.ref a,u,r]) Q E s:=by
 rcases g with ⟨kvs,k,e,ey,l⟩ | ⟨kvs,k,b,e,ey,eb,l⟩
 ·subst ey
  obtain ⟨z,hd,vs,rel,dd⟩:=dk_rd I.hok e
  refine call_meetsIn PySem.F.slot_dict_get dd.typeIs PySem.F.entry_dict_get (PySem.F.args_dict_get_3 _ _ _) (meets_dict_get_default (mixKind X.prog X.w) a (kV_is ry) hd r) ⟨_,dd.mapOf,h _ _ (I.tok _) ?_⟩
  rw [l]
  exact (rel.val k).getD rd
 ·subst ey
  cases (show u = Value.ref b from ry)
  obtain ⟨z,hd,xs,rel,dd⟩:=dt_rd I.hok e
  refine call_meetsIn PySem.F.slot_dict_get dd.typeIs PySem.F.entry_dict_get (PySem.F.args_dict_get_3 _ _ _) (meetsH_dict_get_default (tupleKind (mixKind X.prog X.w)) a b hd r) ⟨tupleKind_room_in1 hu,k,xs,key_of I.hok eb,dd,h _ _ (I.tok _) ?_⟩
  rw [l]
  exact (rel.val k).getD rd
end
section
variable {X:Cx}{o e f:Expr}{apos cpos:Pos}{td ty tx:TE}
end
section
variable {X:Cx}{pins:List (Addr × Obj)}{σ:St}{H:Hp}{s:Shared}{a:Addr}{kvs:List (Key × V)}{A:Around}{E:Value->Shared->Prop}
end
section
variable {X:Cx}{pins:List (Addr × Obj)}{σ:St}{H:Hp}{s:Shared}{a:Addr}{y:V}{u:Value}{A:Around}{E:Value->Shared->Prop}
end
section
variable {X:Cx}
end
end L2
set_option genSizeOf false
namespace L2
open PySem PySem.Spec PyProof.Rows
theorem ObjOk.get {P:Program}{w:World}{H:Hp}{h:Heap}{a:Addr}{o:HO}(x:ObjOk P w H h a o):∃ ob,h.get? a = some ob:=by
 cases o with
 | lst xs=>obtain ⟨_,_,_,_,e⟩:=x;exact ⟨_,e⟩
 | tup xs=>obtain ⟨_,_,_,ob,e,_⟩:=x;exact ⟨_,e⟩
 | dK kvs=>obtain ⟨_,_,_,_,o,_,_,e,_⟩:=x;exact ⟨_,e⟩
 | dT kvs=>obtain ⟨_,_,_,_,o,_,_,e,_⟩:=x;exact ⟨_,e⟩
 | set S n=>obtain ⟨o,_,_,_,e,_⟩:=x;exact ⟨_,e⟩
 | ins C dx fs=>obtain ⟨_,_,_,e,_⟩:=x;exact ⟨_,e⟩
 | own y=>exact x
 | xd fs=>obtain ⟨_,⟨_,_,_,e,_⟩,_⟩:=x;exact ⟨_,e⟩
 | rng lo hi=>obtain ⟨_,_,_,e⟩:=x;exact ⟨_,e⟩
 | frz ob u=>obtain ⟨e,_⟩:=x;exact ⟨_,e⟩
 | tbl ps=>exact ⟨_,show h.get? a = some _ from x⟩
 | met f y=>exact ⟨_,show h.get? a = some _ from x⟩
 | ext φ=>obtain ⟨_,e,_⟩:=x;exact e
noncomputable def Calm (B:Heap)(fs:List Addr)(h0:Heap)(H':Hp)(h:Heap):Prop:=∀ b o,h.get? b = some o->b ∉ fs->((∃ u,h0.get? b = some u)\/H' b ≠ none)->B.get? b = some o
noncomputable def CXo (P:Program)(w:World):CXT:=fun outer H s E e s' =>
 ∃ (a:Addr) (cls:Value) (H':Hp) (B:Heap) (a0:Value),e = .ref a/\s'.os = s.os/\AllBare s'.gens/\Un (frs outer) [] H H' s.heap s'.heap/\HOk P w H' s'.heap /\
  Heap.FlyingW B outer a cls a0 s'.heap/\Calm B (frs outer) s.heap H' s'.heap/\E cls none H'
theorem HOk.fly {P:Program}{w:World}{H':Hp}{h h' h0 B:Heap}{fs:List Addr}(x:HOk P w H' h)(c:Calm B fs h0 H' h)(k:B.StaysIn h')(nf:∀ b ∈ fs,H' b = none):HOk P w H' h':=fun a o e =>
 (x a o e).stay (fun b u hb q=>by
  have ht:H' b ≠ none:=by
   rcases hb with rfl | hb
   ·rw [e];intro z;cases z
   ·rw [hb];intro z;cases z
  exact k b u (c b u q (fun z=>ht (nf b z)) (.inr ht))) (fun _ q=>q) fun _ _ q=>q
section
variable {X:Cx}{pins:List (Addr × Obj)}{σ:St}{H1:Hp}{s1 s':Shared}{E:XK}{e:Value}
theorem fly_on (I:Inv X pins σ H1 s1)(hx:X.ex = [])(hs:X.stack = X.env :: X.outer)(hf:X.env.frame = some X.env.locals)(h:CXo X.prog X.w X.stack H1 s1 E e s'){M:Model}{E':Value->Shared->Prop} :
  wpAny M X.A (leaving X.env e) (fun _ s''=>CXo X.prog X.w X.outer X.H₀ X.s₀ E e s'') E' s':=by
 obtain ⟨a,cls,H',B,a0,rfl,os,bare,un,hok,fly,calm,q⟩:=h
 have hfr:X.A.frames = some (X.env :: X.outer):=by rw [<- hs];exact I.ok.frames
 rw [hs] at fly
 refine wpAny_leaves_onW hfr hf fly fun h' fly' up=>?_
 have nin:∀ b o,X.s₀.heap.get? b = some o->b ≠ X.env.locals:=fun b o e z=>by
  have:=Heap.lt_size e
  rw [z] at this
  exact absurd (Nat.lt_of_lt_of_le this I.ok.above) (Nat.lt_irrefl _)
 have fst:∀ b,b ∈ frs X.stack->b = X.env.locals\/b ∈ X.fs:=fun b hb=>List.mem_cons.mp (I.stkSub b hb)
 have nst:∀ b o,X.s₀.heap.get? b = some o->b ∉ X.fs->b ∉ frs X.stack:=fun b o e n z=>by
  rcases fst b z with z | z
  ·exact nin b o e z
  ·exact n z
 have sub:∀ b ∈ X.fs,b ∈ frs X.stack:=fun b hb=>by
  rw [hs];unfold frs;rw [List.filterMap_cons,hf];exact List.mem_cons_of_mem _ hb
 have nx:∀ b:Addr,b ∉ X.ex:=fun b z=>by rw [hx] at z;cases z
 have n0:∀ b:Addr,b ∉ ([]:List Addr):=fun b z=>by cases z
 have nf:∀ b ∈ frs X.stack,H' b = none:=fun b hb=>by
  obtain ⟨_,o,ho,_⟩:=I.stack.mem hb
  exact un.free b o ho (I.stkFree b hb) (n0 b)
 have old:∀ b o,X.s₀.heap.get? b = some o->∃ u,s1.heap.get? b = some u:=fun b o e=>I.base.there b o e (nx b)
 have inB:∀ b o o',X.s₀.heap.get? b = some o->b ∉ X.fs->s'.heap.get? b = some o'->B.get? b = some o':=fun b o o' e n e'=>calm b o' e' (nst b o e n) (.inl (old b o e))
 have slots:∀ b ∈ X.fs,∀ o,s'.heap.get? b = some o->∃ sl,h'.get? b = some { o with slots:=sl }:=fun b hb o e=>by
  obtain ⟨_,o',ho,hd⟩:=fly.2.2.1.mem (by rw [<- hs];exact sub b hb)
  rw [e] at ho;cases ho
  exact up b o e hd
 refine ⟨a,cls,H',B,a0,rfl,os.trans I.os,bare,⟨fun b o e n hb _=>?_,fun b o e n hb _=>?_,fun b o e n _=>?_,fun b o e _=>?_,fun b xs z=>un.tups b xs (I.base.tups b xs z),fun b o u z=>un.frzs b o u (I.base.frzs b o u z),fun b ps z=>?_⟩,hok.fly calm fly'.1 nf,fly',fun b o e n w=>?_,q⟩
 ·have e1:=I.base.keep b o e n hb (nx b)
  have e2:=un.keep b o e1 (I.base.free b o e n (nx b)) (nst b o e hb) (n0 b)
  exact fly'.1 b o (inB b o o e hb e2)
 ·obtain ⟨sl,e1⟩:=I.base.slot b o e n hb (nx b)
  obtain ⟨sl2,e2⟩:=un.slot b _ e1 (I.base.free b o e n (nx b)) (sub b hb) (n0 b)
  obtain ⟨sl3,e3⟩:=slots b hb _ e2
  exact ⟨sl3,e3⟩
 ·obtain ⟨u,e1⟩:=old b o e
  exact un.free b u e1 (I.base.free b o e n (nx b)) (n0 b)
 ·obtain ⟨u,e1⟩:=old b o e
  obtain ⟨u2,e2⟩:=un.there b u e1 (n0 b)
  by_cases hb:b ∈ X.fs
  ·obtain ⟨sl,e3⟩:=slots b hb u2 e2
   exact ⟨_,e3⟩
  ·exact ⟨u2,fly'.1 b u2 (inB b o u2 e hb e2)⟩
 ·obtain ⟨m1,e1⟩:=I.base.tbls b ps z
  obtain ⟨m2,e2⟩:=un.tbls b _ e1
  exact ⟨m1 ++ m2,by rw [e2,Array.append_assoc]⟩
 ·have:∃ o',s'.heap.get? b = some o'/\B.get? b = some o':=by
   rcases w with ⟨u,w⟩ | w
   ·obtain ⟨u1,e1⟩:=old b u w
    obtain ⟨u2,e2⟩:=un.there b u1 e1 (n0 b)
    exact ⟨u2,e2,inB b u u2 w n e2⟩
   ·cases hh:H' b with
    | none=>exact absurd hh w
    | some y =>
     obtain ⟨u2,e2⟩:=(hok b y hh).get
     exact ⟨u2,e2,calm b u2 e2 (fun z=>w (nf b z)) (.inr w)⟩
  obtain ⟨o',_,e2⟩:=this
  have q2:=fly'.1 b o' e2
  rw [e] at q2;cases q2
  exact e2
end
theorem pass_cx {P:Program}{w:World}{K:PySem.W.Frag}{mg:Str->Option Value}{base:Heap}{N:List Str}{qual:Str}{scope:Scope}{f:Addr}{cd:Value}{A:Around}{outer:List Env}{s:Shared}{H:Hp}{E:XK} :
 Passes (CXo P w) (cxOf (CXo P w) P w K mg base N qual scope f cd A outer s H E) E:=fun pins σ H1 s1 e s' I h=>fly_on I rfl rfl rfl h
end L2
set_option genSizeOf false
namespace L2
open PySem PySem.Spec PyProof.Rows
section
variable {X:Cx}{pins:List (Addr × Obj)}{σ:St}{H:Hp}{s:Shared}{E:XK}{e:Addr}{h1:Heap}{cls:Value}{vs:List Value}
end
section
variable {X:Cx}{x:Str}{C:Addr}{bmB:List Value}{Bn newId initId:String}{np cpos pos:Pos}{e₀:Expr}{rest:List Expr}{ta:TA}{E:XK}
end
end L2
set_option genSizeOf false
namespace L2
open PySem PySem.Spec PyProof.Rows
noncomputable def xoAt (a:Addr)(cls:Value)(h:Heap):Prop:=∃ ob,h.get? a = some ob/\ob.cls = cls
section
variable {X:Cx}{pins:List (Addr × Obj)}{σ:St}{H H':Hp}{s s':Shared}{a:Addr}{cls a0:Value}{B h5:Heap}
end
end L2
set_option genSizeOf false
namespace L2
open PySem PySem.Spec PyProof.Rows
section
variable {M:Model}{A:Around}{E:Value->Shared->Prop}
variable {nm q nm' q':Str}{C N D N':Addr}{bs bm bs' bm':List Value}{hdct hdct':Bool}{sn sn':List Str}{sub sub':List Value}{ab ab':Bool}{col col':Option Bool}{dd dd':Option Addr}{k0 k1 k2 k3 k5 j0 j1 j2 j3 j5:Option Value}{newId newId':String}
end
section
variable {X:Cx}{pins pins' pn:List (Addr × Obj)}{σ:St}{H:Hp}{s:Shared}{E1:Value->Shared->Prop}
end
section
variable {X:Cx}{body:List Stmt}{pos:Pos}{ds:List Hd}{h₀:ExceptHandler}{hs:List ExceptHandler}{D:Ends}{tb:List (Addr × Obj)->(Value->Shared->Prop)->(St->XK)->TS}{pins:List (Addr × Obj)}{σ:St}{H:Hp}{s s':Shared}{e:Value}
end
end L2
set_option genSizeOf false
namespace L2
open PySem PySem.Spec PyProof.Rows
section
variable {X:Cx}{CX:CXT}{k:Nat}{f:Addr}{fd:FuncData}{ps:List Str}{sp:Sp}{EE:St->XK}{x:Str}{p pos:Pos}{e:Expr}{es:List Expr}{t:TA}
end
end L2
set_option genSizeOf false
namespace PySem.W
open PySem PySem.Spec PySem.Calls PyProof.Rows
open PySem PySem.Calls PyProof.Rows Builtin Builtin.ObjectAttr
open PySem PySem.Calls PyProof.Rows Builtin Builtin.ObjectAttr Builtin.Getset_descriptor
section
variable {prog:Program}{w:World}{A:Around}{E:Value->Shared->Prop}{s:Shared}{K:Frag}{x D:Addr}{name:Str}
end
end PySem.W
set_option genSizeOf false
namespace L2
open PySem PySem.Spec PyProof.Rows
noncomputable def clStep (cells:List (Str × Addr))(x:Str × NameKind)(cs:List (Str × Addr)):List (Str × Addr):=if (x.2 == NameKind.free) = true then (match cells.lookup x.1 with
 | some c=>(x.1,c) :: cs
 | none=>cs) else cs
noncomputable def clOf (scope:Scope)(env:Env):List (Str × Addr):=scope.names.foldl (fun cs x=>clStep env.cells x cs) []
theorem forIn_fold {α β:Type}{st:α->β->β}:∀ {l:List α} {f:α->β->Sem (ForInStep β)} (c:β),(∀ x ∈ l,∀ c,f x c = pure (.yield (st x c)))->forIn l c f = pure (l.foldl (fun c x=>st x c) c)
 | [],f,c,h=>rfl
 | x :: l,f,c,h=>by
  rw [List.forIn_cons,h x List.mem_cons_self,pure_bind]
  exact forIn_fold (st x c) fun y hy=>h y (List.mem_cons_of_mem _ hy)
theorem closureFor_is {scope:Scope}{env:Env}(h:∀ x ∈ scope.names,x.2 = .free->∃ c,env.cells.lookup x.1 = some c):closureFor scope env = pure (clOf scope env):=by
 simp only [closureFor]
 rw [forIn_fold (st:=clStep env.cells) [] (fun x hx c=>by
  obtain ⟨n,kind⟩:=x
  by_cases hk:kind = .free
  ·obtain ⟨a,ha⟩:=h _ hx hk
   subst hk
   simp [clStep,cellOf,ha]
  ·have:(kind == NameKind.free) = false:=by simpa using hk
   simp [clStep,this])]
 rfl
theorem clFold_sub {cells:List (Str × Addr)}:∀ (l:List (Str × NameKind)) (cs:List (Str × Addr)),(∀ x c,cs.lookup x = some c->cells.lookup x = some c)->∀ x c,(l.foldl (fun cs x=>clStep cells x cs) cs).lookup x = some c->cells.lookup x = some c
 | [],cs,h=>h
 | y :: l,cs,h=>clFold_sub l _ (by
  intro x c e
  change (clStep cells y cs).lookup x = some c at e
  unfold clStep at e
  split at e
  ·split at e
   ·rename_i c' hc'
    rw [List.lookup_cons] at e
    split at e
    ·rename_i q
     have:=eq_of_beq q
     subst this
     rw [hc'];exact e
    ·exact h x c e
   ·exact h x c e
  ·exact h x c e)
theorem clFold_has {cells:List (Str × Addr)}:∀ (l:List (Str × NameKind)) (cs:List (Str × Addr)) (x:Str),((∃ c,cs.lookup x = some c)\/((x,NameKind.free) ∈ l/\∃ c,cells.lookup x = some c))->∃ c,(l.foldl (fun cs x=>clStep cells x cs) cs).lookup x = some c
 | [],cs,x,h=>by
  rcases h with h | ⟨h,_⟩
  ·exact h
  ·cases h
 | y :: l,cs,x,h=>by
  refine clFold_has l _ x ?_
  rcases h with ⟨c,e⟩ | ⟨hm,c,e⟩
  ·left
   change ∃ c,(clStep cells y cs).lookup x = some c
   unfold clStep
   split
   ·split
    ·rename_i c' _
     rw [List.lookup_cons]
     split
     ·exact ⟨c',rfl⟩
     ·exact ⟨c,e⟩
    ·exact ⟨c,e⟩
   ·exact ⟨c,e⟩
  ·rcases List.mem_cons.mp hm with q | q
   ·left
    subst q
    simp [clStep,e]
   ·exact .inr ⟨q,c,e⟩
theorem lookup_relabel_free {env:Env}(hk:env.scope.kind = .function):∀ {names:List (Str × NameKind)} {x:Str},names.lookup x = some .free->env.kindOf x = some .cell ->
  (names.map fun (n,k)=>if (k == NameKind.free && env.scope.kind == .function && env.kindOf n == some .cell) then (n,NameKind.cell) else (n,k)).lookup x = some .cell
 | [],_,h,_=>by simp at h
 | (n,k) :: r,x,h,hc=>by
  have ih:=@lookup_relabel_free env hk r x
  show List.lookup x ((if (k == NameKind.free && env.scope.kind == .function && env.kindOf n == some .cell) = true then (n,NameKind.cell) else (n,k)) :: _) = _
  cases hx:x == n with
  | true =>
   simp only [List.lookup_cons,hx] at h
   cases h
   have:=eq_of_beq hx
   subst this
   simp [List.lookup_cons,hk,hc]
  | false =>
   simp only [List.lookup_cons,hx] at h
   by_cases hq:(k == NameKind.free && env.scope.kind == .function && env.kindOf n == some .cell) = true
   ·rw [if_pos hq];simp only [List.lookup_cons,hx];exact ih h hc
   ·rw [if_neg hq];simp only [List.lookup_cons,hx];exact ih h hc
theorem lookup_relabel_inv {env:Env}:∀ {names:List (Str × NameKind)} {x:Str} {k:NameKind},(∀ y ∈ names,y.2 ≠ .cell) ->
  (names.map fun (n,k)=>if (k == NameKind.free && env.scope.kind == .function && env.kindOf n == some .cell) then (n,NameKind.cell) else (n,k)).lookup x = some k->k = .cell\/k = .free->(x,NameKind.free) ∈ names
 | [],_,_,_,h,_=>by simp at h
 | (n,k) :: r,x,k',hn,h,hk=>by
  have ih:=@lookup_relabel_inv env r x k' fun y hy=>hn y (List.mem_cons_of_mem _ hy)
  have h':List.lookup x ((if (k == NameKind.free && env.scope.kind == .function && env.kindOf n == some .cell) = true then (n,NameKind.cell) else (n,k)) :: (r.map fun (n,k)=>if (k == NameKind.free && env.scope.kind == .function && env.kindOf n == some .cell) then (n,NameKind.cell) else (n,k))) = some k':=h
  cases hx:x == n with
  | true =>
   have e:=eq_of_beq hx
   subst e
   by_cases hq:(k == NameKind.free && env.scope.kind == .function && env.kindOf x == some .cell) = true
   ·have:k = .free:=by
     simp only [Bool.and_eq_true] at hq
     exact eq_of_beq hq.1.1
    subst this
    exact List.mem_cons_self
   ·rw [if_neg hq] at h'
    simp only [List.lookup_cons,hx] at h'
    cases h'
    rcases hk with hk | hk
    ·exact absurd hk (hn _ List.mem_cons_self)
    ·have hk:k = .free:=hk
     subst hk
     exact List.mem_cons_self
  | false =>
   have h2:(r.map fun (n,k)=>if (k == NameKind.free && env.scope.kind == .function && env.kindOf n == some .cell) then (n,NameKind.cell) else (n,k)).lookup x = some k':=by
    by_cases hq:(k == NameKind.free && env.scope.kind == .function && env.kindOf n == some .cell) = true
    ·rw [if_pos hq] at h';simpa only [List.lookup_cons,hx] using h'
    ·rw [if_neg hq] at h';simpa only [List.lookup_cons,hx] using h'
   exact List.mem_cons_of_mem _ (ih h2 hk)
noncomputable def Cx.comp (X:Cx)(N':List Str)(scope:Scope)(s3:Shared)(H3:Hp)(C:Addr)(fp:List Addr):Cx :=
 { X with N:=N',s₀:=s3,H₀:=H3,env:=compEnvC scope (clOf scope X.env) C X.env,outer:=X.stack,ex:=fp,fn:=fun _=>false,pn:=[],xe:=fun _ _=>False }
structure CompSc (X:Cx)(N':List Str)(scope:Scope):Prop where
 kind:scope.kind = .function
 nocell:∀ y ∈ scope.names,y.2 ≠ .cell
 loc1:∀ y ∈ scope.names,y.2 = .local->scope.names.lookup y.1 = some .local
 free:∀ y ∈ scope.names,y.2 = .free->X.env.scope.names.lookup y.1 = some .cell
section
variable {X:Cx}{N':List Str}{scope:Scope}{pins:List (Addr × Obj)}{σ σ':St}{H:Hp}{s:Shared}{fp:List Addr}{C:Addr}
theorem CompSc.clos (hs:CompSc X N' scope)(ok:X.Ok):closureFor scope X.env = pure (clOf scope X.env) :=
 closureFor_is fun x hx hk=>ok.has x.1 (.inl (hs.free x hx hk))
theorem clOf_sub {x:Str}{c:Addr}(h:(clOf scope X.env).lookup x = some c):X.env.cells.lookup x = some c:=clFold_sub _ [] (fun x c e=>by simp at e) x c h
theorem CompSc.has (hs:CompSc X N' scope)(ok:X.Ok){x:Str}(h:(x,NameKind.free) ∈ scope.names):∃ c,(clOf scope X.env).lookup x = some c :=
 clFold_has _ [] x (.inr ⟨h,ok.has x (.inl (hs.free _ h rfl))⟩)
theorem Inv.compOk (I:Inv X pins σ H s)(hs:CompSc X N' scope)(hf:∀ b ∈ fp,FpOk X pins H b/\b ≠ C)(hC:s.heap.objs.size <= C):(X.comp N' scope s H C fp).Ok where
 mod:=I.ok.mod
 kind:=hs.kind
 glob:=I.ok.glob
 blt:=I.ok.blt
 above:=hC
 inj:=fun x y c e1 e2=>I.ok.inj x y c (clOf_sub e1) (clOf_sub e2)
 has:=fun x hx=>by
  rcases hx with hx | hx
  ·exact hs.has I.ok (lookup_relabel_inv hs.nocell hx (.inl rfl))
  ·exact hs.has I.ok (lookup_relabel_inv hs.nocell hx (.inr rfl))
 cab:=fun x c h=>by cases h
 hd:=I.ok.hd
 frames:=I.ok.frames
 stk:=.inl rfl
 exf:=fun b hb=>⟨(hf b hb).2,fun x c e=>(hf b hb).1.2.2.2.2.1 x c (clOf_sub e)⟩
 bs:=fun b o e=>I.bs b o e
 bsz:=Nat.le_trans I.ok.bsz I.sz
 noex:=fun b o e hb=>by
  rcases (hf b hb).1.2.2.2.1 with z | z
  ·exact I.ok.noex b o e z
  ·exact absurd (Nat.lt_of_lt_of_le (Nat.lt_of_lt_of_le (Heap.lt_size e) I.ok.bsz) z) (Nat.lt_irrefl _)
 exfs:=fun b hb hz=>by
  rcases List.mem_cons.mp (I.stkSub b hz) with e | e
  ·exact (hf b hb).1.2.1 e
  ·exact (hf b hb).1.2.2.1 e
 funs:=I.stack
 frf:=I.stkFree
theorem Inv.comp {h4:Heap}{t:Nat}{m0:Str->Option Value}(I:Inv X pins σ H s)(hs:CompSc X N' scope)(hf:∀ b ∈ fp,FpOk X pins H b/\b ≠ C)(hC:s.heap.objs.size <= C)
  (k:∀ b o,s.heap.get? b = some o->h4.get? b = some o) (hn:h4.Ns C m0) (hl:σ'.length = N'.length)
  (hσ:∀ (i:Nat) x v,N'[i]? = some x->σ'[i]? = some (some v)->scope.names.lookup x = some .free/\(x,NameKind.free) ∈ scope.names/\∃ j:Nat,X.N[j]? = some x/\σ[j]? = some (some v)) :
  Inv (X.comp N' scope s H C fp) [] σ' H { s with heap:=h4,toks:=t } where
 ok:=I.compOk hs hf hC
 os:=rfl
 bare:=I.bare
 base:=Un.kept k
 loc:=⟨m0,hn,fun i x v e1 e2 _=>by
  obtain ⟨hx,hm,j,e3,e4⟩:=hσ i x v e1 e2
  obtain ⟨m,_,hl⟩:=I.loc
  have hk:=hs.free _ hm rfl
  obtain ⟨u,r,lk⟩:=hl j x v e3 e4 (.inr (.inl hk))
  refine ⟨u,r,.inr ⟨.inl (lookup_relabel_free I.ok.kind hx hk),?_⟩⟩
  rcases lk with ⟨z,_⟩ | ⟨_,c,ec,hc⟩
  ·rw [show X.env.kindOf x = some .cell from hk] at z;cases z
  ·obtain ⟨c',e'⟩:=hs.has I.ok hm
   have:=clOf_sub e'
   rw [ec] at this
   cases this
   obtain ⟨o,ho,hd⟩:=hc
   exact ⟨c,e',o,k _ _ ho,hd⟩⟩
 cell:=fun x c e=>by
  obtain ⟨v,o,ho,hd⟩:=I.cell x c (clOf_sub e)
  exact ⟨v,o,k _ _ ho,hd⟩
 free:=I.hok.fresh hC
 freeC:=fun x c e=>I.freeC x c (clOf_sub e)
 pin:=fun p hp=>by cases hp
 hok:=I.hok.kept k
 len:=hl
end
noncomputable abbrev lstO (us:List Value)(k:Nat):Obj:={ cls:=.type "list",data:=.seq us.toArray k }
theorem toE {α:Type}{M:Model}{A:Around}{t:Sem α}{Q:α->Shared->Prop}{E:Value->Shared->Prop}{s:Shared}(h:wpAny M A t Q (fun _ _=>False) s):wpAny M A t Q E s:=wpAny_mono h (fun _ _ q=>q) fun _ _ z=>z.elim
section
variable {X:Cx}{N':List Str}{scope:Scope}{pins:List (Addr × Obj)}{σ σ':St}{H H2:Hp}{s s2:Shared}{fp:List Addr}{it:Addr}{tn:Nat->Heap->Prop}{J:It}{elt tg iter:Expr}{pos:Pos}
theorem Inv.track {D:Addr}{ys:List V}{us:List Value}{k:Nat}(I:Inv X pins σ H s)(hD:FpOk X pins H D)(ho:s.heap.get? D = some (lstO us k))(r:Vals ys us)(hz:ys.length <= sizeLine):Inv X pins σ (upd H D (.lst ys)) s:=by
 have hn:=hD.1
 show Inv X pins σ (upd H D (.lst ys)) { s with heap:=s.heap,gens:=s.gens,drawn:=s.drawn,toks:=s.toks }
 refine I.step (ch:=[D]) (fun b hb=>?_) (fun b o _ _ _ e _=>e) (fun b o _ _ _ e _=>⟨o.slots,e⟩) (fun b o hc e n=>?_) (fun b o _ e=>⟨o,e⟩) (fun b xs e=>by rw [upd_ne (ne_of_none e hn)];exact e) (fun b o u e=>by rw [upd_ne (ne_of_none e hn)];exact e) (fun b ps e=>⟨#[],by rw [upd_ne (ne_of_none e hn),e];simp⟩) (fun m hm=>hm) (fun b u e=>?_) I.bare
 ·have e:b = D:=by simpa using hb
  subst e
  exact ⟨hD.2.2.2.1,hD.2.1,hD.2.2.2.2.1,hD.2.2.2.2.2⟩
 ·rw [upd_ne (fun z=>hc (by simp [z]))];exact n
 ·by_cases hb:b = D
  ·subst hb
   rw [upd_same] at e
   cases e
   exact ⟨hz,us,k,r,ho⟩
  ·rw [upd_ne hb] at e
   exact (I.hok b u e).stay (fun c v hc q=>q) (fun c q=>by rw [upd_ne (ne_of_none q hn)];exact q) fun c xs q=>by rw [upd_ne (ne_of_none q hn)];exact q
theorem comp_block {ct:Option Expr}{g:TG}{tc:TT}{te:TE}{R:List V->Hp->Prop}{W:Nat->Nat->List V->St->Hp->Prop}{m0:Nat}{RR:Value->Addr->Result->Shared->Prop}{E:Value->Shared->Prop}
  (hsc:CompSc X N' scope) (hcalm:X.calm = true) (I2:Inv X pins σ H2 s2) (T:Turn X.prog X.w X.K tg J fp it tn) (st2:tn 0 s2.heap) (f2:∀ b ∈ fp,FpOk X pins H2 b)
  (hg:∀ s H C fp,PG (X.comp N' scope s H C fp) tg g) (hct:∀ c,ct = some c->∀ s H C fp,PT (X.comp N' scope s H C fp) c tc) (hct0:ct = none->∀ σ H Q,tc σ H Q->Q true H) (he:∀ s H C fp,PE (X.comp N' scope s H C fp) elt te)
  (hl:σ'.length = N'.length) (hσ:∀ (i:Nat) x v,N'[i]? = some x->σ'[i]? = some (some v)->scope.names.lookup x = some .free/\(x,NameKind.free) ∈ scope.names/\∃ j:Nat,X.N[j]? = some x/\σ[j]? = some (some v))
  (w0:W 0 m0 [] σ' H2)
  (turn:∀ i m ys σ H,W i m ys σ H->(J.stop i H/\R ys H)\/(J.go i H/\∀ x H',J.yld i H x H'->g x σ H' fun σ2 H2=>tc σ2 H2 fun b H3=>if b = true then te σ2 H3 fun y H4=>ys.length < sizeLine/\∃ m',m' < m/\W (i + 1) m' (ys ++ [y]) σ2 H4 else ∃ m',m' < m/\W (i + 1) m' ys σ2 H3))
  (hRR:∀ D C s' H' m ys,Inv X pins σ (upd H' D (.lst ys)) s'->H' D = none->s'.heap.Ns C m->FpOk X pins (upd H' D (.lst ys)) C->R ys H'->RR (.ref D) C (.ok .next) s') :
  wpAny (model X.prog X.w) X.A (newList []) (fun acc s₃=>wpAny (model X.prog X.w) X.A (newFunctionEnv scope X.env.globals (clOf scope X.env) [] X.env.qual none .none (some X.env)) (fun cenv s₄ =>
   codeAny (model X.prog X.w) X.A (.compStart (.ListComp elt [⟨tg,iter,ct.toList,0⟩] scope pos) 0 (.ref it) acc { cenv with scope:=relabel scope X.env }) (RR acc cenv.locals) s₄) E s₃) E s2:=by
 refine wpAny_newObj_type (wpAny_newFunctionEnv hsc.nocell (by intro y hy;simp at hy) (fun h₁ hns₁ hsb₁=>?_) hsc.kind)
 dsimp only at hns₁ hsb₁ ⊢
 generalize hH2:s2.heap.push { cls:=.type "list",dict:=none,data:=.seq ([]:List Value).toArray } = hp2 at hns₁ hsb₁ ⊢
 have hC:hp2.objs.size = s2.heap.objs.size + 1:=by rw [<- hH2,Heap.size_push]
 have hDC:s2.heap.objs.size ≠ hp2.objs.size:=by rw [hC];exact Nat.ne_of_lt (Nat.lt_succ_self _)
 have hCle:s2.heap.objs.size <= hp2.objs.size:=by rw [hC];exact Nat.le_succ _
 have below:∀ b,b < s2.heap.objs.size->b ≠ hp2.objs.size/\b ≠ s2.heap.objs.size:=fun b hb=>⟨by rw [hC];exact Nat.ne_of_lt (Nat.lt_succ_of_lt hb),Nat.ne_of_lt hb⟩
 have old:∀ b o,s2.heap.get? b = some o->h₁.get? b = some o:=fun b o e=>hsb₁.extBut b o (below b (Heap.lt_size e)).1 (Heap.get?_push_of_some _ (hH2 ▸ Heap.get?_push_of_some _ e))
 have hacc:h₁.get? s2.heap.objs.size = some (lstO [] 0):=hsb₁.extBut _ _ hDC (Heap.get?_push_of_some _ (hH2 ▸ Heap.get?_push_size _ rfl))
 have fD:FpOk X pins H2 s2.heap.objs.size:=I2.fpOk (Nat.le_refl _) (I2.hok.fresh (Nat.le_refl _))
 have lfp:∀ b ∈ fp,b < s2.heap.objs.size:=fun b hb=>by
  obtain ⟨o,e,_⟩:=T.obj 0 _ st2 b hb
  exact Heap.lt_size e
 have hf':∀ b ∈ s2.heap.objs.size :: fp,FpOk X pins H2 b/\b ≠ hp2.objs.size:=fun b hb=>by
  rcases List.mem_cons.mp hb with rfl | hb
  ·exact ⟨fD,hDC⟩
  ·exact ⟨f2 b hb,(below b (lfp b hb)).1⟩
 have IY:=I2.comp (t:=s2.toks + ([]:List (Str × Value)).length) hsc hf' hCle old hns₁ hl hσ
 generalize hDd:s2.heap.objs.size = D at *
 generalize hCd:hp2.objs.size = C at *
 have fnD:∀ b ∈ fp,b ≠ D:=fun b hb=>(below b (lfp b hb)).2
 have ok:=IY.ok
 have hg':=hg s2 H2 C (D :: fp)
 have hct':=fun c e=>hct c e s2 H2 C (D :: fp)
 have he':=he s2 H2 C (D :: fp)
 have fY:∀ {pl:List (Addr × Obj)} {H':Hp} {b:Addr},b ∈ D :: fp->H' b = none->(∀ p ∈ pl,p.1 ≠ b)->FpOk (X.comp N' scope s2 H2 C (D :: fp)) pl H' b:=fun {pl H' b} hb hn hp =>
  ⟨hn,(ok.exf b hb).1,ok.exfs b hb,.inl hb,(ok.exf b hb).2,fun p h=>hp p (by simpa [Cx.comp] using h)⟩
 let Iv:Nat->Shared->Prop:=fun n s'=>∃ (i:Nat) (ys:List V) (us:List Value) (k:Nat) (σ':St) (H':Hp),Inv (X.comp N' scope s2 H2 C (D :: fp)) [] σ' H' s'/\tn i s'.heap/\(∀ b ∈ D :: fp,H' b = none)/\s'.heap.get? D = some (lstO us k)/\Vals ys us/\ys.length <= sizeLine/\W i n ys σ' H'
 have turnA:∀ (n:Nat) (s':Shared),Iv n s'->∀ (K:Shared->Prop) (E':Value->Shared->Prop),
   (∀ (i:Nat) (ys:List V) (us:List Value) (k:Nat) (pl:List (Addr × Obj)) (σ6:St) (H6:Hp) (s6:Shared),Inv (X.comp N' scope s2 H2 C (D :: fp)) ([(D,lstO us k)] ++ pl) σ6 H6 s6 ->
    (∀ h7:Heap,(∀ p ∈ pl,h7.get? p.1 = some p.2)->tn (i + 1) h7)->(∀ b ∈ fp,∃ o,(b,o) ∈ pl)->(∀ p ∈ pl,p.1 ∈ fp)->Vals ys us->ys.length <= sizeLine ->
    (tc σ6 H6 fun b H3=>if b = true then te σ6 H3 fun y H4=>ys.length < sizeLine/\∃ m',m' < n/\W (i + 1) m' (ys ++ [y]) σ6 H4 else ∃ m',m' < n/\W (i + 1) m' ys σ6 H3)->K s6) ->
   wpAny (model X.prog X.w) X.A (pyNext (.ref it)) (fun r s1=>match r with
    | none=>RR (.ref D) C (.ok .next) s1
    | some v=>wpAny (model X.prog X.w) X.A (letOwnedTupleGo tg (.ref it) v) (fun _ s0=>wpAny (model X.prog X.w) X.A (assign tg (compEnvC scope (clOf scope X.env) C X.env) v) (fun _ s2=>K s2) E' s0) E' s1) E' s':=by
  rintro n s' ⟨i,ys,us,k,σ3,H3,I3,st3,fr3,hD3,rv3,hz3,w3⟩ K E' hK
  have I3':Inv (X.comp N' scope s2 H2 C (D :: fp)) [(D,lstO us k)] σ3 H3 s':=I3.pins_of fun p hp=>by
   have e:p = (D,lstO us k):=by simpa using hp
   subst e
   exact ⟨hD3,fr3 D List.mem_cons_self,(ok.exf D List.mem_cons_self).1,ok.exfs D List.mem_cons_self,fun v z=>by cases z⟩
  have fp3:∀ {H':Hp},(∀ b ∈ fp,H' b = none)->∀ b ∈ fp,FpOk (X.comp N' scope s2 H2 C (D :: fp)) [(D,lstO us k)] H' b:=fun hn b hb=>fY (List.mem_cons_of_mem _ hb) (hn b hb) fun p hp=>by
   have e:p = (D,lstO us k):=by simpa using hp
   subst e
   exact Ne.symm (fnD b hb)
  have fr3':∀ b ∈ fp,H3 b = none:=fun b hb=>fr3 b (List.mem_cons_of_mem _ hb)
  rcases turn i n ys σ3 H3 w3 with ⟨stop,hR⟩ | ⟨go,step⟩
  ·refine thn (T.done (X.comp N' scope s2 H2 C (D :: fp)) rfl rfl rfl hcalm i _ s' σ3 H3 E' I3' (fp3 fr3') st3 stop) fun r s4 ⟨hr,I4⟩=>?_
   subst hr
   obtain ⟨gD,nD,_⟩:=I4.pin (D,lstO us k) (List.mem_append_right _ List.mem_cons_self)
   obtain ⟨m,hn,_⟩:=id I4.loc
   have IX:Inv X pins σ H3 s4:=I2.call' (ch:=D :: fp) I4.os I4.base I4.hok I4.bare fun b hb=>⟨(hf' b hb).1.2.2.2.1,(hf' b hb).1.2.1,(hf' b hb).1.2.2.2.2.1,(hf' b hb).1.2.2.2.2.2⟩
   refine hRR D C s4 H3 m ys (IX.track ⟨nD,fD.2⟩ gD rv3 hz3) nD hn ⟨by rw [upd_ne (Ne.symm hDC)];exact I4.free,?_⟩ hR
   have fC:FpOk X pins H3 C:=I2.fpOk (by rw [hDd];exact hCle) I4.free
   exact fC.2
  ·refine thn (T.item (X.comp N' scope s2 H2 C (D :: fp)) rfl rfl rfl hcalm i _ s' σ3 H3 E' I3' (fp3 fr3') st3 go) fun r s4 ⟨u,hr,h4⟩=>?_
   subst hr
   refine thn h4 fun _ s5 ⟨x,H5,I5,r5,y5,st5,fr5⟩=>?_
   have I5':=I5.pinned (fp3 fr5) (T.obj _ _ st5)
   refine toE (thn (hg' _ s5 σ3 H5 x u _ I5' r5 (step x H5 y5)) fun _ s6 ⟨σ6,H6,I6,q6⟩=>?_)
   refine hK i ys us k _ σ6 H6 s6 I6 (fun h7 h=>T.keep _ _ _ st5 fun b hb o e=>h (b,o) (mem_pinsAt hb e)) (fun b hb=>?_) (fun p hp=>(of_pinsAt hp).1) rv3 hz3 q6
   obtain ⟨o,e,_⟩:=T.obj _ _ st5 b hb
   exact ⟨o,mem_pinsAt hb e⟩
 have back:∀ {n i:Nat} {ys:List V} {us:List Value} {k:Nat} {pl:List (Addr × Obj)} {σ6:St} {H6:Hp} {s6:Shared},Inv (X.comp N' scope s2 H2 C (D :: fp)) ([(D,lstO us k)] ++ pl) σ6 H6 s6 ->
   (∀ h7:Heap,(∀ p ∈ pl,h7.get? p.1 = some p.2)->tn (i + 1) h7)->(∀ b ∈ fp,∃ o,(b,o) ∈ pl)->Vals ys us->ys.length <= sizeLine->(∃ m',m' < n/\W (i + 1) m' ys σ6 H6)->∃ m',m' < n/\Iv m' s6:=by
  intro n i ys us k pl σ6 H6 s6 I6 ht hall rv hz ⟨m',hm,w⟩
  obtain ⟨gD,nD,_⟩:=I6.pin (D,lstO us k) (List.mem_append_right _ (List.mem_append_left _ List.mem_cons_self))
  refine ⟨m',hm,i + 1,ys,us,k,σ6,H6,I6.pins_of fun p hp=>(by cases hp),ht _ fun p hp=>(I6.pin p (List.mem_append_right _ (List.mem_append_right _ hp))).1,fun b hb=>?_,gD,rv,hz,w⟩
  rcases List.mem_cons.mp hb with rfl | hb
  ·exact nD
  ·obtain ⟨o,ho⟩:=hall b hb
   exact (I6.pin _ (List.mem_append_right _ (List.mem_append_right _ ho))).2.1
 have app:∀ {n i:Nat} {ys:List V} {us:List Value} {k:Nat} {pl:List (Addr × Obj)} {σ6:St} {H7:Hp} {s7:Shared} {y:V} {v:Value} {E':Value->Shared->Prop},Inv (X.comp N' scope s2 H2 C (D :: fp)) ([(D,lstO us k)] ++ pl) σ6 H7 s7 ->
   (∀ h7:Heap,(∀ p ∈ pl,h7.get? p.1 = some p.2)->tn (i + 1) h7)->(∀ b ∈ fp,∃ o,(b,o) ∈ pl)->(∀ p ∈ pl,p.1 ∈ fp)->Vals ys us->RelV y v->ys.length < sizeLine->(∃ m',m' < n/\W (i + 1) m' (ys ++ [y]) σ6 H7) ->
   wpAny (model X.prog X.w) X.A (call (.builtin "list.append") [.ref D,v]) (fun _ s8=>∃ m',m' < n/\Iv m' s8) E' s7:=by
  intro n i ys us k pl σ6 H7 s7 y v E' I7 ht hall hpl rv ry hz ⟨m',hm,w⟩
  obtain ⟨gD,nD,_⟩:=I7.pin (D,lstO us k) (List.mem_append_right _ (List.mem_append_left _ List.mem_cons_self))
  have hus:us.length < sizeLine:=by rw [<- rv.length];exact hz
  refine append_at (hsz:=by rw [List.size_toArray];exact Nat.le_of_lt hus) gD fun h8 hs8 g8=>?_
  have nb:∀ b ∈ D :: fp,H7 b = none:=fun b hb=>by
   rcases List.mem_cons.mp hb with rfl | hb
   ·exact nD
   ·obtain ⟨o,ho⟩:=hall b hb
    exact (I7.pin _ (List.mem_append_right _ (List.mem_append_right _ ho))).2.1
  have f8:=fY (pl:=[]) (H':=H7) (b:=D) List.mem_cons_self nD (fun p hp=>by cases hp)
  refine ⟨m',hm,i + 1,ys ++ [y],us ++ [v],k + 1,σ6,H7,(I7.pins_of (pins':=[]) fun p hp=>(by cases hp)).turned (t':=s7.toks) (it:=D) (fun b o hb e=>hs8.extBut b o hb e) nD f8.2.1 f8.2.2.2.1 f8.2.2.2.2.1 f8.2.2.2.2.2,
   ht _ fun p hp=>?_,nb,?_,rv.append (.cons ry .nil),?_,w⟩
  ·exact hs8.extBut _ _ (fnD _ (hpl p hp)) (I7.pin p (List.mem_append_right _ (List.mem_append_right _ hp))).1
  ·show h8.get? D = _
   rw [g8]
   simp [lstO]
  ·rw [List.length_append];exact hz
 have i0:Iv m0 { s2 with heap:=h₁,toks:=s2.toks + ([]:List (Str × Value)).length }:=⟨0,[],[],0,σ',H2,IY,T.keep _ _ _ st2 fun b _ o e=>old b o e,fun b hb=>(hf' b hb).1.1,hacc,.nil,Nat.zero_le _,w0⟩
 have loop:codeAny (model X.prog X.w) X.A (.compLoop (.ListComp elt [⟨tg,iter,ct.toList,0⟩] scope pos) 0 (.ref it) (.ref D) (compEnvC scope (clOf scope X.env) C X.env)) (RR (.ref D) C) { s2 with heap:=h₁,toks:=s2.toks + ([]:List (Str × Value)).length }:=by
  cases ct with
  | none =>
   refine PySem.W.kcp_loop Iv (fun n s' hI=>turnA n s' hI _ _ ?_) m0 i0
   intro i ys us k pl σ6 H6 s6 I6 ht hall hpl rv hz q6
   have q7:=hct0 rfl σ6 H6 _ q6
   rw [if_pos rfl] at q7
   refine toE (thn (he' _ s6 σ6 H6 _ I6 q7) fun v s7 ⟨y,H7,I7,r7,hz7,w7⟩=>?_)
   exact app I7 ht hall hpl rv r7 hz7 w7
  | some c =>
   refine PySem.W.kct_loop Iv (fun n s' hI=>turnA n s' hI _ _ ?_) m0 i0
   intro i ys us k pl σ6 H6 s6 I6 ht hall hpl rv hz q6
   refine toE (thn (hct' c rfl _ s6 σ6 H6 _ I6 q6) fun b s7 ⟨H7,I7,q7⟩=>?_)
   cases b with
   | true =>
    rw [if_pos rfl] at q7 ⊢
    refine toE (thn (he' _ s7 σ6 H7 _ I7 q7) fun v s8 ⟨y,H8,I8,r8,hz8,w8⟩=>?_)
    exact app I8 ht hall hpl rv r8 hz8 w8
   | false =>
    rw [if_neg Bool.false_ne_true] at q7 ⊢
    exact back I7 ht hall rv hz q7
 exact codeAny_compStart_list loop (T.self _ 0 _ _ _ (T.keep _ _ _ st2 fun b _ o e=>old b o e) loop)
noncomputable def tComp (wi:TI)(imp:St->St)(g:TG)(tc:TT)(te:TE):TE:=fun σ H Q=>wi σ H fun J H1=>∃ (W:Nat->Nat->List V->St->Hp->Prop) (m0:Nat),W 0 m0 [] (imp σ) H1/\∀ i m ys σ' H',W i m ys σ' H' ->
 (J.stop i H'/\∀ D,H' D = none->Q (.ref D) (upd H' D (.lst ys)))\/(J.go i H'/\∀ x H2,J.yld i H' x H2->g x σ' H2 fun σ3 H3=>tc σ3 H3 fun b H4=>if b = true then te σ3 H4 fun y H5=>ys.length < sizeLine/\∃ m',m' < m/\W (i + 1) m' (ys ++ [y]) σ3 H5 else ∃ m',m' < m/\W (i + 1) m' ys σ3 H4)
variable {ct:Option Expr}{wi:TI}{imp:St->St}{g:TG}{tc:TT}{te:TE}
theorem pe_comp (hsc:CompSc X N' scope)(hcalm:X.calm = true)(hi:PI X tg iter wi)
  (hg:∀ s H C fp,PG (X.comp N' scope s H C fp) tg g) (hct:∀ c,ct = some c->∀ s H C fp,PT (X.comp N' scope s H C fp) c tc) (hct0:ct = none->∀ σ H Q,tc σ H Q->Q true H) (he:∀ s H C fp,PE (X.comp N' scope s H C fp) elt te)
  (himp:∀ σ:St,(imp σ).length = N'.length)
  (hσ:∀ (σ:St) (i:Nat) x v,N'[i]? = some x->(imp σ)[i]? = some (some v)->scope.names.lookup x = some .free/\(x,NameKind.free) ∈ scope.names/\∃ j:Nat,X.N[j]? = some x/\σ[j]? = some (some v))
  (hset:∀ x,foldedSetIterable iter X.env x = pure x):PE X (.ListComp elt [⟨tg,iter,ct.toList,0⟩] scope pos) (tComp wi imp g tc te):=by
 intro pins s σ H Q I h
 rw [eval_ListComp]
 refine wpAny_comprehension_free (use:=none) (g:=⟨tg,iter,ct.toList,0⟩) (gs:=[]) rfl hset (hsc.clos I.ok) hsc.kind hsc.loc1 ?_
 refine thn (hi pins s σ H _ I h) fun v s1 h1=>thn h1 fun itv s2 h2=>?_
 obtain ⟨it,fp,tn,J,H2,e,I2,T,st2,f2,W,m0,w0,turn⟩:=h2
 subst e
 refine comp_block (R:=fun ys H'=>∀ D,H' D = none->Q (.ref D) (upd H' D (.lst ys))) hsc hcalm I2 T st2 f2 hg hct hct0 he (himp σ) (hσ σ) w0 turn ?_
 intro D C s' H' m ys I' hD hn fC hR
 exact ⟨m,hn,fun h' hs'=>⟨.ref D,_,I'.turned (t':=s'.toks) (fun b o hb e=>hs'.extBut b o hb e) fC.1 fC.2.1 fC.2.2.2.1 fC.2.2.2.2.1 fC.2.2.2.2.2,rfl,hR D hD⟩⟩
theorem ps_setComp {i:Nat}{y:Str}{py spos:Pos}(hN:X.N.Nodup)(hi':X.N[i]? = some y)(hy:X.env.scope.names.lookup y = some .local)
  (hsw:swapsWith (.ListComp elt [⟨tg,iter,ct.toList,0⟩] scope pos) (some (.Name y py)) spos.line X.env = pure true) (hsc:CompSc X N' scope) (hcalm:X.calm = true) (hi:PI X tg iter wi)
  (hg:∀ s H C fp,PG (X.comp N' scope s H C fp) tg g) (hct:∀ c,ct = some c->∀ s H C fp,PT (X.comp N' scope s H C fp) c tc) (hct0:ct = none->∀ σ H Q,tc σ H Q->Q true H) (he:∀ s H C fp,PE (X.comp N' scope s H C fp) elt te)
  (himp:∀ σ:St,(imp σ).length = N'.length)
  (hσ:∀ (σ:St) (i:Nat) x v,N'[i]? = some x->(imp σ)[i]? = some (some v)->scope.names.lookup x = some .free/\(x,NameKind.free) ∈ scope.names/\∃ j:Nat,X.N[j]? = some x/\σ[j]? = some (some v))
  (hset:∀ x,foldedSetIterable iter X.env x = pure x):PS X (.Assign [.Name y py] (.ListComp elt [⟨tg,iter,ct.toList,0⟩] scope pos) spos) (tAsg (tComp wi imp g tc te) (gName i)):=by
 intro pins s σ H D I h
 rw [exec_Assign_Name_used _ _ _ _ hsw]
 refine wpAny_bind (wpAny_standAt (wpAny_bind ?_))
 show wpAny _ _ (do let _ <- comprehension (.ListComp elt [⟨tg,iter,ct.toList,0⟩] scope pos) scope X.env _ (newList []) false (eval iter X.env) (some (assign (.Name y py) X.env))) _ _ s
 refine wpAny_bind (wpAny_mono (wpAny_comprehension_free (use:=some (assign (.Name y py) X.env)) (Q:=fun _ s'=>SP X pins D .next s') (g:=⟨tg,iter,ct.toList,0⟩) (gs:=[]) rfl hset (hsc.clos I.ok) hsc.kind hsc.loc1 ?_)
  (fun _ s' hq=>wpAny_pure (wpAny_pure hq)) fun _ _ e=>e)
 refine thn (hi pins s σ H _ I h) fun v s1 h1=>thn h1 fun itv s2 h2=>?_
 obtain ⟨it,fp,tn,J,H2,e,I2,T,st2,f2,W,m0,w0,turn⟩:=h2
 subst e
 refine comp_block (R:=fun ys H'=>∀ d,H' d = none->D.nx (σ.set i (some (.ref d))) (upd H' d (.lst ys))) hsc hcalm I2 T st2 f2 hg hct hct0 he (himp σ) (hσ σ) w0 turn ?_
 intro d C s' H' m ys I' hD hn fC hR
 obtain ⟨oC,es,ep,hoC,hd1,rC⟩:=id hn
 have I'':Inv X (pins ++ [(C,oC)]) σ (upd H' d (.lst ys)) s':=I'.pins_of fun p hp=>(List.mem_append.mp hp).elim (fun z=>I'.pin p (List.mem_append_right _ z)) fun z=>by
  have e:p = (C,oC):=by simpa using z
  subst e
  exact ⟨hoC,fC.1,fC.2.1,fC.2.2.1,fun v z=>by rw [hd1] at z;cases z⟩
 refine wpAny_assign_Name (store_ok I'' hN hi' (.inl hy) (v:=.ref d) rfl (fun s3 I3=>?_) (.inr hy))
 have p3:=(I3.pin (C,oC) (List.mem_append_right _ (List.mem_append_right _ List.mem_cons_self))).1
 exact ⟨m,⟨oC,es,ep,p3,hd1,rC⟩,fun h' hs'=>⟨_,_,I3.unpinned.turned (t':=s3.toks) (fun b o hb e=>hs'.extBut b o hb e) fC.1 fC.2.1 fC.2.2.2.1 fC.2.2.2.2.1 fC.2.2.2.2.2,hR d hD⟩⟩
end
end L2
set_option genSizeOf false
namespace L2
open PySem PySem.Spec PyProof.Rows
section
variable {X:Cx}
theorem strs_vals:∀ {ts:List Str} {us:List Value},Vals (ts.map V.str) us->∃ l:List (Str × Tok),us = strValues l/\l.map (·.1) = ts
 | [],_,.nil=>⟨[],rfl,rfl⟩
 | t :: ts,_,.cons ⟨k,e⟩ r=>by
  obtain ⟨l,e1,e2⟩:=strs_vals r
  subst e
  exact ⟨(t,k) :: l,by rw [e1];rfl,by rw [List.map_cons,e2]⟩
noncomputable def rJoin (K:PySem.W.Frag):V->List V->Hp->VK->Prop:=fun x xs H Q=>∃ (z:Str) (p:Addr) (ts:List Str),x = .str z/\xs = [.ref p]/\SqL K H p (ts.map V.str)/\JoinOk z ts = true/\Q (.str (Txt.join z ts)) H
theorem mt_join:MtR X "str.join" (rJoin X.K):=by
 intro pins s σ H x xs v us Q I rx r h
 obtain ⟨z,p,ts,rfl,rfl,hq,hj,q⟩:=h
 obtain ⟨t,rfl⟩:=rx
 obtain ⟨u,rfl,ru⟩:=vals1 r
 cases ru
 obtain ⟨its,rv,pl,_⟩:=I.list hq
 obtain ⟨l,rfl,e2⟩:=strs_vals rv
 exact SC.join pl.isList e2 hj fun t' k=>⟨.str _,H,I.tok _,⟨_,rfl⟩,q⟩
noncomputable def KTabR (P:Program)(w:World)(K:PySem.W.Frag)(a:Addr)(us:List (Str × Value)):Prop:=∀ h:Heap,K.In h->h.DictOf (strKind P w) a us
noncomputable def refLooks:Addr->Value->Bool
 | a,.ref b=>a == b
 | _,_=>false
theorem pairs_of_rows (P:Program)(w:World){es:List DictEntry}{D:List (Str × Addr)}(h:KTD.Rows (fun (d:Addr) v=>v = .ref d) es D):es.map (·.hash) = D.map (fun p=>(PySem.strKind P w).hash p.1) ->
  (∀ e ∈ es,∃ k,(PySem.strKind P w).is k e.key = true/\e.hash = (PySem.strKind P w).hash k)/\Pairs (PySem.strKind P w) es (D.map fun p=>(p.1,Value.ref p.2)):=by
 induction h with
 | nil=>exact fun _=>⟨fun _ h=>(nomatch h),.nil⟩
 | @cons e x t d es D hkey hv _ ih =>
  intro hh
  rw [List.map_cons,List.map_cons] at hh
  injection hh with h1 h2
  obtain ⟨hk,hp⟩:=ih h2
  have hi:(PySem.strKind P w).is x e.key = true:=by rw [hkey];exact strKind_is P w x t
  refine ⟨fun e' he'=>?_,.cons hi hv hp⟩
  rcases List.mem_cons.mp he' with rfl | he'
  ·exact ⟨x,hi,h1⟩
  ·exact hk e' he'
theorem ktabR_mk {P:Program}{w:World}{K:PySem.W.Frag}{a:Addr}{o:Obj}{D:List (Str × Addr)}(l:K.lookup a = some o)(e:KTD.tabLook refLooks (fun _=>some o) a D = true)
  (n:(D.map (·.1)).Nodup) (q:KTD.hashesOf (fun _=>some o) a = D.map fun p=>(PySem.strKind P w).hash p.1):KTabR P w K a (D.map fun p=>(p.1,Value.ref p.2)):=fun h x=>by
 have e':KTD.tabLook refLooks (fun b=>K.lookup b) a D = true:=by
  rw [<- e];simp only [KTD.tabLook,l]
 obtain ⟨_,o',es,ep,g1,g2,g3,g4⟩:=KTD.tab_of_look (R:=fun (d:Addr) v=>v = .ref d) (fun d v hd=>by
  cases v <;> first | cases hd | exact congrArg Value.ref (eq_of_beq hd).symm) (fun b o r=>x b o r) e'
 have ho:o' = o:=Option.some.inj ((g1.symm.trans (x a o l)))
 subst ho
 have hh:es.toList.map (·.hash) = D.map fun p=>(PySem.strKind P w).hash p.1:=by
  rw [<- q];unfold KTD.hashesOf;simp only [g3]
 obtain ⟨hk,hp⟩:=pairs_of_rows P w g4 hh
 exact ⟨o',es,ep,g1,g2,g3,fun e he=>hk e (by simpa using he),hp,by rw [List.map_map];exact n⟩
noncomputable def refsOf (o:Obj):List (Str × Addr):=match o.data with
 | .dict es _=>es.toList.filterMap fun e=>match e.key,e.val with
  | .str k _,.ref a=>some (k,a)
  | _,_=>none
 | _=>[]
noncomputable def tupIs (o:Obj)(ts:List Str):Bool:=o.cls == .type "tuple" && (match o.data with
 | .seq vs _=>KTD.strsLook vs.toList ts && decide (ts.length <= 1000)
 | _=>false)
noncomputable def tupsIn (K:PySem.W.Frag):List (Str × Addr)->List (Str × List Str)->Bool
 | [],[]=>true
 | (k,a) :: r,(k',ts) :: r'=>k == k' && (match K.lookup a with
  | some o=>tupIs o ts
  | none=>false) && tupsIn K r r'
 | _,_=>false
theorem strs_look_vals:∀ {vs:List Value} {ts:List Str},KTD.strsLook vs ts = true->Vals (ts.map V.str) vs:=by
 intro vs
 induction vs with
 | nil=>intro ts h;cases ts with | nil=>exact .nil | cons n ns=>simp [KTD.strsLook] at h
 | cons v vs ih =>
  intro ts h
  cases ts with
  | nil=>cases v <;> simp [KTD.strsLook] at h
  | cons n ns =>
   cases v <;> simp [KTD.strsLook] at h
   obtain ⟨rfl,h⟩:=h
   exact .cons ⟨_,rfl⟩ (ih h)
theorem tups_get {K:PySem.W.Frag}:∀ {D:List (Str × Addr)} {ks:List (Str × List Str)},tupsIn K D ks = true->D.map (·.1) = ks.map (·.1)/\∀ k ts,ks.lookup k = some ts ->
  ∃ (a:Addr) (o:Obj) (vs:Array Value) (n:Nat),valueAt (D.map fun p=>(p.1,Value.ref p.2)) k = some (.ref a)/\K.lookup a = some o/\o.cls = .type "tuple"/\o.data = .seq vs n/\vs.size <= sizeLine/\Vals (ts.map V.str) vs.toList
 | [],[],_=>⟨rfl,fun k ts h=>by cases h⟩
 | (k,a) :: r,(k',us) :: r',h=>by
  simp only [tupsIn,Bool.and_eq_true] at h
  obtain ⟨⟨h1,h2⟩,h3⟩:=h
  obtain rfl:=eq_of_beq h1
  obtain ⟨g1,g2⟩:=tups_get h3
  refine ⟨by rw [List.map_cons,List.map_cons,g1],fun x ts e=>?_⟩
  rw [List.lookup_cons] at e
  split at e
  ·rename_i q
   obtain rfl:=eq_of_beq q
   cases e
   split at h2
   ·rename_i o ho
    simp only [tupIs,Bool.and_eq_true] at h2
    obtain ⟨k1,k2⟩:=h2
    split at k2
    ·rename_i vs n hd
     rw [Bool.and_eq_true] at k2
     have v:=strs_look_vals k2.1
     have hl:=v.length
     have hz:=of_decide_eq_true k2.2
     refine ⟨a,o,vs,n,by simp [valueAt],ho,eq_of_beq k1,hd,?_,v⟩
     have hs:sizeLine = 16777216:=sizeLine_eq
     have hq:vs.toList.length = vs.size:=by simp
     rw [List.length_map] at hl
     omega
    ·cases k2
   ·cases h2
  ·rename_i q
   obtain ⟨a',o,vs,n,z,r⟩:=g2 x ts e
   refine ⟨a',o,vs,n,?_,r⟩
   have hn:¬ (k = x):=fun z=>by subst z;simp at q
   rw [<- z,List.map_cons]
   simp [valueAt,List.find?_cons,hn]
 | [],_ :: _,h=>by cases h
 | _ :: _,[],h=>by cases h
noncomputable def rIxD (X:Cx):R2:=fun x y H Q=>∃ (a:Addr) (us:List (Str × Value)) (k:Str) (u:Value) (v:V),x = .ref a/\y = .str k/\KTabR X.prog X.w X.K a us/\valueAt us k = some u/\RelV v u/\Q v H
theorem ix_tab:IxR X (rIxD X):=by
 intro value slice pins s σ H x y v u Q I rx ry h hs
 obtain ⟨a,us,k,z,vz,rfl,rfl,hT,he,rz,q⟩:=h
 cases rx
 obtain ⟨t,rfl⟩:=ry
 have hm:=(hT _ I.kIn).mapOf
 exact tail_any hm.typeIs slot_dict_getitem.lookup (wpAny_getItem_of (strKind_is X.prog X.w k t) hm he ⟨vz,H,I.tok _,rz,q⟩) hs
end
end L2
set_option genSizeOf false
namespace L2
open PySem PySem.Spec PyProof.Rows
section
variable {X:Cx}
theorem mt_starts:MtR X "str.startswith" (fun x xs H Q=>∃ z y,x = .str z/\xs = [.str y]/\Q (.bl (Txt.startswith z y)) H):=by
 intro pins s σ H x xs v us Q I rx r h
 obtain ⟨z,y,rfl,rfl,q⟩:=h
 obtain ⟨t,rfl⟩:=rx
 obtain ⟨u,rfl,t',rfl⟩:=vals1 r
 exact SC.startswith ⟨.bl _,H,I,rfl,q⟩
theorem mt_ends:MtR X "str.endswith" (fun x xs H Q=>∃ z y,x = .str z/\xs = [.str y]/\Q (.bl (Txt.endswith z y)) H):=by
 intro pins s σ H x xs v us Q I rx r h
 obtain ⟨z,y,rfl,rfl,q⟩:=h
 obtain ⟨t,rfl⟩:=rx
 obtain ⟨u,rfl,t',rfl⟩:=vals1 r
 exact SC.endswith ⟨.bl _,H,I,rfl,q⟩
theorem mt_stripC:MtR X "str.strip" (fun x xs H Q=>∃ z y,x = .str z/\xs = [.str y]/\z.length <= sizeLine/\Q (.str (Txt.stripChars z y)) H):=by
 intro pins s σ H x xs v us Q I rx r h
 obtain ⟨z,y,rfl,rfl,hz,q⟩:=h
 obtain ⟨t,rfl⟩:=rx
 obtain ⟨u,rfl,t',rfl⟩:=vals1 r
 exact SC.stripChars (fun t' k=>⟨.str _,H,I.tok _,⟨_,rfl⟩,q⟩) hz
theorem vals_strs:∀ (l:List (Str × Tok)),Vals ((l.map (·.1)).map V.str) (strValues l)
 | []=>.nil
 | p :: l=>.cons ⟨p.2,rfl⟩ (vals_strs l)
theorem mt_split:MtR X "str.split" (fun x xs H Q=>∃ z y,x = .str z/\xs = [.str y]/\(y.length == 0) = false/\z.length <= sizeLine/\(Txt.split z y).length <= sizeLine /\
  (Builtin.Str.partsBetween z (Builtin.Str.occurrences z y 0 z.length (z.length + 1)) y.length).length <= sizeLine/\∀ a,H a = none->Q (.ref a) (upd H a (.lst ((Txt.split z y).map V.str)))):=by
 intro pins s σ H x xs v us Q I rx r h
 obtain ⟨z,y,rfl,rfl,hy,hz,hn,hp,q⟩:=h
 obtain ⟨t,rfl⟩:=rx
 obtain ⟨u,rfl,t',rfl⟩:=vals1 r
 have fin:∀ (l:List (Str × Tok)) (k:Nat),l.map (·.1) = Txt.split z y->EP X pins σ Q (.ref s.heap.objs.size) { s with toks:=k,heap:=s.heap.push { cls:=.type "list",data:=.seq (strValues l).toArray } }:=fun l k e=>by
  refine ⟨.ref s.heap.objs.size,upd H s.heap.objs.size (.lst ((Txt.split z y).map V.str)),I.laid (t':=k) (fun b u e=>Heap.get?_push_of_some _ e) (Nat.le_refl _) ?_,rfl,q _ (I.hok.fresh (Nat.le_refl _))⟩
  refine ⟨by rw [List.length_map];exact hn,strValues l,0,?_,Heap.get?_push_size _ rfl⟩
  rw [<- e]
  exact vals_strs l
 cases h1:(decide (z.length < y.length) || decide (Builtin.Str.strKind z < Builtin.Str.strKind y))
 ·cases hf:(Builtin.Str.occurrences z y 0 z.length (z.length + 1)).isEmpty
  ·refine call_meets F.slot_str_split (typeIs_str _ _ _) F.entry_str_split (F.args_str_split_2 _ _) (meets_str_split_sep z y t t' h1 hy hf hz hp) ?_
   show EP X pins σ Q _ _
   rw [strsFrom_eq]
   exact fin (numbered s.toks _) _ ((numbered_texts _ _).trans ((if_neg (ne_true_of_eq_false h1)).trans (if_neg (ne_true_of_eq_false hf))).symm)
  ·exact call_meets F.slot_str_split (typeIs_str _ _ _) F.entry_str_split (F.args_str_split_2 _ _) (meets_str_split_not_found z y t t' h1 hy hf) (fin [(z,t)] _ ((if_neg (ne_true_of_eq_false h1)).trans (if_pos hf)).symm)
 ·exact call_meets F.slot_str_split (typeIs_str _ _ _) F.entry_str_split (F.args_str_split_2 _ _) (meets_str_split_cannot_occur z y t t' h1) (fin [(z,t)] _ (if_pos h1).symm)
noncomputable def partT (z y:Str):List Str:=match Builtin.Str.occurrences z y 0 z.length 1 with
 | i :: _=>[Builtin.Str.strSub z 0 i,y,Builtin.Str.strSub z (i + y.length) z.length]
 | []=>[z,Str.empty,Str.empty]
theorem mt_partition:MtR X "str.partition" (fun x xs H Q=>∃ z y,x = .str z/\xs = [.str y]/\(y.length == 0) = false/\z.length <= sizeLine/\∀ a,H a = none->Q (.ref a) (upd H a (.tup ((partT z y).map V.str)))):=by
 intro pins s σ H x xs v us Q I rx r h
 obtain ⟨z,y,rfl,rfl,hy,hz,q⟩:=h
 obtain ⟨t,rfl⟩:=rx
 obtain ⟨u,rfl,t',rfl⟩:=vals1 r
 have fin:∀ (ts:List Str) (vs:List Value) (k:Nat),ts = partT z y->ts.length <= sizeLine->Vals (ts.map V.str) vs->EP X pins σ Q (.ref s.heap.objs.size) { s with toks:=k,heap:=s.heap.push { cls:=.type "tuple",data:=.seq vs.toArray } }:=fun ts vs k e hl r=>by
  refine ⟨.ref s.heap.objs.size,upd H s.heap.objs.size (.tup ((partT z y).map V.str)),I.laid (t':=k) (fun b u e=>Heap.get?_push_of_some _ e) (Nat.le_refl _) ?_,rfl,q _ (I.hok.fresh (Nat.le_refl _))⟩
  rw [<- e]
  exact ⟨by rw [List.length_map];exact hl,vs,r,⟨_,Heap.get?_push_size _ rfl,rfl,_,rfl⟩⟩
 refine call_meets F.slot_str_partition (typeIs_str _ _ _) F.entry_str_partition (F.args_str_partition_2 _ _) (meets_str_partition z y t t' hy hz) ?_
 unfold partT at fin
 cases ho:Builtin.Str.occurrences z y 0 z.length 1 with
 | nil =>
  rw [ho] at fin
  exact fin _ _ _ rfl (by show 3 <= sizeLine;decide) (.cons ⟨_,rfl⟩ (.cons ⟨_,rfl⟩ (.cons ⟨_,rfl⟩ .nil)))
 | cons i l =>
  rw [ho] at fin
  exact fin _ _ _ rfl (by show 3 <= sizeLine;decide) (.cons ⟨_,rfl⟩ (.cons ⟨_,rfl⟩ (.cons ⟨_,rfl⟩ .nil)))
end
end L2
set_option genSizeOf false
namespace AM
open PySem PySem.Spec PyProof.Rows L2
theorem relV_inj {x y:V}{u:Value}(h:RelV x u)(k:RelV y u):x = y:=by
 cases x <;> cases y <;> simp only [L2.RelV] at h k <;> (try obtain ⟨t,h⟩:=h) <;> (try obtain ⟨t2,k⟩:=k) <;> first | (subst h;cases k <;> rfl) | (rw [h] at k;cases k <;> rfl) | (cases k <;> rfl) | (cases h <;> rfl) | rfl
theorem vals_inj:∀ {xs ys:List V} {us:List Value},Vals xs us->Vals ys us->xs = ys
 | _,_,_,.nil,.nil=>rfl
 | _,_,_,.cons h t,.cons k r=>by rw [relV_inj h k,vals_inj t r]
noncomputable def EqD (K:PySem.W.Frag)(H:Hp):Nat->V->V->Bool->Prop
  | 0,_,_,_=>False
  | n + 1,x,y,b=>(flatV x = true/\flatV y = true/\b = eqV x y) \/
    (b = false/\∃ (a:Addr) (xs:List V),SqT K H a xs/\((x = .non/\y = .ref a)\/(x = .ref a/\y = .non))) \/
    ∃ (a c:Addr) (xs ys:List V),x = .ref a/\y = .ref c /\
      ((SqL K H a xs/\SqL K H c ys/\((xs.length ≠ ys.length/\b = false)\/(xs.length = ys.length/\∃ e:Nat->Bool,(∀ j p q,xs[j]? = some p->ys[j]? = some q->EqD K H n p q (e j))/\b = (List.range xs.length).all e))) \/
       (SqT K H a xs/\SqT K H c ys/\∃ e:Nat->Bool,(∀ j p q,xs[j]? = some p->ys[j]? = some q->EqD K H n p q (e j))/\b = ((List.range (min xs.length ys.length)).all e && xs.length == ys.length)) \/
       (SqL K H a xs/\SqT K H c ys/\b = false)\/(SqT K H a xs/\SqL K H c ys/\b = false))
section
variable {X:Cx}{pins:List (Addr × Obj)}{σ:L2.St}{H:Hp}{s:Shared}
theorem eqV_same {x:V}(h:flatV x = true):eqV x x = true:=by
 cases x <;> first | (simp [eqV];done) | cases h
theorem lst_is (I:Inv X pins σ H s){a:Addr}{xs:List V}(h:SqL X.K H a xs):∃ its:List Value,Vals xs its/\s.heap.IsList a its.toArray:=by
 obtain ⟨its,r,p,_⟩:=I.list h
 exact ⟨its,r,p.isList⟩
theorem tup_is (I:Inv X pins σ H s){a:Addr}{xs:List V}(h:SqT X.K H a xs):∃ its:List Value,Vals xs its/\s.heap.IsTuple a its.toArray:=by
 obtain ⟨its,r,p,_⟩:=I.tuple h
 exact ⟨its,r,p⟩
theorem isL_inj {a:Addr}{xs ys:List Value}(h:s.heap.IsList a xs.toArray)(k:s.heap.IsList a ys.toArray):xs = ys:=by
 obtain ⟨o,h1,h2,n,h3⟩:=h
 obtain ⟨o2,k1,k2,n2,k3⟩:=k
 rw [h1] at k1
 cases k1
 rw [h3] at k3
 injection k3 with e1 e2
 simpa using e1
theorem isT_inj {a:Addr}{xs ys:List Value}(h:s.heap.IsTuple a xs.toArray)(k:s.heap.IsTuple a ys.toArray):xs = ys:=by
 obtain ⟨o,h1,h2,n,h3⟩:=h
 obtain ⟨o2,k1,k2,n2,k3⟩:=k
 rw [h1] at k1
 cases k1
 rw [h3] at k3
 injection k3 with e1 e2
 simpa using e1
theorem all_true {e:Nat->Bool}{n:Nat}(h:∀ j,j < n->e j = true):(List.range n).all e = true:=by
 rw [List.all_eq_true]
 intro j hj
 exact h j (List.mem_range.mp hj)
theorem EqD.same (I:Inv X pins σ H s):∀ {n:Nat} {x:V} {b:Bool},EqD X.K H n x x b->b = true
 | 0,_,_,h=>h.elim
 | n + 1,x,b,h=>by
  have ga:∀ {xs:List V} {e:Nat->Bool},(∀ j p q,xs[j]? = some p->xs[j]? = some q->EqD X.K H n p q (e j))->∀ j,j < xs.length->e j = true:=fun {xs e} h j hj =>
   EqD.same I (h j xs[j] xs[j] (List.getElem?_eq_getElem hj) (List.getElem?_eq_getElem hj))
  rcases h with ⟨f,_,rfl⟩ | ⟨_,a,xs,_,⟨e1,e2⟩ | ⟨e1,e2⟩⟩ | ⟨a,c,xs,ys,e1,e2,h⟩
  rotate_left 1
  ·subst e1;cases e2
  ·subst e1;cases e2
  rotate_left 1
  ·exact eqV_same f
  ·subst e1
   cases e2
   rcases h with ⟨h1,h2,h⟩ | ⟨h1,h2,h⟩ | ⟨h1,h2,h⟩ | ⟨h1,h2,h⟩
   ·obtain ⟨us,r1,p1⟩:=lst_is I h1
    obtain ⟨vs,r2,p2⟩:=lst_is I h2
    have e:=isL_inj p1 p2
    subst e
    have e:=vals_inj r1 r2
    subst e
    rcases h with ⟨h,_⟩ | ⟨_,e,h,rfl⟩
    ·exact absurd rfl h
    ·exact all_true (ga h)
   ·obtain ⟨us,r1,p1⟩:=tup_is I h1
    obtain ⟨vs,r2,p2⟩:=tup_is I h2
    have e:=isT_inj p1 p2
    subst e
    have e:=vals_inj r1 r2
    subst e
    obtain ⟨e,h,rfl⟩:=h
    rw [Nat.min_self,all_true (ga h)]
    simp
   ·obtain ⟨us,r1,p1⟩:=lst_is I h1
    obtain ⟨vs,r2,p2⟩:=tup_is I h2
    exact absurd rfl (SeqAt.ne_of_list_tuple p1 p2)
   ·obtain ⟨us,r1,p1⟩:=tup_is I h1
    obtain ⟨vs,r2,p2⟩:=lst_is I h2
    exact absurd rfl (SeqAt.ne_of_list_tuple p2 p1)
mutual
theorem EqD.rc (I:Inv X pins σ H s):∀ {n:Nat} {A:Around} {a c:Addr} {b:Bool},A.units + n < cLine->EqD X.K H n (.ref a) (.ref c) b->SeqAt.RcAt A s (.ref a) (.ref c) b/\SeqAt.RcNeAt A s (.ref a) (.ref c) (!b)
 | 0,_,_,_,_,_,h=>h.elim
 | n + 1,A,a,c,b,hu,h=>by
  have hu':A.in1.units + n < cLine:=by
   show A.units + 1 + n < cLine
   omega
  have h0:A.units < cLine:=by omega
  have items:∀ {xs ys:List V} {us vs:List Value} {e:Nat->Bool},Vals xs us->Vals ys vs->(∀ j p q,xs[j]? = some p->ys[j]? = some q->EqD X.K H n p q (e j)) ->
    ∀ j (h1:j < us.toArray.size) (h2:j < vs.toArray.size),SeqAt.EqAt A.in1 s us.toArray[j] vs.toArray[j] (e j):=fun {xs ys us vs e} r1 r2 h j h1 h2=>by
   have l1:j < xs.length:=by rw [r1.length];simpa using h1
   have l2:j < ys.length:=by rw [r2.length];simpa using h2
   obtain ⟨u,g1,q1⟩:=r1.get (List.getElem?_eq_getElem l1)
   obtain ⟨v,g2,q2⟩:=r2.get (List.getElem?_eq_getElem l2)
   have e1:us.toArray[j] = u:=by
    have:us[j]? = some u:=g1
    rw [List.getElem?_eq_some_iff] at this
    simpa using this.2
   have e2:vs.toArray[j] = v:=by
    have:vs[j]? = some v:=g2
    rw [List.getElem?_eq_some_iff] at this
    simpa using this.2
   rw [e1,e2]
   exact EqD.at I hu' q1 q2 (h j _ _ (List.getElem?_eq_getElem l1) (List.getElem?_eq_getElem l2))
  rcases h with ⟨f,_,_⟩ | ⟨_,a,xs,_,⟨e1,e2⟩ | ⟨e1,e2⟩⟩ | ⟨a',c',xs,ys,e1,e2,h⟩
  rotate_left 1
  ·cases e1
  ·cases e2
  rotate_left 1
  ·cases f
  ·cases e1
   cases e2
   rcases h with ⟨h1,h2,h⟩ | ⟨h1,h2,h⟩ | ⟨h1,h2,rfl⟩ | ⟨h1,h2,rfl⟩
   ·obtain ⟨us,r1,p1⟩:=lst_is I h1
    obtain ⟨vs,r2,p2⟩:=lst_is I h2
    rcases h with ⟨hl,rfl⟩ | ⟨hl,e,h,rfl⟩
    ·have hz:(us.toArray.size != vs.toArray.size) = true:=by
      rw [bne_iff_ne]
      simp only [List.size_toArray]
      rw [<- r1.length,<- r2.length]
      exact hl
     exact ⟨SeqAt.RcAt.lists_lengths p1 p2 hz h0,SeqAt.RcNeAt.lists_lengths p1 p2 hz h0⟩
    ·have hz:us.toArray.size = vs.toArray.size:=by
      simp only [List.size_toArray]
      rw [<- r1.length,<- r2.length]
      exact hl
     have e3:xs.length = us.toArray.size:=by simp only [List.size_toArray];exact r1.length
     rw [e3]
     exact ⟨SeqAt.RcAt.lists p1 p2 hz h0 (items r1 r2 h),SeqAt.RcNeAt.lists p1 p2 hz h0 (items r1 r2 h)⟩
   ·obtain ⟨us,r1,p1⟩:=tup_is I h1
    obtain ⟨vs,r2,p2⟩:=tup_is I h2
    obtain ⟨e,h,rfl⟩:=h
    have e3:xs.length = us.toArray.size:=by simp only [List.size_toArray];exact r1.length
    have e4:ys.length = vs.toArray.size:=by simp only [List.size_toArray];exact r2.length
    rw [e3,e4]
    exact ⟨SeqAt.RcAt.tuples p1 p2 h0 (items r1 r2 h),SeqAt.RcNeAt.tuples p1 p2 h0 (items r1 r2 h)⟩
   ·obtain ⟨us,r1,p1⟩:=lst_is I h1
    obtain ⟨vs,r2,p2⟩:=tup_is I h2
    exact ⟨SeqAt.RcAt.list_tuple p1 p2 h0,SeqAt.RcNeAt.list_tuple p1 p2 h0⟩
   ·obtain ⟨us,r1,p1⟩:=tup_is I h1
    obtain ⟨vs,r2,p2⟩:=lst_is I h2
    exact ⟨SeqAt.RcAt.tuple_list p1 p2 h0,SeqAt.RcNeAt.tuple_list p1 p2 h0⟩
termination_by n=>2 * n
theorem EqD.at (I:Inv X pins σ H s):∀ {n:Nat} {A:Around} {x y:V} {u v:Value} {b:Bool},A.units + n < cLine->RelV x u->RelV y v->EqD X.K H n x y b->SeqAt.EqAt A s u v b
 | n,A,x,y,u,v,b,hu,rx,ry,h=>by
  by_cases hf:flatV x = true/\flatV y = true
  ·cases n with
   | zero=>exact h.elim
   | succ n =>
    rcases h with ⟨_,_,rfl⟩ | ⟨_,a,xs,_,⟨e1,e2⟩ | ⟨e1,e2⟩⟩ | ⟨a,c,xs,ys,e1,e2,h⟩
    rotate_left 1
    ·subst e2;cases hf.2
    ·subst e1;cases hf.1
    rotate_left 1
    ·exact eqAt_V rx ry hf.1 hf.2
    ·subst e1
     cases hf.1
  ·have:(∃ a c,x = .ref a/\y = .ref c)\/(b = false/\∃ (a:Addr) (xs:List V),SqT X.K H a xs/\((x = .non/\y = .ref a)\/(x = .ref a/\y = .non))):=by
    cases n with
    | zero=>exact h.elim
    | succ n =>
     rcases h with ⟨h1,h2,rfl⟩ | h | ⟨a,c,xs,ys,e1,e2,h⟩
     ·exact absurd ⟨h1,h2⟩ hf
     ·exact .inr h
     ·exact .inl ⟨a,c,e1,e2⟩
   rcases this with ⟨a,c,rfl,rfl⟩ | ⟨rfl,a,xs,hq,⟨rfl,rfl⟩ | ⟨rfl,rfl⟩⟩
   rotate_left
   ·obtain ⟨us,_,p⟩:=tup_is I hq
    cases rx
    cases ry
    exact SeqAt.EqAt.none_tuple p (by omega)
   ·obtain ⟨us,_,p⟩:=tup_is I hq
    cases rx
    cases ry
    exact SeqAt.EqAt.tuple_none p (by omega)
   cases rx
   cases ry
   by_cases hac:a = c
   ·subst hac
    rw [EqD.same I h]
    exact SeqAt.EqAt.same _
   ·exact SeqAt.EqAt.of_refs hac (EqD.rc I hu h).1
termination_by n=>2 * n + 1
end
noncomputable def rEqD (K:PySem.W.Frag):R2:=fun x y H Q=>rEq x y H Q\/∃ b a c,x = .ref a/\y = .ref c/\EqD K H 12 x y b/\Q (.bl b) H
noncomputable def rNeD (K:PySem.W.Frag):R2:=fun x y H Q=>rNe x y H Q\/∃ b a c,x = .ref a/\y = .ref c/\EqD K H 12 x y b/\Q (.bl (!b)) H
theorem op_eqD (hu:X.A.units + 12 < cLine):OpR X (compareOp .Eq) (rEqD X.K):=by
 intro pins s σ H x y v u Q I rx ry h
 rcases h with h | ⟨b,a,c,rfl,rfl,h,q⟩
 ·exact op_eq pins s σ H x y v u Q I rx ry h
 ·cases rx
  cases ry
  exact (EqD.rc I hu h).1 _ _ _ _ ⟨.bl b,H,I,rfl,q⟩
theorem op_neD (hu:X.A.units + 12 < cLine):OpR X (compareOp .NotEq) (rNeD X.K):=by
 intro pins s σ H x y v u Q I rx ry h
 rcases h with h | ⟨b,a,c,rfl,rfl,h,q⟩
 ·exact op_ne pins s σ H x y v u Q I rx ry h
 ·cases rx
  cases ry
  exact (EqD.rc I hu h).2 _ _ _ _ ⟨.bl (!b),H,I,rfl,q⟩
end
end AM
set_option genSizeOf false
namespace AM
open PySem PySem.Spec PyProof.Rows L2
section
variable {X:Cx}
noncomputable def rIxD:R2:=fun x y H Q=>∃ a v,x = .ref a/\DGet H a y (some v)/\Q v H
theorem ix_dct (hu:X.A.units + 1 < cLine):IxR X rIxD:=by
 intro value slice pins s σ H x y o i Q I rx ry h hs
 obtain ⟨a,v,rfl,g,q⟩:=h
 cases rx
 have hT:=dict_typeIs I g
 have hl:=PySem.F.slot_dict_getitem.lookup
 have h2:wpAny (model X.prog X.w) X.A (getItem (.ref a) i) (EP X pins σ Q) X.xe s:=d_getItem hu I g ry fun w' s3 I3 rw'=>⟨v,H,I3,rw',q⟩
 unfold subscriptTail
 refine wpAny_bind ?_
 rw [getitemInPython_of_ne hT.not_modules]
 refine wpAny_bind (wpAny_specialOf hT hl ?_)
 have fin:wpAny (model X.prog X.w) X.A (subscripted slice false (.ref a) i) (fun r s₃=>wpAny (model X.prog X.w) X.A (letTemporaryGo value (.ref a) r >>= fun _=>pure r) (EP X pins σ Q) X.xe s₃) X.xe s:=by
  rw [hs]
  exact wpAny_operating (wpAny_mono h2 (fun r s₃ h₃=>wpAny_bind (wpAny_letTemporaryGo (wpAny_pure h₃))) fun _ _ x=>x)
 first
  | exact wpAny_pure (wpAny_bind fin)
  | exact wpAny_bind (wpAny_pure (wpAny_bind fin))
  | exact wpAny_bind fin
noncomputable def rInD (neg:Bool):R2:=fun y x H Q=>∃ a o,x = .ref a/\DGet H a y o/\Q (.bl (if neg then !o.isSome else o.isSome)) H
theorem op_in_dct (hu:X.A.units + 1 < cLine):OpR X (compareOp .In) (rInD false):=by
 intro pins s σ H x y v u Q I rx ry h
 obtain ⟨a,o,rfl,g,q⟩:=h
 cases ry
 exact d_in hu I g rx fun s3 I3=>⟨.bl o.isSome,H,I3,rfl,q⟩
theorem op_notIn_dct (hu:X.A.units + 1 < cLine):OpR X (compareOp .NotIn) (rInD true):=by
 intro pins s σ H x y v u Q I rx ry h
 obtain ⟨a,o,rfl,g,q⟩:=h
 cases ry
 exact d_notIn hu I g rx fun s3 I3=>⟨.bl (!o.isSome),H,I3,rfl,q⟩
noncomputable def rSetD:V->V->V->Hp->(Hp->Prop)->Prop:=fun o i v H Q=>∃ a H',o = .ref a/\DPut H a i v H'/\Q H'
theorem set_dct (hu:X.A.units + 1 < cLine):PSet X (fun o i v H Q=>rSetL o i v H Q\/rSetD o i v H Q):=by
 intro pins s σ H o i v ov iv u Q I ro ri rv h
 rcases h with h | ⟨a,H',rfl,g,q⟩
 ·exact set_list pins s σ H o i v ov iv u Q I ro ri rv h
 ·cases ro
  exact d_setItem hu I g ri rv fun s4 I4=>⟨_,I4,q⟩
end
end AM
set_option genSizeOf false
namespace AM
open PySem PySem.Spec PyProof.Rows L2
section
variable {X:Cx}
end
theorem hash_none {prog:Program}{w:World}{A:Around}{E:Value->Shared->Prop}{s:Shared}{Q:Int->Shared->Prop}(h:Q 4238894112 { s with toks:=s.toks + 1 }):wpAny (model prog w) A (pyHash .none) Q E s:=by
 show wpAny _ A (pyHashByItsType .none) Q E s
 refine W.pyHash_slot (typeIs_none s) PySem.F.slot_NoneType_hash PySem.F.entry_NoneType_hash (by unfold argsOk;rfl) rfl (.inl rfl) ?_
 unfold Builtin.«NoneType.__hash__»
 refine wpAny_bind ?_
 refine wpAny_pure ?_
 have:=wpAny_ret_mkInt (M:=model prog w) (A:=A.in1) (E:=E) (s:=s) (i:=4238894112) (Q:=fun v s'=>∃ n t,v = Value.int n t/\Q (reduceHash n) s') ⟨_,_,rfl,h⟩
 exact thn this fun fin s' ⟨v,e1,n,t,e2,q⟩=>⟨n,t,by rw [e1,e2],q⟩
noncomputable def isN:Option Key->Value->Bool
 | none,.none=>true
 | none,_=>false
 | some k,v=>keyIs k v
theorem isN_none {v:Value}(h:isN none v = true):v = .none:=by cases v <;> first | rfl | cases h
theorem key_some (a b:Key):decide (some a = some b) = decide (a = b):=by simp
noncomputable def mixN (prog:Program)(w:World):PySem.KeyKind prog w (Option Key) where
 is:=isN
 hash:=fun k=>match k with
  | none=>4238894112
  | some k=>keyH w k
 inj:=fun v a b ha hb=>by
  cases a with
  | none=>cases b with
   | none=>rfl
   | some b=>cases isN_none ha;rcases keyIs_shape hb with ⟨i,t,rfl,e⟩ | ⟨x,t,rfl,e⟩ <;> exact nomatch e
  | some a=>cases b with
   | none=>cases isN_none hb;rcases keyIs_shape ha with ⟨i,t,rfl,e⟩ | ⟨x,t,rfl,e⟩ <;> exact nomatch e
   | some b=>rw [(mixKind prog w).inj v a b ha hb]
 byValue:=fun k v h=>by
  cases k with
  | none=>cases isN_none h;rfl
  | some k=>exact (mixKind prog w).byValue k v h
 pyHash:=fun {A E s k v Q} hv h=>by
  cases k with
  | none=>cases isN_none hv;exact hash_none h
  | some k=>exact (mixKind prog w).pyHash (k:=k) hv h
 eqBool:=fun {A E s a b u v Q} hu hv h=>by
  cases a with
  | none=>cases b with
   | none=>cases isN_none hu;cases isN_none hv;exact SeqAt.EqAt.same Value.none _ _ _ _ h
   | some b =>
    cases isN_none hu
    rcases keyIs_shape hv with ⟨j,u,rfl,rfl⟩ | ⟨y,u,rfl,rfl⟩
    ·exact SeqAt.EqAt.none_int j u _ _ _ _ h
    ·exact SeqAt.EqAt.none_str y u _ _ _ _ h
  | some a=>cases b with
   | none =>
    cases isN_none hv
    rcases keyIs_shape hu with ⟨j,u,rfl,rfl⟩ | ⟨y,u,rfl,rfl⟩
    ·exact SeqAt.EqAt.int_none j u _ _ _ _ h
    ·exact SeqAt.EqAt.str_none y u _ _ _ _ h
   | some b=>rw [key_some] at h;exact (mixKind prog w).eqBool (a:=a) (b:=b) hu hv h
 «strs»:=fun k x t v h=>by
  cases k with
  | none=>cases h
  | some k=>exact (mixKind prog w).strs k x t v h
theorem mapN {prog:Program}{w:World}{h:Heap}{a:Addr}{vs:List (Key × Value)}(dd:h.DictOf (mixKind prog w) a vs):∃ f,f none = none/\Heap.MapOf (mixN prog w) h a f:=by
 obtain ⟨o,es,ep,h1,h2,h3,h4,h5⟩:=dd.mapOf
 refine ⟨fun k=>findBy isN es k,?_,o,es,ep,h1,h2,h3,fun e he=>?_,fun _=>rfl⟩
 ·have:es.find? (fun e=>isN none e.key) = none:=by
   rw [Array.find?_eq_none]
   intro e he hn
   obtain ⟨k,hk,_⟩:=h4 e he
   rw [isN_none hn] at hk
   rcases keyIs_shape hk with ⟨i,t,rfl,e⟩ | ⟨x,t,rfl,e⟩ <;> exact nomatch e
  show Option.map _ (es.find? (fun e=>isN none e.key)) = none
  rw [this];rfl
 ·obtain ⟨k,hk,hh⟩:=h4 e he
  exact ⟨some k,hk,hh⟩
section
variable {X:Cx}
noncomputable def rDGet:V->List V->Hp->VK->Prop:=fun x vs H Q=>(∃ a y o,x = .ref a/\DGet H a y o/\((vs = [y]/\Q (o.getD .non) H)\/∃ z,vs = [y,z]/\Q (o.getD z) H))\/∃ a kvs,x = .ref a/\H a = some (.dK kvs)/\vs = [.non]/\Q .non H
theorem mt_dget (hu:X.A.units + 1 < cLine):MtM X "dict.get" rDGet:=by
 intro pins s σ H x vs v us Q I rx rv h
 rcases h with ⟨a,y,o,rfl,g,h⟩ | ⟨a,kvs,rfl,g,rfl,q⟩
 ·cases rx
  rcases h with ⟨rfl,q⟩ | ⟨z,rfl,q⟩
  ·obtain ⟨u,rfl,ru⟩:=rv.one
   exact d_get1 hu I g ru fun w' s3 I3 rw'=>⟨_,H,I3,rw',q⟩
  ·obtain ⟨u1,u2,rfl,r1,r2⟩:=vals2 rv
   exact d_get2 hu I g r1 r2 fun w' s3 I3 rw'=>⟨_,H,I3,rw',q⟩
 ·cases rx
  obtain ⟨u,rfl,ru⟩:=rv.one
  cases (show u = Value.none from ru)
  obtain ⟨z,hd,vs,rel,dd⟩:=dk_of I.hok g
  obtain ⟨f,hf,m⟩:=mapN dd
  refine call_meetsIn PySem.F.slot_dict_get dd.typeIs PySem.F.entry_dict_get (PySem.F.args_dict_get_2 _ _) (meets_dict_get (mixN X.prog X.w) a (k:=none) rfl hd) ⟨f,m,.non,H,I.tok _,?_,q⟩
  rw [hf];rfl
noncomputable def rDPop:V->List V->Hp->VK->Prop:=fun x vs H Q=>∃ a kvs k,x = .ref a/\H a = some (.dK kvs) /\
 ((vs = [kV k]/\∃ v,valV kvs k = some v/\Q v (upd H a (.dK (dropK kvs k))))\/∃ z,vs = [kV k,z]/\(∀ v,valV kvs k = some v->Q v (upd H a (.dK (dropK kvs k))))/\(valV kvs k = none->Q z H))
theorem mt_dpop:MtM X "dict.pop" rDPop:=by
 intro pins s σ H x vs v us Q I rx rv h
 obtain ⟨a,kvs,k,rfl,e,h⟩:=h
 cases rx
 rcases h with ⟨rfl,v,l,q⟩ | ⟨z,rfl,q1,q2⟩
 ·obtain ⟨u,rfl,ru⟩:=rv.one
  exact d_pop I e ru l (.inl rfl) fun w' s3 I3 rw'=>⟨v,_,I3,rw',q⟩
 ·obtain ⟨u1,u2,rfl,r1,r2⟩:=vals2 rv
  cases l:valV kvs k with
  | some v=>exact d_pop I e r1 l (.inr ⟨_,rfl⟩) fun w' s3 I3 rw'=>⟨v,_,I3,rw',q1 v l⟩
  | none=>exact d_popD I e r1 l fun s3 I3=>⟨z,H,I3,r2,q2 l⟩
noncomputable def rDSet:V->List V->Hp->VK->Prop:=fun x vs H Q=>∃ a kvs k z,x = .ref a/\H a = some (.dK kvs)/\vs = [kV k,z]/\kvs.length < sizeLine/\(∀ v,valV kvs k = some v->Q v H)/\(valV kvs k = none->Q z (upd H a (.dK (putK kvs k z))))
theorem mt_dset:MtM X "dict.setdefault" rDSet:=by
 intro pins s σ H x vs v us Q I rx rv h
 obtain ⟨a,kvs,k,z,rfl,e,rfl,hz,q1,q2⟩:=h
 cases rx
 obtain ⟨u1,u2,rfl,r1,r2⟩:=vals2 rv
 obtain ⟨zl,hd,ws,rel,dd⟩:=dk_of I.hok e
 refine call_meetsIn PySem.F.slot_dict_setdefault dd.typeIs PySem.F.entry_dict_setdefault (PySem.F.args_dict_setdefault_3 _ _ _) (kt_meets_setdefault (mixKind X.prog X.w) a (kV_is r1) hd u2)
  ⟨ws,dd,by rw [<- rel.length];exact zl,fun w' hw=>?_,fun hn h' dd' hs=>?_⟩
 ·cases l:valV kvs k with
  | none =>
   have:valueAt ws k = none:=RelO.none_of (by rw [<- l];exact rel.val k)
   rw [this] at hw
   cases hw
  | some v =>
   obtain ⟨w2,h2,r3⟩:=RelO.some_of (v:=v) (o:=valueAt ws k) (by rw [<- l];exact rel.val k)
   rw [h2] at hw
   cases hw
   exact ⟨v,H,I.tok _,r3,q1 v l⟩
 ·have l:valV kvs k = none:=by
   cases l:valV kvs k with
   | none=>rfl
   | some v =>
    obtain ⟨w2,h2,r3⟩:=RelO.some_of (v:=v) (o:=valueAt ws k) (by rw [<- l];exact rel.val k)
    rw [h2] at hn
    cases hn
  have he:∃ q,h'.get? a = some q:=let ⟨q,_,_,hq,_⟩:=dd';⟨q,hq⟩
  refine ⟨z,_,d_write I (by rw [e];exact True.intro) hs he (dk_new (kvs:=putK kvs k z) ?_ hd (rel.put k r2) dd'),r2,q2 l⟩
  have:=length_putK kvs k z
  omega
end
end AM
set_option genSizeOf false
namespace AM
open PySem PySem.Spec PyProof.Rows L2
theorem vals_bl {bs:List Bool}:∀ {us:List Value},Vals (bs.map V.bl) us->us = bs.map Value.bool:=by
 induction bs with
 | nil=>intro us r;cases r;rfl
 | cons b bs ih =>
  intro us r
  cases r with
  | cons h t =>
   have h':_ = Value.bool b:=h
   subst h'
   rw [ih t];rfl
theorem vals_int {ns:List Int}:∀ {us:List Value},Vals (ns.map V.int) us->IntsAre us ns:=by
 induction ns with
 | nil=>intro us r;cases r;exact .nil
 | cons n ns ih =>
  intro us r
  cases r with
  | cons h t =>
   obtain ⟨k,rfl⟩:=(show ∃ k,_ = Value.int n k from h)
   exact .cons n k (ih t)
theorem ints_vals:∀ {us:List Value} {ns:List Int},IntsAre us ns->Vals (ns.map V.int) us
 | _,_,.nil=>.nil
 | _,_,.cons n t r=>.cons ⟨t,rfl⟩ (ints_vals r)
theorem range_any (bs:List Bool):(List.range bs.length).any (fun i=>(bs[i]?).getD false) = bs.any id:=by
 rw [Bool.eq_iff_iff,List.any_eq_true,List.any_eq_true]
 constructor
 ·rintro ⟨i,hi,h⟩
  have hi':=List.mem_range.mp hi
  rw [List.getElem?_eq_getElem hi'] at h
  exact ⟨bs[i],List.getElem_mem hi',h⟩
 ·rintro ⟨b,hb,h⟩
  obtain ⟨i,hi,e⟩:=List.getElem_of_mem hb
  exact ⟨i,List.mem_range.mpr hi,by rw [List.getElem?_eq_getElem hi,e];exact h⟩
noncomputable def sortI (rev:Bool)(ns:List Int):List Int:=ns.mergeSort (fun a b=>if rev then decide (b <= a) else decide (a <= b))
theorem sortI_eq {rev:Bool}{ns ns':List Int}(hp:ns'.Perm ns)(ho:Ordered rev ns'):ns' = sortI rev ns:=by
 have hs:List.Pairwise (fun a b=>(if rev then decide (b <= a) else decide (a <= b)) = true) (sortI rev ns):=by
  refine List.pairwise_mergeSort ?_ ?_ ns
  ·intro a b c;cases rev <;> simp <;> omega
  ·intro a b;cases rev <;> simp <;> omega
 refine List.Perm.eq_of_pairwise (le:=fun a b=>(if rev then decide (b <= a) else decide (a <= b)) = true) ?_ ?_ hs (hp.trans (List.mergeSort_perm _ _).symm)
 ·intro a b _ _;cases rev <;> simp <;> omega
 ·unfold Ordered at ho
  cases rev with
  | true=>exact List.Pairwise.imp (fun h=>by simpa using h) (by simpa using ho)
  | false=>exact List.Pairwise.imp (fun h=>by simpa using h) (by simpa using ho)
section
variable {X:Cx}{pins:List (Addr × Obj)}{σ:L2.St}{H:Hp}{s:Shared}
theorem call_anyL (hc:X.calm = true):CallR X (.builtin "any") (fun xs H Q=>∃ (a:Addr) (bs:List Bool),xs = [.ref a]/\SqL X.K H a (bs.map V.bl)/\Q (.bl (bs.any id)) H):=by
 intro pins s σ H xs us Q I r h
 obtain ⟨a,bs,rfl,hq,q⟩:=h
 obtain ⟨u,rfl,ru⟩:=r.one
 cases ru
 obtain ⟨its,rv,p,hz⟩:=I.list hq
 have e:=vals_bl rv
 subst e
 have hh:X.A.in1.handled = none:=I.ok.hd hc
 obtain ⟨ob,h1,h2,n,h3⟩:=p.isList
 refine call_any_walk (wpAny_pyIter_list p.isList ?_)
 refine ⟨s.heap.objs.size,_,_,_,_,_,fun i=>(bs[i]?).getD false,rfl,Walks.list hh s.heap.objs.size a (Nat.ne_of_lt (Heap.lt_size h1)) (bs.map Value.bool).toArray,⟨⟨_,Heap.get?_push_size _ rfl,rfl,rfl⟩,⟨ob,Heap.get?_push_of_some _ h1,h2,n,h3⟩⟩,fun i v s' Q' E' hP hQ=>?_,fun h' tk k=>?_⟩
 ·dsimp only at hP hQ
  rw [List.getElem?_toArray,List.getElem?_map] at hP
  cases e:bs[i]? with
  | none=>rw [e] at hP;cases hP
  | some b =>
   rw [e] at hP hQ
   have hP':Value.bool b = v:=Option.some.inj hP
   subst hP'
   exact wpAny_truthy_bool hQ
 ·have hl:(bs.map Value.bool).toArray.size = bs.length:=by simp
  rw [hl,range_any]
  refine ⟨.bl _,H,I.kept (t':=tk) fun b o e=>k b o ?_ (Heap.get?_push_of_some _ e),rfl,q⟩
  intro hb
  have e':b = s.heap.objs.size:=by simpa using hb
  subst e'
  exact absurd (Heap.lt_size e) (Nat.lt_irrefl _)
theorem call_sortK (b:Bool){l:Addr}{ns:List Int}{Q:VK}(I:Inv X pins σ H s)(hq:SqL X.K H l (ns.map V.int))(hn:ns.length < 64)(q:∀ D,H D = none->Q (.ref D) (upd H D (.lst ((sortI b ns).map V.int)))) :
  wpAny (model X.prog X.w) X.A (call (.builtin "sorted") [.ref l] [(Str.ofString "reverse",.bool b)]) (EP X pins σ Q) X.xe s:=by
 obtain ⟨its,rv,p,hz⟩:=I.list hq
 have hl:its.length = ns.length:=by have:=rv.length;simpa using this.symm
 refine sorted_ints_rev p.isList (vals_int rv) (by omega) fun out ns' ia hp ho=>?_
 have e:=sortI_eq hp ho
 subst e
 obtain ⟨e2,h2⟩:=sortedAll_at s.heap its out
 refine ⟨.ref _,_,I.laid (o:=.lst ((sortI b ns).map V.int)) (t':=s.toks) (fun b u z=>sortedAll_old z) (Nat.le_succ _) ⟨?_,out.toList,e2,ints_vals ia,by rw [h2]⟩,rfl,q _ (I.hok.fresh (Nat.le_succ _))⟩
 have:=hp.length_eq
 rw [List.length_map,this]
 have:(64:Nat) <= sizeLine:=by decide
 omega
theorem min_eq (l:Addr)(d:Value):Builtin.min { pos:=[.ref l],kw:=[(Str.ofString "default",d)] } = (do
   let it <- pyIter (.ref l)
   let S <- newList []
   again (.builtin "min.loop" { pos:=[it,.none,S],kw:=[(Str.ofString "default",d)] })):=by
  with_unfolding_all rfl
theorem chk_min (a d:Value):checkBuiltinCall "min" { pos:=[a],kw:=[(Str.ofString "default",d)] } = pure ():=by with_unfolding_all rfl
theorem minloop0 (I S:Addr)(d:Value)(n:Str):∃ k:Option (Array Value)->Sem PySem.Fin,Builtin.«min.loop» { pos:=[.ref I,.none,.ref S],kw:=[(n,d)] } = (seqItems? (.ref S) >>= k) /\
  ∃ (h:Value->Sem (Option Value)) (k2:Option Value->Sem PySem.Fin),k (some #[]) = ((tryCatch (pyNext (.ref I)) h) >>= k2)/\k2 none = (rule "min.default" >>= fun _=>ret d):=by
 refine ⟨_,by with_unfolding_all rfl,_,_,by with_unfolding_all rfl,by with_unfolding_all rfl⟩
theorem call_minD0 (hc:X.calm = true){l:Addr}{d:Value}{v:V}{Q:VK}(I:Inv X pins σ H s)(hq:SqL X.K H l [])(rd:RelV v d)(q:Q v H) :
  wpAny (model X.prog X.w) X.A (call (.builtin "min") [.ref l] [(Str.ofString "default",d)]) (EP X pins σ Q) X.xe s:=by
 obtain ⟨its,rv,p,hz⟩:=I.list hq
 cases rv
 have hh:X.A.handled = none:=I.ok.hd hc
 obtain ⟨ob,h1,h2,n,h3⟩:=p.isList
 refine wpAny_call (codeAny_call_builtin PySem.F.plain_min PySem.F.entry_min ?_)
 rw [chk_min]
 refine wpAny_pure ?_
 rw [min_eq]
 refine wpAny_bind (wpAny_pyIter_list p.isList (wpAny_bind (wpAny_newList ?_)))
 refine wpAny_pure ⟨Code.quiet_builtin _ (by decide +kernel),codeAny_builtin PySem.F.entry_min_loop ?_⟩
 obtain ⟨k,e1,hd,k2,e2,e3⟩:=minloop0 s.heap.objs.size (s.heap.push { cls:=.type "list_iterator",data:=.fields #[.ref l,.int 0 0] }).objs.size d (Str.ofString "default")
 rw [e1]
 refine wpAny_bind (wpAny_seqItems (Heap.get?_push_size _ rfl) rfl ?_)
 show wpAny _ _ (k (some #[])) _ _ _
 rw [e2]
 refine wpAny_bind (wpAny_tryCatch (wpAny_pyNext_list_end (items:=#[]) (l:=l) (i:=0) hh ?_ ?_ rfl fun h' eb=>?_))
 ·exact ⟨_,Heap.get?_push_of_some _ (Heap.get?_push_size _ rfl),rfl,rfl⟩
 ·exact ⟨ob,Heap.get?_push_of_some _ (Heap.get?_push_of_some _ h1),h2,n,h3⟩
 ·rw [e3]
  refine wpAny_bind (wpAny_rule (wpAny_pure ?_))
  refine ⟨v,H,I.kept (t':=s.toks) fun b o e=>eb b o ?_ (Heap.get?_push_of_some _ (Heap.get?_push_of_some _ e)),rd,q⟩
  intro hb
  subst hb
  exact absurd (Heap.lt_size e) (Nat.lt_irrefl _)
theorem pe_callBK {x nm:Str}{id:String}{p pos kp:Pos}{e kc:Expr}{t:TE}{z:V}{r:V->Hp->VK->Prop}(hc:∀ pins s σ H v u zu Q,Inv X pins σ H s->RelV v u->RelV z zu->r v H Q->wpAny (model X.prog X.w) X.A (call (.builtin id) [u] [(nm,zu)]) (EP X pins σ Q) X.xe s)
  (hg:Gl X x) (hm:X.mg x = none) (hv:bootBuiltins x = some (.builtin id)) (ha:PE X e t) (hk:PE X kc (tC z)) (hs:starEach [e] X.env = [(false,eval e X.env)]) (hn:x ≠ "__name__":=by decide) (hdb:(x == ("__debug__":Str)) = false:=by decide) :
  PE X (.Call (.Name x p) [e] [⟨some nm,kc,kp⟩] pos) (fun σ H Q=>t σ H fun v H1=>r v H1 Q):=by
 intro pins s σ H Q I h
 refine wpAny_Call_Name_kw (ld_blt I hg hm hv ?_ hn hdb)
 have pa:PA X [e] (tCons t tNil):=pa_cons ha pa_nil hs
 have pk:PK X [⟨some nm,kc,kp⟩] (tCons (tC z) tNil):=pk_cons hk pk_nil
 obtain ⟨y,rest,hs'⟩:∃ y rest,backTo pos (starEach [e] X.env) = (false,y) :: rest:=by rw [hs];exact ⟨_,_,rfl⟩
 have ha1:(backTo pos (starEach [e] X.env)).any (·.1) = false:=by rw [hs];rfl
 refine callWith_builtin_kwB ha1 rfl ?_
 have h1:=pa pos pins s σ H (fun vs H1=>match vs with
  | [v]=>r v H1 Q
  | _=>False) I h
 rw [hs'] at h1 ⊢
 refine evalArgs_kw rfl ?_
 refine thn h1 fun us s1 ⟨vs,H1,I1,r1,q1⟩=>?_
 obtain ⟨v,rfl⟩:∃ v,vs = [v]:=by
  match vs,q1 with
  | [v],_=>exact ⟨v,rfl⟩
 obtain ⟨u,rfl,ru⟩:=r1.one
 refine thn (pk pos pins s1 σ H1 (fun zs H2=>zs = [z]/\H2 = H1) I1 ⟨rfl,rfl⟩) fun ws s2 ⟨zs,H2,I2,rz,ez,eH⟩=>?_
 subst ez eH
 obtain ⟨zu,rfl,rzu⟩:=rz.one
 exact hc pins s2 σ H2 v u zu Q I2 ru rzu q1
end
end AM
set_option genSizeOf false
namespace AM
open PySem PySem.Spec PyProof.Rows L2
section
variable {X:Cx}{pins:List (Addr × Obj)}{σ:L2.St}{H:Hp}{s:Shared}{a b c d:Expr}{ta tb tc td:TE}{pos:Pos}
noncomputable def tLink (r:R2)(x:V)(tb:TE)(tk:V->TE):TE:=fun σ H Q=>tb σ H fun y H2=>r x y H2 fun z H3=>∃ k,z = .bl k/\(if k = true then tk y σ H3 Q else Q (.bl false) H3)
noncomputable def tChain3 (r r' r'':R2)(ta tb tc td:TE):TE:=fun σ H Q=>ta σ H fun x H1=>tLink r x tb (fun y=>tLink r' y tc fun u σ H Q=>td σ H fun v H4=>r'' u v H4 Q) σ H1 Q
theorem pe_chain3 {op op' op'':CmpOp}{r r' r'':R2}(ho:OpR X (compareOp op) r)(ho':OpR X (compareOp op') r')(ho'':OpR X (compareOp op'') r'')(ha:PE X a ta)(hb:PE X b tb)(hc:PE X c tc)(hd:PE X d td)
  (hm:lastMarks [op,op',op''] [b,c,d] = false):PE X (.Compare a [op,op',op''] [b,c,d] pos) (tChain3 r r' r'' ta tb tc td):=by
 intro pins s σ H Q I h
 refine Compare_chain (thn (ha pins s σ H _ I h) fun v s1 ⟨x,H1,I1,r1,q1⟩=>chain_link (thn (hb pins s1 σ H1 _ I1 q1) fun u s2 ⟨y,H2,I2,r2,q2⟩ =>
  thn (ho pins s2 σ H2 x y v u _ I2 r1 r2 q2) fun e s3 ⟨z,H3,I3,r3,k,e,q3⟩=>?_)) hm
 subst e
 cases r3
 refine wpAny_truthy_bool ?_
 cases k with
 | false=>exact ite_ff ⟨.bl false,H3,I3,rfl,q3⟩
 | true =>
  refine ite_tt (chain_link (thn (hc pins s3 σ H3 _ I3 q3) fun u' s4 ⟨y',H4,I4,r4,q4⟩=>thn (ho' pins s4 σ H4 y y' u u' _ I4 r2 r4 q4) fun e s5 ⟨z,H5,I5,r5,k,e,q5⟩=>?_))
  subst e
  cases r5
  refine wpAny_truthy_bool ?_
  cases k with
  | false=>exact ite_ff ⟨.bl false,H5,I5,rfl,q5⟩
  | true=>exact ite_tt (chain_last (thn (hd pins s5 σ H5 _ I5 q5) fun w' s6 ⟨z',H6,I6,r6,q6⟩=>ho'' pins s6 σ H6 y' z' u' w' Q I6 r4 r6 q6))
theorem pt_chain3 {op op' op'':CmpOp}{r r' r'':R2}(ho:OpR X (compareOp op) r)(ho':OpR X (compareOp op') r')(ho'':OpR X (compareOp op'') r'')(ha:PE X a ta)(hb:PE X b tb)(hc:PE X c tc)(hd:PE X d td)
  (hm:lastMarks [op,op',op''] [b,c,d] = false):PT X (.Compare a [op,op',op''] [b,c,d] pos) (tTest (tChain3 r r' r'' ta tb tc td)):=by
 intro pins s σ H Q I h
 refine isTrue_chain (thn (ha pins s σ H _ I h) fun v s1 ⟨x,H1,I1,r1,q1⟩=>test_link (thn (hb pins s1 σ H1 _ I1 q1) fun u s2 ⟨y,H2,I2,r2,q2⟩ =>
  thn (ho pins s2 σ H2 x y v u _ I2 r1 r2 q2) fun e s3 ⟨z,H3,I3,r3,k,e,q3⟩=>?_)) hm
 subst e
 cases r3
 refine wpAny_truthy_bool ?_
 cases k with
 | false=>obtain ⟨k',e',q'⟩:=q3;cases e';exact ite_ff ⟨H3,I3,q'⟩
 | true =>
  refine ite_tt (test_link (thn (hc pins s3 σ H3 _ I3 q3) fun u' s4 ⟨y',H4,I4,r4,q4⟩=>thn (ho' pins s4 σ H4 y y' u u' _ I4 r2 r4 q4) fun e s5 ⟨z,H5,I5,r5,k,e,q5⟩=>?_))
  subst e
  cases r5
  refine wpAny_truthy_bool ?_
  cases k with
  | false=>obtain ⟨k',e',q'⟩:=q5;cases e';exact ite_ff ⟨H5,I5,q'⟩
  | true =>
   refine ite_tt (test_last (thn (hd pins s5 σ H5 _ I5 q5) fun w' s6 ⟨z',H6,I6,r6,q6⟩=>thn (ho'' pins s6 σ H6 y' z' u' w' _ I6 r4 r6 q6) fun d' s7 ⟨z2,H7,I7,r7,k2,e2,q7⟩=>?_))
   subst e2
   cases r7
   exact wpAny_truthy_bool ⟨H7,I7,q7⟩
theorem range_all (bs:List Bool):(List.range bs.length).all (fun i=>(bs[i]?).getD false) = bs.all id:=by
 rw [Bool.eq_iff_iff,List.all_eq_true,List.all_eq_true]
 constructor
 ·intro h b hb
  obtain ⟨i,hi,e⟩:=List.getElem_of_mem hb
  have:=h i (List.mem_range.mpr hi)
  rw [List.getElem?_eq_getElem hi,e] at this
  exact this
 ·intro h i hi
  have hi':=List.mem_range.mp hi
  rw [List.getElem?_eq_getElem hi']
  exact h _ (List.getElem_mem hi')
theorem call_allL (hc:X.calm = true):CallR X (.builtin "all") (fun xs H Q=>∃ (a:Addr) (bs:List Bool),xs = [.ref a]/\SqL X.K H a (bs.map V.bl)/\Q (.bl (bs.all id)) H):=by
 intro pins s σ H xs us Q I r h
 obtain ⟨a,bs,rfl,hq,q⟩:=h
 obtain ⟨u,rfl,ru⟩:=r.one
 cases ru
 obtain ⟨its,rv,p,hz⟩:=I.list hq
 have e:=vals_bl rv
 subst e
 have hh:X.A.in1.handled = none:=I.ok.hd hc
 obtain ⟨ob,h1,h2,n,h3⟩:=p.isList
 refine call_all_walk (wpAny_pyIter_list p.isList ?_)
 refine ⟨s.heap.objs.size,_,_,_,_,_,fun i=>(bs[i]?).getD false,rfl,Walks.list hh s.heap.objs.size a (Nat.ne_of_lt (Heap.lt_size h1)) (bs.map Value.bool).toArray,⟨⟨_,Heap.get?_push_size _ rfl,rfl,rfl⟩,⟨ob,Heap.get?_push_of_some _ h1,h2,n,h3⟩⟩,fun i v s' Q' E' hP hQ=>?_,fun h' tk k=>?_⟩
 ·dsimp only at hP hQ
  rw [List.getElem?_toArray,List.getElem?_map] at hP
  cases e:bs[i]? with
  | none=>rw [e] at hP;cases hP
  | some b =>
   rw [e] at hP hQ
   have hP':Value.bool b = v:=Option.some.inj hP
   subst hP'
   exact wpAny_truthy_bool hQ
 ·have hl:(bs.map Value.bool).toArray.size = bs.length:=by simp
  rw [hl,range_all]
  refine ⟨.bl _,H,I.kept (t':=tk) fun b o e=>k b o ?_ (Heap.get?_push_of_some _ e),rfl,q⟩
  intro hb
  have e':b = s.heap.objs.size:=by simpa using hb
  subst e'
  exact absurd (Heap.lt_size e) (Nat.lt_irrefl _)
noncomputable def maxI:List Int->Int
 | []=>0
 | n :: r=>r.foldl (fun m x=>if x > m then x else m) n
theorem maxI_go:∀ (r:List Int) (n:Int),(r.foldl (fun m x=>if x > m then x else m) n ∈ n :: r)/\∀ a ∈ n :: r,a <= r.foldl (fun m x=>if x > m then x else m) n
 | [],n=>by simp
 | x :: r,n=>by
  obtain ⟨h1,h2⟩:=maxI_go r (if x > n then x else n)
  rw [List.foldl_cons]
  refine ⟨?_,fun a ha=>?_⟩
  ·rcases List.mem_cons.mp h1 with e | e
   ·rw [e];split <;> simp
   ·exact List.mem_cons_of_mem _ (List.mem_cons_of_mem _ e)
  ·have h3:=h2 _ (List.mem_cons_self ..)
   have h4:x <= (if x > n then x else n)/\n <= (if x > n then x else n):=by split <;> omega
   rcases List.mem_cons.mp ha with rfl | ha
   ·exact Int.le_trans h4.2 h3
   ·rcases List.mem_cons.mp ha with rfl | ha
    ·exact Int.le_trans h4.1 h3
    ·exact h2 a (List.mem_cons_of_mem _ ha)
theorem maxI_mem {ns:List Int}(h:ns ≠ []):maxI ns ∈ ns:=by
 cases ns with
 | nil=>exact absurd rfl h
 | cons n r=>exact (maxI_go r n).1
theorem le_maxI {ns:List Int}{a:Int}(h:a ∈ ns):a <= maxI ns:=by
 cases ns with
 | nil=>cases h
 | cons n r=>exact (maxI_go r n).2 a h
theorem maxI_eq {ns:List Int}{M:Int}(h1:M ∈ ns)(h2:∀ a ∈ ns,a <= M):M = maxI ns:=by
 have h3:=le_maxI h1
 have h4:=h2 _ (maxI_mem (List.ne_nil_of_mem h1))
 omega
theorem call_maxL (hc:X.calm = true):CallR X (.builtin "max") (fun xs H Q=>∃ (a:Addr) (ns:List Int),xs = [.ref a]/\SqL X.K H a (ns.map V.int)/\ns ≠ []/\Q (.int (maxI ns)) H):=by
 intro pins s σ H xs us Q I r h
 obtain ⟨l,ns,rfl,hq,hne,q⟩:=h
 obtain ⟨u,rfl,ru⟩:=r.one
 cases ru
 obtain ⟨its,rv,p,hz⟩:=I.list hq
 have hi:=vals_int rv
 have hh:X.A.handled = none:=I.ok.hd hc
 obtain ⟨xs,e⟩:=hi.allInts.items
 have hns:ns = xs.toList.map (·.1):=by rw [<- hi.numsOf,<- nums_intItems,<- e]
 have hsz:0 < xs.size:=by
  have:ns.length ≠ 0:=fun z=>hne (List.eq_nil_of_length_eq_zero z)
  rw [hns,List.length_map,Array.length_toList] at this
  omega
 have hl:s.heap.IsList l (intItems xs):=by rw [<- e];exact p.isList
 refine max_intList hh hl hsz fun v h' tk hP hk=>?_
 obtain ⟨t,rfl⟩:=intItems_at hP
 obtain ⟨b1,b2⟩:=argBest_gt (numAt xs) (xs.size - 1)
 have em:numAt xs (argBest (fun i j=>decide (numAt xs i > numAt xs j)) (xs.size - 1)) = maxI ns:=by
  refine maxI_eq ?_ fun a ha=>?_
  ·rw [hns,numAt_eq];exact getD_mem (by rw [List.length_map,Array.length_toList];omega)
  ·rw [hns] at ha
   obtain ⟨j,hj,rfl⟩:=mem_getD ha
   rw [List.length_map,Array.length_toList] at hj
   rw [<- numAt_eq];exact b2 j (by omega)
 rw [em]
 exact ⟨.int (maxI ns),H,I.kept (t':=tk) fun b o e=>hk b o e,⟨t,rfl⟩,q⟩
end
end AM
set_option genSizeOf false
namespace AM
open PySem PySem.Spec PyProof.Rows L2
section
variable {X:Cx}{tg l:Expr}{tl:TE}
noncomputable def inT (a b:Str):Bool:=!(Builtin.Str.occurrences b a 0 b.length 1).isEmpty
theorem op_inS:OpR X (compareOp .In) (fun x y H Q=>∃ a b,x = .str a/\y = .str b/\Q (.bl (inT a b)) H):=by
 intro pins s σ H x y v u Q I rx ry h
 obtain ⟨a,b,rfl,rfl,q⟩:=h
 obtain ⟨t,rfl⟩:=rx
 obtain ⟨t',rfl⟩:=ry
 exact PyProof.Rows.in_str ⟨.bl _,H,I,rfl,q⟩
theorem call_intT:CallR X (.type "int") (fun xs H Q=>∃ z n,xs = [.str z]/\z.length <= 640/\intText? z = some n/\Q (.int n) H):=by
 intro pins s σ H xs us Q I r h
 obtain ⟨z,n,rfl,hz,hn,q⟩:=h
 obtain ⟨u,rfl,t,rfl⟩:=vals1 r
 refine call_int_1 (Gives.meets (W.KIN.gives_text hz hn)) ?_
 exact ⟨rfl,.int n,H,I.tok _,⟨_,rfl⟩,q⟩
theorem op_mulS:OpR X (binaryOp .Mult) (fun x y H Q=>∃ z n,x = .str z/\y = .int n/\z.length <= 1000/\0 <= n/\n <= 1000/\(Txt.mul z n).length <= sizeLine/\Q (.str (Txt.mul z n)) H):=by
 intro pins s σ H x y v u Q I rx ry h
 obtain ⟨z,n,rfl,rfl,hz,h0,h1,hm,q⟩:=h
 obtain ⟨t,rfl⟩:=rx
 obtain ⟨t',rfl⟩:=ry
 refine P.mul_str (by rw [decide_eq_false (by omega),decide_eq_false (by omega)];rfl) (fun h2 _=>?_) (fun h2 _=>?_) ?_
 ·have e:(2 ^ 63 - 1:Int) = 9223372036854775807:=by decide
  rw [e]
  have:(9223372036854775:Int) <= 9223372036854775807 / n:=by
   rw [Int.le_ediv_iff_mul_le (by omega)]
   omega
  omega
 ·unfold Builtin.Str.tooLong
  have:z.length * n.toNat <= 1000 * 1000:=Nat.mul_le_mul hz (by omega)
  have big:1000000 <= sizeLine:=by decide
  exact decide_eq_false (by omega)
 ·unfold Txt.mul at q hm
  by_cases c1:n < 1
  ·rw [if_pos c1] at q hm ⊢
   exact ⟨hm,.str _,H,I.tok _,⟨_,rfl⟩,q⟩
  ·rw [if_neg c1] at q hm ⊢
   by_cases c2:(n == 1 || z.length == 0) = true
   ·rw [if_pos c2] at q hm ⊢
    exact ⟨.str _,H,I,⟨_,rfl⟩,q⟩
   ·rw [if_neg c2] at q hm ⊢
    exact ⟨hm,.str _,H,I.tok _,⟨_,rfl⟩,q⟩
noncomputable def rSlS:V->Option Int->Option Int->Hp->VK->Prop:=fun x lo hi H Q=>∃ z,x = .str z/\(Txt.slice z lo hi).length <= sizeLine/\Q (.str (Txt.slice z lo hi)) H
theorem sl_str:SlR X rSlS:=by
 intro pins s σ H x v vl vu lo hi sl Q I rx hs pl pu h
 obtain ⟨z,rfl,hm,q⟩:=h
 obtain ⟨t,rfl⟩:=rx
 refine ⟨"str",_,PySem.F.slot_str_getitem.lookup,typeIs_str _ _ _,?_⟩
 have hl:∃ l:Option (Int × Tok),vl = partValue l/\l.map (·.1) = lo:=by
  cases pl with
  | none=>exact ⟨none,rfl,rfl⟩
  | int i t=>exact ⟨some (i,t),rfl,rfl⟩
 have hu:∃ l:Option (Int × Tok),vu = partValue l/\l.map (·.1) = hi:=by
  cases pu with
  | none=>exact ⟨none,rfl,rfl⟩
  | int i t=>exact ⟨some (i,t),rfl,rfl⟩
 obtain ⟨l,rfl,e1⟩:=hl
 obtain ⟨u,rfl,e2⟩:=hu
 have hs':s.heap.IsSlice sl l u none:=hs
 refine wpAny_getItem_str_slice hs' rfl ?_
 unfold sliceMade slicePicked
 unfold Txt.slice at q hm
 rw [<- e1,<- e2] at q hm
 simp only [Option.map_none,Option.getD_none] at q hm ⊢
 split
 ·rename_i hc
  rw [if_pos hc] at q
  exact ⟨.str _,H,I,⟨_,rfl⟩,q⟩
 ·rename_i hc
  rw [if_neg hc] at q hm
  exact ⟨hm,.str _,H,I.tok _,⟨_,rfl⟩,q⟩
noncomputable def sgs (z:Str):List Str:=z.cps.toList.map fun c=>⟨#[c]⟩
noncomputable def Its (z:Str):It:=⟨fun i _=>i < z.cps.size,fun i H x H'=>H' = H/\∃ y,(sgs z)[i]? = some y/\x = .str y,fun i _=>z.cps.size <= i⟩
theorem walks_str {prog:Program}{w:World}{A:Around}(hA:A.handled = none)(it:Addr)(z:Str)(t:Tok):Walks prog w A it [it] [it] z.cps.size (SignAt z) (fun i h=>h.IsStrIter it (strIterType z) z t i):=by
 unfold strIterType
 split
 ·exact Walks.strAscii hA it z t
 ·exact Walks.strWide hA it z t
theorem turn_str {P:Program}{w:World}{K:PySem.W.Frag}(it:Addr)(z:Str)(t:Tok):Turn P w K tg (Its z) [it] it (fun i h=>h.IsStrIter it (strIterType z) z t i/\i <= z.cps.size) where
 mem:=by simp
 obj:=fun i h st b hb=>by
  have e:b = it:=by simpa using hb
  subst e
  obtain ⟨⟨o,e,c,d⟩,_⟩:=st
  exact ⟨o,e,fun v z=>by rw [d] at z;cases z⟩
 keep:=fun i h h' st k=>by
  obtain ⟨⟨o,e,c,d⟩,l⟩:=st
  exact ⟨⟨o,k it (by simp) o e,c,d⟩,l⟩
 item:=by
  intro X hP hw hK hc i pins s σ H E I hf st hg
  subst hP hw hK
  have hg:i < z.cps.size:=hg
  obtain ⟨f0,f1,f2,f3,f4,f5⟩:=hf it (by simp)
  have W:=walks_str (prog:=X.prog) (w:=X.w) (A:=X.A) (I.ok.hd hc) it z t
  refine W.item i s _ _ hg st.1 fun v h' tk hv st' kk=>?_
  obtain ⟨c,u,hv,rfl⟩:=hv
  have I1:Inv X pins σ H { s with heap:=h',toks:=tk }:=I.turned (fun b o hb e=>kk b o (by simpa using hb) e) f0 f1 f3 f4 f5
  obtain ⟨oi,ei,ci,di⟩:=id st'
  refine ⟨_,rfl,go_of (s:={ s with heap:=h',toks:=tk }) ei ci di ?_ ⟨.str ⟨#[c]⟩,H,I1,⟨_,rfl⟩,⟨rfl,⟨#[c]⟩,?_,rfl⟩,⟨st',hg⟩,fun b hb=>(hf b hb).1⟩⟩
  ·unfold strIterType;split <;> decide
  ·unfold sgs
   rw [List.getElem?_map,Array.getElem?_toList,hv];rfl
 done:=by
  intro X hP hw hK hc i pins s σ H E I hf st hg
  subst hP hw hK
  have hg:z.cps.size = i:=Nat.le_antisymm hg st.2
  obtain ⟨f0,f1,f2,f3,f4,f5⟩:=hf it (by simp)
  have W:=walks_str (prog:=X.prog) (w:=X.w) (A:=X.A) (I.ok.hd hc) it z t
  refine W.done s _ _ (by rw [hg];exact st.1) fun h' tk kk=>?_
  exact ⟨rfl,I.turned (fun b o hb e=>kk b o (by simpa using hb) e) f0 f1 f3 f4 f5⟩
 self:=fun A i s Q E st h=>by
  unfold strIterType at st
  split at st
  ·exact wpAny_pyIter_striter_ascii st.1 h
  ·exact wpAny_pyIter_striter_wide st.1 h
theorem str_pi {pins:List (Addr × Obj)}{s1:Shared}{σ:L2.St}{H1:Hp}{z:Str}{t:Tok}{R:It->Hp->Prop}(I1:Inv X pins σ H1 s1)(q:R (Its z) H1):wpAny (model X.prog X.w) X.A (pyIter (.str z t)) (PIE X pins σ tg R) X.xe s1:=by
 refine wpAny_pyIter_strU ?_
 refine ⟨s1.heap.objs.size,[s1.heap.objs.size],_,_,H1,rfl,I1.kept (t':=s1.toks) fun b o e=>Heap.get?_push_of_some _ e,turn_str _ z t,⟨⟨_,Heap.get?_push_size _ rfl,rfl,rfl⟩,Nat.zero_le _⟩,fun b hb=>?_,q⟩
 have e:b = s1.heap.objs.size:=by simpa using hb
 subst e
 exact I1.fpOk (Nat.le_refl _) (I1.hok.fresh (Nat.le_refl _))
theorem idx_loop {prog:Program}{w:World}{A:Around}{E:Value->Shared->Prop}{u:Str}{t:Tok}{us:List Value}{ts:List Str}(hv:Vals (ts.map V.str) us){Q:Option PySem.Fin × Unit->Shared->Prop} :
  ∀ (n k i:Nat) (s:Shared),k + n = ts.length->(ts.drop k).idxOf? u = some i->Q (some (.done (.ret (.int ((k + i:Nat):Int) s.toks))),()) { s with toks:=s.toks + 1 } ->
  wpAny (model prog w) A (forIn (List.range' k n) ((none,()):Option PySem.Fin × Unit) fun (i:Nat) _=>match us.toArray[i]? with
   | some y=>do
    let b <- eqBool y (.str u t)
    if b = true then do
      let f <- retInt (i:Int)
      pure (ForInStep.done (some f,()))
     else pure (ForInStep.yield (none,()))
   | _=>pure (ForInStep.yield (none,()))) Q E s
 | 0,k,i,s,hk,hi,q=>by
  rw [List.drop_of_length_le (by omega)] at hi
  cases hi
 | n + 1,k,i,s,hk,hi,q=>by
  obtain ⟨c,hc⟩:∃ c,ts[k]? = some c:=⟨_,List.getElem?_eq_getElem (by omega)⟩
  obtain ⟨v,hu,t',rfl⟩:=hv.get (i:=k) (x:=.str c) (by rw [List.getElem?_map,hc];rfl)
  have hd:ts.drop k = c :: ts.drop (k + 1):=by
   rw [List.drop_eq_getElem_cons (by omega)];congr 1;exact (List.getElem?_eq_some_iff.mp hc).2
  rw [hd,List.idxOf?_cons] at hi
  rw [List.range'_succ,List.forIn_cons]
  refine wpAny_bind ?_
  rw [List.getElem?_toArray,hu]
  refine wpAny_bind (wpAny_eqBool_str ?_)
  by_cases e:c = u
  ·rw [decide_eq_true e,if_pos rfl]
   rw [if_pos (by simpa using e)] at hi
   cases hi
   refine wpAny_bind ?_
   refine wpAny_bind (wpAny_mkInt ?_)
   refine wpAny_pure (wpAny_pure (wpAny_pure ?_))
   exact q
  ·rw [decide_eq_false e,if_neg Bool.false_ne_true]
   rw [if_neg (by simpa using e)] at hi
   obtain ⟨j,hj,rfl⟩:=Option.map_eq_some_iff.mp hi
   refine wpAny_pure ?_
   refine idx_loop hv n (k + 1) j s (by omega) hj ?_
   rw [show k + 1 + j = k + (j + 1) by omega]
   exact q
theorem mt_tindex:MtR X "tuple.index" (fun x vs H Q=>∃ (a:Addr) (ts:List Str) (u:Str) (i:Nat),x = .ref a/\SqT X.K H a (ts.map V.str)/\vs = [.str u]/\ts.idxOf? u = some i/\Q (.int ((i:Nat):Int)) H):=by
 intro pins s σ H x vs v us Q I rx rv h
 obtain ⟨a,ts,u,i,rfl,hq,rfl,hi,q⟩:=h
 cases rx
 obtain ⟨v,rfl,t,rfl⟩:=vals1 rv
 obtain ⟨its,r,ht,hz⟩:=I.tuple hq
 have hlen:its.toArray.size = ts.length:=by rw [List.size_toArray,<- r.length,List.length_map]
 refine wpAny_call_entry PySem.F.slot_tuple_index ht.typeIs PySem.F.entry_tuple_index ?_ (PySem.F.args_tuple_index_2 _ _)
 show wpAny _ _ (pure (Value.ref a,[Value.str u t]) >>= _) _ _ s
 refine wpAny_bind (wpAny_pure ?_)
 show wpAny _ _ (Builtin.Tuple.tupleItemsOf (.ref a) >>= _) _ _ s
 refine wpAny_bind (tupleItemsOf_ ht ?_)
 show wpAny _ _ (pure 0 >>= _) _ _ s
 refine wpAny_bind (wpAny_pure ?_)
 show wpAny _ _ (pure its.toArray.size >>= _) _ _ s
 refine wpAny_bind (wpAny_pure ?_)
 dsimp only
 rw [Std.Legacy.Range.forIn_eq_forIn_range']
 have e:(⟨0,min its.toArray.size its.toArray.size,1,by decide⟩:Std.Legacy.Range).size = ts.length:=by
  rw [Nat.min_self,hlen];simp [Std.Legacy.Range.size]
 refine wpAny_bind ?_
 rw [e]
 refine idx_loop r ts.length 0 i s (by omega) (by rw [List.drop_zero];exact hi) ?_
 refine wpAny_pure ⟨_,rfl,.int _,H,I.tok _,⟨_,rfl⟩,?_⟩
 rw [Nat.zero_add]
 exact q
noncomputable def rInTb (X:Cx)(neg:Bool):R2:=fun x y H Q=>∃ (a:Addr) (us:List (Str × Value)) (k:Str),x = .str k/\y = .ref a/\KTabR X.prog X.w X.K a us/\(a == sysModules) = false/\Q (.bl (if neg then !(valueAt us k).isSome else (valueAt us k).isSome)) H
theorem op_inTab:OpR X (compareOp .In) (rInTb X false):=by
 intro pins s σ H x y v u Q I rx ry h
 obtain ⟨a,us,k,rfl,rfl,hT,hd,q⟩:=h
 cases ry
 obtain ⟨t,rfl⟩:=rx
 exact wpAny_in_of (strKind_is X.prog X.w k t) hd (hT _ I.kIn).mapOf ⟨.bl _,H,I.tok _,rfl,q⟩
theorem op_ninTab:OpR X (compareOp .NotIn) (rInTb X true):=by
 intro pins s σ H x y v u Q I rx ry h
 obtain ⟨a,us,k,rfl,rfl,hT,hd,q⟩:=h
 cases ry
 obtain ⟨t,rfl⟩:=rx
 exact wpAny_notIn_of (strKind_is X.prog X.w k t) hd (hT _ I.kIn).mapOf ⟨.bl _,H,I.tok _,rfl,q⟩
end
end AM
set_option genSizeOf false
namespace AM
open PySem PySem.Spec PyProof.Rows L2
inductive AV where
 | non | bl (b:Bool) | int (i:Int) | str (x:Str) | tup (xs:List AV) | ref (n:Nat) | glb (kvs:List (Str × Int))
 deriving Inhabited
inductive AObj where

 | lst (mu:Bool) (xs:List AV)
 | dct (kvs:List (Key × AV))
 | ins (c:Nat) (fs:List (Str × AV))

 | xo (c:Nat)
noncomputable def AObj.mu:AObj->Bool
 | .lst m _=>m
 | _=>true
structure AH where
 nx:Nat
 ob:Nat->Option AObj
noncomputable def AH.put (h:AH)(n:Nat)(o:AObj):AH:=⟨h.nx,fun m=>if m = n then some o else h.ob m⟩
noncomputable def AH.new (h:AH)(o:AObj):AH:=⟨h.nx + 1,fun m=>if m = h.nx then some o else h.ob m⟩
inductive Res (α:Type) where
 | ok (a:α) (h:AH)
 | exc (c:Nat) (x:AV) (h:AH)
 | bad
abbrev M (α:Type):=AH->Res α
noncomputable def M.ret {α:Type}(a:α):M α:=fun h=>.ok a h
noncomputable def M.bad {α:Type}:M α:=fun _=>.bad
noncomputable def M.bind {α β:Type}(m:M α)(k:α->M β):M β:=fun h=>match m h with
 | .ok a h'=>k a h'
 | .exc c x h'=>.exc c x h'
 | .bad=>.bad
noncomputable def M.guard {α:Type}(p:Prop) [Decidable p] (m:M α):M α:=fun h=>if p then m h else .bad
structure Tab where
 K:PySem.W.Frag
 G:List (Str × Int)->Addr->Prop
 C:Nat->Option Addr
mutual
inductive RepV (T:Tab)(ρ:List Addr)(H:Hp):AV->V->Prop where
 | non:RepV T ρ H .non .non
 | bl (b:Bool):RepV T ρ H (.bl b) (.bl b)
 | int (i:Int):RepV T ρ H (.int i) (.int i)
 | str (x:Str):RepV T ρ H (.str x) (.str x)
 | tup {a:Addr} {xs:List AV} {ys:List V} (hq:SqT T.K H a ys) (hr:RepVs T ρ H xs ys):RepV T ρ H (.tup xs) (.ref a)
 | ref {n:Nat} {a:Addr} (e:ρ[n]? = some a):RepV T ρ H (.ref n) (.ref a)
 | glb {kvs:List (Str × Int)} {a:Addr} (e:T.G kvs a):RepV T ρ H (.glb kvs) (.ref a)
inductive RepVs (T:Tab)(ρ:List Addr)(H:Hp):List AV->List V->Prop where
 | nil:RepVs T ρ H [] []
 | cons {x:AV} {y:V} {xs:List AV} {ys:List V} (h:RepV T ρ H x y) (hs:RepVs T ρ H xs ys):RepVs T ρ H (x :: xs) (y :: ys)
end
structure Ext (ρ:List Addr)(H:Hp)(ρ':List Addr)(H':Hp):Prop where
 pre:∀ (n:Nat) a,ρ[n]? = some a->ρ'[n]? = some a
 tup:∀ b xs,H b = some (.tup xs)->H' b = some (.tup xs)
 frz:∀ b o u,H b = some (.frz o u)->H' b = some (.frz o u)
theorem Ext.refl {ρ:List Addr}{H:Hp}:Ext ρ H ρ H:=⟨fun _ _ e=>e,fun _ _ e=>e,fun _ _ _ e=>e⟩
theorem Ext.trans {ρ ρ1 ρ2:List Addr}{H H1 H2:Hp}(a:Ext ρ H ρ1 H1)(b:Ext ρ1 H1 ρ2 H2):Ext ρ H ρ2 H2 :=
 ⟨fun n x e=>b.pre n x (a.pre n x e),fun n x e=>b.tup n x (a.tup n x e),fun n x u e=>b.frz n x u (a.frz n x u e)⟩
theorem Ext.sqT {K:PySem.W.Frag}{ρ ρ':List Addr}{H H':Hp}(e:Ext ρ H ρ' H'){a:Addr}{xs:List V}(h:SqT K H a xs):SqT K H' a xs:=by
 rcases h with (h | ⟨o,h⟩) | h
 ·exact .inl (.inl (e.tup _ _ h))
 ·exact .inl (.inr ⟨o,e.frz _ _ _ h⟩)
 ·exact .inr h
mutual
theorem RepV.ext {T:Tab}{ρ ρ':List Addr}{H H':Hp}(e:Ext ρ H ρ' H'):∀ {x:AV} {y:V},RepV T ρ H x y->RepV T ρ' H' x y
 | _,_,.non=>.non
 | _,_,.bl b=>.bl b
 | _,_,.int i=>.int i
 | _,_,.str x=>.str x
 | _,_,.tup hq hr=>.tup (e.sqT hq) (RepVs.ext e hr)
 | _,_,.ref q=>.ref (e.pre _ _ q)
 | _,_,.glb q=>.glb q
theorem RepVs.ext {T:Tab}{ρ ρ':List Addr}{H H':Hp}(e:Ext ρ H ρ' H'):∀ {xs:List AV} {ys:List V},RepVs T ρ H xs ys->RepVs T ρ' H' xs ys
 | _,_,.nil=>.nil
 | _,_,.cons h hs=>.cons (RepV.ext e h) (RepVs.ext e hs)
end
theorem RepVs.length {T:Tab}{ρ:List Addr}{H:Hp}:∀ {xs:List AV} {ys:List V},RepVs T ρ H xs ys->xs.length = ys.length
 | _,_,.nil=>rfl
 | _,_,.cons _ hs=>congrArg (· + 1) hs.length
theorem RepVs.get {T:Tab}{ρ:List Addr}{H:Hp}:∀ {xs:List AV} {ys:List V} {i:Nat} {x:AV},RepVs T ρ H xs ys->xs[i]? = some x->∃ y,ys[i]? = some y/\RepV T ρ H x y
 | _,_,_,_,.nil,e=>by simp at e
 | _,_,0,_,.cons h _,e=>by simp at e;subst e;exact ⟨_,rfl,h⟩
 | _,_,i + 1,x,.cons _ hs,e=>by
  obtain ⟨y,h1,h2⟩:=RepVs.get (i:=i) (x:=x) hs (by simpa using e)
  exact ⟨y,by simpa using h1,h2⟩
theorem RepVs.append {T:Tab}{ρ:List Addr}{H:Hp}:∀ {xs zs:List AV} {ys ws:List V},RepVs T ρ H xs ys->RepVs T ρ H zs ws->RepVs T ρ H (xs ++ zs) (ys ++ ws)
 | _,_,_,_,.nil,s=>s
 | _,_,_,_,.cons h hs,s=>.cons h (RepVs.append hs s)
theorem RepVs.set {T:Tab}{ρ:List Addr}{H:Hp}{x:AV}{y:V}(r:RepV T ρ H x y):∀ {xs:List AV} {ys:List V} (i:Nat),RepVs T ρ H xs ys->RepVs T ρ H (xs.set i x) (ys.set i y)
 | _,_,_,.nil=>.nil
 | _,_,0,.cons _ t=>.cons r t
 | _,_,i + 1,.cons q t=>.cons q (RepVs.set r i t)
theorem RepVs.take {T:Tab}{ρ:List Addr}{H:Hp}:∀ {xs:List AV} {ys:List V} (n:Nat),RepVs T ρ H xs ys->RepVs T ρ H (xs.take n) (ys.take n)
 | _,_,0,_=>.nil
 | _,_,_ + 1,.nil=>.nil
 | _,_,n + 1,.cons r t=>.cons r (RepVs.take n t)
theorem RepVs.drop {T:Tab}{ρ:List Addr}{H:Hp}:∀ {xs:List AV} {ys:List V} (n:Nat),RepVs T ρ H xs ys->RepVs T ρ H (xs.drop n) (ys.drop n)
 | _,_,0,r=>r
 | _,_,_ + 1,.nil=>.nil
 | _,_,n + 1,.cons _ t=>RepVs.drop n t
theorem RepVs.ints {T:Tab}{ρ:List Addr}{H:Hp}:∀ (ns:List Int),RepVs T ρ H (ns.map AV.int) (ns.map V.int)
 | []=>.nil
 | n :: ns=>.cons (.int n) (RepVs.ints ns)
noncomputable def FzL (K:PySem.W.Frag)(H:Hp)(a:Addr)(xs:List V):Prop :=
 (∃ o,H a = some (.frz o (.lst xs))) \/
  ∃ (o:Obj) (its:Array Value) (n:Nat),K.lookup a = some o/\o.cls = .type "list"/\o.dict = none/\o.data = .seq its n/\its.size <= sizeLine/\Vals xs its.toList
theorem FzL.sq {K:PySem.W.Frag}{H:Hp}{a:Addr}{xs:List V}(h:FzL K H a xs):SqL K H a xs:=by
 rcases h with h | h
 ·exact .inl (.inr h)
 ·exact .inr h
theorem FzL.ext {K:PySem.W.Frag}{ρ ρ':List Addr}{H H':Hp}{a:Addr}{xs:List V}(e:Ext ρ H ρ' H')(h:FzL K H a xs):FzL K H' a xs:=by
 rcases h with ⟨o,h⟩ | h
 ·exact .inl ⟨o,e.frz _ _ _ h⟩
 ·exact .inr h
noncomputable def ORep (T:Tab)(ρ:List Addr)(H:Hp)(a:Addr):AObj->Prop
 | .lst true xs=>∃ ys,H a = some (.lst ys)/\RepVs T ρ H xs ys
 | .lst false xs=>∃ ys,FzL T.K H a ys/\RepVs T ρ H xs ys
 | .dct kvs=>∃ ks ys,H a = some (.dK (ks.zip ys))/\ks = kvs.map (·.1)/\RepVs T ρ H (kvs.map (·.2)) ys
 | .ins c fs=>∃ C dx ks ys,T.C c = some C/\H a = some (.ins C dx (ks.zip ys))/\ks = fs.map (·.1)/\RepVs T ρ H (fs.map (·.2)) ys
 | .xo c=>∃ C,T.C c = some C/\H a = some (.ext (xoAt a (.ref C)))
theorem ORep.ext {T:Tab}{ρ ρ':List Addr}{H H':Hp}{a:Addr}{o:AObj}(r:ORep T ρ H a o)(e:Ext ρ H ρ' H')(k:o.mu = true->H' a = H a):ORep T ρ' H' a o:=by
 cases o with
 | lst m xs =>
  cases m with
  | true=>obtain ⟨ys,h,r⟩:=r;exact ⟨ys,by rw [k rfl];exact h,r.ext e⟩
  | false=>obtain ⟨ys,h,r⟩:=r;exact ⟨ys,h.ext e,r.ext e⟩
 | dct kvs=>obtain ⟨ks,ys,h,e1,r⟩:=r;exact ⟨ks,ys,by rw [k rfl];exact h,e1,r.ext e⟩
 | ins c fs=>obtain ⟨C,dx,ks,ys,hc,h,e1,r⟩:=r;exact ⟨C,dx,ks,ys,hc,by rw [k rfl];exact h,e1,r.ext e⟩
 | xo c=>obtain ⟨C,hc,h⟩:=r;exact ⟨C,hc,by rw [k rfl];exact h⟩
structure RepH (T:Tab)(ρ:List Addr)(h:AH)(H:Hp):Prop where
 len:ρ.length = h.nx
 dom:∀ (n:Nat) o,h.ob n = some o->n < h.nx
 obj:∀ (n:Nat) o a,h.ob n = some o->ρ[n]? = some a->ORep T ρ H a o
 inj:∀ (n m:Nat) a o u,h.ob n = some o->h.ob m = some u->o.mu = true->u.mu = true->ρ[n]? = some a->ρ[m]? = some a->n = m
section
variable {T:Tab}{ρ:List Addr}{h:AH}{H H':Hp}
theorem mut_some {a:Addr}{o:AObj}(r:ORep T ρ H a o)(m:o.mu = true):∃ u,H a = some u:=by
 cases o with
 | lst k xs =>
  cases k with
  | true=>obtain ⟨ys,h,_⟩:=r;exact ⟨_,h⟩
  | false=>cases m
 | dct kvs=>obtain ⟨ks,ys,h,_⟩:=r;exact ⟨_,h⟩
 | ins c fs=>obtain ⟨C,dx,ks,ys,_,h,_⟩:=r;exact ⟨_,h⟩
 | xo c=>obtain ⟨C,_,h⟩:=r;exact ⟨_,h⟩
theorem Ext.upd_new {a:Addr}{o:HO}(hn:H a = none):Ext ρ H ρ (upd H a o) :=
 ⟨fun _ _ e=>e,fun b xs e=>by rw [upd_ne (ne_of_none e hn)];exact e,fun b u xs e=>by rw [upd_ne (ne_of_none e hn)];exact e⟩
theorem RepH.keep (R:RepH T ρ h H){a:Addr}{o:HO}(hn:H a = none):RepH T ρ h (upd H a o) :=
 ⟨R.len,R.dom,fun n u b e q=>(R.obj n u b e q).ext (.upd_new hn) fun m=>by
  obtain ⟨w,hw⟩:=mut_some (R.obj n u b e q) m
  rw [upd_ne (ne_of_none hw hn)],R.inj⟩
theorem RepH.alloc (R:RepH T ρ h H){a:Addr}{o:AObj}{O:HO}(hn:H a = none)(ho:ORep T (ρ ++ [a]) (upd H a O) a o):RepH T (ρ ++ [a]) (h.new o) (upd H a O)/\Ext ρ H (ρ ++ [a]) (upd H a O):=by
 have ex:Ext ρ H (ρ ++ [a]) (upd H a O):=⟨fun n x e=>by
  have hl:=(List.getElem?_eq_some_iff.mp e).1
  rw [List.getElem?_append_left hl];exact e,(Ext.upd_new (ρ:=ρ) hn).tup,(Ext.upd_new (ρ:=ρ) hn).frz⟩
 have old:∀ {n:Nat} {b:Addr},n < h.nx->(ρ ++ [a])[n]? = some b->ρ[n]? = some b:=fun {n b} hl e=>by
  rw [List.getElem?_append_left (by rw [R.len];exact hl)] at e;exact e
 have at_:∀ {b:Addr},(ρ ++ [a])[h.nx]? = some b->b = a:=fun {b} e=>by
  rw [<- R.len] at e
  simp at e
  exact e.symm
 refine ⟨⟨by simp [AH.new,R.len],fun n u e=>?_,fun n u b e q=>?_,fun n m b u v e1 e2 m1 m2 q1 q2=>?_⟩,ex⟩
 ·simp only [AH.new] at e ⊢
  by_cases hx:n = h.nx
  ·omega
  ·rw [if_neg hx] at e
   have:=R.dom n u e
   omega
 ·simp only [AH.new] at e
  by_cases hx:n = h.nx
  ·rw [if_pos hx] at e
   cases e
   subst hx
   rw [at_ q];exact ho
  ·rw [if_neg hx] at e
   have q':=old (R.dom n u e) q
   refine (R.obj n u b e q').ext ex fun m=>?_
   obtain ⟨w,hw⟩:=mut_some (R.obj n u b e q') m
   rw [upd_ne (ne_of_none hw hn)]
 ·simp only [AH.new] at e1 e2
  have no:∀ {k:Nat} {y:AObj},h.ob k = some y->y.mu = true->(ρ ++ [a])[k]? = some b->b ≠ a:=fun {k y} e m q=>by
   obtain ⟨w,hw⟩:=mut_some (R.obj k y b e (old (R.dom k y e) q)) m
   exact ne_of_none hw hn
  by_cases hx:n = h.nx
  ·subst hx
   by_cases hy:m = h.nx
   ·exact hy.symm
   ·rw [if_neg hy] at e2
    exact absurd (at_ q1) (no e2 m2 q2)
  ·rw [if_neg hx] at e1
   by_cases hy:m = h.nx
   ·subst hy
    exact absurd (at_ q2) (no e1 m1 q1)
   ·rw [if_neg hy] at e2
    exact R.inj n m b u v e1 e2 m1 m2 (old (R.dom n u e1) q1) (old (R.dom m v e2) q2)
theorem RepH.write (R:RepH T ρ h H){n:Nat}{a:Addr}{o o':AObj}{O O':HO}(e:h.ob n = some o)(m:o.mu = true)(m':o'.mu = true)(q:ρ[n]? = some a)(hO:H a = some O)(nt:∀ xs,O ≠ .tup xs)(nf:∀ x u,O ≠ .frz x u)
  (ho:ORep T ρ (upd H a O') a o'):RepH T ρ (h.put n o') (upd H a O')/\Ext ρ H ρ (upd H a O'):=by
 have ex:Ext ρ H ρ (upd H a O'):=⟨fun _ _ z=>z,fun b xs z=>by
   rw [upd_ne (ne_of z hO fun w=>nt xs w.symm)];exact z,fun b x u z=>by
   rw [upd_ne (ne_of z hO fun w=>nf x u w.symm)];exact z⟩
 refine ⟨⟨R.len,fun k u z=>?_,fun k u b z w=>?_,fun k l b u v z1 z2 m1 m2 w1 w2=>?_⟩,ex⟩
 ·simp only [AH.put] at z
  by_cases hx:k = n
  ·subst hx;exact R.dom _ _ e
  ·rw [if_neg hx] at z;exact R.dom k u z
 ·simp only [AH.put] at z
  by_cases hx:k = n
  ·rw [if_pos hx] at z
   cases z
   subst hx
   rw [q] at w;cases w
   exact ho
  ·rw [if_neg hx] at z
   refine (R.obj k u b z w).ext ex fun mu=>?_
   rw [upd_ne]
   rintro rfl
   exact hx (R.inj k n b u o z e mu m w q)
 ·simp only [AH.put] at z1 z2
  have back:∀ {j:Nat} {y:AObj},(if j = n then some o' else h.ob j) = some y->y.mu = true->∃ y',h.ob j = some y'/\y'.mu = true:=fun {j y} z mu=>by
   by_cases hx:j = n
   ·subst hx;exact ⟨o,e,m⟩
   ·rw [if_neg hx] at z;exact ⟨y,z,mu⟩
  obtain ⟨u',g1,k1⟩:=back z1 m1
  obtain ⟨v',g2,k2⟩:=back z2 m2
  exact R.inj k l b u' v' g1 g2 k1 k2 w1 w2
end
abbrev Rl (α β:Type):=List Addr->Hp->α->β->Prop
noncomputable def W {α β:Type}(T:Tab)(Rp:Rl α β)(r:Res α)(ρ:List Addr)(H:Hp)(Q:β->Hp->Prop)(E:XK):Prop:=match r with
 | .ok a h=>∀ ρ' b H',Ext ρ H ρ' H'->RepH T ρ' h H'->Rp ρ' H' a b->Q b H'
 | .exc c _ h=>∀ ρ' H',Ext ρ H ρ' H'->RepH T ρ' h H'->∃ C,T.C c = some C/\E (.ref C) none H'
 | .bad=>False
section
variable {T:Tab}{α β γ δ:Type}{Rp:Rl α β}{Rq:Rl γ δ}{ρ ρ':List Addr}{H H':Hp}{E:XK}{Q:β->Hp->Prop}{h:AH}
theorem W.ext {r:Res α}(w:W T Rp r ρ H Q E)(e:Ext ρ H ρ' H'):W T Rp r ρ' H' Q E:=by
 cases r with
 | ok a h=>exact fun ρ2 b H2 x R q=>w ρ2 b H2 (e.trans x) R q
 | exc c x h=>exact fun ρ2 H2 x R=>w ρ2 H2 (e.trans x) R
 | bad=>exact w
theorem W.bind {m:M α}{k:α->M γ}{Q2:δ->Hp->Prop}(w:W T Rq (M.bind m k h) ρ H Q2 E)
  (f:∀ ρ1 x y h1 H1,Ext ρ H ρ1 H1->RepH T ρ1 h1 H1->Rp ρ1 H1 x y->W T Rq (k x h1) ρ1 H1 Q2 E->Q y H1):W T Rp (m h) ρ H Q E:=by
 unfold M.bind at w
 cases e:m h with
 | ok a h1 =>
  rw [e] at w
  exact fun ρ1 y H1 x R q=>f ρ1 a y h1 H1 x R q (w.ext x)
 | exc c x h1=>rw [e] at w;exact w
 | bad=>rw [e] at w;exact w
theorem W.ok {a:α}{b:β}(w:W T Rp (.ok a h) ρ H Q E)(e:Ext ρ H ρ' H')(R:RepH T ρ' h H')(q:Rp ρ' H' a b):Q b H':=w ρ' b H' e R q
theorem W.here {a:α}{b:β}(w:W T Rp (.ok a h) ρ H Q E)(R:RepH T ρ h H)(q:Rp ρ H a b):Q b H:=w ρ b H .refl R q
end
end AM
set_option genSizeOf false
namespace AM
open PySem PySem.Spec PyProof.Rows L2
abbrev ASt:=List (Option AV)
noncomputable def RepS (T:Tab)(ρ:List Addr)(H:Hp)(σ:ASt)(σ':L2.St):Prop:=σ.length = σ'.length/\∀ (i:Nat) v,σ[i]? = some (some v)->∃ v',σ'[i]? = some (some v')/\RepV T ρ H v v'
theorem RepS.ext {T:Tab}{ρ ρ':List Addr}{H H':Hp}{σ:ASt}{σ':L2.St}(S:RepS T ρ H σ σ')(e:Ext ρ H ρ' H'):RepS T ρ' H' σ σ' :=
 ⟨S.1,fun i v q=>let ⟨v',a,b⟩:=S.2 i v q;⟨v',a,b.ext e⟩⟩
theorem RepS.set {T:Tab}{ρ:List Addr}{H:Hp}{σ:ASt}{σ':L2.St}(S:RepS T ρ H σ σ'){v:AV}{v':V}(r:RepV T ρ H v v')(i:Nat):RepS T ρ H (σ.set i (some v)) (σ'.set i (some v')):=by
 refine ⟨by simp [S.1],fun j u q=>?_⟩
 by_cases hj:i = j
 ·subst hj
  by_cases hl:i < σ.length
  ·rw [List.getElem?_set_self hl] at q
   cases q
   exact ⟨v',List.getElem?_set_self (by rw [<- S.1];exact hl),r⟩
  ·rw [List.getElem?_eq_none (by simpa using hl)] at q;cases q
 ·rw [List.getElem?_set_ne hj] at q
  obtain ⟨w,a,b⟩:=S.2 j u q
  exact ⟨w,by rw [List.getElem?_set_ne hj];exact a,b⟩
noncomputable def QE (X:Cx)(T:Tab)(E:XK)(e:Expr)(m:ASt->M AV):Prop :=
 ∃ t,PE X e t/\∀ ρ σ σ' h H Q,RepH T ρ h H->RepS T ρ H σ σ'->W T (RepV T) (m σ h) ρ H Q E->t σ' H Q
noncomputable def QA (X:Cx)(T:Tab)(E:XK)(es:List Expr)(m:ASt->M (List AV)):Prop :=
 ∃ t,PA X es t/\∀ ρ σ σ' h H Q,RepH T ρ h H->RepS T ρ H σ σ'->W T (RepVs T) (m σ h) ρ H Q E->t σ' H Q
abbrev RB:Rl Bool Bool:=fun _ _ a b=>a = b
noncomputable def QT (X:Cx)(T:Tab)(E:XK)(e:Expr)(m:ASt->M Bool):Prop :=
 ∃ t,PT X e t/\∀ ρ σ σ' h H Q,RepH T ρ h H->RepS T ρ H σ σ'->W T RB (m σ h) ρ H Q E->t σ' H Q
noncomputable def QW (X:Cx)(T:Tab)(E:XK)(e:Expr)(m:ASt->M Bool):Prop :=
 ∃ t,PW X e t/\∀ ρ σ σ' h H Q,RepH T ρ h H->RepS T ρ H σ σ'->W T RB (m σ h) ρ H Q E->t σ' H Q
theorem QW.qt {X:Cx}{T:Tab}{E:XK}{e:Expr}{m:ASt->M Bool}(h:QW X T E e m):QT X T E e m:=let ⟨t,a,b⟩:=h;⟨t,a.pt,b⟩
noncomputable def OpS (X:Cx)(T:Tab)(E:XK)(f:Value->Value->Sem Value)(g:AV->AV->M AV):Prop :=
 ∃ r,OpR X f r/\∀ ρ h H x y x' y' Q,RepH T ρ h H->RepV T ρ H x x'->RepV T ρ H y y'->W T (RepV T) (g x y h) ρ H Q E->r x' y' H Q
noncomputable def UnS (X:Cx)(T:Tab)(E:XK)(f:Value->Sem Value)(g:AV->M AV):Prop :=
 ∃ r,UnR X f r/\∀ ρ h H x x' Q,RepH T ρ h H->RepV T ρ H x x'->W T (RepV T) (g x h) ρ H Q E->r x' H Q
noncomputable def IxS (X:Cx)(T:Tab)(E:XK)(g:AV->AV->M AV):Prop :=
 ∃ r,IxR X r/\∀ ρ h H x y x' y' Q,RepH T ρ h H->RepV T ρ H x x'->RepV T ρ H y y'->W T (RepV T) (g x y h) ρ H Q E->r x' y' H Q
noncomputable def CallS (X:Cx)(T:Tab)(E:XK)(f:Value)(g:List AV->M AV):Prop :=
 ∃ r,CallR X f r/\∀ ρ h H xs xs' Q,RepH T ρ h H->RepVs T ρ H xs xs'->W T (RepV T) (g xs h) ρ H Q E->r xs' H Q
noncomputable def mulOk (i j:Int):Bool:=decide (i.natAbs < 2 ^ 64) || decide (j.natAbs < 2 ^ 64) || (decide (i.natAbs < 2 ^ 1000) && decide (j.natAbs < 2 ^ 1000))
noncomputable def divOk (j:Int):Bool:=decide (0 < j) && decide (j < 2 ^ 1000)
noncomputable def powOk (i j:Int):Bool:=decide (0 <= j) && decide (j <= 1000000) && decide (i.natAbs < 2 ^ 64)
noncomputable def gAdd:AV->AV->M AV
 | .int i,.int j=>M.ret (.int (i + j))
 | .str i,.str j=>M.guard (i.length + j.length <= sizeLine) (M.ret (.str (i ++ j)))
 | .tup xs,.tup ys=>M.guard (xs.length + ys.length <= sizeLine) (M.ret (.tup (xs ++ ys)))
 | .ref n,.ref m=>fun h=>match h.ob n,h.ob m with
  | some (.lst true xs),some (.lst true ys)=>if xs.length + ys.length <= sizeLine then .ok (.ref h.nx) (h.new (.lst true (xs ++ ys))) else .bad
  | _,_=>.bad
 | _,_=>M.bad
noncomputable def gInt (p:Int->Int->Bool)(f:Int->Int->Int):AV->AV->M AV
 | .int i,.int j=>fun h=>if p i j = true then .ok (.int (f i j)) h else .bad
 | _,_=>M.bad
noncomputable def gSub:AV->AV->M AV:=gInt (fun _ _=>true) (· - ·)
noncomputable def gMul (x y:AV):M AV:=match x with
 | .str z=>match y with
  | .int k=>fun h=>if z.length <= 1000/\0 <= k/\k <= 1000/\(Txt.mul z k).length <= sizeLine then .ok (.str (Txt.mul z k)) h else .bad
  | _=>M.bad
 | .ref n=>match y with
  | .int k=>fun h=>match h.ob n with
   | some (.lst true xs)=>if 0 <= k/\xs.length * k.toNat <= sizeLine/\k < 2 ^ 63 then .ok (.ref h.nx) (h.new (.lst true (List.replicate k.toNat xs).flatten)) else .bad
   | _=>.bad
  | _=>M.bad
 | _=>gInt mulOk (· * ·) x y
noncomputable def gFdiv:AV->AV->M AV:=gInt (fun _ j=>divOk j) (· / ·)
noncomputable def gMod:AV->AV->M AV:=gInt (fun _ j=>decide (0 < j)) (· % ·)
noncomputable def gPow:AV->AV->M AV:=gInt powOk fun i j=>i ^ j.toNat
noncomputable def gShl:AV->AV->M AV:=gInt powOk fun i j=>i * 2 ^ j.toNat
noncomputable def gShr:AV->AV->M AV:=gInt (fun _ j=>decide (0 <= j)) fun i j=>i / 2 ^ j.toNat
noncomputable def gAnd:AV->AV->M AV:=gInt (fun _ _=>true) Builtin.bitAnd
noncomputable def gOr:AV->AV->M AV:=gInt (fun _ _=>true) Builtin.bitOr
noncomputable def gXor:AV->AV->M AV:=gInt (fun _ _=>true) Builtin.bitXor
noncomputable def gCmp (f:Int->Int->Bool):AV->AV->M AV
 | .int i,.int j=>M.ret (.bl (f i j))
 | _,_=>M.bad
noncomputable def gLt:AV->AV->M AV:=gCmp fun i j=>decide (i < j)
noncomputable def gLe:AV->AV->M AV:=gCmp fun i j=>decide (i <= j)
noncomputable def gGt:AV->AV->M AV:=gCmp fun i j=>decide (j < i)
noncomputable def gGe:AV->AV->M AV:=gCmp fun i j=>decide (j <= i)
noncomputable def eqSc:AV->AV->Option Bool
 | .non,.non=>some true | .non,.int _=>some false | .int _,.non=>some false | .non,.bl _=>some false | .bl _,.non=>some false | .non,.str _=>some false | .str _,.non=>some false
 | .int i,.int j=>some (decide (i = j)) | .bl i,.bl j=>some (decide (i = j)) | .str i,.str j=>some (decide (i = j))
 | .int _,.str _=>some false | .str _,.int _=>some false | .bl _,.str _=>some false | .str _,.bl _=>some false
 | _,_=>none
noncomputable def flatA:AV->Bool
 | .non=>true | .bl _=>true | .int _=>true | .str _=>true
 | _=>false
noncomputable def eqFl:AV->AV->Bool
 | .non,.non=>true
 | .bl a,.bl b=>a == b
 | .bl a,.int b=>(if a then 1 else 0) == b
 | .int a,.bl b=>a == (if b then 1 else 0)
 | .int a,.int b=>a == b
 | .str a,.str b=>a == b
 | _,_=>false
noncomputable def sqOf (h:AH):AV->Option (Bool × List AV)
 | .tup xs=>some (false,xs)
 | .ref n=>match h.ob n with
  | some (.lst _ xs)=>some (true,xs)
  | _=>none
 | _=>none
noncomputable def eqAll (f:AV->AV->Option Bool):List AV->List AV->Option Bool
 | [],_=>some true
 | _ :: _,[]=>some true
 | x :: xs,y :: ys=>match f x y,eqAll f xs ys with
  | some a,some b=>some (a && b)
  | _,_=>none
noncomputable def nonTup:AV->AV->Bool
 | .non,.tup _=>true
 | .tup _,.non=>true
 | _,_=>false
noncomputable def eqA (h:AH):Nat->AV->AV->Option Bool
 | 0,_,_=>none
 | n + 1,x,y=>if flatA x = true/\flatA y = true then some (eqFl x y) else
  if nonTup x y = true then some false else
  match sqOf h x,sqOf h y with
  | some (k,xs),some (k',ys)=>if k = k' then
    if k = true/\xs.length ≠ ys.length then some false else (eqAll (eqA h n) xs ys).map fun b=>b && decide (xs.length = ys.length)
   else some false
  | _,_=>none
noncomputable def eqT (h:AH)(x y:AV):Option Bool:=match sqOf h x,sqOf h y with
 | some _,some _=>eqA h 12 x y
 | _,_=>none
noncomputable def gEq (x y:AV):M AV:=fun h=>match eqSc x y with
 | some b=>.ok (.bl b) h
 | none=>match eqT h x y with
  | some b=>.ok (.bl b) h
  | none=>.bad
noncomputable def gNe (x y:AV):M AV:=fun h=>match eqSc x y with
 | some b=>.ok (.bl (!b)) h
 | none=>match eqT h x y with
  | some b=>.ok (.bl (!b)) h
  | none=>.bad
noncomputable def isNon:AV->Bool
 | .non=>true
 | _=>false
noncomputable def gIs (x y:AV):M AV:=if isNon y = true then M.ret (.bl (isNon x)) else M.bad
noncomputable def gIsNot (x y:AV):M AV:=if isNon y = true then M.ret (.bl (!isNon x)) else M.bad
noncomputable def inA (x:AV)(xs:List AV):Bool:=xs.any fun y=>eqFl y x
noncomputable def seqOf (h:AH):AV->Option (List AV)
 | .tup xs=>some xs
 | .ref n=>match h.ob n with
  | some (.lst _ xs)=>some xs
  | _=>none
 | _=>none
noncomputable def keyOf:AV->Option Key
 | .int i=>some (.inl i)
 | .str s=>some (.inr s)
 | _=>none
noncomputable def dctOf (h:AH):AV->Option (List (Key × AV))
 | .ref n=>match h.ob n with
  | some (.dct kvs)=>some kvs
  | _=>none
 | _=>none
noncomputable def valA (kvs:List (Key × AV))(k:Key):Option AV:=(kvs.find? fun kv=>decide (kv.1 = k)).map (·.2)
noncomputable def putD (kvs:List (Key × AV))(k:Key)(v:AV):List (Key × AV) :=
 if (kvs.any fun kv=>decide (kv.1 = k)) = true then kvs.map (fun kv=>if kv.1 = k then (kv.1,v) else kv) else kvs ++ [(k,v)]
noncomputable def dropD (kvs:List (Key × AV))(k:Key):List (Key × AV):=kvs.filter fun kv=>decide (kv.1 ≠ k)
noncomputable def inTx (neg:Bool)(x y:AV):M AV:=fun h=>match x,y with
 | .str a,.str b=>if neg = true then .bad else .ok (.bl (inT a b)) h
 | _,_=>.bad
noncomputable def gIn0 (neg:Bool)(x y:AV):M AV:=fun h=>match seqOf h y with
 | some xs=>if (flatA x && xs.all flatA) = true then .ok (.bl (if neg then !inA x xs else inA x xs)) h else .bad
 | none=>inTx neg x y h
noncomputable def gIn (neg:Bool)(x y:AV):M AV:=fun h=>match dctOf h y with
 | some kvs=>match keyOf x with
  | some k=>.ok (.bl (if neg then !(valA kvs k).isSome else (valA kvs k).isSome)) h
  | none=>.bad
 | none=>gIn0 neg x y h
noncomputable def gNeg:AV->M AV
 | .int i=>M.ret (.int (-i))
 | _=>M.bad
noncomputable def gIx0 (x y:AV):M AV:=fun h=>match y with
 | .int i=>match x with
  | .str z=>if z.length <= sizeLine then match atI z.cps.toList i with
   | some c=>.ok (.str ⟨#[c]⟩) h
   | none=>.bad
   else .bad
  | x=>match (seqOf h x).bind fun xs=>atI xs i with
   | some v=>.ok v h
   | none=>.bad
 | _=>.bad
noncomputable abbrev gIx1:=gIx0
noncomputable def gIx (x y:AV):M AV:=fun h=>match dctOf h x with
 | some kvs=>match (keyOf y).bind (valA kvs) with
  | some v=>.ok v h
  | none=>.bad
 | none=>gIx1 x y h
noncomputable def truth (h:AH):AV->Option Bool
 | .non=>some false
 | .bl b=>some b
 | .int i=>some (i != 0)
 | .str y=>if y.length <= sizeLine then some ((y.length:Int) != 0) else none
 | .tup xs=>some (!xs.isEmpty)
 | .ref n=>match h.ob n with
  | some (.lst _ xs)=>some (!xs.isEmpty)
  | some (.dct kvs)=>some (!kvs.isEmpty)
  | _=>none
 | _=>none
noncomputable def gTruth (x:AV):M Bool:=fun h=>match truth h x with
 | some b=>.ok b h
 | none=>.bad
section
variable {X:Cx}{T:Tab}{E:XK}(hK:X.K = T.K)
theorem guard_ok {α β:Type}{Rp:Rl α β}{p:Prop} [Decidable p] {m:M α}{ρ:List Addr}{H:Hp}{h:AH}{Q:β->Hp->Prop}(w:W T Rp (M.guard p m h) ρ H Q E):p/\W T Rp (m h) ρ H Q E:=by
 unfold M.guard at w
 by_cases hp:p
 ·rw [if_pos hp] at w;exact ⟨hp,w⟩
 ·rw [if_neg hp] at w;exact w.elim
theorem os_int {f:Value->Value->Sem Value}{C:Int->Int->Prop}{p:Int->Int->Bool}{g:Int->Int->Int}(ho:OpR X f (rI C fun i j=>.int (g i j)))(hc:∀ i j,p i j = true->C i j):OpS X T E f (gInt p g):=by
 refine ⟨_,ho,fun ρ h H x y x' y' Q R rx ry w=>?_⟩
 cases x with
 | int i =>
  cases y with
  | int j =>
   cases rx;cases ry
   simp only [gInt] at w
   by_cases hp:p i j = true
   ·rw [if_pos hp] at w
    exact ⟨i,j,rfl,rfl,hc i j hp,w.here R (.int _)⟩
   ·rw [if_neg hp] at w;exact w.elim
  | _=>exact w.elim
 | _=>exact w.elim
theorem os_cmp {f:Value->Value->Sem Value}{g:Int->Int->Bool}(ho:OpR X f (rI0 fun i j=>.bl (g i j))):OpS X T E f (gCmp g):=by
 refine ⟨_,ho,fun ρ h H x y x' y' Q R rx ry w=>?_⟩
 cases x with
 | int i =>
  cases y with
  | int j =>
   cases rx;cases ry
   exact ⟨i,j,rfl,rfl,W.here w R (.bl _)⟩
  | _=>exact w.elim
 | _=>exact w.elim
theorem rI0_rI {f:Value->Value->Sem Value}{g:Int->Int->V}(h:OpR X f (rI0 g)):OpR X f (rI (fun _ _=>True) g) :=
 fun pins s σ H x y v u Q I rx ry ⟨i,j,a,b,_,q⟩=>h pins s σ H x y v u Q I rx ry ⟨i,j,a,b,q⟩
theorem os_sub:OpS X T E (binaryOp .Sub) gSub:=os_int (rI0_rI op_sub) fun _ _ _=>trivial
theorem os_and:OpS X T E (binaryOp .BitAnd) gAnd:=os_int (rI0_rI op_and) fun _ _ _=>trivial
theorem os_or:OpS X T E (binaryOp .BitOr) gOr:=os_int (rI0_rI op_or) fun _ _ _=>trivial
theorem os_xor:OpS X T E (binaryOp .BitXor) gXor:=os_int (rI0_rI op_xor) fun _ _ _=>trivial
theorem os_mod:OpS X T E (binaryOp .Mod) gMod:=os_int op_mod fun _ _ h=>of_decide_eq_true h
theorem powOk_c {i j:Int}(h:powOk i j = true):CPow i j:=by
 simp only [powOk,Bool.and_eq_true,decide_eq_true_eq] at h
 exact ⟨h.1.1,h.1.2,h.2⟩
theorem os_pow:OpS X T E (binaryOp .Pow) gPow:=os_int op_pow fun _ _ h=>powOk_c h
theorem os_shl:OpS X T E (binaryOp .LShift) gShl:=os_int op_shl fun _ _ h=>powOk_c h
theorem os_shr:OpS X T E (binaryOp .RShift) gShr:=os_int op_shr fun _ _ h=>of_decide_eq_true h
theorem mulOk_c {i j:Int}(h:mulOk i j = true):IntMulOk i j:=by
 simp only [mulOk,Bool.or_eq_true,Bool.and_eq_true,decide_eq_true_eq] at h
 rcases h with (h | h) | ⟨h1,h2⟩
 ·exact .of_left (intBits_le h)
 ·exact .of_right (intBits_le h)
 ·exact .of_bits (Nat.le_trans (intBits_le h1) (by decide)) (Nat.le_trans (intBits_le h2) (by decide))
theorem op_mulW:OpR X (binaryOp .Mult) (rI IntMulOk fun i j=>.int (i * j)):=opI fun _ _ _ _ _ _ _ hc q=>mul_int q hc
theorem log2_lt {j:Int}(h:j < 2 ^ 1000)(h0:0 < j):j.natAbs.log2 < 9000:=by
 have hn:j.natAbs < 2 ^ 1000:=by omega
 have:j.natAbs.log2 < 1000:=(Nat.log2_lt (by omega)).mpr hn
 omega
theorem op_fdivW:OpR X (binaryOp .FloorDiv) (rI (fun _ j=>0 < j/\j < 2 ^ 1000) fun i j=>.int (i / j)):=opI fun i j _ _ _ _ _ hc q=>by
 have h1:(0:Int) < j:=hc.1
 exact floordiv_int (by omega) (by rw [Int.fdiv_eq_ediv_of_nonneg i (by omega)];exact q) (.inl (PyProof.noPylong_of_log2 (log2_lt hc.2 hc.1)))
theorem divOk_c {j:Int}(h:divOk j = true):0 < j/\j < 2 ^ 1000:=by
 simp only [divOk,Bool.and_eq_true,decide_eq_true_eq] at h
 exact h
theorem os_fdiv:OpS X T E (binaryOp .FloorDiv) gFdiv:=os_int op_fdivW fun _ _ h=>divOk_c h
theorem os_lt:OpS X T E (compareOp .Lt) gLt:=os_cmp op_lt
theorem os_le:OpS X T E (compareOp .LtE) gLe:=os_cmp op_le
theorem os_gt:OpS X T E (compareOp .Gt) gGt:=os_cmp op_gt
theorem os_ge:OpS X T E (compareOp .GtE) gGe:=os_cmp op_ge
theorem eqSc_V {ρ:List Addr}{H:Hp}{x y:AV}{x' y':V}{b:Bool}(rx:RepV T ρ H x x')(ry:RepV T ρ H y y')(e:eqSc x y = some b):scal x' y' = true/\decide (x' = y') = b:=by
 cases rx <;> cases ry <;> simp [eqSc] at e <;> (subst e) <;> simp [scal]
theorem flat_V {ρ:List Addr}{H:Hp}{x:AV}{x':V}(r:RepV T ρ H x x')(f:flatA x = true):flatV x' = true:=by
 cases r <;> first | rfl | cases f
theorem flats_V {ρ:List Addr}{H:Hp}:∀ {xs:List AV} {ys:List V},RepVs T ρ H xs ys->xs.all flatA = true->ys.all flatV = true
 | _,_,.nil,_=>rfl
 | _,_,.cons h hs,f=>by
  rw [List.all_cons,Bool.and_eq_true] at f ⊢
  exact ⟨flat_V h f.1,flats_V hs f.2⟩
theorem eqFl_V {ρ:List Addr}{H:Hp}{x y:AV}{x' y':V}(rx:RepV T ρ H x x')(ry:RepV T ρ H y y')(fx:flatA x = true)(fy:flatA y = true):eqV x' y' = eqFl x y:=by
 cases rx <;> first | cases fx;done | skip
 all_goals (cases ry <;> first | rfl | cases fy)
theorem sqOf_V (hK:X.K = T.K){ρ:List Addr}{h:AH}{H:Hp}{x:AV}{x':V}{k:Bool}{xs:List AV}(R:RepH T ρ h H)(r:RepV T ρ H x x')(e:sqOf h x = some (k,xs)):∃ a ys,x' = .ref a/\RepVs T ρ H xs ys/\(k = true->SqL X.K H a ys)/\(k = false->SqT X.K H a ys):=by
 cases r with
 | tup hq hr =>
  cases e
  exact ⟨_,_,rfl,hr,(fun z=>by cases z),fun _=>by rw [hK];exact hq⟩
 | @ref n a q =>
  simp only [sqOf] at e
  cases o:h.ob n with
  | none=>rw [o] at e;cases e
  | some u =>
   rw [o] at e
   cases u with
   | lst m ys =>
    cases e
    cases m with
    | true=>obtain ⟨zs,h1,h2⟩:=R.obj n _ a o q;exact ⟨_,_,rfl,h2,fun _=>.inl (.inl h1),fun z=>by cases z⟩
    | false=>obtain ⟨zs,h1,h2⟩:=R.obj n _ a o q;exact ⟨_,_,rfl,h2,fun _=>by rw [hK];exact h1.sq,fun z=>by cases z⟩
   | _=>cases e
 | _=>cases e
theorem eqAll_V {f:AV->AV->Option Bool}:∀ {xs ys:List AV} {b:Bool},eqAll f xs ys = some b->∃ e:Nat->Bool,(∀ j x y,xs[j]? = some x->ys[j]? = some y->f x y = some (e j))/\b = (List.range (min xs.length ys.length)).all e
 | [],_,b,h=>by cases h;exact ⟨fun _=>true,fun j x y z=>by simp at z,by simp⟩
 | _ :: _,[],b,h=>by cases h;exact ⟨fun _=>true,fun j x y _ z=>by simp at z,by simp⟩
 | x :: xs,y :: ys,b,h=>by
  simp only [eqAll] at h
  cases h1:f x y with
  | none=>rw [h1] at h;cases h
  | some a =>
   cases h2:eqAll f xs ys with
   | none=>rw [h1,h2] at h;cases h
   | some c =>
    rw [h1,h2] at h
    cases h
    obtain ⟨e,g1,g2⟩:=eqAll_V h2
    refine ⟨fun j=>match j with | 0=>a | j + 1=>e j,fun j p q z1 z2=>?_,?_⟩
    ·cases j with
     | zero=>cases z1;cases z2;exact h1
     | succ j=>exact g1 j p q z1 z2
    ·rw [g2,List.length_cons,List.length_cons,Nat.succ_min_succ,List.range_succ_eq_map,List.all_cons,List.all_map]
     rfl
theorem repVs_at {ρ:List Addr}{H:Hp}:∀ {xs:List AV} {ys:List V} {j:Nat} {y:V},RepVs T ρ H xs ys->ys[j]? = some y->∃ x,xs[j]? = some x/\RepV T ρ H x y
 | _,_,_,_,.nil,e=>by simp at e
 | _,_,0,_,.cons h _,e=>by cases e;exact ⟨_,rfl,h⟩
 | _,_,j + 1,y,.cons _ hs,e=>by
  obtain ⟨x,h1,h2⟩:=repVs_at (j:=j) (y:=y) hs (by simpa using e)
  exact ⟨x,by simpa using h1,h2⟩
theorem eqA_V (hK:X.K = T.K){ρ:List Addr}{h:AH}{H:Hp}(R:RepH T ρ h H):∀ {n:Nat} {x y:AV} {x' y':V} {b:Bool},RepV T ρ H x x'->RepV T ρ H y y'->eqA h n x y = some b->EqD X.K H n x' y' b
 | 0,_,_,_,_,_,_,_,e=>by cases e
 | n + 1,x,y,x',y',b,rx,ry,e=>by
  simp only [eqA] at e
  by_cases hf:flatA x = true/\flatA y = true
  ·rw [if_pos hf] at e
   cases e
   exact .inl ⟨flat_V rx hf.1,flat_V ry hf.2,(eqFl_V rx ry hf.1 hf.2).symm⟩
  ·rw [if_neg hf] at e
   by_cases hn:nonTup x y = true
   ·rw [if_pos hn] at e
    cases e
    refine .inr (.inl ⟨rfl,?_⟩)
    cases x with
    | non=>cases y with
     | tup ys =>
      obtain ⟨c,vs,rfl,r2,l2,t2⟩:=sqOf_V hK R ry (show sqOf h (.tup ys) = some (false,ys) from rfl)
      cases rx
      exact ⟨c,vs,t2 rfl,.inl ⟨rfl,rfl⟩⟩
     | _=>cases hn
    | tup xs=>cases y with
     | non =>
      obtain ⟨c,vs,rfl,r2,l2,t2⟩:=sqOf_V hK R rx (show sqOf h (.tup xs) = some (false,xs) from rfl)
      cases ry
      exact ⟨c,vs,t2 rfl,.inr ⟨rfl,rfl⟩⟩
     | _=>cases hn
    | _=>cases hn
   rw [if_neg hn] at e
   cases h1:sqOf h x with
   | none=>rw [h1] at e;cases e
   | some p =>
    obtain ⟨k,xs⟩:=p
    cases h2:sqOf h y with
    | none=>rw [h1,h2] at e;cases e
    | some q =>
     obtain ⟨k',ys⟩:=q
     rw [h1,h2] at e
     dsimp only at e
     obtain ⟨a,us,rfl,r1,l1,t1⟩:=sqOf_V hK R rx h1
     obtain ⟨c,vs,rfl,r2,l2,t2⟩:=sqOf_V hK R ry h2
     refine .inr (.inr ⟨a,c,us,vs,rfl,rfl,?_⟩)
     have items:∀ {b:Bool},eqAll (eqA h n) xs ys = some b->∃ f:Nat->Bool,(∀ j p q,us[j]? = some p->vs[j]? = some q->EqD X.K H n p q (f j))/\b = (List.range (min us.length vs.length)).all f:=fun {b} he=>by
      obtain ⟨f,g1,g2⟩:=eqAll_V he
      refine ⟨f,fun j p q z1 z2=>?_,by rw [<- r1.length,<- r2.length];exact g2⟩
      obtain ⟨x1,w1,w2⟩:=repVs_at r1 z1
      obtain ⟨y1,w3,w4⟩:=repVs_at r2 z2
      exact eqA_V hK R w2 w4 (g1 j x1 y1 w1 w3)
     by_cases hk:k = k'
     ·subst hk
      rw [if_pos rfl] at e
      by_cases hl:k = true/\xs.length ≠ ys.length
      ·rw [if_pos hl] at e
       cases e
       exact .inl ⟨l1 hl.1,l2 hl.1,.inl ⟨by rw [<- r1.length,<- r2.length];exact hl.2,rfl⟩⟩
      ·rw [if_neg hl] at e
       cases he:eqAll (eqA h n) xs ys with
       | none=>rw [he] at e;cases e
       | some d =>
        rw [he] at e
        cases e
        obtain ⟨f,g1,g2⟩:=items he
        cases k with
        | true =>
         have hz:xs.length = ys.length:=Classical.byContradiction fun z=>hl ⟨rfl,z⟩
         have hz':us.length = vs.length:=by rw [<- r1.length,<- r2.length];exact hz
         refine .inl ⟨l1 rfl,l2 rfl,.inr ⟨hz',f,g1,?_⟩⟩
         rw [g2,<- hz',Nat.min_self,decide_eq_true hz]
         exact Bool.and_true _
        | false =>
         refine .inr (.inl ⟨t1 rfl,t2 rfl,f,g1,?_⟩)
         rw [g2,<- r1.length,<- r2.length]
         congr 1
     ·rw [if_neg hk] at e
      cases e
      cases k with
      | true =>
       cases k' with
       | true=>exact absurd rfl hk
       | false=>exact .inr (.inr (.inl ⟨l1 rfl,t2 rfl,rfl⟩))
      | false =>
       cases k' with
       | true=>exact .inr (.inr (.inr ⟨t1 rfl,l2 rfl,rfl⟩))
       | false=>exact absurd rfl hk
theorem eqT_V (hK:X.K = T.K){ρ:List Addr}{h:AH}{H:Hp}(R:RepH T ρ h H){x y:AV}{x' y':V}{b:Bool}(rx:RepV T ρ H x x')(ry:RepV T ρ H y y')(e:eqT h x y = some b):∃ a c,x' = .ref a/\y' = .ref c/\EqD X.K H 12 x' y' b:=by
 unfold eqT at e
 cases h1:sqOf h x with
 | none=>rw [h1] at e;cases e
 | some p =>
  cases h2:sqOf h y with
  | none=>rw [h1,h2] at e;cases e
  | some q =>
   rw [h1,h2] at e
   obtain ⟨a,us,e1,_⟩:=sqOf_V hK R rx h1
   obtain ⟨c,vs,e2,_⟩:=sqOf_V hK R ry h2
   exact ⟨a,c,e1,e2,eqA_V hK R rx ry e⟩
theorem os_eq (hK:X.K = T.K)(hu:X.A.units + 12 < cLine):OpS X T E (compareOp .Eq) gEq:=by
 refine ⟨_,op_eqD hu,fun ρ h H x y x' y' Q R rx ry w=>?_⟩
 unfold gEq at w
 cases e:eqSc x y with
 | none =>
  simp only [e] at w
  cases e2:eqT h x y with
  | none=>simp only [e2] at w;exact w.elim
  | some b =>
   simp only [e2] at w
   obtain ⟨a,c,e3,e4,q⟩:=eqT_V hK R rx ry e2
   exact .inr ⟨b,a,c,e3,e4,q,W.here w R (.bl _)⟩
 | some b =>
  simp only [e] at w
  obtain ⟨h1,h2⟩:=eqSc_V rx ry e
  exact .inl ⟨h1,by rw [h2];exact W.here w R (.bl _)⟩
theorem os_ne (hK:X.K = T.K)(hu:X.A.units + 12 < cLine):OpS X T E (compareOp .NotEq) gNe:=by
 refine ⟨_,op_neD hu,fun ρ h H x y x' y' Q R rx ry w=>?_⟩
 unfold gNe at w
 cases e:eqSc x y with
 | none =>
  simp only [e] at w
  cases e2:eqT h x y with
  | none=>simp only [e2] at w;exact w.elim
  | some b =>
   simp only [e2] at w
   obtain ⟨a,c,e3,e4,q⟩:=eqT_V hK R rx ry e2
   exact .inr ⟨b,a,c,e3,e4,q,W.here w R (.bl _)⟩
 | some b =>
  simp only [e] at w
  obtain ⟨h1,h2⟩:=eqSc_V rx ry e
  exact .inl ⟨h1,by rw [h2];exact W.here w R (.bl _)⟩
theorem isNon_V {ρ:List Addr}{H:Hp}{x:AV}{x':V}(r:RepV T ρ H x x'):decide (x' = .non) = isNon x:=by
 cases r <;> simp [isNon]
theorem os_is:OpS X T E (compareOp .Is) gIs:=by
 refine ⟨_,op_isN,fun ρ h H x y x' y' Q R rx ry w=>?_⟩
 unfold gIs at w
 by_cases e:isNon y = true
 ·rw [if_pos e] at w
  rw [<- isNon_V ry] at e
  exact ⟨of_decide_eq_true e,by rw [isNon_V rx];exact W.here w R (.bl _)⟩
 ·rw [if_neg e] at w;exact w.elim
theorem os_isNot:OpS X T E (compareOp .IsNot) gIsNot:=by
 refine ⟨_,op_notN,fun ρ h H x y x' y' Q R rx ry w=>?_⟩
 unfold gIsNot at w
 by_cases e:isNon y = true
 ·rw [if_pos e] at w
  rw [<- isNon_V ry] at e
  exact ⟨of_decide_eq_true e,by rw [isNon_V rx];exact W.here w R (.bl _)⟩
 ·rw [if_neg e] at w;exact w.elim
theorem us_neg:UnS X T E (unaryOp .USub) gNeg:=by
 refine ⟨_,un_neg,fun ρ h H x x' Q R rx w=>?_⟩
 cases x with
 | int i=>cases rx;exact ⟨i,rfl,W.here w R (.int _)⟩
 | _=>exact w.elim
theorem inA_V {ρ:List Addr}{H:Hp}{x:AV}{x':V}(rx:RepV T ρ H x x')(fx:flatA x = true):∀ {xs:List AV} {ys:List V},RepVs T ρ H xs ys->xs.all flatA = true->inV x' ys = inA x xs
 | _,_,.nil,_=>rfl
 | _,_,.cons h hs,f=>by
  rw [List.all_cons,Bool.and_eq_true] at f
  have:=inA_V rx fx hs f.2
  unfold inV inA at this ⊢
  rw [List.any_cons,List.any_cons,this,eqFl_V h rx f.1 fx]
theorem lst_sq {ρ:List Addr}{h:AH}{H:Hp}{n:Nat}{m:Bool}{xs:List AV}{a:Addr}(R:RepH T ρ h H)(e:h.ob n = some (.lst m xs))(q:ρ[n]? = some a):∃ ys,SqL T.K H a ys/\RepVs T ρ H xs ys:=by
 have r:=R.obj n _ a e q
 cases m with
 | true=>obtain ⟨ys,h1,h2⟩:=r;exact ⟨ys,.of h1,h2⟩
 | false=>obtain ⟨ys,h1,h2⟩:=r;exact ⟨ys,h1.sq,h2⟩
theorem seq_V {ρ:List Addr}{h:AH}{H:Hp}{x:AV}{x':V}{xs:List AV}(R:RepH T ρ h H)(r:RepV T ρ H x x')(e:seqOf h x = some xs):∃ p ys,x' = .ref p/\(SqL T.K H p ys\/SqT T.K H p ys)/\RepVs T ρ H xs ys:=by
 cases r with
 | tup hq hr=>cases e;exact ⟨_,_,rfl,.inr hq,hr⟩
 | @ref n a q =>
  simp only [seqOf] at e
  cases o:h.ob n with
  | none=>rw [o] at e;cases e
  | some u =>
   rw [o] at e
   cases u with
   | lst m ys =>
    cases e
    obtain ⟨zs,h1,h2⟩:=lst_sq R o q
    exact ⟨_,zs,rfl,.inl h1,h2⟩
   | dct kvs=>cases e
   | ins c fs=>cases e
   | xo c=>cases e
 | _=>cases e
inductive RKV (T:Tab)(ρ:List Addr)(H:Hp):List (Key × AV)->List (Key × V)->Prop where
 | nil:RKV T ρ H [] []
 | cons {k:Key} {v:AV} {y:V} {xs:List (Key × AV)} {ys:List (Key × V)} (h:RepV T ρ H v y) (t:RKV T ρ H xs ys):RKV T ρ H ((k,v) :: xs) ((k,y) :: ys)
theorem rkv_zip {ρ:List Addr}{H:Hp}:∀ {kvs:List (Key × AV)} {ys:List V},RepVs T ρ H (kvs.map (·.2)) ys->RKV T ρ H kvs ((kvs.map (·.1)).zip ys)
 | [],_,.nil=>.nil
 | (k,v) :: kvs,_,.cons h t=>.cons h (rkv_zip t)
theorem rkv_back {ρ:List Addr}{H:Hp}{kvs:List (Key × AV)}{us:List (Key × V)}(r:RKV T ρ H kvs us):∃ ys,us = (kvs.map (·.1)).zip ys/\RepVs T ρ H (kvs.map (·.2)) ys:=by
 induction r with
 | nil=>exact ⟨[],rfl,.nil⟩
 | cons h t ih =>
  obtain ⟨ys,e,r⟩:=ih
  exact ⟨_ :: ys,by rw [e];rfl,.cons h r⟩
theorem rkv_len {ρ:List Addr}{H:Hp}{kvs:List (Key × AV)}{us:List (Key × V)}(r:RKV T ρ H kvs us):kvs.length = us.length:=by
 induction r with
 | nil=>rfl
 | cons h t ih=>rw [List.length_cons,List.length_cons,ih]
theorem rkv_val {ρ:List Addr}{H:Hp}{kvs:List (Key × AV)}{us:List (Key × V)}{k:Key}(r:RKV T ρ H kvs us):(∀ v,valA kvs k = some v->∃ y,valV us k = some y/\RepV T ρ H v y)/\(valA kvs k = none->valV us k = none):=by
 induction r with
 | nil=>exact ⟨(fun v h=>by cases h),fun _=>rfl⟩
 | @cons k' v y xs ys h t ih =>
  by_cases e:k' = k
  ·subst e
   refine ⟨fun v' h'=>?_,fun h'=>?_⟩
   ·simp [valA] at h'
    subst h'
    exact ⟨y,by simp [valV],h⟩
   ·simp [valA] at h'
  ·have e1:valA ((k',v) :: xs) k = valA xs k:=by simp [valA,e]
   have e2:valV ((k',y) :: ys) k = valV ys k:=by simp [valV,e]
   rw [e1,e2]
   exact ih
theorem rkv_some {ρ:List Addr}{H:Hp}{kvs:List (Key × AV)}{us:List (Key × V)}{k:Key}(r:RKV T ρ H kvs us):(valV us k).isSome = (valA kvs k).isSome:=by
 obtain ⟨h1,h2⟩:=rkv_val (k:=k) r
 cases e:valA kvs k with
 | none=>rw [h2 e];rfl
 | some v=>obtain ⟨y,e2,_⟩:=h1 v e;rw [e2];rfl
theorem rkv_any {ρ:List Addr}{H:Hp}{kvs:List (Key × AV)}{us:List (Key × V)}{k:Key}(r:RKV T ρ H kvs us):(kvs.any fun kv=>decide (kv.1 = k)) = us.any fun kv=>decide (kv.1 = k):=by
 induction r with
 | nil=>rfl
 | cons h t ih=>rw [List.any_cons,List.any_cons,ih]
theorem rkv_app {ρ:List Addr}{H:Hp}{kvs:List (Key × AV)}{us:List (Key × V)}{k:Key}{v:AV}{y:V}(r:RKV T ρ H kvs us)(h:RepV T ρ H v y):RKV T ρ H (kvs ++ [(k,v)]) (us ++ [(k,y)]):=by
 induction r with
 | nil=>exact .cons h .nil
 | cons h' t ih=>exact .cons h' ih
theorem rkv_map {ρ:List Addr}{H:Hp}{kvs:List (Key × AV)}{us:List (Key × V)}{k:Key}{v:AV}{y:V}(r:RKV T ρ H kvs us)(h:RepV T ρ H v y):RKV T ρ H (kvs.map fun kv=>if kv.1 = k then (kv.1,v) else kv) (us.map fun kv=>if kv.1 = k then (kv.1,y) else kv):=by
 induction r with
 | nil=>exact .nil
 | @cons k' v' y' xs ys h' t ih =>
  by_cases e:k' = k
  ·simp only [List.map_cons,e,if_true]
   exact .cons h ih
  ·simp only [List.map_cons,e,if_false]
   exact .cons h' ih
theorem rkv_put {ρ:List Addr}{H:Hp}{kvs:List (Key × AV)}{us:List (Key × V)}{k:Key}{v:AV}{y:V}(r:RKV T ρ H kvs us)(h:RepV T ρ H v y):RKV T ρ H (putD kvs k v) (putK us k y):=by
 unfold putD putK
 rw [rkv_any r]
 split
 ·exact rkv_map r h
 ·exact rkv_app r h
theorem rkv_drop {ρ:List Addr}{H:Hp}{kvs:List (Key × AV)}{us:List (Key × V)}{k:Key}(r:RKV T ρ H kvs us):RKV T ρ H (dropD kvs k) (dropK us k):=by
 induction r with
 | nil=>exact .nil
 | @cons k' v' y' xs ys h' t ih =>
  unfold dropD dropK
  by_cases e:k' = k
  ·simp only [List.filter_cons,e,ne_eq,not_true_eq_false,decide_false,Bool.false_eq_true,if_false]
   exact ih
  ·simp only [List.filter_cons,e,ne_eq,not_false_eq_true,decide_true,if_true]
   exact .cons h' ih
theorem RKV.ext {ρ ρ':List Addr}{H H':Hp}{kvs:List (Key × AV)}{us:List (Key × V)}(r:RKV T ρ H kvs us)(e:Ext ρ H ρ' H'):RKV T ρ' H' kvs us:=by
 induction r with
 | nil=>exact .nil
 | cons h t ih=>exact .cons (h.ext e) ih
theorem dct_V {ρ:List Addr}{h:AH}{H:Hp}{x:AV}{x':V}{kvs:List (Key × AV)}(R:RepH T ρ h H)(r:RepV T ρ H x x')(e:dctOf h x = some kvs):∃ n a us,x = .ref n/\ρ[n]? = some a/\h.ob n = some (.dct kvs)/\x' = .ref a/\H a = some (.dK us)/\RKV T ρ H kvs us:=by
 cases r with
 | @ref n a q =>
  simp only [dctOf] at e
  cases o:h.ob n with
  | none=>rw [o] at e;cases e
  | some u =>
   rw [o] at e
   cases u with
   | dct kvs' =>
    cases e
    obtain ⟨ks,ys,h1,rfl,h3⟩:=R.obj n _ a o q
    exact ⟨n,a,_,rfl,q,o,rfl,h1,rkv_zip h3⟩
   | _=>cases e
 | _=>cases e
theorem dct_rep {ρ:List Addr}{H:Hp}{a:Addr}{kvs:List (Key × AV)}{us:List (Key × V)}(e:H a = some (.dK us))(r:RKV T ρ H kvs us):ORep T ρ H a (.dct kvs):=by
 obtain ⟨ys,e2,r2⟩:=rkv_back r
 subst e2
 exact ⟨_,ys,e,rfl,r2⟩
theorem key_V {ρ:List Addr}{H:Hp}{x:AV}{x':V}{k:Key}(r:RepV T ρ H x x')(e:keyOf x = some k):x' = kV k:=by
 cases r <;> simp [keyOf] at e <;> (subst e) <;> rfl
include hK in
theorem os_in0:OpS X T E (compareOp .In) (gIn0 false):=by
 refine ⟨_,op_in_seq.or op_inS,fun ρ h H x y x' y' Q R rx ry w=>?_⟩
 unfold gIn0 at w
 cases e:seqOf h y with
 | none =>
  rw [e] at w
  cases x with
  | str a =>
   cases y with
   | str b =>
    cases rx
    cases ry
    exact .inr ⟨a,b,rfl,rfl,w.here R (.bl _)⟩
   | _=>exact w.elim
  | _=>exact w.elim
 | some xs =>
  rw [e] at w
  by_cases f:(flatA x && xs.all flatA) = true
  ·simp only [if_pos f] at w
   rw [Bool.and_eq_true] at f
   obtain ⟨p,ys,e1,h1,h2⟩:=seq_V R ry e
   refine .inl ?_
   refine ⟨p,ys,e1,by rw [hK];exact h1,flat_V rx f.1,flats_V h2 f.2,?_⟩
   rw [inA_V rx f.1 h2 f.2]
   exact w.here R (.bl _)
  ·simp only [if_neg f] at w;exact w.elim
include hK in
theorem os_notIn0:OpS X T E (compareOp .NotIn) (gIn0 true):=by
 refine ⟨_,op_notIn_seq,fun ρ h H x y x' y' Q R rx ry w=>?_⟩
 unfold gIn0 at w
 cases e:seqOf h y with
 | none =>
  rw [e] at w
  unfold inTx at w
  cases x <;> cases y <;> exact w.elim
 | some xs =>
  rw [e] at w
  by_cases f:(flatA x && xs.all flatA) = true
  ·simp only [if_pos f] at w
   rw [Bool.and_eq_true] at f
   obtain ⟨p,ys,e1,h1,h2⟩:=seq_V R ry e
   refine ⟨p,ys,e1,by rw [hK];exact h1,flat_V rx f.1,flats_V h2 f.2,?_⟩
   rw [inA_V rx f.1 h2 f.2]
   exact w.here R (.bl _)
  ·simp only [if_neg f] at w;exact w.elim
theorem atI_rep {ρ:List Addr}{H:Hp}{xs:List AV}{ys:List V}{i:Int}{v:AV}(r:RepVs T ρ H xs ys)(e:atI xs i = some v):∃ v',atI ys i = some v'/\RepV T ρ H v v':=by
 unfold atI at e ⊢
 rw [<- r.length]
 cases q:ixN xs.length i with
 | none=>rw [q] at e;cases e
 | some j =>
  rw [q] at e
  exact r.get e
include hK in
theorem ixs0:IxS X T E gIx0:=by
 refine ⟨_,ix_seq,fun ρ h H x y x' y' Q R rx ry w=>?_⟩
 cases y with
 | int i =>
  cases ry
  have seqc:∀ (xs:List AV) (v:AV),seqOf h x = some xs->atI xs i = some v->(W T (RepV T) (.ok v h) ρ H Q E)->rIx X.K x' (.int i) H Q:=fun xs v e1 e2 w=>by
   obtain ⟨p,ys,rfl,hq,hr⟩:=seq_V R rx e1
   obtain ⟨v',e3,rv⟩:=atI_rep hr e2
   rcases hq with hq | hq
   ·exact .inl ⟨p,ys,i,v',rfl,rfl,by rw [hK];exact hq,e3,w.here R rv⟩
   ·exact .inr (.inl ⟨p,ys,i,v',rfl,rfl,by rw [hK];exact hq,e3,w.here R rv⟩)
  have go:(match (seqOf h x).bind fun xs=>atI xs i with
   | some v=>Res.ok v h
   | none=>Res.bad) = gIx0 x (.int i) h->rIx X.K x' (.int i) H Q:=fun e=>by
    rw [<- e] at w
    cases s:seqOf h x with
    | none=>rw [s] at w;exact w.elim
    | some xs =>
     rw [s] at w
     simp only [Option.bind_some] at w
     cases q:atI xs i with
     | none=>rw [q] at w;exact w.elim
     | some v=>rw [q] at w;exact seqc xs v s q w
  cases x with
  | str z =>
   cases rx
   simp only [gIx0] at w
   by_cases hz:z.length <= sizeLine
   ·rw [if_pos hz] at w
    cases q:atI z.cps.toList i with
    | none=>rw [q] at w;exact w.elim
    | some c=>rw [q] at w;exact .inr (.inr ⟨z,i,c,rfl,rfl,hz,q,w.here R (.str _)⟩)
   ·rw [if_neg hz] at w;exact w.elim
  | non=>exact go rfl
  | bl b=>exact go rfl
  | int j=>exact go rfl
  | tup xs=>exact go rfl
  | ref n=>exact go rfl
  | glb n=>exact go rfl
 | _=>exact w.elim
include hK in
theorem os_in (hu:X.A.units + 1 < cLine):OpS X T E (compareOp .In) (gIn false):=by
 obtain ⟨r0,p0,q0⟩:=(os_in0 hK:OpS X T E (compareOp .In) (gIn0 false))
 refine ⟨_,p0.or (op_in_dct hu),fun ρ h H x y x' y' Q R rx ry w=>?_⟩
 unfold gIn at w
 cases d:dctOf h y with
 | none=>simp only [d] at w;exact .inl (q0 ρ h H _ _ _ _ Q R rx ry w)
 | some kvs =>
  simp only [d] at w
  cases k:keyOf x with
  | none=>simp only [k] at w;exact w.elim
  | some k' =>
   simp only [k] at w
   obtain ⟨n,a,us,rfl,_,_,rfl,g,r⟩:=dct_V R ry d
   refine .inr ⟨a,_,rfl,(key_V rx k) ▸ DGet.k g,?_⟩
   rw [rkv_some r]
   exact W.here w R (.bl _)
include hK in
theorem os_notIn (hu:X.A.units + 1 < cLine):OpS X T E (compareOp .NotIn) (gIn true):=by
 obtain ⟨r0,p0,q0⟩:=(os_notIn0 hK:OpS X T E (compareOp .NotIn) (gIn0 true))
 refine ⟨_,p0.or (op_notIn_dct hu),fun ρ h H x y x' y' Q R rx ry w=>?_⟩
 unfold gIn at w
 cases d:dctOf h y with
 | none=>simp only [d] at w;exact .inl (q0 ρ h H _ _ _ _ Q R rx ry w)
 | some kvs =>
  simp only [d] at w
  cases k:keyOf x with
  | none=>simp only [k] at w;exact w.elim
  | some k' =>
   simp only [k] at w
   obtain ⟨n,a,us,rfl,_,_,rfl,g,r⟩:=dct_V R ry d
   refine .inr ⟨a,_,rfl,(key_V rx k) ▸ DGet.k g,?_⟩
   rw [rkv_some r]
   exact W.here w R (.bl _)
include hK in
theorem ixs (hu:X.A.units + 1 < cLine):IxS X T E gIx:=by
 obtain ⟨r0,p0,q0⟩:=(ixs0 hK:IxS X T E gIx0)
 refine ⟨_,p0.or (ix_dct hu),fun ρ h H x y x' y' Q R rx ry w=>?_⟩
 unfold gIx at w
 cases d:dctOf h x with
 | none=>simp only [d] at w;exact .inl (q0 ρ h H _ _ _ _ Q R rx ry w)
 | some kvs =>
  simp only [d] at w
  cases k:keyOf y with
  | none=>simp only [k,Option.bind_none] at w;exact w.elim
  | some k' =>
   simp only [k,Option.bind_some] at w
   cases l:valA kvs k' with
   | none=>simp only [l] at w;exact w.elim
   | some v =>
    simp only [l] at w
    obtain ⟨n,a,us,rfl,_,_,rfl,g,r⟩:=dct_V R rx d
    obtain ⟨y1,l2,ry2⟩:=(rkv_val (k:=k') r).1 v l
    refine .inr ⟨a,y1,rfl,?_,W.here w R ry2⟩
    rw [key_V ry k,<- l2]
    exact DGet.k g
noncomputable def rCatT0 (K:PySem.W.Frag):R2:=fun x y H Q=>∃ a b ys,x = .ref a/\y = .ref b/\SqT K H a []/\SqT K H b ys/\Q (.ref b) H
theorem op_catT0:OpR X (binaryOp .Add) (rCatT0 X.K):=by
 intro pins s σ H x y v u Q I rx ry h
 obtain ⟨a,b,ys,rfl,rfl,ha,hb,q⟩:=h
 cases rx
 cases ry
 obtain ⟨its,r1,p1,_⟩:=I.tuple ha
 obtain ⟨its2,r2,p2,_⟩:=I.tuple hb
 cases r1
 obtain ⟨⟨cls,dd,data,sl⟩,ho,hc,n,hd⟩:=id p1
 obtain ⟨⟨cls2,dd2,data2,sl2⟩,ho2,hc2,n2,hd2⟩:=id p2
 simp only at hc hd hc2 hd2
 subst hc hd hc2 hd2
 exact concat_meets ⟨_,ho,rfl⟩ ⟨_,ho2,rfl⟩ noFill_tuple_add seq_tuple_add PySem.F.slot_tuple_add PySem.F.entry_tuple_add (PySem.F.args_tuple_add_2 _ _)
  (tuple_addW0 a b _ _ n n2 dd dd2 sl sl2 (by simp)) ⟨ho,ho2,⟨.ref b,H,I,rfl,q⟩⟩
include hK in
theorem os_add:OpS X T E (binaryOp .Add) gAdd:=by
 refine ⟨_,op_add.or (op_add_str.or (op_catT.or (op_catT0.or op_cat))),fun ρ h H x y x' y' Q R rx ry w=>?_⟩
 cases x with
 | int i =>
  cases y with
  | int j=>cases rx;cases ry;exact .inl ⟨i,j,rfl,rfl,W.here w R (.int _)⟩
  | _=>exact w.elim
 | str i =>
  cases y with
  | str j =>
   cases rx;cases ry
   obtain ⟨hz,w⟩:=guard_ok w
   exact .inr (.inl ⟨i,j,rfl,rfl,hz,W.here w R (.str _)⟩)
  | _=>exact w.elim
 | tup xs =>
  cases y with
  | tup ys =>
   obtain ⟨h2,w⟩:=guard_ok w
   cases rx with
   | @tup a _ xs' hq hr =>
    cases ry with
    | @tup b _ ys' hq2 hr2 =>
     have l1:=hr.length
     have l2:=hr2.length
     by_cases h1:xs.length = 0
     ·have e0:xs = []:=List.eq_nil_of_length_eq_zero h1
      subst e0
      have e0:xs' = []:=List.eq_nil_of_length_eq_zero l1.symm
      subst e0
      exact .inr (.inr (.inr (.inl ⟨a,b,ys',rfl,rfl,by rw [hK];exact hq,by rw [hK];exact hq2,W.here w R (.tup hq2 hr2)⟩)))
     refine .inr (.inr (.inl ⟨a,b,xs',ys',rfl,rfl,by rw [hK];exact hq,by rw [hK];exact hq2,fun z=>?_,by omega,fun z=>?_,fun z p hp=>?_⟩))
     ·rw [z] at l1;exact h1 l1
     ·subst z
      have e0:ys = []:=by cases ys with | nil=>rfl | cons _ _=>cases l2
      subst e0
      rw [List.append_nil] at w
      exact W.here w R (.tup hq hr)
     ·refine W.ok w (.upd_new hp) (R.keep hp) (.tup (.of upd_same) ?_)
      exact ((hr.append hr2).ext (.upd_new hp))
  | _=>exact w.elim
 | ref n =>
  cases y with
  | ref m =>
   cases rx with
   | @ref _ a q =>
    cases ry with
    | @ref _ b q2 =>
     have go:∀ xs ys,h.ob n = some (.lst true xs)->h.ob m = some (.lst true ys)->rCat (.ref a) (.ref b) H Q:=fun xs ys e1 e2=>by
      simp only [gAdd,e1,e2] at w
      by_cases hz:xs.length + ys.length <= sizeLine
      ·rw [if_pos hz] at w
       obtain ⟨xs',g1,r1⟩:=R.obj n _ a e1 q
       obtain ⟨ys',g2,r2⟩:=R.obj m _ b e2 q2
       have l1:=r1.length
       have l2:=r2.length
       refine ⟨a,b,xs',ys',rfl,rfl,g1,g2,by omega,fun p hp=>?_⟩
       have ho:ORep T (ρ ++ [p]) (upd H p (.lst (xs' ++ ys'))) p (.lst true (xs ++ ys)):=⟨_,upd_same,(r1.append r2).ext ⟨fun k z e=>by
        have hl:=(List.getElem?_eq_some_iff.mp e).1
        rw [List.getElem?_append_left hl];exact e,(Ext.upd_new (ρ:=ρ) hp).tup,(Ext.upd_new (ρ:=ρ) hp).frz⟩⟩
       obtain ⟨R',ex⟩:=R.alloc hp ho
       exact W.ok w ex R' (.ref (by rw [<- R.len];simp))
      ·rw [if_neg hz] at w;exact w.elim
     refine .inr (.inr (.inr (.inr ?_)))
     cases e1:h.ob n with
     | none=>simp only [gAdd,e1] at w;exact w.elim
     | some u =>
      cases e2:h.ob m with
      | none=>simp only [gAdd,e1,e2] at w;cases u with
       | lst k xs=>cases k <;> exact w.elim
       | _=>exact w.elim
      | some v =>
       cases u with
       | lst k xs =>
        cases v with
        | lst k2 ys =>
         cases k with
         | true =>
          cases k2 with
          | true=>exact go xs ys e1 e2
          | false=>simp only [gAdd,e1,e2] at w;exact w.elim
         | false=>simp only [gAdd,e1,e2] at w;exact w.elim
        | dct _=>simp only [gAdd,e1,e2] at w;cases k <;> exact w.elim
        | ins _ _=>simp only [gAdd,e1,e2] at w;cases k <;> exact w.elim
        | xo _=>simp only [gAdd,e1,e2] at w;cases k <;> exact w.elim
       | dct _=>simp only [gAdd,e1,e2] at w;exact w.elim
       | ins _ _=>simp only [gAdd,e1,e2] at w;exact w.elim
       | xo _=>simp only [gAdd,e1,e2] at w;exact w.elim
  | _=>exact w.elim
 | _=>exact w.elim
theorem truth_V (hK:X.K = T.K){ρ:List Addr}{h:AH}{H:Hp}{x:AV}{x':V}{b:Bool}(R:RepH T ρ h H)(r:RepV T ρ H x x')(e:truth h x = some b):TruV X.K x' H b:=by
 have emp:∀ {xs:List AV} {ys:List V},RepVs T ρ H xs ys->(!xs.isEmpty) = !ys.isEmpty:=fun r=>by cases r <;> rfl
 cases r with
 | non=>cases e;rfl
 | bl c=>cases e;rfl
 | int i=>cases e;rfl
 | str y =>
  simp only [truth] at e
  by_cases hy:y.length <= sizeLine
  ·rw [if_pos hy] at e;cases e;exact ⟨hy,rfl⟩
  ·rw [if_neg hy] at e;cases e
 | tup hq hr=>cases e;exact .inr (.inl ⟨_,by rw [hK];exact hq,emp hr⟩)
 | @ref n a q =>
  simp only [truth] at e
  cases o:h.ob n with
  | none=>rw [o] at e;cases e
  | some u =>
   rw [o] at e
   cases u with
   | lst m ys =>
    cases e
    obtain ⟨zs,h1,h2⟩:=lst_sq R o q
    exact .inl ⟨zs,by rw [hK];exact h1,emp h2⟩
   | dct kvs =>
    cases e
    obtain ⟨ks,ys,h1,h2,h3⟩:=R.obj n _ a o q
    refine .inr (.inr ⟨_,h1,?_⟩)
    subst h2
    cases kvs with
    | nil=>rfl
    | cons p r=>cases h3;rfl
   | ins c fs=>cases e
   | xo c=>cases e
 | glb q=>cases e
end
end AM
set_option genSizeOf false
namespace AM
open PySem PySem.Spec PyProof.Rows L2
noncomputable def gVar (i:Nat):ASt->M AV:=fun σ h=>match σ[i]? with
 | some (some v)=>.ok v h
 | _=>.bad
noncomputable def andV (m k:M AV):M AV:=m.bind fun x=>(gTruth x).bind fun b=>if b = true then k else M.ret x
noncomputable def orV (m k:M AV):M AV:=m.bind fun x=>(gTruth x).bind fun b=>if b = true then M.ret x else k
noncomputable def andT (m k:M Bool):M Bool:=m.bind fun b=>if b = true then k else M.ret false
noncomputable def orT (m k:M Bool):M Bool:=m.bind fun b=>if b = true then M.ret true else k
noncomputable def iteM {α:Type}(c:M Bool)(a b:M α):M α:=c.bind fun t=>if t = true then a else b
noncomputable def boolOf:AV->Option Bool
 | .bl b=>some b
 | _=>none
noncomputable def chainM (g g':AV->AV->M AV)(a b c:M AV):M AV:=a.bind fun x=>b.bind fun y=>(g x y).bind fun z h=>match boolOf z with
 | some true=>(c.bind fun w=>g' y w) h
 | some false=>.ok (.bl false) h
 | none=>.bad
noncomputable def linkM (g:AV->AV->M AV)(x:AV)(b:M AV)(k:AV->M AV):M AV:=b.bind fun y=>(g x y).bind fun z h=>match boolOf z with
 | some true=>k y h
 | some false=>.ok (.bl false) h
 | none=>.bad
noncomputable def chain3M (g g' g'':AV->AV->M AV)(a b c d:M AV):M AV:=a.bind fun x=>linkM g x b fun y=>linkM g' y c fun u=>d.bind fun v=>g'' u v
noncomputable def consM (a:M AV)(r:M (List AV)):M (List AV):=a.bind fun x=>r.bind fun xs=>M.ret (x :: xs)
noncomputable def tupM (r:M (List AV)):M AV:=r.bind fun xs=>M.guard (xs.length <= sizeLine) (M.ret (.tup xs))
noncomputable def newL (xs:List AV):M AV:=fun h=>.ok (.ref h.nx) (h.new (.lst true xs))
noncomputable def lstM (r:M (List AV)):M AV:=r.bind fun xs=>M.guard (xs.length <= sizeLine) (newL xs)
noncomputable def op2M (g:AV->AV->M AV)(a b:M AV):M AV:=a.bind fun x=>b.bind fun y=>g x y
noncomputable def shp:Expr->Bool
 | .Name ..=>true | .Constant ..=>true | .BinOp ..=>true | .UnaryOp ..=>true | .Compare ..=>true | .BoolOp ..=>true | .IfExp ..=>true
 | .Tuple ..=>true | .List ..=>true | .Subscript ..=>true | .Call ..=>true | .Attribute ..=>true | .ListComp ..=>true
 | .Dict ..=>true
 | _=>false
noncomputable def isLc:Expr->Bool
 | .ListComp ..=>true
 | _=>false
noncomputable def plainT:Expr->Bool
 | .Name ..=>true | .Constant ..=>true | .BinOp ..=>true | .Subscript ..=>true | .Call ..=>true | .Attribute ..=>true | .Tuple ..=>true | .List ..=>true | .ListComp ..=>true
 | .Dict ..=>true
 | _=>false
theorem shp_star {e:Expr}{es:List Expr}{env:Env}(h:shp e = true):starEach (e :: es) env = (false,eval e env) :: starEach es env:=by
 cases e <;> first | rfl | cases h
theorem shp_ix {e:Expr}(h:shp e = true):PlainIx e:=fun o i=>by
 cases e <;> first | rfl | cases h
theorem shp_sw {e:Expr}{t:Option Expr}{n:Nat}{env:Env}(h:shp e = true)(hl:isLc e = false):swapsWith e t n env = pure false:=by
 cases e <;> first | rfl | (cases hl;done) | (cases h;done)
theorem shp_set {e:Expr}{env:Env}{x:Value}(h:shp e = true):foldedSetIterable e env x = pure x:=by
 cases e <;> first | rfl | cases h
theorem shp_mark {e:Expr}{op:CmpOp}(h:shp e = true):behindInMarks op e = false:=by
 cases e <;> first | rfl | cases h
theorem plainT_is {e:Expr}{env:Env}(h:plainT e = true):∀ whole,isTrue e env whole = (do let v <- whole;standAt e.pos;holding [v] (truthy v)):=fun _=>by
 cases e <;> first | rfl | cases h
theorem shp_any {es:List Expr}{pos:Pos}{env:Env}(h:es.all shp = true):(backTo pos (starEach es env)).any (·.1) = false:=by
 induction es with
 | nil=>rfl
 | cons e es ih =>
  rw [List.all_cons,Bool.and_eq_true] at h
  rw [shp_star h.1]
  have:=ih h.2
  simp only [backTo,List.map_cons,List.any_cons] at this ⊢
  rw [Bool.false_or]
  exact this
section
variable {X:Cx}{T:Tab}{E:XK}{a b c e:Expr}{es:List Expr}{ma mb mc m:ASt->M AV}{mr:ASt->M (List AV)}{mt mu:ASt->M Bool}{pos:Pos}
theorem qe_var {i:Nat} {x:Str} (hN:X.N[i]? = some x) (hv:Vis X.env.scope x) (hd:(x == ("__debug__":Str)) = false) (hcd:(x == ("__classdict__":Str)) = false):QE X T E (.Name x pos) (gVar i):=by
 refine ⟨_,pe_var hN hv hd hcd,fun ρ σ σ' h H Q R S w=>?_⟩
 unfold gVar at w
 cases q:σ[i]? with
 | none=>rw [q] at w;exact w.elim
 | some o =>
  cases o with
  | none=>rw [q] at w;exact w.elim
  | some v =>
   rw [q] at w
   obtain ⟨v',e1,r⟩:=S.2 i v q
   exact ⟨v',e1,w.here R r⟩
theorem qe_tc {v:AV}{v':V}(hp:PE X e (tC v'))(r:∀ ρ H,RepV T ρ H v v'):QE X T E e (fun _=>M.ret v) :=
 ⟨_,hp,fun ρ _ _ h H Q R _ w=>W.here w R (r ρ H)⟩
theorem qe_bad:QE X T E e (fun _=>M.bad):=⟨fun _ _ _=>False,fun _ _ _ _ _ _ h=>h.elim,fun _ _ _ _ _ _ _ _ w=>w⟩
theorem qt_bad:QT X T E e (fun _=>M.bad):=⟨fun _ _ _=>False,fun _ _ _ _ _ _ h=>h.elim,fun _ _ _ _ _ _ _ _ w=>w⟩
theorem two {α β:Type}{Rp:Rl α β}{ta tb:TE}(ra:∀ ρ σ σ' h H Q,RepH T ρ h H->RepS T ρ H σ σ'->W T (RepV T) (ma σ h) ρ H Q E->ta σ' H Q)(rb:∀ ρ σ σ' h H Q,RepH T ρ h H->RepS T ρ H σ σ'->W T (RepV T) (mb σ h) ρ H Q E->tb σ' H Q)
  {ρ:List Addr} {σ:ASt} {σ':L2.St} {h:AH} {H:Hp} {g:AV->AV->M α} {Q:β->Hp->Prop} {F:V->V->Hp->Prop} (R:RepH T ρ h H) (S:RepS T ρ H σ σ') (w:W T Rp ((ma σ).bind (fun x=>(mb σ).bind fun y=>g x y) h) ρ H Q E)
  (f:∀ ρ2 x y x' y' h2 H2,Ext ρ H ρ2 H2->RepH T ρ2 h2 H2->RepV T ρ2 H2 x x'->RepV T ρ2 H2 y y'->RepS T ρ2 H2 σ σ'->W T Rp (g x y h2) ρ2 H2 Q E->F x' y' H2):ta σ' H fun x H1=>tb σ' H1 fun y H2=>F x y H2 :=
 ra ρ σ σ' h H _ R S (W.bind w fun ρ1 x x' h1 H1 e1 R1 q1 w1=>rb ρ1 σ σ' h1 H1 _ R1 (S.ext e1) (W.bind w1 fun ρ2 y y' h2 H2 e2 R2 q2 w2=>f ρ2 x y x' y' h2 H2 (e1.trans e2) R2 (q1.ext e2) q2 ((S.ext e1).ext e2) w2))
theorem qe_op {op:Operator}{g:AV->AV->M AV}(ho:OpS X T E (binaryOp op) g)(ha:QE X T E a ma)(hb:QE X T E b mb):QE X T E (.BinOp a op b pos) (fun σ=>op2M g (ma σ) (mb σ)):=by
 obtain ⟨r,hr,hg⟩:=ho
 obtain ⟨ta,pa,ra⟩:=ha
 obtain ⟨tb,pb,rb⟩:=hb
 exact ⟨_,pe_op hr pa pb,fun ρ σ σ' h H Q R S w=>two ra rb R S w fun ρ2 x y x' y' h2 H2 _ R2 q1 q2 _ w2=>hg ρ2 h2 H2 x y x' y' Q R2 q1 q2 w2⟩
theorem qe_ix {g:AV->AV->M AV}(ho:IxS X T E g)(ha:QE X T E a ma)(hb:QE X T E b mb)(hs:PlainIx b):QE X T E (.Subscript a b pos) (fun σ=>op2M g (ma σ) (mb σ)):=by
 obtain ⟨r,hr,hg⟩:=ho
 obtain ⟨ta,pa,ra⟩:=ha
 obtain ⟨tb,pb,rb⟩:=hb
 exact ⟨_,pe_ix hr pa pb hs,fun ρ σ σ' h H Q R S w=>two ra rb R S w fun ρ2 x y x' y' h2 H2 _ R2 q1 q2 _ w2=>hg ρ2 h2 H2 x y x' y' Q R2 q1 q2 w2⟩
theorem qe_cmp {op:CmpOp}{g:AV->AV->M AV}(ho:OpS X T E (compareOp op) g)(ha:QE X T E a ma)(hb:QE X T E b mb)(hm:behindInMarks op b = false):QE X T E (.Compare a [op] [b] pos) (fun σ=>op2M g (ma σ) (mb σ)):=by
 obtain ⟨r,hr,hg⟩:=ho
 obtain ⟨ta,pa,ra⟩:=ha
 obtain ⟨tb,pb,rb⟩:=hb
 exact ⟨_,pe_cmpR hr pa pb hm,fun ρ σ σ' h H Q R S w=>two ra rb R S w fun ρ2 x y x' y' h2 H2 _ R2 q1 q2 _ w2=>hg ρ2 h2 H2 x y x' y' Q R2 q1 q2 w2⟩
theorem qe_un {op:PySem.UnaryOp}{g:AV->M AV}(ho:UnS X T E (unaryOp op) g)(ha:QE X T E a ma):QE X T E (.UnaryOp op a pos) (fun σ=>(ma σ).bind g):=by
 obtain ⟨r,hr,hg⟩:=ho
 obtain ⟨ta,pa,ra⟩:=ha
 exact ⟨_,pe_un hr pa,fun ρ σ σ' h H Q R S w=>ra ρ σ σ' h H _ R S (W.bind w fun ρ1 x x' h1 H1 e1 R1 q1 w1=>hg ρ1 h1 H1 x x' Q R1 q1 w1)⟩
theorem gTruth_W (hK:X.K = T.K){γ δ:Type}{Rq:Rl γ δ}{ρ:List Addr}{h:AH}{H:Hp}{x:AV}{x':V}{k:Bool->M γ}{Q:δ->Hp->Prop}(R:RepH T ρ h H)(r:RepV T ρ H x x')(w:W T Rq ((gTruth x).bind k h) ρ H Q E) :
  ∃ d,TruV X.K x' H d/\W T Rq (k d h) ρ H Q E:=by
 unfold M.bind gTruth at w
 cases e:truth h x with
 | none=>rw [e] at w;exact w.elim
 | some d=>rw [e] at w;exact ⟨d,truth_V hK R r e,w⟩
theorem qe_if (hc:QT X T E c mt)(ha:QE X T E a ma)(hb:QE X T E b mb):QE X T E (.IfExp c a b pos) (fun σ=>iteM (mt σ) (ma σ) (mb σ)):=by
 obtain ⟨tc,pc,rc⟩:=hc
 obtain ⟨ta,pa,ra⟩:=ha
 obtain ⟨tb,pb,rb⟩:=hb
 refine ⟨_,pe_ifExp pc pa pb,fun ρ σ σ' h H Q R S w=>rc ρ σ σ' h H _ R S (W.bind w fun ρ1 d d' h1 H1 e1 R1 q1 w1=>?_)⟩
 have q1':d = d':=q1
 subst q1'
 cases d with
 | true=>exact ra ρ1 σ σ' h1 H1 Q R1 (S.ext e1) w1
 | false=>exact rb ρ1 σ σ' h1 H1 Q R1 (S.ext e1) w1
noncomputable def tAndG (K:PySem.W.Frag)(ta tb:TE):TE:=fun σ H Q=>ta σ H fun x H1=>∃ c,TruV K x H1 c/\if c = true then tb σ H1 Q else Q x H1
noncomputable def tOrG (K:PySem.W.Frag)(ta tb:TE):TE:=fun σ H Q=>ta σ H fun x H1=>∃ c,TruV K x H1 c/\if c = true then Q x H1 else tb σ H1 Q
noncomputable def tNotG (K:PySem.W.Frag)(ta:TE):TE:=fun σ H Q=>ta σ H fun x H1=>∃ c,TruV K x H1 c/\Q (.bl (!c)) H1
variable {ta tb:TE}{rest:List Expr}
theorem pe_andG (ha:PE X a ta)(hb:PE X (.BoolOp .And (b :: rest) pos) tb):PE X (.BoolOp .And (a :: b :: rest) pos) (tAndG X.K ta tb):=by
 intro pins s σ H Q I h
 refine BoolOp_and (thn (ha pins s σ H _ I h) fun v s1 ⟨x,H1,I1,r1,c,ht,q1⟩=>?_)
 refine thn (tru_ok pins s1 σ H1 x v (fun d H2=>d = c/\H2 = H1) I1 r1 ⟨c,ht,rfl,rfl⟩) fun d s2 ⟨H2,I2,e1,e2⟩=>?_
 subst e1;subst e2
 cases d with
 | true=>exact hb pins s2 σ H2 Q I2 q1
 | false=>exact ⟨x,H2,I2,r1,q1⟩
theorem pe_orG (ha:PE X a ta)(hb:PE X (.BoolOp .Or (b :: rest) pos) tb):PE X (.BoolOp .Or (a :: b :: rest) pos) (tOrG X.K ta tb):=by
 intro pins s σ H Q I h
 refine BoolOp_or (thn (ha pins s σ H _ I h) fun v s1 ⟨x,H1,I1,r1,c,ht,q1⟩=>?_)
 refine thn (tru_ok pins s1 σ H1 x v (fun d H2=>d = c/\H2 = H1) I1 r1 ⟨c,ht,rfl,rfl⟩) fun d s2 ⟨H2,I2,e1,e2⟩=>?_
 subst e1;subst e2
 cases d with
 | false=>exact hb pins s2 σ H2 Q I2 q1
 | true=>exact ⟨x,H2,I2,r1,q1⟩
theorem pe_notG (ha:PE X a ta):PE X (.UnaryOp .Not a pos) (tNotG X.K ta):=by
 intro pins s σ H Q I h
 refine UnaryOp_ (thn (ha pins s σ H _ I h) fun v s1 ⟨x,H1,I1,r1,c,ht,q1⟩=>?_)
 refine not_of (thn (tru_ok pins s1 σ H1 x v (fun d H2=>d = c/\H2 = H1) I1 r1 ⟨c,ht,rfl,rfl⟩) fun d s2 ⟨H2,I2,e1,e2⟩=>?_)
 subst e1;subst e2
 exact ⟨.bl (!d),H2,I2,rfl,q1⟩
theorem qe_one {op:PySem.BoolOp}(ha:QE X T E a ma):QE X T E (.BoolOp op [a] pos) ma:=let ⟨t,p,r⟩:=ha;⟨t,pe_one p,r⟩
theorem qe_and (hK:X.K = T.K)(ha:QE X T E a ma)(hb:QE X T E (.BoolOp .And (b :: rest) pos) mb):QE X T E (.BoolOp .And (a :: b :: rest) pos) (fun σ=>andV (ma σ) (mb σ)):=by
 obtain ⟨ta,pa,ra⟩:=ha
 obtain ⟨tb,pb,rb⟩:=hb
 refine ⟨_,pe_andG pa pb,fun ρ σ σ' h H Q R S w=>ra ρ σ σ' h H _ R S (W.bind w fun ρ1 x x' h1 H1 e1 R1 q1 w1=>?_)⟩
 obtain ⟨d,td,w2⟩:=gTruth_W hK R1 q1 w1
 refine ⟨d,td,?_⟩
 cases d with
 | true=>exact rb ρ1 σ σ' h1 H1 Q R1 (S.ext e1) w2
 | false=>exact W.here w2 R1 q1
theorem qe_or (hK:X.K = T.K)(ha:QE X T E a ma)(hb:QE X T E (.BoolOp .Or (b :: rest) pos) mb):QE X T E (.BoolOp .Or (a :: b :: rest) pos) (fun σ=>orV (ma σ) (mb σ)):=by
 obtain ⟨ta,pa,ra⟩:=ha
 obtain ⟨tb,pb,rb⟩:=hb
 refine ⟨_,pe_orG pa pb,fun ρ σ σ' h H Q R S w=>ra ρ σ σ' h H _ R S (W.bind w fun ρ1 x x' h1 H1 e1 R1 q1 w1=>?_)⟩
 obtain ⟨d,td,w2⟩:=gTruth_W hK R1 q1 w1
 refine ⟨d,td,?_⟩
 cases d with
 | false=>exact rb ρ1 σ σ' h1 H1 Q R1 (S.ext e1) w2
 | true=>exact W.here w2 R1 q1
theorem qe_not (hK:X.K = T.K)(ha:QE X T E a ma):QE X T E (.UnaryOp .Not a pos) (fun σ=>(ma σ).bind fun x=>(gTruth x).bind fun b=>M.ret (.bl (!b))):=by
 obtain ⟨ta,pa,ra⟩:=ha
 refine ⟨_,pe_notG pa,fun ρ σ σ' h H Q R S w=>ra ρ σ σ' h H _ R S (W.bind w fun ρ1 x x' h1 H1 e1 R1 q1 w1=>?_)⟩
 obtain ⟨d,td,w2⟩:=gTruth_W hK R1 q1 w1
 exact ⟨d,td,W.here w2 R1 (.bl _)⟩
theorem chain_rd {r r':R2}{g g':AV->AV->M AV}{tc:TE}
  (hg:∀ ρ h H x y x' y' Q,RepH T ρ h H->RepV T ρ H x x'->RepV T ρ H y y'->W T (RepV T) (g x y h) ρ H Q E->r x' y' H Q)
  (hg':∀ ρ h H x y x' y' Q,RepH T ρ h H->RepV T ρ H x x'->RepV T ρ H y y'->W T (RepV T) (g' x y h) ρ H Q E->r' x' y' H Q)
  (ra:∀ ρ σ σ' h H Q,RepH T ρ h H->RepS T ρ H σ σ'->W T (RepV T) (ma σ h) ρ H Q E->ta σ' H Q) (rb:∀ ρ σ σ' h H Q,RepH T ρ h H->RepS T ρ H σ σ'->W T (RepV T) (mb σ h) ρ H Q E->tb σ' H Q)
  (rc:∀ ρ σ σ' h H Q,RepH T ρ h H->RepS T ρ H σ σ'->W T (RepV T) (mc σ h) ρ H Q E->tc σ' H Q) {ρ:List Addr} {σ:ASt} {σ':L2.St} {h:AH} {H:Hp} {Q:VK} (R:RepH T ρ h H) (S:RepS T ρ H σ σ')
  (w:W T (RepV T) (chainM g g' (ma σ) (mb σ) (mc σ) h) ρ H Q E):tChain r r' ta tb tc σ' H Q:=by
 refine two ra rb R S w fun ρ2 x y x' y' h2 H2 _ R2 q1 q2 S2 w2=>?_
 refine hg ρ2 h2 H2 x y x' y' _ R2 q1 q2 (W.bind w2 fun ρ3 z z' h3 H3 e3 R3 q3 w3=>?_)
 have w4:W T (RepV T) (match boolOf z with
  | some true=>((mc σ).bind fun w=>g' y w) h3
  | some false=>Res.ok (.bl false) h3
  | none=>.bad) ρ3 H3 Q E:=w3
 cases z with
 | bl d =>
  cases q3
  refine ⟨d,rfl,?_⟩
  cases d with
  | true=>exact rc ρ3 σ σ' h3 H3 _ R3 (S2.ext e3) (W.bind (k:=fun w=>g' y w) w4 fun ρ4 u u' h4 H4 e4 R4 q4 w5=>hg' ρ4 h4 H4 y u y' u' Q R4 ((q2.ext e3).ext e4) q4 w5)
  | false=>exact W.here w4 R3 (.bl _)
 | _=>exact w4.elim
theorem qe_chain {op op':CmpOp}{g g':AV->AV->M AV}(ho:OpS X T E (compareOp op) g)(ho':OpS X T E (compareOp op') g')(ha:QE X T E a ma)(hb:QE X T E b mb)(hc:QE X T E c mc)
  (hm:lastMarks [op,op'] [b,c] = false):QE X T E (.Compare a [op,op'] [b,c] pos) (fun σ=>chainM g g' (ma σ) (mb σ) (mc σ)):=by
 obtain ⟨r,hr,hg⟩:=ho
 obtain ⟨r',hr',hg'⟩:=ho'
 obtain ⟨ta,pa,ra⟩:=ha
 obtain ⟨tb,pb,rb⟩:=hb
 obtain ⟨tc,pc,rc⟩:=hc
 exact ⟨_,pe_chain hr hr' pa pb pc hm,fun ρ σ σ' h H Q R S w=>chain_rd hg hg' ra rb rc R S w⟩
theorem link_rd {r:R2}{g:AV->AV->M AV}{tk:V->TE}{k:AV->M AV}
  (hg:∀ ρ h H x y x' y' Q,RepH T ρ h H->RepV T ρ H x x'->RepV T ρ H y y'->W T (RepV T) (g x y h) ρ H Q E->r x' y' H Q)
  (rb:∀ ρ σ σ' h H Q,RepH T ρ h H->RepS T ρ H σ σ'->W T (RepV T) (mb σ h) ρ H Q E->tb σ' H Q) {ρ:List Addr} {σ:ASt} {σ':L2.St} {h:AH} {H:Hp} {Q:VK} {x:AV} {x':V} (R:RepH T ρ h H) (S:RepS T ρ H σ σ') (rx:RepV T ρ H x x')
  (w:W T (RepV T) (linkM g x (mb σ) k h) ρ H Q E) (f:∀ ρ3 y y' h3 H3,RepH T ρ3 h3 H3->RepS T ρ3 H3 σ σ'->RepV T ρ3 H3 y y'->W T (RepV T) (k y h3) ρ3 H3 Q E->tk y' σ' H3 Q):tLink r x' tb tk σ' H Q:=by
 refine rb ρ σ σ' h H _ R S (W.bind w fun ρ1 y y' h1 H1 e1 R1 q1 w1=>?_)
 refine hg ρ1 h1 H1 x y x' y' _ R1 (rx.ext e1) q1 (W.bind w1 fun ρ3 z z' h3 H3 e3 R3 q3 w3=>?_)
 have w4:W T (RepV T) (match boolOf z with
  | some true=>k y h3
  | some false=>Res.ok (.bl false) h3
  | none=>.bad) ρ3 H3 Q E:=w3
 cases z with
 | bl d =>
  cases q3
  refine ⟨d,rfl,?_⟩
  cases d with
  | true=>exact f ρ3 y y' h3 H3 R3 ((S.ext e1).ext e3) (q1.ext e3) w4
  | false=>exact W.here w4 R3 (.bl _)
 | _=>exact w4.elim
theorem chain3_rd {r r' r'':R2}{g g' g'':AV->AV->M AV}{tc td:TE}{md:ASt->M AV}
  (hg:∀ ρ h H x y x' y' Q,RepH T ρ h H->RepV T ρ H x x'->RepV T ρ H y y'->W T (RepV T) (g x y h) ρ H Q E->r x' y' H Q)
  (hg':∀ ρ h H x y x' y' Q,RepH T ρ h H->RepV T ρ H x x'->RepV T ρ H y y'->W T (RepV T) (g' x y h) ρ H Q E->r' x' y' H Q)
  (hg'':∀ ρ h H x y x' y' Q,RepH T ρ h H->RepV T ρ H x x'->RepV T ρ H y y'->W T (RepV T) (g'' x y h) ρ H Q E->r'' x' y' H Q)
  (ra:∀ ρ σ σ' h H Q,RepH T ρ h H->RepS T ρ H σ σ'->W T (RepV T) (ma σ h) ρ H Q E->ta σ' H Q) (rb:∀ ρ σ σ' h H Q,RepH T ρ h H->RepS T ρ H σ σ'->W T (RepV T) (mb σ h) ρ H Q E->tb σ' H Q)
  (rc:∀ ρ σ σ' h H Q,RepH T ρ h H->RepS T ρ H σ σ'->W T (RepV T) (mc σ h) ρ H Q E->tc σ' H Q) (rd:∀ ρ σ σ' h H Q,RepH T ρ h H->RepS T ρ H σ σ'->W T (RepV T) (md σ h) ρ H Q E->td σ' H Q) {ρ:List Addr} {σ:ASt} {σ':L2.St} {h:AH} {H:Hp} {Q:VK} (R:RepH T ρ h H) (S:RepS T ρ H σ σ')
  (w:W T (RepV T) (chain3M g g' g'' (ma σ) (mb σ) (mc σ) (md σ) h) ρ H Q E):tChain3 r r' r'' ta tb tc td σ' H Q:=by
 refine ra ρ σ σ' h H _ R S (W.bind w fun ρ1 x x' h1 H1 e1 R1 q1 w1=>?_)
 refine link_rd hg rb R1 (S.ext e1) q1 w1 fun ρ2 y y' h2 H2 R2 S2 q2 w2=>?_
 refine link_rd hg' rc R2 S2 q2 w2 fun ρ3 u u' h3 H3 R3 S3 q3 w3=>?_
 exact rd ρ3 σ σ' h3 H3 _ R3 S3 (W.bind w3 fun ρ4 v v' h4 H4 e4 R4 q4 w4=>hg'' ρ4 h4 H4 u v u' v' Q R4 (q3.ext e4) q4 w4)
theorem qe_chain3 {op op' op'':CmpOp}{g g' g'':AV->AV->M AV}{d:Expr}{md:ASt->M AV}(ho:OpS X T E (compareOp op) g)(ho':OpS X T E (compareOp op') g')(ho'':OpS X T E (compareOp op'') g'')(ha:QE X T E a ma)(hb:QE X T E b mb)(hc:QE X T E c mc)(hd:QE X T E d md)
  (hm:lastMarks [op,op',op''] [b,c,d] = false):QE X T E (.Compare a [op,op',op''] [b,c,d] pos) (fun σ=>chain3M g g' g'' (ma σ) (mb σ) (mc σ) (md σ)):=by
 obtain ⟨r,hr,hg⟩:=ho
 obtain ⟨r',hr',hg'⟩:=ho'
 obtain ⟨r'',hr'',hg''⟩:=ho''
 obtain ⟨ta,pa,ra⟩:=ha
 obtain ⟨tb,pb,rb⟩:=hb
 obtain ⟨tc,pc,rc⟩:=hc
 obtain ⟨td,pd,rd⟩:=hd
 exact ⟨_,pe_chain3 hr hr' hr'' pa pb pc pd hm,fun ρ σ σ' h H Q R S w=>chain3_rd hg hg' hg'' ra rb rc rd R S w⟩
theorem qt_truth (hK:X.K = T.K)(ha:QE X T E a ma)(he:plainT a = true):QT X T E a (fun σ=>(ma σ).bind gTruth):=by
 obtain ⟨ta,pa,ra⟩:=ha
 refine ⟨_,pt_truth pa (plainT_is he),fun ρ σ σ' h H Q R S w=>ra ρ σ σ' h H _ R S (W.bind w fun ρ1 x x' h1 H1 e1 R1 q1 w1=>?_)⟩
 unfold gTruth at w1
 cases e:truth h1 x with
 | none=>rw [e] at w1;exact w1.elim
 | some d=>rw [e] at w1;exact ⟨d,truth_V hK R1 q1 e,w1.here R1 rfl⟩
theorem bool_W {ρ:List Addr}{h:AH}{H:Hp}{z:AV}{z':V}{Q:Bool->Hp->Prop}(R:RepH T ρ h H)(r:RepV T ρ H z z')(w:W T RB (match boolOf z with
  | some d=>Res.ok d h
  | none=>.bad) ρ H Q E):∃ k,z' = .bl k/\Q k H:=by
 cases z with
 | bl d=>cases r;exact ⟨d,rfl,W.here w R rfl⟩
 | _=>exact w.elim
noncomputable def gBool (z:AV):M Bool:=fun h=>match boolOf z with
 | some d=>.ok d h
 | none=>.bad
theorem qt_cmp {op:CmpOp}{g:AV->AV->M AV}(ho:OpS X T E (compareOp op) g)(ha:QE X T E a ma)(hb:QE X T E b mb)(hm:behindInMarks op b = false):QT X T E (.Compare a [op] [b] pos) (fun σ=>(op2M g (ma σ) (mb σ)).bind gBool):=by
 obtain ⟨r,hr,hg⟩:=ho
 obtain ⟨ta,pa,ra⟩:=ha
 obtain ⟨tb,pb,rb⟩:=hb
 refine ⟨_,pt_cmpR hr pa pb hm,fun ρ σ σ' h H Q R S w=>?_⟩
 have w':W T (RepV T) (op2M g (ma σ) (mb σ) h) ρ H (fun x H'=>∃ k,x = .bl k/\Q k H') E:=W.bind w fun ρ1 z z' h1 H1 e1 R1 q1 w1=>bool_W R1 q1 w1
 exact two ra rb R S w' fun ρ2 x y x' y' h2 H2 _ R2 q1 q2 _ w2=>hg ρ2 h2 H2 x y x' y' _ R2 q1 q2 w2
theorem qt_chain {op op':CmpOp}{g g':AV->AV->M AV}(ho:OpS X T E (compareOp op) g)(ho':OpS X T E (compareOp op') g')(ha:QE X T E a ma)(hb:QE X T E b mb)(hc:QE X T E c mc)
  (hm:lastMarks [op,op'] [b,c] = false):QT X T E (.Compare a [op,op'] [b,c] pos) (fun σ=>(chainM g g' (ma σ) (mb σ) (mc σ)).bind gBool):=by
 obtain ⟨r,hr,hg⟩:=ho
 obtain ⟨r',hr',hg'⟩:=ho'
 obtain ⟨ta,pa,ra⟩:=ha
 obtain ⟨tb,pb,rb⟩:=hb
 obtain ⟨tc,pc,rc⟩:=hc
 refine ⟨_,pt_chain hr hr' pa pb pc hm,fun ρ σ σ' h H Q R S w=>?_⟩
 have w':W T (RepV T) (chainM g g' (ma σ) (mb σ) (mc σ) h) ρ H (fun x H'=>∃ k,x = .bl k/\Q k H') E:=W.bind w fun ρ1 z z' h1 H1 e1 R1 q1 w1=>bool_W R1 q1 w1
 exact chain_rd hg hg' ra rb rc R S w'
theorem qt_chain3 {op op' op'':CmpOp}{g g' g'':AV->AV->M AV}{d:Expr}{md:ASt->M AV}(ho:OpS X T E (compareOp op) g)(ho':OpS X T E (compareOp op') g')(ho'':OpS X T E (compareOp op'') g'')(ha:QE X T E a ma)(hb:QE X T E b mb)(hc:QE X T E c mc)(hd:QE X T E d md)
  (hm:lastMarks [op,op',op''] [b,c,d] = false):QT X T E (.Compare a [op,op',op''] [b,c,d] pos) (fun σ=>(chain3M g g' g'' (ma σ) (mb σ) (mc σ) (md σ)).bind gBool):=by
 obtain ⟨r,hr,hg⟩:=ho
 obtain ⟨r',hr',hg'⟩:=ho'
 obtain ⟨r'',hr'',hg''⟩:=ho''
 obtain ⟨ta,pa,ra⟩:=ha
 obtain ⟨tb,pb,rb⟩:=hb
 obtain ⟨tc,pc,rc⟩:=hc
 obtain ⟨td,pd,rd⟩:=hd
 refine ⟨_,pt_chain3 hr hr' hr'' pa pb pc pd hm,fun ρ σ σ' h H Q R S w=>?_⟩
 have w':W T (RepV T) (chain3M g g' g'' (ma σ) (mb σ) (mc σ) (md σ) h) ρ H (fun x H'=>∃ k,x = .bl k/\Q k H') E:=W.bind w fun ρ1 z z' h1 H1 e1 R1 q1 w1=>bool_W R1 q1 w1
 exact chain3_rd hg hg' hg'' ra rb rc rd R S w'
theorem qt_not (ha:QT X T E a mt):QT X T E (.UnaryOp .Not a pos) (fun σ=>(mt σ).bind fun b=>M.ret (!b)):=by
 obtain ⟨ta,pa,ra⟩:=ha
 refine ⟨_,pt_not pa,fun ρ σ σ' h H Q R S w=>ra ρ σ σ' h H _ R S (W.bind w fun ρ1 x x' h1 H1 e1 R1 q1 w1=>?_)⟩
 have q1':x = x':=q1
 subst q1'
 exact W.here w1 R1 rfl
theorem qw_and1 (ha:QT X T E a mt):QW X T E (.BoolOp .And [a] pos) mt:=let ⟨t,p,r⟩:=ha;⟨t,pw_and1 p,r⟩
theorem qw_or1 (ha:QT X T E a mt):QW X T E (.BoolOp .Or [a] pos) mt:=let ⟨t,p,r⟩:=ha;⟨t,pw_or1 p,r⟩
theorem qw_and (ha:QT X T E a mt)(hb:QW X T E (.BoolOp .And (b :: rest) pos) mu):QW X T E (.BoolOp .And (a :: b :: rest) pos) (fun σ=>andT (mt σ) (mu σ)):=by
 obtain ⟨ta,pa,ra⟩:=ha
 obtain ⟨tb,pb,rb⟩:=hb
 refine ⟨_,pw_and pa pb,fun ρ σ σ' h H Q R S w=>ra ρ σ σ' h H _ R S (W.bind w fun ρ1 x x' h1 H1 e1 R1 q1 w1=>?_)⟩
 have q1':x = x':=q1
 subst q1'
 cases x with
 | true=>exact rb ρ1 σ σ' h1 H1 Q R1 (S.ext e1) w1
 | false=>exact W.here w1 R1 rfl
theorem qw_or (ha:QT X T E a mt)(hb:QW X T E (.BoolOp .Or (b :: rest) pos) mu):QW X T E (.BoolOp .Or (a :: b :: rest) pos) (fun σ=>orT (mt σ) (mu σ)):=by
 obtain ⟨ta,pa,ra⟩:=ha
 obtain ⟨tb,pb,rb⟩:=hb
 refine ⟨_,pw_or pa pb,fun ρ σ σ' h H Q R S w=>ra ρ σ σ' h H _ R S (W.bind w fun ρ1 x x' h1 H1 e1 R1 q1 w1=>?_)⟩
 have q1':x = x':=q1
 subst q1'
 cases x with
 | true=>exact W.here w1 R1 rfl
 | false=>exact rb ρ1 σ σ' h1 H1 Q R1 (S.ext e1) w1
theorem qa_nil:QA X T E [] (fun _=>M.ret []):=⟨_,pa_nil,fun ρ _ _ h H Q R _ w=>W.here w R .nil⟩
theorem qa_cons (ha:QE X T E e m)(hr:QA X T E es mr)(hs:shp e = true):QA X T E (e :: es) (fun σ=>consM (m σ) (mr σ)):=by
 obtain ⟨ta,pa,ra⟩:=ha
 obtain ⟨tr,pr,rr⟩:=hr
 refine ⟨_,pa_cons pa pr (shp_star hs),fun ρ σ σ' h H Q R S w=>ra ρ σ σ' h H _ R S (W.bind w fun ρ1 x x' h1 H1 e1 R1 q1 w1=>?_)⟩
 exact rr ρ1 σ σ' h1 H1 _ R1 (S.ext e1) (W.bind w1 fun ρ2 xs xs' h2 H2 e2 R2 q2 w2=>W.here w2 R2 (.cons (q1.ext e2) q2))
theorem pre_app {ρ:List Addr}{p:Addr}{H:Hp}{O:HO}(hp:H p = none):Ext ρ H (ρ ++ [p]) (upd H p O):=⟨fun k z e=>by
 have hl:=(List.getElem?_eq_some_iff.mp e).1
 rw [List.getElem?_append_left hl];exact e,(Ext.upd_new (ρ:=ρ) hp).tup,(Ext.upd_new (ρ:=ρ) hp).frz⟩
theorem newL_W {ρ:List Addr}{h:AH}{H:Hp}{xs:List AV}{xs':List V}{Q:VK}{p:Addr}(R:RepH T ρ h H)(r:RepVs T ρ H xs xs')(hp:H p = none)(w:W T (RepV T) (newL xs h) ρ H Q E):Q (.ref p) (upd H p (.lst xs')):=by
 obtain ⟨R',ex⟩:=R.alloc (o:=.lst true xs) (O:=.lst xs') hp ⟨_,upd_same,r.ext (pre_app hp)⟩
 exact W.ok w ex R' (.ref (by rw [<- R.len];simp))
theorem newT_W {ρ:List Addr}{h:AH}{H:Hp}{xs:List AV}{xs':List V}{Q:VK}{p:Addr}(R:RepH T ρ h H)(r:RepVs T ρ H xs xs')(hp:H p = none)(w:W T (RepV T) (.ok (.tup xs) h) ρ H Q E):Q (.ref p) (upd H p (.tup xs')) :=
 W.ok w (.upd_new hp) (R.keep hp) (.tup (.of upd_same) (r.ext (.upd_new hp)))
theorem qe_tup {k:Nat}(h:QA X T E es mr):QE X T E (.Tuple es k pos) (fun σ=>tupM (mr σ)):=by
 obtain ⟨tr,pr,rr⟩:=h
 refine ⟨_,pe_tup pr,fun ρ σ σ' h H Q R S w=>rr ρ σ σ' h H _ R S (W.bind w fun ρ1 xs xs' h1 H1 e1 R1 q1 w1=>?_)⟩
 obtain ⟨hz,w1⟩:=guard_ok w1
 exact ⟨by rw [<- q1.length];exact hz,fun p hp=>newT_W R1 q1 hp w1⟩
theorem qe_lst (h:QA X T E es mr):QE X T E (.List es pos) (fun σ=>lstM (mr σ)):=by
 obtain ⟨tr,pr,rr⟩:=h
 refine ⟨_,pe_lst pr,fun ρ σ σ' h H Q R S w=>rr ρ σ σ' h H _ R S (W.bind w fun ρ1 xs xs' h1 H1 e1 R1 q1 w1=>?_)⟩
 obtain ⟨hz,w1⟩:=guard_ok w1
 exact ⟨by rw [<- q1.length];exact hz,fun p hp=>newL_W R1 q1 hp w1⟩
noncomputable def spOf (T:Tab)(g:List AV->M AV):Sp:=fun vs H Q E=>∃ ρ h args,RepH T ρ h H/\RepVs T ρ H args vs/\W T (RepV T) (g args h) ρ H Q E
structure Fn (X:Cx)(T:Tab)(E:XK)(x:Str)(g:List AV->M AV):Prop where
 ex:∃ (k:Nat) (f:Addr) (fd:FuncData) (ps:List Str),FnOk X.prog X.w X.K X.mg X.base (CXo X.prog X.w) k f fd ps (spOf T g)/\Room (k + 1) X.A/\X.mg x = some (.ref f)/\PySem.W.keepIn X.K (.ref f) = true/\Binds X.K fd ps []/\Passes (CXo X.prog X.w) X E
theorem qe_call0 {x:Str} {p:Pos} {g:List AV->M AV} (F:Fn X T E x g) (hg:Gl X x) (hd:(x == ("__debug__":Str)) = false):QE X T E (.Call (.Name x p) [] [] pos) (fun _=>g []):=by
 obtain ⟨k,f,fd,ps,F,hr,hm,hk,hb,hx⟩:=F.ex
 exact ⟨_,pe_call0 F (hr.mono (Nat.le_succ _)) hg hm hk hb .nil hx hd,fun ρ σ σ' h H Q R S w=>⟨ρ,h,[],R,.nil,w⟩⟩
theorem qe_call {x:Str} {p:Pos} {g:List AV->M AV} (F:Fn X T E x g) (hg:Gl X x) (ha:QA X T E (e :: es) mr) (hs:(e :: es).all shp = true) (hd:(x == ("__debug__":Str)) = false):QE X T E (.Call (.Name x p) (e :: es) [] pos) (fun σ=>(mr σ).bind g):=by
 obtain ⟨k,f,fd,ps,F,hr,hm,hk,hb,hx⟩:=F.ex
 obtain ⟨tr,pr,rr⟩:=ha
 rw [List.all_cons,Bool.and_eq_true] at hs
 refine ⟨_,pe_call F (hr.mono (Nat.le_succ _)) hg hm hk hb .nil hx pr hd (shp_star hs.1) (shp_any hs.2),fun ρ σ σ' h H Q R S w=>rr ρ σ σ' h H _ R S (W.bind w fun ρ1 xs xs' h1 H1 e1 R1 q1 w1=>?_)⟩
 rw [List.append_nil]
 exact ⟨ρ1,h1,xs,R1,q1,w1⟩
theorem RepVs.flat {ρ:List Addr}{H:Hp}{xs:List AV}{ys:List V}(r:RepVs T ρ H xs ys):∀ (k:Nat),RepVs T ρ H (List.replicate k xs).flatten (List.replicate k ys).flatten
 | 0=>.nil
 | k + 1=>by
  rw [List.replicate_succ,List.replicate_succ,List.flatten_cons,List.flatten_cons]
  exact r.append (RepVs.flat r k)
theorem os_mul:OpS X T E (binaryOp .Mult) gMul:=by
 obtain ⟨r0,p0,q0⟩:=(os_int op_mulW fun _ _ h=>mulOk_c h:OpS X T E (binaryOp .Mult) (gInt mulOk (· * ·)))
 refine ⟨_,p0.or (op_rep.or op_mulS),fun ρ h H x y x' y' Q R rx ry w=>?_⟩
 cases x with
 | str z =>
  cases y with
  | int k =>
   cases rx
   cases ry
   simp only [gMul] at w
   by_cases hz:z.length <= 1000/\0 <= k/\k <= 1000/\(Txt.mul z k).length <= sizeLine
   ·rw [if_pos hz] at w
    exact .inr (.inr ⟨z,k,rfl,rfl,hz.1,hz.2.1,hz.2.2.1,hz.2.2.2,W.here w R (.str _)⟩)
   ·rw [if_neg hz] at w;exact w.elim
  | _=>exact w.elim
 | ref n =>
  refine .inr ?_
  refine .inl ?_
  cases y with
  | int k =>
   cases ry
   cases rx with
   | @ref _ a q =>
    simp only [gMul] at w
    cases o:h.ob n with
    | none=>simp only [o] at w;exact w.elim
    | some u =>
     simp only [o] at w
     cases u with
     | lst m xs =>
      cases m with
      | false=>exact w.elim
      | true =>
       dsimp only at w
       by_cases hz:0 <= k/\xs.length * k.toNat <= sizeLine/\k < 2 ^ 63
       ·rw [if_pos hz] at w
        obtain ⟨ys,h1,h2⟩:=R.obj n _ a o q
        refine ⟨a,k,ys,rfl,rfl,h1,by omega,hz.2.2,by rw [<- h2.length];exact hz.2.1,fun p hp=>?_⟩
        exact newL_W R (h2.flat _) hp w
       ·rw [if_neg hz] at w;exact w.elim
     | _=>exact w.elim
  | _=>exact w.elim
 | _=>exact .inl (q0 ρ h H _ _ _ _ Q R rx ry w)
end
end AM
set_option genSizeOf false
namespace AM
open PySem PySem.Spec PyProof.Rows L2
inductive Out where
 | nx (σ:ASt) | ret (v:AV) | brk (σ:ASt) | cnt (σ:ASt)
inductive COut where
 | nx (σ:L2.St) | ret (v:V) | brk (σ:L2.St) | cnt (σ:L2.St)
noncomputable def RO (T:Tab):Rl Out COut:=fun ρ H a b=>match a,b with
 | .nx σ,.nx σ'=>RepS T ρ H σ σ'
 | .ret v,.ret v'=>RepV T ρ H v v'
 | .brk σ,.brk σ'=>RepS T ρ H σ σ'
 | .cnt σ,.cnt σ'=>RepS T ρ H σ σ'
 | _,_=>False
noncomputable def toQ (D:Ends):COut->Hp->Prop
 | .nx σ=>D.nx σ
 | .ret v=>D.rt v
 | .brk σ=>D.bk σ
 | .cnt σ=>D.ct σ
noncomputable def QS (X:Cx)(T:Tab)(E:XK)(st:Stmt)(m:ASt->M Out):Prop :=
 ∃ t,PS X st t/\∀ ρ σ σ' h H D,RepH T ρ h H->RepS T ρ H σ σ'->W T (RO T) (m σ h) ρ H (toQ D) E->t D σ' H
noncomputable def QSs (X:Cx)(T:Tab)(E:XK)(st:List Stmt)(m:ASt->M Out):Prop :=
 ∃ t,PSs X st t/\∀ ρ σ σ' h H D,RepH T ρ h H->RepS T ρ H σ σ'->W T (RO T) (m σ h) ρ H (toQ D) E->t D σ' H
noncomputable def QG (X:Cx)(T:Tab)(E:XK)(tg:Expr)(g:AV->ASt->M ASt):Prop :=
 ∃ t,PG X tg t/\∀ ρ v v' σ σ' h H Q,RepH T ρ h H->RepS T ρ H σ σ'->RepV T ρ H v v'->W T (RepS T) (g v σ h) ρ H Q E->t v' σ' H Q
noncomputable def QGs (X:Cx)(T:Tab)(E:XK)(tgs:List Expr)(g:List AV->ASt->M ASt):Prop :=
 ∃ t,PGs X tgs t/\∀ ρ vs vs' σ σ' h H Q,RepH T ρ h H->RepS T ρ H σ σ'->RepVs T ρ H vs vs'->W T (RepS T) (g vs σ h) ρ H Q E->t vs' σ' H Q
noncomputable def seqM (m:M Out)(k:ASt->M Out):M Out:=m.bind fun o=>match o with
 | .nx σ=>k σ
 | .ret v=>M.ret (.ret v)
 | .brk σ=>M.ret (.brk σ)
 | .cnt σ=>M.ret (.cnt σ)
section
variable {X:Cx}{T:Tab}{E:XK}{a b c e tg:Expr}{es:List Expr}{ma mb mc m:ASt->M AV}{mt:ASt->M Bool}{ms mk:ASt->M Out}{pos:Pos}{st:Stmt}{sts rest:List Stmt}{g:AV->ASt->M ASt}{gs:List AV->ASt->M ASt}
theorem qs_bad:QS X T E st (fun _=>M.bad):=⟨_,ps_never,fun _ _ _ _ _ _ _ _ w=>w⟩
theorem qss_nil:QSs X T E [] (fun σ=>M.ret (.nx σ)):=⟨_,pss_nil,fun ρ σ σ' h H D R S w=>W.here (b:=COut.nx σ') w R S⟩
theorem qss_cons (h1:QS X T E st ms)(h2:QSs X T E rest mk):QSs X T E (st :: rest) (fun σ=>seqM (ms σ) mk):=by
 obtain ⟨t,p,r⟩:=h1
 obtain ⟨u,q,s⟩:=h2
 refine ⟨_,pss_cons p q,fun ρ σ σ' h H D R S w=>r ρ σ σ' h H _ R S (W.bind w fun ρ1 o o' h1 H1 e1 R1 q1 w1=>?_)⟩
 cases o with
 | nx σ1=>cases o' with
  | nx σ1'=>exact s ρ1 σ1 σ1' h1 H1 D R1 q1 w1
  | _=>exact q1.elim
 | ret v=>cases o' with
  | ret v'=>exact (W.here (Q:=toQ D) (b:=COut.ret v') w1 R1 q1:D.rt v' H1)
  | _=>exact q1.elim
 | brk σ1=>cases o' with
  | brk σ1'=>exact (W.here (Q:=toQ D) (b:=COut.brk σ1') w1 R1 q1:D.bk σ1' H1)
  | _=>exact q1.elim
 | cnt σ1=>cases o' with
  | cnt σ1'=>exact (W.here (Q:=toQ D) (b:=COut.cnt σ1') w1 R1 q1:D.ct σ1' H1)
  | _=>exact q1.elim
theorem qs_pass:QS X T E (.Pass pos) (fun σ=>M.ret (.nx σ)):=⟨_,ps_pass,fun ρ σ σ' h H D R S w=>W.here (b:=COut.nx σ') w R S⟩
theorem qs_break:QS X T E (.Break pos) (fun σ=>M.ret (.brk σ)):=⟨_,ps_break,fun ρ σ σ' h H D R S w=>W.here (b:=COut.brk σ') w R S⟩
theorem qs_continue:QS X T E (.Continue pos) (fun σ=>M.ret (.cnt σ)):=⟨_,ps_continue,fun ρ σ σ' h H D R S w=>W.here (b:=COut.cnt σ') w R S⟩
theorem qs_expr (he:QE X T E e m)(hs:shp e = true)(hlc:isLc e = false):QS X T E (.Expr e pos) (fun σ=>(m σ).bind fun _=>M.ret (.nx σ)):=by
 obtain ⟨t,p,r⟩:=he
 exact ⟨_,ps_expr p (shp_sw hs hlc),fun ρ σ σ' h H D R S w=>r ρ σ σ' h H _ R S (W.bind w fun ρ1 x x' h1 H1 e1 R1 q1 w1=>W.here (b:=COut.nx σ') w1 R1 (S.ext e1))⟩
theorem qs_ret (he:QE X T E e m):QS X T E (.Return (some e) pos) (fun σ=>(m σ).bind fun v=>M.ret (.ret v)):=by
 obtain ⟨t,p,r⟩:=he
 exact ⟨_,ps_ret p,fun ρ σ σ' h H D R S w=>r ρ σ σ' h H _ R S (W.bind w fun ρ1 x x' h1 H1 e1 R1 q1 w1=>W.here (b:=COut.ret x') w1 R1 q1)⟩
theorem qs_retN:QS X T E (.Return none pos) (fun _=>M.ret (.ret .non)):=⟨_,ps_retN,fun ρ σ σ' h H D R S w=>W.here (b:=COut.ret .non) w R .non⟩
theorem qs_if (hc:QT X T E c mt)(ha:QSs X T E sts ms)(hb:QSs X T E rest mk):QS X T E (.If c sts rest pos) (fun σ=>iteM (mt σ) (ms σ) (mk σ)):=by
 obtain ⟨tc,pc,rc⟩:=hc
 obtain ⟨ta,pa,ra⟩:=ha
 obtain ⟨tb,pb,rb⟩:=hb
 refine ⟨_,ps_if pc pa pb,fun ρ σ σ' h H D R S w=>rc ρ σ σ' h H _ R S (W.bind w fun ρ1 d d' h1 H1 e1 R1 q1 w1=>?_)⟩
 have q1':d = d':=q1
 subst q1'
 cases d with
 | true=>exact ra ρ1 σ σ' h1 H1 D R1 (S.ext e1) w1
 | false=>exact rb ρ1 σ σ' h1 H1 D R1 (S.ext e1) w1
theorem qg_bad:QG X T E tg (fun _ _=>M.bad):=⟨fun _ _ _ _=>False,fun _ _ _ _ _ _ _ _ _ h=>h.elim,fun _ _ _ _ _ _ _ _ _ _ _ w=>w⟩
theorem qg_name {i:Nat}{x:Str}(hN:X.N.Nodup)(hi:X.N[i]? = some x)(hx:Loc X.env.scope x)(hf:X.fn x = true\/X.env.scope.names.lookup x = some .local):QG X T E (.Name x pos) (fun v σ=>M.ret (σ.set i (some v))) :=
 ⟨_,pg_name hN hi hx hf,fun ρ v v' σ σ' h H Q R S r w=>W.here w R (S.set r i)⟩
noncomputable def gsNil (vs:List AV)(σ:ASt):M ASt:=match vs with
 | []=>M.ret σ
 | _=>M.bad
noncomputable def gsCons (g:AV->ASt->M ASt)(gs:List AV->ASt->M ASt)(vs:List AV)(σ:ASt):M ASt:=match vs with
 | v :: r=>(g v σ).bind fun σ1=>gs r σ1
 | []=>M.bad
noncomputable def gTupT (n:Nat)(gs:List AV->ASt->M ASt)(v:AV)(σ:ASt):M ASt:=fun h=>match v with
 | .tup xs=>if xs.length = n then gs xs σ h else .bad
 | .ref k=>match h.ob k with
  | some (.lst _ xs)=>if xs.length = n then gs xs σ h else .bad
  | _=>.bad
 | _=>.bad
theorem qgs_nil:QGs X T E [] gsNil:=⟨_,pgs_nil,fun ρ vs vs' σ σ' h H Q R S r w=>by
 cases r with
 | nil=>exact ⟨rfl,W.here w R S⟩
 | cons _ _=>exact w.elim⟩
noncomputable def tgOk:Expr->Bool
 | .Name ..=>true | .Tuple ..=>true | .Subscript ..=>true | .Attribute ..=>true
 | _=>false
theorem tgOk_each {t:Expr}{ts:List Expr}{env:Env}(h:tgOk t = true):assignEach (t :: ts) env = (false,assign t env) :: assignEach ts env:=by
 cases t <;> first | rfl | cases h
theorem qgs_cons (h1:QG X T E tg g)(h2:QGs X T E es gs)(ht:tgOk tg = true):QGs X T E (tg :: es) (gsCons g gs):=by
 obtain ⟨t,p,r⟩:=h1
 obtain ⟨u,q,s⟩:=h2
 refine ⟨_,pgs_cons p q (by rw [tgOk_each ht];rfl),fun ρ vs vs' σ σ' h H Q R S rv w=>?_⟩
 cases rv with
 | nil=>exact w.elim
 | cons r1 rs=>exact ⟨_,_,rfl,r ρ _ _ σ σ' h H _ R S r1 (W.bind w fun ρ1 σ1 σ1' h1 H1 e1 R1 q1 w1=>s ρ1 _ _ σ1 σ1' h1 H1 Q R1 q1 (rs.ext e1) w1)⟩
theorem each_len {ts:List Expr}{env:Env}(h:ts.all tgOk = true):(assignEach ts env).length = ts.length/\(assignEach ts env).findIdx? (·.1) = none:=by
 induction ts with
 | nil=>exact ⟨rfl,rfl⟩
 | cons t ts ih =>
  rw [List.all_cons,Bool.and_eq_true] at h
  rw [tgOk_each h.1]
  obtain ⟨h1,h2⟩:=ih h.2
  refine ⟨by rw [List.length_cons,List.length_cons,h1],?_⟩
  rw [List.findIdx?_cons,h2]
  rfl
end
section
variable {prog:Program}{w:World}{A:Around}{E:Value->Shared->Prop}{s:Shared}
theorem draw_list {it l:Addr}{items:Array Value}(hne:l ≠ it):∀ (n i:Nat) (s:Shared) (Q:List Value->Shared->Prop),s.heap.IsListIter it l i->s.heap.IsList l items->i + n <= items.size ->
  (∀ h',h'.IsListIter it l (i + n)->Heap.SameBut it s.heap h'->Q ((items.toList.drop i).take n) { s with heap:=h' })->wpAny (model prog w) A (draw (.ref it) n) Q E s
 | 0,i,s,Q,hit,_,_,hQ=>by
  show wpAny _ _ (pure []) Q E s
  exact wpAny_pure (by simpa using hQ s.heap hit (Heap.SameBut.refl ..))
 | n + 1,i,s,Q,hit,ht,hle,hQ=>by
  have hlt:i < items.size:=by omega
  show wpAny _ _ (pyNext (.ref it) >>= _) Q E s
  refine wpAny_bind (wpAny_pyNext_list_item hit ht (x:=items[i]) (by simp [hlt]) fun h₁ hit₁ hs₁=>?_)
  refine wpAny_bind (wpAny_holding (draw_list hne n (i + 1) _ _ hit₁ (ht.extBut hs₁.extBut hne) (by omega) fun h₂ hit₂ hs₂=>wpAny_pure ?_))
  have hd:items.toList.drop i = items[i] :: items.toList.drop (i + 1):=by simp [List.drop_eq_getElem_cons,hlt]
  have:=hQ h₂ (by rw [show i + (n + 1) = i + 1 + n by omega];exact hit₂) (hs₁.trans hs₂)
  rw [hd,List.take_succ_cons] at this
  exact this
theorem unpackItems_list {t:Addr}{items:Array Value}{Q:List Value->Shared->Prop}(hh:A.handled = none)(ht:s.heap.IsList t items)
  (hQ:∀ h',Heap.ExtBut s.heap.objs.size s.heap h'->Q items.toList { s with heap:=h' }):wpAny (model prog w) A (unpackItems (.ref t) items.size none) Q E s:=by
 have hlt:t ≠ s.heap.objs.size:=by obtain ⟨o,ho,_⟩:=ht;exact Nat.ne_of_lt (Heap.lt_size ho)
 unfold unpackItems
 refine wpAny_bind ?_
 ·unfold notIterableAtAll
  refine wpAny_bind (wpAny_specialOf ht.typeIs PySem.slot_list_iter.lookup ?_)
  refine wpAny_pure ?_
  simp only [Bool.false_eq_true,if_false]
  refine wpAny_bind (wpAny_holding (wpAny_pyIter_list ht ?_))
  have ht0:(s.heap.push { cls:=.type "list_iterator",data:=.fields #[.ref t,.int 0 0] }).IsList t items:=ht.at fun o e=>Heap.get?_push_of_some _ e
  refine wpAny_bind (wpAny_holding (draw_list hlt items.size 0 _ _ ⟨_,Heap.get?_push_size _ rfl,rfl,rfl⟩ ht0 (by omega) fun h₁ hit₁ hs₁=>?_))
  have hall:List.take items.size (List.drop 0 items.toList) = items.toList:=by
   rw [List.drop_zero];exact List.take_of_length_le (by simp)
  rw [hall]
  rw [if_neg (by simp)]
  have ht₁:h₁.IsList t items:=ht0.extBut hs₁.extBut hlt
  refine wpAny_bind (wpAny_holding (wpAny_pyNext_list_end hh hit₁ ht₁ (by simp) fun h₂ he₂=>?_))
  simp only [Option.isSome_none,Bool.false_eq_true,if_false]
  refine wpAny_pure (hQ h₂ fun b o hb e=>he₂ b o hb (hs₁.extBut b o hb (Heap.get?_push_of_some _ e)))
theorem assign_Tuple_list {env:Env}{elts:List Expr}{x1}{pos:Pos}{t:Addr}{items:Array Value}{Q:Unit->Shared->Prop}(hh:A.handled = none)(ht:s.heap.IsList t items)
  (hn:(assignEach elts env).length = items.size) (hstar:(assignEach elts env).findIdx? (·.1) = none)
  (h:∀ h',Heap.ExtBut s.heap.objs.size s.heap h'->wpAny (model prog w) A (assignInOrder ((assignEach elts env).map (·.2)) items.toList) Q E { s with heap:=h' }) :
  wpAny (model prog w) A (assign (.Tuple elts x1 pos) env (.ref t)) Q E s:=by
 rw [assign_Tuple]
 refine wpAny_bind (wpAny_standAt ?_)
 unfold unpack
 rw [hn,hstar]
 exact wpAny_bind (wpAny_holding (unpackItems_list hh ht h))
end
section
variable {X:Cx}{T:Tab}{E:XK}{a b c e tg:Expr}{es:List Expr}{ma mb mc m:ASt->M AV}{mt:ASt->M Bool}{ms mk:ASt->M Out}{pos:Pos}{st:Stmt}{sts rest:List Stmt}{g:AV->ASt->M ASt}{gs:List AV->ASt->M ASt}
noncomputable def gTupG (K:PySem.W.Frag)(n:Nat)(t:TGs):TG:=fun v σ H Q=>∃ a xs,v = .ref a/\(SqL K H a xs\/SqT K H a xs)/\xs.length = n/\t xs σ H Q
theorem pg_seq {k:Nat}{t:TGs}(hc:X.calm = true)(h:PGs X es t)(hs:es.all tgOk = true):PG X (.Tuple es k pos) (gTupG X.K es.length t):=by
 obtain ⟨hn,hst⟩:=each_len (env:=X.env) hs
 intro pins s σ H v u Q I r hw
 obtain ⟨a,xs,e1,hq,hl,hw⟩:=hw
 subst e1
 cases r
 rcases hq with hq | hq
 ·obtain ⟨its,rv,ht,hz⟩:=I.list hq
  refine assign_Tuple_list (I.ok.hd hc) ht.isList (by simp [hn,<- hl,rv.length]) hst fun h' hx=>?_
  have I1:Inv X pins σ H { s with heap:=h' }:=I.kept (t':=s.toks) fun b o e=>hx b o (Nat.ne_of_lt (Heap.lt_size e)) e
  exact h pins _ σ H xs _ Q I1 (by simpa using rv) hw
 ·obtain ⟨its,rv,ht,hz⟩:=I.tuple hq
  refine assign_Tuple_tuple (I.ok.hd hc) ht (by simp [hn,<- hl,rv.length]) hst fun h' hx=>?_
  have I1:Inv X pins σ H { s with heap:=h' }:=I.kept (t':=s.toks) fun b o e=>hx b o (Nat.ne_of_lt (Heap.lt_size e)) e
  exact h pins _ σ H xs _ Q I1 (by simpa using rv) hw
noncomputable def gUnp (n:Nat)(gs:List AV->ASt->M ASt)(v:AV)(σ:ASt):M ASt:=fun h=>match seqOf h v with
 | some xs=>if xs.length = n then gs xs σ h else .bad
 | none=>.bad
theorem qg_tup (hK:X.K = T.K)(hc:X.calm = true){k:Nat}(h:QGs X T E es gs)(hs:es.all tgOk = true):QG X T E (.Tuple es k pos) (gUnp es.length gs):=by
 obtain ⟨t,p,r⟩:=h
 refine ⟨_,pg_seq hc p hs,fun ρ v v' σ σ' h H Q R S rv w=>?_⟩
 unfold gUnp at w
 cases q:seqOf h v with
 | none=>rw [q] at w;exact w.elim
 | some xs =>
  rw [q] at w
  by_cases hl:xs.length = es.length
  ·simp only [if_pos hl] at w
   obtain ⟨p,ys,rfl,hq,hr⟩:=seq_V R rv q
   exact ⟨p,ys,rfl,by rw [hK];exact hq,by rw [<- hr.length];exact hl,r ρ xs ys σ σ' h H Q R S hr w⟩
  ·simp only [if_neg hl] at w;exact w.elim
noncomputable def gSetIx0 (o i v:AV):M Unit:=fun h=>match o,i with
 | .ref n,.int k=>match h.ob n with
  | some (.lst true xs)=>match ixN xs.length k with
   | some j=>.ok () (h.put n (.lst true (xs.set j v)))
   | none=>.bad
  | _=>.bad
 | _,_=>.bad
noncomputable def gSetIx (o i v:AV):M Unit:=fun h=>match dctOf h o with
 | some kvs=>match o,keyOf i with
  | .ref n,some k=>if kvs.length < sizeLine then .ok () (h.put n (.dct (putD kvs k v))) else .bad
  | _,_=>.bad
 | none=>gSetIx0 o i v h
theorem qg_sub (hu:X.A.units + 1 < cLine)(ha:QE X T E a ma)(hb:QE X T E b mb)(hs:shp b = true):QG X T E (.Subscript a b pos) (fun v σ=>(ma σ).bind fun o=>(mb σ).bind fun i=>(gSetIx o i v).bind fun _=>M.ret σ):=by
 obtain ⟨ta,pa,ra⟩:=ha
 obtain ⟨tb,pb,rb⟩:=hb
 refine ⟨_,pg_sub pa pb (set_dct hu) (by intro v;cases b <;> first | rfl | cases hs),fun ρ v v' σ σ' h H Q R S rv w=>?_⟩
 refine two ra rb R S w fun ρ2 x y x' y' h2 H2 e2 R2 q1 q2 S2 w2=>?_
 have rv2:=rv.ext e2
 cases d:dctOf h2 x with
 | some kvs =>
  refine .inr ?_
  obtain ⟨n,a,us,rfl,q,o,rfl,g,r⟩:=dct_V R2 q1 d
  cases k:keyOf y with
  | none=>simp only [M.bind,gSetIx,d,k] at w2;exact w2.elim
  | some k' =>
   by_cases hz:kvs.length < sizeLine
   ·simp only [M.bind,gSetIx,d,k,if_pos hz] at w2
    have ex:Ext ρ2 H2 ρ2 (upd H2 a (.dK (putK us k' v'))):=⟨fun _ _ z=>z,fun b xs z=>by
     rw [upd_ne (ne_of z g fun w=>by cases w)];exact z,fun b x u z=>by
     rw [upd_ne (ne_of z g fun w=>by cases w)];exact z⟩
    obtain ⟨R3,e3⟩:=R2.write (o':=.dct (putD kvs k' v)) (O':=.dK (putK us k' v')) o rfl rfl q g (fun _ z=>by cases z) (fun _ _ z=>by cases z) (dct_rep upd_same ((rkv_put r rv2).ext ex))
    refine ⟨a,_,rfl,?_,W.ok w2 e3 R3 (S2.ext e3)⟩
    rw [key_V q2 k]
    exact DPut.k g (by rw [<- rkv_len r];exact hz)
   ·simp only [M.bind,gSetIx,d,k,if_neg hz] at w2;exact w2.elim
 | none =>
 refine .inl ?_
 have w2:W T (RepS T) (((gSetIx0 x y v).bind fun _=>M.ret σ) h2) ρ2 H2 Q E:=by
  have e:(gSetIx x y v) h2 = gSetIx0 x y v h2:=by simp only [gSetIx,d]
  simp only [M.bind,e] at w2 ⊢
  exact w2
 cases x with
 | ref n =>
  cases y with
  | int k =>
   cases q2
   cases q1 with
   | @ref _ p q =>
    cases o:h2.ob n with
    | none=>simp only [M.bind,gSetIx0,o] at w2;exact w2.elim
    | some u =>
     cases u with
     | lst mu xs =>
      cases mu with
      | true =>
       obtain ⟨ys,g1,r1⟩:=R2.obj n _ p o q
       cases j:ixN xs.length k with
       | none=>simp only [M.bind,gSetIx0,o,j] at w2;exact w2.elim
       | some jj =>
        simp only [M.bind,gSetIx0,o,j] at w2
        obtain ⟨R3,e3⟩:=R2.write (o':=.lst true (xs.set jj v)) (O':=.lst (ys.set jj v')) o rfl rfl q g1 (fun _ z=>by cases z) (fun _ _ z=>by cases z) ⟨_,upd_same,by
         have:Ext ρ2 H2 ρ2 (upd H2 p (.lst (ys.set jj v'))):=⟨fun _ _ z=>z,fun b xs z=>by
          rw [upd_ne (ne_of z g1 fun w=>by cases w)];exact z,fun b x u z=>by
          rw [upd_ne (ne_of z g1 fun w=>by cases w)];exact z⟩
         exact (RepVs.set rv2 jj r1).ext this⟩
        exact ⟨p,ys,k,jj,rfl,rfl,g1,by rw [<- r1.length];exact j,W.ok w2 e3 R3 (S2.ext e3)⟩
      | false=>simp only [M.bind,gSetIx0,o] at w2;exact w2.elim
     | dct _=>simp only [M.bind,gSetIx0,o] at w2;exact w2.elim
     | ins _ _=>simp only [M.bind,gSetIx0,o] at w2;exact w2.elim
     | xo _=>simp only [M.bind,gSetIx0,o] at w2;exact w2.elim
  | _=>exact w2.elim
 | _=>exact w2.elim
theorem swst {env:Env}{tg:Expr}(h:∀ es k p,tg = .Tuple es k p->∀ vs k2 p2,e ≠ .Tuple vs k2 p2)(h2:tgOk tg = true):swappedStores [tg] e env = pure none:=by
 cases tg with
 | Tuple es k p =>
  cases e with
  | Tuple vs k2 p2=>exact absurd rfl (h es k p rfl vs k2 p2)
  | _=>rfl
 | _=>first | cases h2;done | (cases e <;> rfl)
theorem qs_asgT (he:QE X T E e m)(hg:QG X T E tg g)(hs:shp e = true)(hlc:isLc e = false)(ht:tgOk tg = true)(hw:swappedStores [tg] e X.env = pure none):QS X T E (.Assign [tg] e pos) (fun σ=>(m σ).bind fun v=>(g v σ).bind fun σ1=>M.ret (.nx σ1)):=by
 obtain ⟨te,p,r⟩:=he
 obtain ⟨t,q,s⟩:=hg
 refine ⟨_,ps_asg p q (shp_sw hs hlc) hw (by rw [tgOk_each ht];rfl),fun ρ σ σ' h H D R S w=>r ρ σ σ' h H _ R S (W.bind w fun ρ1 x x' h1 H1 e1 R1 q1 w1=>?_)⟩
 exact s ρ1 x x' σ σ' h1 H1 _ R1 (S.ext e1) q1 (W.bind w1 fun ρ2 σ2 σ2' h2 H2 e2 R2 q2 w2=>W.here (Q:=toQ D) (b:=COut.nx σ2') w2 R2 q2)
theorem qs_asgW (he:QE X T E e m)(hg:QG X T E tg g)(hs:swapsWithSole [tg] e pos.line X.env = pure false)(ht:tgOk tg = true)(hw:swappedStores [tg] e X.env = pure none):QS X T E (.Assign [tg] e pos) (fun σ=>(m σ).bind fun v=>(g v σ).bind fun σ1=>M.ret (.nx σ1)):=by
 obtain ⟨te,p,r⟩:=he
 obtain ⟨t,q,s⟩:=hg
 refine ⟨_,ps_asg p q hs hw (by rw [tgOk_each ht];rfl),fun ρ σ σ' h H D R S w=>r ρ σ σ' h H _ R S (W.bind w fun ρ1 x x' h1 H1 e1 R1 q1 w1=>?_)⟩
 exact s ρ1 x x' σ σ' h1 H1 _ R1 (S.ext e1) q1 (W.bind w1 fun ρ2 σ2 σ2' h2 H2 e2 R2 q2 w2=>W.here (Q:=toQ D) (b:=COut.nx σ2') w2 R2 q2)
theorem qs_asg (he:QE X T E e m)(hg:QG X T E tg g)(hs:shp e = true)(hlc:isLc e = false)(ht:tgOk tg = true)(hw:∀ es k p,tg = .Tuple es k p->∀ vs k2 p2,e ≠ .Tuple vs k2 p2):QS X T E (.Assign [tg] e pos) (fun σ=>(m σ).bind fun v=>(g v σ).bind fun σ1=>M.ret (.nx σ1)):=qs_asgT he hg hs hlc ht (swst hw ht)
abbrev AIt:=Nat->AH->Option (Option AV)
noncomputable def RI (T:Tab):Rl AIt It:=fun ρ H it J=>∀ ρ' h' H' i,Ext ρ H ρ' H'->RepH T ρ' h' H' ->
 (it i h' = some none->J.stop i H')/\∀ v,it i h' = some (some v)->J.go i H'/\∀ x H2,J.yld i H' x H2->∃ ρ2,Ext ρ' H' ρ2 H2/\RepH T ρ2 h' H2/\RepV T ρ2 H2 v x
noncomputable def QI (X:Cx)(T:Tab)(E:XK)(tg iter:Expr)(mi:ASt->M AIt):Prop :=
 ∃ wi,PI X tg iter wi/\∀ ρ σ σ' h H R,RepH T ρ h H->RepS T ρ H σ σ'->W T (RI T) (mi σ h) ρ H R E->wi σ' H R
noncomputable def forM (it:AIt)(g:AV->ASt->M ASt)(body:ASt->M Out):Nat->Nat->ASt->M Out
 | 0,_,_=>M.bad
 | f + 1,i,σ=>fun h=>match it i h with
  | none=>.bad
  | some none=>.ok (.nx σ) h
  | some (some v)=>((g v σ).bind fun σ1=>(body σ1).bind fun o=>match o with
   | .nx σ2=>forM it g body f (i + 1) σ2
   | .cnt σ2=>forM it g body f (i + 1) σ2
   | .brk σ2=>M.ret (.nx σ2)
   | .ret v=>M.ret (.ret v)) h
noncomputable def FU:Nat:=1000000
theorem qs_for {iter:Expr}{mi:ASt->M AIt}(hp:PassesOwn (model X.prog X.w) X.A X.env X.xe)(hc:X.calm = true)(hi:QI X T E tg iter mi)(hg:QG X T E tg g)(hb:QSs X T E sts ms)(hs:shp iter = true) :
  QS X T E (.For tg iter sts [] pos) (fun σ=>(mi σ).bind fun it=>forM it g ms FU 0 σ):=by
 obtain ⟨wi,pi,ri⟩:=hi
 obtain ⟨t,q,s⟩:=hg
 obtain ⟨u,pb,rb⟩:=hb
 refine ⟨_,ps_for hp hc pi q pb (fun x=>shp_set hs),fun ρ0 σ0 σ0' h0 H0 D R0 S0 w0=>ri ρ0 σ0 σ0' h0 H0 _ R0 S0 (W.bind w0 fun ρ1 it J h1 H1 e1 R1 q1 w1=>?_)⟩
 refine ⟨fun i m σ' H=>∃ ρ σ h,Ext ρ1 H1 ρ H/\RepH T ρ h H/\RepS T ρ H σ σ'/\W T (RO T) (forM it g ms m i σ h) ρ H (toQ D) E,⟨FU,ρ1,σ0,h1,.refl,R1,S0.ext e1,w1⟩,?_⟩
 rintro i m σ' H ⟨ρ,σ,h,e,R,S,w⟩
 cases m with
 | zero=>exact w.elim
 | succ f =>
  simp only [forM] at w
  cases hit:it i h with
  | none=>rw [hit] at w;exact w.elim
  | some o =>
   cases o with
   | none =>
    rw [hit] at w
    exact .inl ⟨(q1 ρ h H i e R).1 hit,W.here (Q:=toQ D) (b:=COut.nx σ') w R S⟩
   | some v =>
    rw [hit] at w
    obtain ⟨go,yl⟩:=(q1 ρ h H i e R).2 v hit
    refine .inr ⟨go,fun σ2' H2=>∃ ρ2 σ2 h2,Ext ρ1 H1 ρ2 H2/\RepH T ρ2 h2 H2/\RepS T ρ2 H2 σ2 σ2'/\W T (RO T) (forM it g ms f (i + 1) σ2 h2) ρ2 H2 (toQ D) E,fun σ2' H2 z=>⟨f,Nat.lt_succ_self f,z⟩,fun x H2 y=>?_⟩
    obtain ⟨ρ2,e2,R2,rv⟩:=yl x H2 y
    refine s ρ2 v x σ σ' h H2 _ R2 (S.ext e2) rv (W.bind (w.ext e2) fun ρ3 σ3 σ3' h3 H3 e3 R3 S3 w3=>?_)
    refine rb ρ3 σ3 σ3' h3 H3 _ R3 S3 (W.bind w3 fun ρ4 o o' h4 H4 e4 R4 q4 w4=>?_)
    have eE:=((e.trans e2).trans e3).trans e4
    cases o with
    | nx σ4=>cases o' with
     | nx σ4'=>exact ⟨ρ4,σ4,h4,eE,R4,q4,w4⟩
     | _=>exact q4.elim
    | cnt σ4=>cases o' with
     | cnt σ4'=>exact ⟨ρ4,σ4,h4,eE,R4,q4,w4⟩
     | _=>exact q4.elim
    | brk σ4=>cases o' with
     | brk σ4'=>exact (W.here (Q:=toQ D) (b:=COut.nx σ4') w4 R4 q4:D.nx σ4' H4)
     | _=>exact q4.elim
    | ret v=>cases o' with
     | ret v'=>exact (W.here (Q:=toQ D) (b:=COut.ret v') w4 R4 q4:D.rt v' H4)
     | _=>exact q4.elim
noncomputable def whileM (c:ASt->M Bool)(body:ASt->M Out):Nat->ASt->M Out
 | 0,_=>M.bad
 | f + 1,σ=>(c σ).bind fun b=>if b = true then ((body σ).bind fun o=>match o with
  | .nx σ2=>whileM c body f σ2
  | .cnt σ2=>whileM c body f σ2
  | .brk σ2=>M.ret (.nx σ2)
  | .ret v=>M.ret (.ret v)) else M.ret (.nx σ)
end
end AM
namespace AM
open PySem PySem.Spec PyProof.Rows L2
section
variable {prog:Program}{w:World}{A:Around}{E:Value->Shared->Prop}{s:Shared}
theorem pull_tuple {it t:Addr}{i:Nat}{items:Array Value}{x:Value}{Q:Value->Shared->Prop}(hit:s.heap.IsTupleIter it t i)(ht:s.heap.IsTuple t items)(hx:items[i]? = some x)
  (hQ:∀ h',h'.IsTupleIter it t (i + 1)->Heap.SameBut it s.heap h'->Q x { s with heap:=h' }):wpAny (model prog w) A (Builtin.SmallTypes.nextOf (.ref it)) Q E s:=by
 obtain ⟨o,ho,hc,hd⟩:=id hit
 obtain ⟨ol,hol,_,nl,hdl⟩:=ht
 unfold Builtin.SmallTypes.nextOf
 refine wpAny_bind (wpAny_callSpecial?_slot (name:=Str.ofString "__next__") hit.typeIs F.slot_tuple_iterator_next (wpAny_call_entry F.slot_tuple_iterator_next hit.typeIs F.entry_tuple_iterator_next ?_ (F.args_tuple_iterator_next_1 _)))
 show wpAny _ _ (field (.ref it) 0 >>= _) _ _ s
 refine wpAny_bind (wpAny_field ho hd (x:=.ref t) rfl ?_)
 show wpAny _ _ (if (Value.ref t == Value.none) = true then _ else _) _ _ s
 rw [if_neg (show ¬ ((Value.ref t == Value.none) = true) from Bool.false_ne_true)]
 show wpAny _ _ (field (.ref it) 1 >>= _) _ _ s
 refine wpAny_bind (wpAny_field ho hd (x:=.int i 0) rfl ?_)
 show wpAny _ _ (seqItems? (.ref t) >>= _) _ _ s
 refine wpAny_bind (wpAny_seqItems hol hdl ?_)
 simp only [Int.toNat_natCast,hx]
 refine wpAny_bind (wpAny_setField ho hd (by simp) (wpAny_pure ⟨x,rfl,wpAny_pure (hQ _ ?_ (Heap.SameBut.update ..))⟩))
 exact ⟨_,Heap.get?_update_self _ ho (Obj.isFreed_of_fields (Obj.data_mapFields hd _)),(Obj.cls_mapFields ..).trans hc,by rw [Obj.data_mapFields hd];simp [rawInt]⟩
theorem pull_tuple_end {it t:Addr}{i:Nat}{items:Array Value}{Q:Value->Shared->Prop}(hh:A.handled = none)(hit:s.heap.IsTupleIter it t i)(ht:s.heap.IsTuple t items)(hx:items[i]? = none)
  (hE:∀ h' e,Heap.ExtBut it s.heap h'->(∃ o,h'.get? e = some o/\o.cls = .type "StopIteration")->E (.ref e) { s with heap:=h' }):wpAny (model prog w) A (Builtin.SmallTypes.nextOf (.ref it)) Q E s:=by
 obtain ⟨o,ho,hc,hd⟩:=id hit
 obtain ⟨ol,hol,_,nl,hdl⟩:=ht
 unfold Builtin.SmallTypes.nextOf
 refine wpAny_bind (wpAny_callSpecial?_slot (name:=Str.ofString "__next__") hit.typeIs F.slot_tuple_iterator_next (wpAny_call_entry F.slot_tuple_iterator_next hit.typeIs F.entry_tuple_iterator_next ?_ (F.args_tuple_iterator_next_1 _)))
 show wpAny _ _ (field (.ref it) 0 >>= _) _ _ s
 refine wpAny_bind (wpAny_field ho hd (x:=.ref t) rfl ?_)
 show wpAny _ _ (if (Value.ref t == Value.none) = true then _ else _) _ _ s
 rw [if_neg (show ¬ ((Value.ref t == Value.none) = true) from Bool.false_ne_true)]
 show wpAny _ _ (field (.ref it) 1 >>= _) _ _ s
 refine wpAny_bind (wpAny_field ho hd (x:=.int i 0) rfl ?_)
 show wpAny _ _ (seqItems? (.ref t) >>= _) _ _ s
 refine wpAny_bind (wpAny_seqItems hol hdl ?_)
 simp only [Int.toNat_natCast,hx]
 refine wpAny_bind (wpAny_rule (wpAny_bind (wpAny_setField ho hd (by simp) ?_)))
 show wpAny _ _ (newExc (.type "StopIteration") [] >>= _) _ _ _
 refine wpAny_bind ?_
 simp only [newExc,newTuple]
 refine wpAny_bind (wpAny_newObj_type ?_ (by size_fits))
 refine wpAny_bind (m:=firstArgMember _ _) (wpAny_of_eq (a:=Value.none) (by first | rfl | (simp only [firstArgMember];rfl)) ?_)
 refine wpAny_newObj_type ?_ (by size_fits)
 simp only [raiseNew]
 refine wpAny_bind (wpAny_handled ?_)
 first | rw [show A.in1.handled = none from hh] | rw [hh]
 refine wpAny_bind (wpAny_pure (wpAny_throw ?_))
 exact hE _ _ (((Heap.SameBut.update ..).extBut.push _).push _) ⟨_,Heap.get?_push_size _ rfl,rfl⟩
end
structure Pull (prog:Program)(w:World)(A:Around)(it l:Addr)(S:Nat->Heap->Prop)(items:Array Value):Prop where
 keep:∀ k h h',S k h->(∀ b,b = it\/b = l->∀ o,h.get? b = some o->h'.get? b = some o)->S k h'
 live:∀ k h,S k h->∃ o,h.get? it = some o/\o.cls ≠ .type "zip"/\(∀ v,o.data ≠ .cell v)
 item:∀ k x (s:Shared) (Q:Value->Shared->Prop) (E:Value->Shared->Prop),S k s.heap->items[k]? = some x->(∀ h',S (k + 1) h'->Heap.SameBut it s.heap h'->Q x { s with heap:=h' })->wpAny (model prog w) A (Builtin.SmallTypes.nextOf (.ref it)) Q E s
 done:∀ k (s:Shared) (Q:Value->Shared->Prop) (E:Value->Shared->Prop),S k s.heap->items[k]? = none->(∀ h' e,Heap.ExtBut it s.heap h'->(∃ o,h'.get? e = some o/\o.cls = .type "StopIteration")->E (.ref e) { s with heap:=h' })->wpAny (model prog w) A (Builtin.SmallTypes.nextOf (.ref it)) Q E s
theorem Pull.list {prog:Program}{w:World}{A:Around}(hh:A.handled = none){it l:Addr}(hne:l ≠ it)(items:Array Value):Pull prog w A it l (fun k h=>h.IsListIter it l k/\h.IsList l items) items where
 keep:=fun k h h' st hk=>⟨st.1.at fun o e=>hk it (.inl rfl) o e,st.2.at fun o e=>hk l (.inr rfl) o e⟩
 live:=fun k h st=>let ⟨o,ho,hc,hd⟩:=st.1;⟨o,ho,by rw [hc];decide,fun v z=>by rw [hd] at z;cases z⟩
 item:=fun k x s Q E st hx hQ=>wpAny_nextOf_list_item st.1 st.2 hx fun h' hit' hs'=>hQ h' ⟨hit',st.2.extBut hs'.extBut hne⟩ hs'
 done:=fun k s Q E st hx hE=>wpAny_nextOf_list_end hh st.1 st.2 hx hE
theorem Pull.tuple {prog:Program}{w:World}{A:Around}(hh:A.handled = none){it l:Addr}(hne:l ≠ it)(items:Array Value):Pull prog w A it l (fun k h=>h.IsTupleIter it l k/\h.IsTuple l items) items where
 keep:=fun k h h' st hk=>⟨st.1.at fun o e=>hk it (.inl rfl) o e,let ⟨o,e,r⟩:=st.2;⟨o,hk l (.inr rfl) o e,r⟩⟩
 live:=fun k h st=>let ⟨o,ho,hc,hd⟩:=st.1;⟨o,ho,by rw [hc];decide,fun v z=>by rw [hd] at z;cases z⟩
 item:=fun k x s Q E st hx hQ=>pull_tuple st.1 st.2 hx fun h' hit' hs'=>hQ h' ⟨hit',let ⟨o,e,r⟩:=st.2;⟨o,hs'.extBut _ _ hne e,r⟩⟩ hs'
 done:=fun k s Q E st hx hE=>pull_tuple_end hh st.1 st.2 hx hE
section
variable {prog:Program}{w:World}{A:Around}{E:Value->Shared->Prop}{s:Shared}{z TI TO i1 i2 l1 l2:Addr}{S1 S2:Nat->Heap->Prop}{xs ys:Array Value}{k:Nat}{a b x y:Value}
theorem S1_but (P:Pull prog w A i1 l1 S1 xs){h h':Heap}{c:Addr}(st:S1 k h)(e:Heap.ExtBut c h h')(n1:i1 ≠ c)(n2:l1 ≠ c):S1 k h':=P.keep k h h' st fun b hb o q=>e b o (by rcases hb with rfl | rfl <;> assumption) q
theorem zip_draw {Q:Value->Shared->Prop}(D:ZipApart z TI TO i1 i2 l1 l2)(P1:Pull prog w A i1 l1 S1 xs)(P2:Pull prog w A i2 l2 S2 ys)(hz:IsZip s.heap z TI TO .none)(hTI:IsPair s.heap TI (.ref i1) (.ref i2))(hTO:IsPair s.heap TO a b)
  (h1:S1 k s.heap) (h2:S2 k s.heap) (hx:xs[k]? = some x) (hy:ys[k]? = some y)
  (hQ:∀ h',IsZip h' z TI TO (rawInt s.heap.objs.size)->IsPair h' TO x y->S1 (k + 1) h'->S2 (k + 1) h'->IsPair h' s.heap.objs.size x y ->
   (∀ c o,c ≠ z->c ≠ TO->c ≠ i1->c ≠ i2->s.heap.get? c = some o->h'.get? c = some o)->Q (.ref s.heap.objs.size) { s with heap:=h' }) :
  wpAny (model prog w) A (Builtin.«zip.__next__» ⟨[.ref z],[]⟩) (fun fin s'=>∃ v,fin = .done (.ret v)/\Q v s') E s:=by
 show wpAny _ _ (field (.ref z) 2 >>= _) _ _ _
 refine wpAny_bind (wpAny_field hz rfl (x:=.bool false) rfl ?_)
 show wpAny _ _ (field (.ref z) 3 >>= _) _ _ _
 refine wpAny_bind (wpAny_field hz rfl (x:=.ref TI) rfl (wpAny_bind (wpAny_seqItems hTI rfl ?_)))
 show wpAny _ _ (Builtin.SmallTypes.ownedTupleIsFree (.ref z) >>= _) _ _ _
 refine wpAny_bind ?_
 unfold Builtin.SmallTypes.ownedTupleIsFree
 refine wpAny_bind (wpAny_field hz rfl (x:=.none) rfl (wpAny_pure ?_))
 simp only [if_true]
 refine wpAny_bind (wpAny_rule (wpAny_bind (wpAny_field hz rfl (x:=.ref TO) rfl (wpAny_bind (wpAny_setField_rec hz (by simp) fun ha za sa=>?_)))))
 replace za:IsZip ha z TI TO .ellipsis:=za
 refine wpAny_bind ?_
 simp only [List.zipIdx_cons,List.zipIdx_nil,List.forIn_cons,List.forIn_nil]
 refine wpAny_bind (wpAny_bind (wpAny_onRaise ?_))
 show wpAny _ _ (Builtin.SmallTypes.nextOf (.ref i1) >>= _) _ _ _
 refine wpAny_bind (P1.item k x _ _ _ (S1_but P1 h1 sa.extBut D.i1z D.l1z) hx fun hb pb sb=>wpAny_pure ?_)
 have tb:IsPair hb TO a b:=sb.extBut _ _ D.TOi1 (sa.extBut _ _ D.TOz hTO)
 refine wpAny_bind (wpAny_seqItems tb rfl (wpAny_bind (wpAny_updateSeq_pair tb fun hc tc sc=>?_)))
 replace tc:IsPair hc TO x b:=tc
 refine wpAny_bind (wpAny_letGo (wpAny_pure (wpAny_bind (wpAny_bind (wpAny_onRaise ?_)))))
 show wpAny _ _ (Builtin.SmallTypes.nextOf (.ref i2) >>= _) _ _ _
 refine wpAny_bind (P2.item k y _ _ _ (S1_but P2 (S1_but P2 (S1_but P2 h2 sa.extBut D.i2z D.l2z) sb.extBut D.i12.symm D.l2i1) sc.extBut D.TOi2.symm D.l2TO) hy fun hd pd sd=>wpAny_pure ?_)
 have td:IsPair hd TO x b:=sd.extBut _ _ D.TOi2 tc
 refine wpAny_bind (wpAny_seqItems td rfl (wpAny_bind (wpAny_updateSeq_pair td fun he te se=>?_)))
 replace te:IsPair he TO x y:=te
 refine wpAny_bind (wpAny_letGo (wpAny_pure (wpAny_pure (wpAny_bind (wpAny_seqItems te rfl (wpAny_bind (wpAny_newTuple ?_)))))))
 have size:he.objs.size = s.heap.objs.size:=by rw [se.1,sd.1,sc.1,sb.1,sa.1]
 have ze:IsZip he z TI TO .ellipsis:=se.extBut _ _ D.TOz.symm (sd.extBut _ _ D.i2z.symm (sc.extBut _ _ D.TOz.symm (sb.extBut _ _ D.i1z.symm za)))
 have kept:∀ c o,c ≠ z->c ≠ TO->c ≠ i1->c ≠ i2->s.heap.get? c = some o->he.get? c = some o:=fun c o n1 n2 n3 n4 e=>se.extBut _ _ n2 (sd.extBut _ _ n4 (sc.extBut _ _ n2 (sb.extBut _ _ n3 (sa.extBut _ _ n1 e))))
 have pe:S1 (k + 1) he:=S1_but P1 (S1_but P1 (S1_but P1 pb sc.extBut D.TOi1.symm D.l1TO) sd.extBut D.i12 D.l1i2) se.extBut D.TOi1.symm D.l1TO
 have re:S2 (k + 1) he:=S1_but P2 pd se.extBut D.TOi2.symm D.l2TO
 have zlt:z < he.objs.size:=Heap.lt_size ze
 show wpAny _ _ (Builtin.SmallTypes.ownedTupleHandOut (.ref z) (.ref he.objs.size) >>= _) _ _ _
 refine wpAny_bind ?_
 unfold Builtin.SmallTypes.ownedTupleHandOut
 have zf:IsZip (he.push { cls:=.type "tuple",data:=.seq #[x,y] }) z TI TO .ellipsis:=Heap.get?_push_of_some _ ze
 refine wpAny_bind (wpAny_setField_rec zf (by simp) fun hg zg sg=>?_)
 replace zg:IsZip hg z TI TO (rawInt he.objs.size):=zg
 refine wpAny_setField_rec zg (by simp) fun hh zh sh=>?_
 replace zh:IsZip hh z TI TO (rawInt he.objs.size):=zh
 have up:∀ c o,c ≠ z->he.get? c = some o->hh.get? c = some o:=fun c o n1 e=>sh.extBut _ _ n1 (sg.extBut _ _ n1 (Heap.get?_push_of_some _ e))
 have new:IsPair hh he.objs.size x y:=sh.extBut _ _ (Nat.ne_of_gt zlt) (sg.extBut _ _ (Nat.ne_of_gt zlt) (Heap.get?_push_size _ rfl))
 rw [size] at zh new
 refine wpAny_pure ⟨_,rfl,?_⟩
 show Q (.ref he.objs.size) _
 rw [size]
 exact hQ hh zh (up _ _ D.TOz te) (P1.keep _ _ _ pe fun c hc o e=>up c o (by rcases hc with rfl | rfl;exact D.i1z;exact D.l1z) e) (P2.keep _ _ _ re fun c hc o e=>up c o (by rcases hc with rfl | rfl;exact D.i2z;exact D.l2z) e) new
  fun c o n1 n2 n3 n4 e=>up c o n1 (kept c o n1 n2 n3 n4 e)
theorem zip_drawn {Q:Fin->Shared->Prop}(D:ZipApart z TI TO i1 i2 l1 l2)(P1:Pull prog w A i1 l1 S1 xs)(P2:Pull prog w A i2 l2 S2 ys)(hz:IsZip s.heap z TI TO .none)(hTI:IsPair s.heap TI (.ref i1) (.ref i2))(hTO:IsPair s.heap TO a b)
  (h1:S1 k s.heap) (h2:S2 k s.heap) (hend:xs[k]? = none\/ys[k]? = none)
  (hE:∀ h' e,(∀ c o,c ≠ z->c ≠ TO->c ≠ i1->c ≠ i2->s.heap.get? c = some o->h'.get? c = some o)->(∃ o,h'.get? e = some o/\o.cls = .type "StopIteration")->E (.ref e) { s with heap:=h' }) :
  wpAny (model prog w) A (Builtin.«zip.__next__» ⟨[.ref z],[]⟩) Q E s:=by
 show wpAny _ _ (field (.ref z) 2 >>= _) _ _ _
 refine wpAny_bind (wpAny_field hz rfl (x:=.bool false) rfl ?_)
 show wpAny _ _ (field (.ref z) 3 >>= _) _ _ _
 refine wpAny_bind (wpAny_field hz rfl (x:=.ref TI) rfl (wpAny_bind (wpAny_seqItems hTI rfl ?_)))
 show wpAny _ _ (Builtin.SmallTypes.ownedTupleIsFree (.ref z) >>= _) _ _ _
 refine wpAny_bind ?_
 unfold Builtin.SmallTypes.ownedTupleIsFree
 refine wpAny_bind (wpAny_field hz rfl (x:=.none) rfl (wpAny_pure ?_))
 simp only [if_true]
 refine wpAny_bind (wpAny_rule (wpAny_bind (wpAny_field hz rfl (x:=.ref TO) rfl (wpAny_bind (wpAny_setField_rec hz (by simp) fun ha za sa=>?_)))))
 replace za:IsZip ha z TI TO .ellipsis:=za
 refine wpAny_bind ?_
 simp only [List.zipIdx_cons,List.zipIdx_nil,List.forIn_cons,List.forIn_nil]
 refine wpAny_bind (wpAny_bind (wpAny_onRaise ?_))
 show wpAny _ _ (Builtin.SmallTypes.nextOf (.ref i1) >>= _) _ _ _
 have sa1:=S1_but P1 h1 sa.extBut D.i1z D.l1z
 cases hx:xs[k]? with
 | none =>
  refine wpAny_bind (P1.done k _ _ _ sa1 hx fun hb e sb he=>?_)
  obtain ⟨oe,hoe,hce⟩:=he
  have zb:IsZip hb z TI TO .ellipsis:=sb _ _ D.i1z.symm za
  have ne:e ≠ z:=fun q=>by subst q;rw [zb] at hoe;cases hoe;simp at hce
  exact wpAny_setField_rec zb (by simp) fun hc _ sc=>hE hc e (fun c o n1 _ n3 _ q=>sc.extBut _ _ n1 (sb _ _ n3 (sa.extBut _ _ n1 q))) ⟨oe,sc.extBut _ _ ne hoe,hce⟩
 | some x =>
  have hy:ys[k]? = none:=by rcases hend with q | q;rw [hx] at q;cases q;exact q
  refine wpAny_bind (P1.item k x _ _ _ sa1 hx fun hb pb sb=>wpAny_pure ?_)
  have tb:IsPair hb TO a b:=sb.extBut _ _ D.TOi1 (sa.extBut _ _ D.TOz hTO)
  refine wpAny_bind (wpAny_seqItems tb rfl (wpAny_bind (wpAny_updateSeq_pair tb fun hc tc sc=>?_)))
  refine wpAny_bind (wpAny_letGo (wpAny_pure (wpAny_bind (wpAny_bind (wpAny_onRaise ?_)))))
  show wpAny _ _ (Builtin.SmallTypes.nextOf (.ref i2) >>= _) _ _ _
  refine wpAny_bind (P2.done k _ _ _ (S1_but P2 (S1_but P2 (S1_but P2 h2 sa.extBut D.i2z D.l2z) sb.extBut D.i12.symm D.l2i1) sc.extBut D.TOi2.symm D.l2TO) hy fun hd e sd he=>?_)
  obtain ⟨oe,hoe,hce⟩:=he
  have zd:IsZip hd z TI TO .ellipsis:=sd _ _ D.i2z.symm (sc.extBut _ _ D.TOz.symm (sb.extBut _ _ D.i1z.symm za))
  have ne:e ≠ z:=fun q=>by subst q;rw [zd] at hoe;cases hoe;simp at hce
  exact wpAny_setField_rec zd (by simp) fun hf _ sf=>hE hf e (fun c o n1 n2 n3 n4 q=>sf.extBut _ _ n1 (sd _ _ n4 (sc.extBut _ _ n2 (sb.extBut _ _ n3 (sa.extBut _ _ n1 q))))) ⟨oe,sf.extBut _ _ ne hoe,hce⟩
end
noncomputable def ItK (kd:Bool)(h:Heap)(it l:Addr)(k:Nat):Prop:=if kd = true then h.IsListIter it l k else h.IsTupleIter it l k
noncomputable def ArK (kd:Bool)(h:Heap)(l:Addr)(items:Array Value):Prop:=if kd = true then h.IsList l items else h.IsTuple l items
noncomputable def SqK (kd:Bool)(K:PySem.W.Frag)(H:Hp)(a:Addr)(xs:List V):Prop:=if kd = true then SqL K H a xs else SqT K H a xs
noncomputable def clsK (kd:Bool):String:=if kd = true then "list_iterator" else "tuple_iterator"
theorem ItK.at {kd:Bool}{h h':Heap}{it l:Addr}{k:Nat}(st:ItK kd h it l k)(f:∀ o,h.get? it = some o->h'.get? it = some o):ItK kd h' it l k:=by
 cases kd with
 | true=>exact Heap.IsListIter.at st f
 | false=>exact Heap.IsTupleIter.at st f
theorem ItK.live {kd:Bool}{h:Heap}{it l:Addr}{k:Nat}(st:ItK kd h it l k):∃ o,h.get? it = some o/\∀ v,o.data ≠ .cell v:=by
 cases kd with
 | true=>obtain ⟨o,ho,hc,hd⟩:=(show h.IsListIter it l k from st);exact ⟨o,ho,fun v z=>by rw [hd] at z;cases z⟩
 | false=>obtain ⟨o,ho,hc,hd⟩:=(show h.IsTupleIter it l k from st);exact ⟨o,ho,fun v z=>by rw [hd] at z;cases z⟩
theorem Pull.kd {prog:Program}{w:World}{A:Around}(hh:A.handled = none)(kd:Bool){it l:Addr}(hne:l ≠ it)(items:Array Value):Pull prog w A it l (fun k h=>ItK kd h it l k/\ArK kd h l items) items:=by
 cases kd with
 | true=>exact Pull.list hh hne items
 | false=>exact Pull.tuple hh hne items
theorem it_new (kd:Bool)(h:Heap)(l:Addr):ItK kd (h.push { cls:=.type (clsK kd),data:=.fields #[.ref l,.int 0 0] }) h.objs.size l 0:=by
 cases kd with
 | true=>exact ⟨_,Heap.get?_push_size _ rfl,rfl,rfl⟩
 | false=>exact ⟨_,Heap.get?_push_size _ rfl,rfl,rfl⟩
theorem iter_kd {prog:Program}{w:World}{A:Around}{E:Value->Shared->Prop}{s:Shared}(kd:Bool){l:Addr}{items:Array Value}{Q:Value->Shared->Prop}(hl:ArK kd s.heap l items)
  (hQ:Q (.ref s.heap.objs.size) { s with heap:=s.heap.push { cls:=.type (clsK kd),data:=.fields #[.ref l,.int 0 0] } }):wpAny (model prog w) A (pyIter (.ref l)) Q E s:=by
 cases kd with
 | true=>exact wpAny_pyIter_list hl hQ
 | false=>exact wpAny_pyIter_tuple hl hQ
theorem ArK.push {kd:Bool}{h:Heap}{l:Addr}{items:Array Value}(hl:ArK kd h l items)(o:Obj):ArK kd (h.push o) l items:=by
 cases kd with
 | true=>exact Heap.IsList.push hl o
 | false=>obtain ⟨ob,e,r⟩:=(show h.IsTuple l items from hl);exact ⟨ob,Heap.get?_push_of_some _ e,r⟩
noncomputable abbrev zA (kd:Bool)(h:Heap)(l:Addr):Heap:=h.push { cls:=.type (clsK kd),data:=.fields #[.ref l,.int 0 0] }
noncomputable abbrev zB (kd1 kd2:Bool)(h:Heap)(l1 l2:Addr):Heap:=zA kd2 (zA kd1 h l1) l2
noncomputable abbrev zC (kd1 kd2:Bool)(h:Heap)(l1 l2:Addr):Heap:=(zB kd1 kd2 h l1 l2).push { cls:=.type "tuple",data:=.seq #[.ref h.objs.size,.ref (zA kd1 h l1).objs.size] }
noncomputable abbrev zD (kd1 kd2:Bool)(h:Heap)(l1 l2:Addr):Heap:=(zC kd1 kd2 h l1 l2).push { cls:=.type "tuple",data:=.seq #[.none,.none] }
noncomputable abbrev zE (kd1 kd2:Bool)(h:Heap)(l1 l2:Addr):Heap:=(zD kd1 kd2 h l1 l2).push { cls:=.type "zip",data:=.fields #[.none,.bool false,.bool false,.ref (zB kd1 kd2 h l1 l2).objs.size,.ref (zC kd1 kd2 h l1 l2).objs.size] }
theorem zip_made (kd1 kd2:Bool)(l1 l2:Addr)(xs ys:Array Value) :
  Meets (Builtin.«zip.__new__» ⟨[.type "zip",.ref l1,.ref l2],[]⟩) (fun _ R s=>ArK kd1 s.heap l1 xs/\ArK kd2 s.heap l2 ys/\R (.ok (.ret (.ref (zD kd1 kd2 s.heap l1 l2).objs.size))) { s with heap:=zE kd1 kd2 s.heap l1 l2 }) :=
 .of_wp fun prog w A R s h=>by
  obtain ⟨hp,g,d,tk,os⟩:=s;obtain ⟨hl1,hl2,h⟩:=h
  have hsub:=sub_zip
  have hL1:ArK kd1 (Shared.heap ⟨hp,g,d,tk,os⟩) l1 xs:=hl1
  have hL2:ArK kd2 (Shared.heap ⟨zA kd1 hp l1,g,d,tk,os⟩) l2 ys:=ArK.push hl2 _
  wp_walk using iter_kd kd1 hL1,iter_kd kd2 hL2
  exact ⟨_,rfl,h⟩
section
variable {prog:Program}{w:World}{A:Around}{E:Value->Shared->Prop}{s:Shared}
theorem call_zipK (kd1 kd2:Bool){l1 l2:Addr}{xs ys:Array Value}{Q:Value->Shared->Prop}(hl1:ArK kd1 s.heap l1 xs)(hl2:ArK kd2 s.heap l2 ys)
  (h:∀ h',IsZip h' (s.heap.objs.size + 4) (s.heap.objs.size + 2) (s.heap.objs.size + 3) .none->IsPair h' (s.heap.objs.size + 2) (.ref s.heap.objs.size) (.ref (s.heap.objs.size + 1)) ->
   IsPair h' (s.heap.objs.size + 3) .none .none->ItK kd1 h' s.heap.objs.size l1 0->ItK kd2 h' (s.heap.objs.size + 1) l2 0 ->
   (∀ c o,s.heap.get? c = some o->h'.get? c = some o)->Q (.ref (s.heap.objs.size + 4)) { s with heap:=h' }):wpAny (model prog w) A (call (.type "zip") [.ref l1,.ref l2]) Q E s:=by
 refine callType_new F.called_zip (by decide) (F.typeCall_zip_2 _ _) (F.newCall_zip_2 _ _) (fun obj=>F.args_object_init_3 obj _ _) F.entry_zip_new (zip_made kd1 kd2 l1 l2 xs ys) ⟨hl1,hl2,?_⟩
 have z1:(zA kd1 s.heap l1).objs.size = s.heap.objs.size + 1:=Heap.size_push ..
 have z2:(zB kd1 kd2 s.heap l1 l2).objs.size = s.heap.objs.size + 2:=by rw [Heap.size_push,z1]
 have z3:(zC kd1 kd2 s.heap l1 l2).objs.size = s.heap.objs.size + 3:=by rw [Heap.size_push,z2]
 have z4:(zD kd1 kd2 s.heap l1 l2).objs.size = s.heap.objs.size + 4:=by rw [Heap.size_push,z3]
 have g5:(zE kd1 kd2 s.heap l1 l2).get? (zD kd1 kd2 s.heap l1 l2).objs.size = some _:=Heap.get?_push_size _ rfl
 have g4:(zE kd1 kd2 s.heap l1 l2).get? (zC kd1 kd2 s.heap l1 l2).objs.size = some _:=Heap.get?_push_of_some _ (Heap.get?_push_size _ rfl)
 have g3:(zE kd1 kd2 s.heap l1 l2).get? (zB kd1 kd2 s.heap l1 l2).objs.size = some _:=Heap.get?_push_of_some _ (Heap.get?_push_of_some _ (Heap.get?_push_size _ rfl))
 have up:∀ c o,(zB kd1 kd2 s.heap l1 l2).get? c = some o->(zE kd1 kd2 s.heap l1 l2).get? c = some o:=fun c o e=>Heap.get?_push_of_some _ (Heap.get?_push_of_some _ (Heap.get?_push_of_some _ e))
 have i2:ItK kd2 (zE kd1 kd2 s.heap l1 l2) (zA kd1 s.heap l1).objs.size l2 0:=(it_new kd2 (zA kd1 s.heap l1) l2).at fun o e=>up _ o e
 have i1:ItK kd1 (zE kd1 kd2 s.heap l1 l2) s.heap.objs.size l1 0:=(it_new kd1 s.heap l1).at fun o e=>up _ o (Heap.get?_push_of_some _ e)
 show _/\_
 rw [z2,z3,z4] at g5
 rw [z1,z2] at g3
 rw [z3] at g4
 rw [z1] at i2
 rw [z4]
 exact ⟨⟨_,g5,rfl⟩,h _ g5 g3 g4 i1 i2 fun c o e=>up c o (Heap.get?_push_of_some _ (Heap.get?_push_of_some _ e))⟩
variable {z TI TO i1 i2 l1 l2:Addr}{S1 S2:Nat->Heap->Prop}{xs ys:Array Value}{k:Nat}{a b x y:Value}
theorem next_zipK {Q:Option Value->Shared->Prop}(D:ZipApart z TI TO i1 i2 l1 l2)(P1:Pull prog w A.in1 i1 l1 S1 xs)(P2:Pull prog w A.in1 i2 l2 S2 ys)(hz:IsZip s.heap z TI TO .none)(hTI:IsPair s.heap TI (.ref i1) (.ref i2))(hTO:IsPair s.heap TO a b)
  (h1:S1 k s.heap) (h2:S2 k s.heap) (hx:xs[k]? = some x) (hy:ys[k]? = some y)
  (hQ:∀ h',IsZip h' z TI TO (rawInt s.heap.objs.size)->IsPair h' TO x y->S1 (k + 1) h'->S2 (k + 1) h'->IsPair h' s.heap.objs.size x y ->
   (∀ c o,c ≠ z->c ≠ TO->c ≠ i1->c ≠ i2->s.heap.get? c = some o->h'.get? c = some o)->Q (some (.ref s.heap.objs.size)) { s with heap:=h' }):wpAny (model prog w) A (pyNext (.ref z)) Q E s:=by
 have hT:s.TypeIs (.ref z) "zip":=⟨_,hz,rfl⟩
 unfold pyNext
 exact wpAny_bind (wpAny_attempt (wpAny_callSpecial?_slot (name:=Str.ofString "__next__") hT F.slot_zip_next
  (wpAny_call_entry F.slot_zip_next hT F.entry_zip_next (zip_draw D P1 P2 hz hTI hTO h1 h2 hx hy fun h' a1 a2 a3 a4 a5 a6=>wpAny_pure (hQ h' a1 a2 a3 a4 a5 a6)) (F.args_zip_next_1 _))))
theorem end_zipK {Q:Option Value->Shared->Prop}(D:ZipApart z TI TO i1 i2 l1 l2)(P1:Pull prog w A.in1 i1 l1 S1 xs)(P2:Pull prog w A.in1 i2 l2 S2 ys)(hz:IsZip s.heap z TI TO .none)(hTI:IsPair s.heap TI (.ref i1) (.ref i2))(hTO:IsPair s.heap TO a b)
  (h1:S1 k s.heap) (h2:S2 k s.heap) (hend:xs[k]? = none\/ys[k]? = none)
  (hQ:∀ h',(∀ c o,c ≠ z->c ≠ TO->c ≠ i1->c ≠ i2->s.heap.get? c = some o->h'.get? c = some o)->Q none { s with heap:=h' }):wpAny (model prog w) A (pyNext (.ref z)) Q E s:=by
 have hT:s.TypeIs (.ref z) "zip":=⟨_,hz,rfl⟩
 unfold pyNext
 refine wpAny_bind (wpAny_attempt (wpAny_callSpecial?_slot (name:=Str.ofString "__next__") hT F.slot_zip_next
  (wpAny_call_entry F.slot_zip_next hT F.entry_zip_next (zip_drawn D P1 P2 hz hTI hTO h1 h2 hend fun h' e hk he=>?_) (F.args_zip_next_1 _))))
 obtain ⟨o,ho,hc⟩:=he
 exact wpAny_bind (wpAny_isInstance (T:="StopIteration") (b:=true) ⟨o,ho,hc⟩ isSubtype_stop (wpAny_pure (hQ _ hk)))
end
end AM
set_option genSizeOf false
namespace AM
open PySem PySem.Spec PyProof.Rows L2
noncomputable def listIt (n:Nat):AIt:=fun i h=>match h.ob n with
 | some (.lst _ xs)=>some xs[i]?
 | _=>none
noncomputable def valsIt (xs:List AV):AIt:=fun i _=>some xs[i]?
noncomputable def rngIt (lo:Int)(n:Nat):AIt:=fun i _=>some (if i < n then some (.int (lo + i)) else none)
noncomputable def enumIt (it:AIt):AIt:=fun i h=>match it i h with
 | some (some v)=>some (some (.tup [.int i,v]))
 | some none=>some none
 | none=>none
noncomputable def gIterZ (v:AV):M AIt:=fun h=>match v with
 | .tup xs=>.ok (valsIt xs) h
 | .ref n=>match h.ob n with
  | some (.lst _ _)=>.ok (listIt n) h
  | _=>.bad
 | _=>.bad
noncomputable def gIter (v:AV):M AIt:=match v with
 | .str z=>fun h=>.ok (valsIt ((sgs z).map AV.str)) h
 | v=>gIterZ v
noncomputable def rngOk (j:Int):Bool:=decide (-(2 ^ 62) <= j) && decide (j < 2 ^ 62)
noncomputable def gRange1 (xs:List AV):M AIt:=fun h=>match xs with
 | [.int j]=>if rngOk j = true then .ok (rngIt 0 j.toNat) h else .bad
 | _=>.bad
noncomputable def gRange2 (xs:List AV):M AIt:=fun h=>match xs with
 | [.int i,.int j]=>if (rngOk i && rngOk j) = true then .ok (rngIt i (j - i).toNat) h else .bad
 | _=>.bad
noncomputable def gEnum (v:AV):M AIt:=fun h=>match v with
 | .ref n=>match h.ob n with
  | some (.lst _ _)=>.ok (enumIt (listIt n)) h
  | _=>.bad
 | _=>.bad
section
variable {X:Cx}{T:Tab}{E:XK}{a b c e tg l:Expr}{es:List Expr}{ma mb mc m:ASt->M AV}{mr:ASt->M (List AV)}{pos p:Pos}{tl:TE}
theorem ri_list {ρ:List Addr}{H:Hp}{n:Nat}{a:Addr}(q:ρ[n]? = some a):RI T ρ H (listIt n) (Itl T.K a):=by
 intro ρ' h' H' i e R
 have q':=e.pre n a q
 unfold listIt
 cases o:h'.ob n with
 | none=>exact ⟨fun z=>(by cases z),fun v z=>(by cases z)⟩
 | some u =>
  cases u with
  | lst m xs =>
   obtain ⟨ys,h1,r⟩:=lst_sq R o q'
   refine ⟨fun z=>⟨ys,h1,?_⟩,fun v z=>?_⟩
   ·have z':xs[i]? = none:=Option.some.inj z
    rw [<- r.length];exact List.getElem?_eq_none_iff.mp z'
   ·have z':xs[i]? = some v:=Option.some.inj z
    obtain ⟨y,h2,rv⟩:=r.get z'
    refine ⟨⟨ys,y,h1,h2⟩,fun x H2 yl=>?_⟩
    obtain ⟨e2,k⟩:=yl
    subst e2
    have:=k ys h1
    rw [h2] at this
    cases this
    exact ⟨ρ',.refl,R,rv⟩
  | dct _=>exact ⟨fun z=>(by cases z),fun v z=>(by cases z)⟩
  | ins _ _=>exact ⟨fun z=>(by cases z),fun v z=>(by cases z)⟩
  | xo _=>exact ⟨fun z=>(by cases z),fun v z=>(by cases z)⟩
theorem ri_vals {ρ:List Addr}{H:Hp}{a:Addr}{xs:List AV}{ys:List V}(hq:SqT T.K H a ys)(r:RepVs T ρ H xs ys):RI T ρ H (valsIt xs) (Itt T.K a):=by
 intro ρ' h' H' i e R
 have r':=r.ext e
 have hq':=e.sqT hq
 unfold valsIt
 refine ⟨fun z=>⟨ys,hq',?_⟩,fun v z=>?_⟩
 ·have z':xs[i]? = none:=Option.some.inj z
  rw [<- r.length];exact List.getElem?_eq_none_iff.mp z'
 ·have z':xs[i]? = some v:=Option.some.inj z
  obtain ⟨y,h2,rv⟩:=r'.get z'
  refine ⟨⟨ys,y,hq',h2⟩,fun x H2 yl=>?_⟩
  obtain ⟨e2,k⟩:=yl
  subst e2
  have:=k ys hq'
  rw [h2] at this
  cases this
  exact ⟨ρ',.refl,R,rv⟩
theorem ri_rng {ρ:List Addr}{H:Hp}{lo:Int}{n:Nat}:RI T ρ H (rngIt lo n) (Itr lo n):=by
 intro ρ' h' H' i e R
 unfold rngIt
 by_cases hi:i < n
 ·rw [if_pos hi]
  refine ⟨fun z=>(by cases z),fun v z=>⟨hi,fun x H2 yl=>?_⟩⟩
  cases z
  obtain ⟨e2,e3⟩:=yl
  subst e2;subst e3
  exact ⟨ρ',.refl,R,.int _⟩
 ·rw [if_neg hi]
  exact ⟨fun _=>(by show n <= i;omega),fun v z=>(by cases z)⟩
theorem ri_sgs {ρ:List Addr}{H:Hp}{z:Str}:RI T ρ H (valsIt ((sgs z).map AV.str)) (Its z):=by
 intro ρ' h' H' i e R
 have hl:(sgs z).length = z.cps.size:=by simp [sgs]
 unfold valsIt
 refine ⟨fun q=>?_,fun v q=>?_⟩
 ·have q':((sgs z).map AV.str)[i]? = none:=Option.some.inj q
  have:=List.getElem?_eq_none_iff.mp q'
  rw [List.length_map,hl] at this
  exact this
 ·have q':((sgs z).map AV.str)[i]? = some v:=Option.some.inj q
  rw [List.getElem?_map] at q'
  obtain ⟨y,h2,rfl⟩:=Option.map_eq_some_iff.mp q'
  have hi:=(List.getElem?_eq_some_iff.mp h2).1
  refine ⟨by show i < z.cps.size;omega,fun x H2 yl=>?_⟩
  obtain ⟨e2,y',h3,e3⟩:=yl
  subst e2 e3
  rw [h2] at h3
  cases h3
  exact ⟨ρ',.refl,R,.str _⟩
noncomputable def iSeq (K:PySem.W.Frag)(tl:TE):TI:=fun σ H R=>tl σ H fun x H1 =>
 (∃ z,x = .str z/\R (Its z) H1) \/
 ∃ a,x = .ref a/\(((∃ xs,SqL K H1 a xs)/\R (Itl K a) H1)\/((∃ xs,SqT K H1 a xs)/\R (Itt K a) H1))
theorem pi_seq (hl:PE X l tl):PI X tg l (iSeq X.K tl):=by
 intro pins s σ H R I h
 refine thn (hl pins s σ H _ I h) fun v s1 ⟨x,H1,I1,r1,q1⟩=>?_
 rcases q1 with ⟨z,rfl,q⟩ | q1
 ·obtain ⟨t,rfl⟩:=r1
  exact str_pi I1 q
 obtain ⟨a,e,q⟩:=q1
 subst e
 cases r1
 rcases q with ⟨⟨xs,hq⟩,q⟩ | ⟨⟨xs,hq⟩,q⟩
 ·obtain ⟨its,rv,p,hz⟩:=I1.list hq
  refine wpAny_pyIter_list p.isList ?_
  refine ⟨s1.heap.objs.size,[s1.heap.objs.size],_,_,H1,rfl,I1.kept (t':=s1.toks) fun b o e=>Heap.get?_push_of_some _ e,turn_list a _,⟨_,Heap.get?_push_size _ rfl,rfl,rfl⟩,fun b hb=>?_,q⟩
  have e:b = s1.heap.objs.size:=by simpa using hb
  subst e
  exact I1.fpOk (Nat.le_refl _) (I1.hok.fresh (Nat.le_refl _))
 ·obtain ⟨its,rv,p,hz⟩:=I1.tuple hq
  refine wpAny_pyIter_tuple (show s1.heap.IsTuple a its.toArray from p) ?_
  refine ⟨s1.heap.objs.size,[s1.heap.objs.size],_,_,H1,rfl,I1.kept (t':=s1.toks) fun b o e=>Heap.get?_push_of_some _ e,turn_tuple a _,⟨_,Heap.get?_push_size _ rfl,rfl,rfl⟩,fun b hb=>?_,q⟩
  have e:b = s1.heap.objs.size:=by simpa using hb
  subst e
  exact I1.fpOk (Nat.le_refl _) (I1.hok.fresh (Nat.le_refl _))
theorem qi_bad:QI X T E tg e (fun _=>M.bad):=⟨fun _ _ _=>False,fun _ _ _ _ _ _ h=>h.elim,fun _ _ _ _ _ _ _ _ w=>w⟩
theorem qi_seq (hK:X.K = T.K)(ha:QE X T E l m):QI X T E tg l (fun σ=>(m σ).bind gIter):=by
 obtain ⟨tl,pl,rl⟩:=ha
 refine ⟨_,pi_seq pl,fun ρ σ σ' h H Q R S w=>rl ρ σ σ' h H _ R S (W.bind w fun ρ1 x x' h1 H1 e1 R1 q1 w1=>?_)⟩
 cases x with
 | tup xs =>
  cases q1 with
  | tup hq hr =>
   refine .inr ?_
   exact ⟨_,rfl,.inr ⟨⟨_,by rw [hK];exact hq⟩,by rw [hK];exact W.here w1 R1 (ri_vals hq hr)⟩⟩
 | str z =>
  cases q1
  exact .inl ⟨z,rfl,W.here w1 R1 ri_sgs⟩
 | ref n =>
  cases q1 with
  | @ref _ a q =>
   simp only [gIter,gIterZ] at w1
   cases o:h1.ob n with
   | none=>rw [o] at w1;exact w1.elim
   | some u =>
    rw [o] at w1
    cases u with
    | lst mu xs =>
     obtain ⟨ys,g1,r1⟩:=lst_sq R1 o q
     refine .inr ?_
     exact ⟨a,rfl,.inl ⟨⟨ys,by rw [hK];exact g1⟩,by rw [hK];exact W.here w1 R1 (ri_list q)⟩⟩
    | dct _=>exact w1.elim
    | ins _ _=>exact w1.elim
    | xo _=>exact w1.elim
 | _=>exact w1.elim
theorem rngOk_c {j:Int}(h:rngOk j = true):-(2 ^ 62) <= j/\j < 2 ^ 62:=by
 simp only [rngOk,Bool.and_eq_true,decide_eq_true_eq] at h
 exact h
theorem qi_range1 (hg:Gl X "range") (hm:X.mg "range" = none) (ha:QA X T E [a] mr) (hs:shp a = true):QI X T E tg (.Call (.Name "range" p) [a] [] pos) (fun σ=>(mr σ).bind gRange1):=by
 obtain ⟨tr,pr,rr⟩:=ha
 refine ⟨_,pi_range1 hg hm pr (by rw [shp_star hs];rfl),fun ρ σ σ' h H Q R S w=>rr ρ σ σ' h H _ R S (W.bind w fun ρ1 xs xs' h1 H1 e1 R1 q1 w1=>?_)⟩
 cases q1 with
 | nil=>exact w1.elim
 | cons r1 rs =>
  cases rs with
  | nil =>
   cases r1 with
   | int j =>
    simp only [gRange1] at w1
    by_cases hj:rngOk j = true
    ·rw [if_pos hj] at w1
     obtain ⟨h1,h2⟩:=rngOk_c hj
     exact ⟨j,rfl,h1,h2,W.here w1 R1 ri_rng⟩
    ·rw [if_neg hj] at w1;exact w1.elim
   | _=>exact w1.elim
  | cons r2 rs2=>cases r1 <;> exact w1.elim
theorem qi_range2 (hg:Gl X "range") (hm:X.mg "range" = none) (ha:QA X T E [a,b] mr) (hs:shp a = true) (hs2:shp b = true):QI X T E tg (.Call (.Name "range" p) [a,b] [] pos) (fun σ=>(mr σ).bind gRange2):=by
 obtain ⟨tr,pr,rr⟩:=ha
 refine ⟨_,pi_range2 hg hm pr (by rw [shp_star hs,shp_star hs2];rfl) (by rw [shp_star hs2];rfl),fun ρ σ σ' h H Q R S w=>rr ρ σ σ' h H _ R S (W.bind w fun ρ1 xs xs' h1 H1 e1 R1 q1 w1=>?_)⟩
 cases q1 with
 | nil=>exact w1.elim
 | cons r1 rs =>
  cases rs with
  | nil=>cases r1 <;> exact w1.elim
  | cons r2 rs2 =>
   cases rs2 with
   | nil =>
    cases r1 with
    | int i =>
     cases r2 with
     | int j =>
      simp only [gRange2] at w1
      by_cases hj:(rngOk i && rngOk j) = true
      ·rw [if_pos hj] at w1
       rw [Bool.and_eq_true] at hj
       obtain ⟨h1,h2⟩:=rngOk_c hj.1
       obtain ⟨h3,h4⟩:=rngOk_c hj.2
       exact ⟨i,j,rfl,⟨h1,h2,h3,h4⟩,W.here w1 R1 ri_rng⟩
      ·rw [if_neg hj] at w1;exact w1.elim
     | _=>exact w1.elim
    | _=>exact w1.elim
   | cons _ _=>cases r1 <;> first | exact w1.elim | (cases r2 <;> exact w1.elim)
noncomputable def Ite (K:PySem.W.Frag)(a:Addr):It :=
 ⟨fun i H=>∃ xs x,SqL K H a xs/\xs[i]? = some x,fun i H x H'=>∃ T y,H T = none/\x = .ref T/\H' = upd H T (.tup [.int i,y])/\∀ xs,SqL K H a xs->xs[i]? = some y,fun i H=>∃ xs,SqL K H a xs/\xs.length <= i⟩
theorem turned_tup {pins:List (Addr × Obj)}{σ:L2.St}{H:Hp}{s:Shared}{h':Heap}{tk:Nat}{ch:List Addr}{Tt:Addr}{ys:List V}{its:List Value}(I:Inv X pins σ H s)(hf:∀ b ∈ ch,FpOk X pins H b)
  (k:∀ b o,b ∉ ch->s.heap.get? b = some o->h'.get? b = some o) (th:∀ b ∈ ch,∃ o,h'.get? b = some o) (hT:s.heap.objs.size <= Tt) (ht:IsTup h' Tt its.toArray) (rv:Vals ys its) (hz:ys.length <= sizeLine) :
  Inv X pins σ (upd H Tt (.tup ys)) { s with heap:=h',toks:=tk }:=by
 have hn:H Tt = none:=I.hok.fresh hT
 have nch:∀ b u,H b = some u->b ∉ ch:=fun b u e hb=>by rw [(hf b hb).1] at e;cases e
 have lch:X.env.locals ∉ ch:=fun hb=>(hf _ hb).2.1 rfl
 refine I.step (g':=s.gens) (d':=s.drawn) (ch:=ch) (fun b hb=>⟨(hf b hb).2.2.2.1,(hf b hb).2.1,(hf b hb).2.2.2.2.1,(hf b hb).2.2.2.2.2⟩) (fun b o _ _ hc e _=>k b o hc e) (fun b o _ _ hc e _=>⟨o.slots,k b o hc e⟩)
  (fun b o _ e n=>by rw [upd_ne (Nat.ne_of_lt (Nat.lt_of_lt_of_le (Heap.lt_size e) hT))];exact n) (fun b o hc e=>⟨o,k b o hc e⟩)
  (fun b xs e=>by rw [upd_ne (ne_of_none e hn)];exact e) (fun b o u e=>by rw [upd_ne (ne_of_none e hn)];exact e) (fun b ps e=>⟨#[],by rw [upd_ne (ne_of_none e hn),e];simp⟩) (fun m hm=>?_) (fun b u e=>?_) I.bare
 ·obtain ⟨o,es,ep,ho,r⟩:=hm
  exact ⟨o,es,ep,k _ o lch ho,r⟩
 ·by_cases hb:b = Tt
  ·subst hb
   rw [upd_same] at e;cases e
   exact ⟨hz,its,rv,ht⟩
  ·rw [upd_ne hb] at e
   refine (I.hok b u e).stay (fun c v hc q=>k c v ?_ q) (fun c q=>by rw [upd_ne (ne_of_none q hn)];exact q) fun c xs q=>by rw [upd_ne (ne_of_none q hn)];exact q
   rcases hc with rfl | hc
   ·exact nch _ _ e
   ·exact nch _ _ hc
theorem turned0 {pins:List (Addr × Obj)}{σ:L2.St}{H:Hp}{s:Shared}{h':Heap}{tk:Nat}{ch:List Addr}(I:Inv X pins σ H s)(hf:∀ b ∈ ch,FpOk X pins H b)
  (k:∀ b o,b ∉ ch->s.heap.get? b = some o->h'.get? b = some o):Inv X pins σ H { s with heap:=h',toks:=tk }:=by
 have nch:∀ b u,H b = some u->b ∉ ch:=fun b u e hb=>by rw [(hf b hb).1] at e;cases e
 have lch:X.env.locals ∉ ch:=fun hb=>(hf _ hb).2.1 rfl
 refine I.step (g':=s.gens) (d':=s.drawn) (ch:=ch) (fun b hb=>⟨(hf b hb).2.2.2.1,(hf b hb).2.1,(hf b hb).2.2.2.2.1,(hf b hb).2.2.2.2.2⟩) (fun b o _ _ hc e _=>k b o hc e) (fun b o _ _ hc e _=>⟨o.slots,k b o hc e⟩)
  (fun b o _ e n=>n) (fun b o hc e=>⟨o,k b o hc e⟩) (fun b xs e=>e) (fun b o u e=>e) (fun b ps e=>⟨#[],by rw [e];simp⟩) (fun m hm=>?_) (fun b u e=>?_) I.bare
 ·obtain ⟨o,es,ep,ho,r⟩:=hm
  exact ⟨o,es,ep,k _ o lch ho,r⟩
 ·refine (I.hok b u e).stay (fun c v hc q=>k c v ?_ q) (fun c q=>q) fun c xs q=>q
  rcases hc with rfl | hc
  ·exact nch _ _ e
  ·exact nch _ _ hc
theorem turn_enum {P:Program}{w:World}{K:PySem.W.Frag}{elts:List Expr}{k:Nat}{tp:Pos}(a en it:Addr)(h1:en ≠ it)(h2:a ≠ en)(h3:a ≠ it) :
  Turn P w K (.Tuple elts k tp) (Ite K a) [en,it] en (fun i h=>(∃ old,IsEnum h en it i old)/\h.IsListIter it a i) where
 mem:=by simp
 obj:=fun i h st b hb=>by
  obtain ⟨⟨old,he⟩,o,e,c,d⟩:=st
  rcases List.mem_cons.mp hb with rfl | hb
  ·exact ⟨_,he,fun v z=>by cases z⟩
  ·have e':b = it:=by simpa using hb
   subst e'
   exact ⟨o,e,fun v z=>by rw [d] at z;cases z⟩
 keep:=fun i h h' st k=>by
  obtain ⟨⟨old,he⟩,hit⟩:=st
  exact ⟨⟨old,k en (by simp) _ he⟩,hit.at fun o e=>k it (by simp) o e⟩
 item:=by
  intro X hP hw hK hc i pins s σ H E I hf st hg
  subst hP hw hK
  obtain ⟨xs,x,hq,hx⟩:=hg
  obtain ⟨its,rv,p,hz⟩:=I.list hq
  obtain ⟨u,hu,ru⟩:=rv.get hx
  have hi:i < its.toArray.size:=by
   have:=(List.getElem?_eq_some_iff.mp hu).1
   simpa using this
  have W:=WalksT.enumerate (prog:=X.prog) (w:=X.w) (I.ok.hd hc) en it a h1 h2 h3 its.toArray
  refine W.item i s _ _ hi ⟨st.1,st.2,p.isList⟩ fun Tt vals h' tk hv hT htup hmid kk=>?_
  obtain ⟨t,x',hx',rfl⟩:=hv
  have ex:x' = u:=by
   have:its.toArray[i]? = some u:=by simpa using hu
   rw [this] at hx';exact (Option.some.inj hx').symm
  subst ex
  refine ⟨.ref Tt,rfl,?_⟩
  refine W.go elts k tp i Tt { s with heap:=h',toks:=tk } _ _ hmid fun h'' hst kk2=>?_
  obtain ⟨he2,hit2,hl2⟩:=hst
  have keep2:∀ b o,b ∉ [en,it]->s.heap.get? b = some o->h''.get? b = some o:=fun b o hb e=>kk2 b o hb (kk b o hb e)
  have htup2:IsTup h'' Tt #[.int i t,x']:=by
   obtain ⟨o,e,r⟩:=htup
   exact ⟨o,kk2 _ _ (W.apart i Tt _ hmid) e,r⟩
  have I2:Inv X pins σ (upd H Tt (.tup [.int i,x])) { s with heap:=h'',toks:=tk }:=turned_tup (its:=[.int i t,x']) I hf keep2 (fun b hb=>by
   obtain ⟨⟨old,he⟩,o,e,_⟩:=(⟨he2,hit2⟩:(∃ old,IsEnum h'' en it (i + 1) old)/\h''.IsListIter it a (i + 1))
   rcases List.mem_cons.mp hb with rfl | hb
   ·exact ⟨_,he⟩
   ·have e':b = it:=by simpa using hb
    subst e'
    exact ⟨o,e⟩) hT htup2 (.cons ⟨t,rfl⟩ (.cons ru .nil)) (by show 2 <= sizeLine;decide)
  have hn:H Tt = none:=I.hok.fresh hT
  refine ⟨.ref Tt,_,I2,rfl,⟨Tt,x,hn,rfl,rfl,fun zs hzs=>by rw [I.list_inj hzs hq];exact hx⟩,⟨he2,hit2⟩,fun b hb=>?_⟩
  have hb':b < s.heap.objs.size:=by
   obtain ⟨⟨old,he⟩,o,e,_⟩:=id st
   rcases List.mem_cons.mp hb with rfl | hb
   ·exact Heap.lt_size he
   ·have e':b = it:=by simpa using hb
    subst e'
    exact Heap.lt_size e
  rw [upd_ne (Nat.ne_of_lt (Nat.lt_of_lt_of_le hb' hT))]
  exact (hf b hb).1
 done:=by
  intro X hP hw hK hc i pins s σ H E I hf st hg
  subst hP hw hK
  obtain ⟨xs,hq,hx⟩:=hg
  obtain ⟨its,rv,p,hz⟩:=I.list hq
  have hl:=rv.length
  obtain ⟨⟨old,he⟩,hit⟩:=st
  exact wpAny_pyNext_enum_end (I.ok.hd hc) he hit p.isList (by simp;omega) fun h' eb=>⟨rfl,turned0 (tk:=s.toks) I hf fun b o hb e=>eb b o (fun z=>hb (by simp [z])) e⟩
 self:=fun A i s Q E st h=>by
  obtain ⟨⟨old,he⟩,_⟩:=st
  exact wpAny_pyIter_enum he h
noncomputable def iEnum (K:PySem.W.Frag)(ta:TA):TI:=fun σ H R=>ta σ H fun vs H1=>∃ a,vs = [.ref a]/\(∃ xs,SqL K H1 a xs)/\R (Ite K a) H1
theorem pi_enum {elts:List Expr} {k:Nat} {tp:Pos} {ta:TA} (hg:Gl X "enumerate") (hm:X.mg "enumerate" = none) (ha:PA X [a] ta) (hs:starEach [a] X.env = [(false,eval a X.env)]):PI X (.Tuple elts k tp) (.Call (.Name "enumerate" p) [a] [] pos) (iEnum X.K ta):=by
 intro pins s σ H R I h
 refine Call_ (ld_blt I hg hm boot_enumerate (PyProof.Rows.callWith_type1 (thn (ha pos pins s σ H _ I h) fun us s1 ⟨vs,H1,I1,r1,q1⟩=>?_) hs rfl))
 obtain ⟨a,e,⟨xs,hq⟩,q⟩:=q1
 subst e
 cases r1 with
 | cons r rr =>
  cases rr
  cases r
  obtain ⟨its,rv,p,hz⟩:=I1.list hq
  have ha:a < s1.heap.objs.size:=by obtain ⟨o,_,e,_⟩:=p;exact Heap.lt_size e
  refine call_enumerate_list p.isList fun h' he hit hsz kk=>?_
  have I2:Inv X pins σ H1 { s1 with heap:=h' }:=I1.kept (t':=s1.toks) kk
  refine wpAny_pyIter_enum he ?_
  refine ⟨s1.heap.objs.size + 1,[s1.heap.objs.size + 1,s1.heap.objs.size],_,_,H1,rfl,I2,turn_enum a _ _ (Nat.ne_of_gt (Nat.lt_succ_self _)) (Nat.ne_of_lt (Nat.lt_succ_of_lt ha)) (Nat.ne_of_lt ha),⟨⟨_,he⟩,hit⟩,fun b hb=>?_,q⟩
  rcases List.mem_cons.mp hb with rfl | hb
  ·exact I1.fpOk (Nat.le_succ _) (I1.hok.fresh (Nat.le_succ _))
  ·have e':b = s1.heap.objs.size:=by simpa using hb
   subst e'
   exact I1.fpOk (Nat.le_refl _) (I1.hok.fresh (Nat.le_refl _))
theorem ri_enum {ρ:List Addr}{H:Hp}{n:Nat}{a:Addr}(q:ρ[n]? = some a):RI T ρ H (enumIt (listIt n)) (Ite T.K a):=by
 intro ρ' h' H' i e R
 obtain ⟨h1,h2⟩:=ri_list (T:=T) (H:=H) q ρ' h' H' i e R
 unfold enumIt
 cases o:listIt n i h' with
 | none=>exact ⟨fun z=>(by cases z),fun v z=>(by cases z)⟩
 | some u =>
  cases u with
  | none=>exact ⟨fun _=>h1 o,fun v z=>(by cases z)⟩
  | some v =>
   refine ⟨fun z=>(by cases z),fun v' z=>?_⟩
   cases z
   obtain ⟨g1,g2⟩:=h2 v o
   refine ⟨g1,fun x H2 yl=>?_⟩
   obtain ⟨Tt,y,hn,rfl,rfl,k⟩:=yl
   obtain ⟨ρ2,e2,R2,rv⟩:=g2 y H' ⟨rfl,k⟩
   exact ⟨ρ2,⟨e2.pre,(Ext.upd_new (ρ:=ρ') hn).tup,(Ext.upd_new (ρ:=ρ') hn).frz⟩,R2.keep hn,.tup (.of upd_same) (.cons (.int _) (.cons (rv.ext (.upd_new hn)) .nil))⟩
theorem qi_enum {elts:List Expr} {k:Nat} {tp:Pos} (hK:X.K = T.K) (hg:Gl X "enumerate") (hm:X.mg "enumerate" = none) (ha:QE X T E a m) (hs:shp a = true) :
  QI X T E (.Tuple elts k tp) (.Call (.Name "enumerate" p) [a] [] pos) (fun σ=>(m σ).bind gEnum):=by
 obtain ⟨ta,pa,ra⟩:=ha
 refine ⟨_,pi_enum hg hm (pa_cons pa pa_nil (shp_star hs)) (by rw [shp_star hs];rfl),fun ρ σ σ' h H Q R S w=>ra ρ σ σ' h H _ R S (W.bind w fun ρ1 x x' h1 H1 e1 R1 q1 w1=>?_)⟩
 cases x with
 | ref n =>
  cases q1 with
  | @ref _ a q =>
   simp only [gEnum] at w1
   cases o:h1.ob n with
   | none=>rw [o] at w1;exact w1.elim
   | some u =>
    rw [o] at w1
    cases u with
    | lst mu xs =>
     obtain ⟨ys,g1,r1⟩:=lst_sq R1 o q
     exact ⟨a,rfl,⟨ys,by rw [hK];exact g1⟩,by rw [hK];exact W.here w1 R1 (ri_enum q)⟩
    | dct _=>exact w1.elim
    | ins _ _=>exact w1.elim
    | xo _=>exact w1.elim
 | _=>exact w1.elim
noncomputable def cutA (xs:List AV)(lo hi:Option Int):List AV:=(xs.drop (HT.sIx xs.length 0 lo)).take (HT.sIx xs.length xs.length hi - HT.sIx xs.length 0 lo)
theorem cut_rep {ρ:List Addr}{H:Hp}{xs:List AV}{ys:List V}(r:RepVs T ρ H xs ys)(lo hi:Option Int):RepVs T ρ H (cutA xs lo hi) (cutV ys lo hi):=by
 unfold cutA cutV
 rw [<- r.length]
 exact (r.drop _).take _
noncomputable def gSl (x:AV)(lo hi:Option Int):M AV:=fun h=>match x with
 | .ref n=>match h.ob n with
  | some (.lst _ xs)=>newL (cutA xs lo hi) h
  | _=>.bad
 | .tup xs=>if HT.sIx xs.length 0 lo = 0/\HT.sIx xs.length xs.length hi = xs.length then .bad else .ok (.tup (cutA xs lo hi)) h
 | .str z=>if z.length <= sizeLine then .ok (.str (Txt.slice z lo hi)) h else .bad
 | _=>.bad
noncomputable def RPt:Rl (Option Int) (Option Int):=fun _ _ a b=>a = b
noncomputable def QO (X:Cx)(T:Tab)(E:XK)(o:Option Expr)(m:ASt->M (Option Int)):Prop :=
 ∃ t,PO X o t/\∀ ρ σ σ' h H Q,RepH T ρ h H->RepS T ρ H σ σ'->W T RPt (m σ h) ρ H Q E->t σ' H Q
noncomputable def gPart (v:AV):M (Option Int):=fun h=>match v with
 | .int i=>.ok (some i) h
 | _=>.bad
theorem qo_none:QO X T E none (fun _=>M.ret none):=⟨_,po_none,fun ρ σ σ' h H Q R S w=>W.here w R rfl⟩
theorem qo_some (ha:QE X T E a m):QO X T E (some a) (fun σ=>(m σ).bind gPart):=by
 obtain ⟨ta,pa,ra⟩:=ha
 refine ⟨_,po_some pa,fun ρ σ σ' h H Q R S w=>ra ρ σ σ' h H _ R S (W.bind w fun ρ1 x x' h1 H1 e1 R1 q1 w1=>?_)⟩
 cases x with
 | int i=>cases q1;exact ⟨i,rfl,W.here w1 R1 rfl⟩
 | _=>exact w1.elim
theorem qe_slice (hK:X.K = T.K){lo hi:Option Expr}{p2:Pos}{ml mh:ASt->M (Option Int)}(ha:QE X T E a m)(hl:QO X T E lo ml)(hh:QO X T E hi mh) :
  QE X T E (.Subscript a (.Slice lo hi none p2) pos) (fun σ=>(m σ).bind fun x=>(ml σ).bind fun l=>(mh σ).bind fun u=>gSl x l u):=by
 obtain ⟨ta,pa,ra⟩:=ha
 obtain ⟨tl,pl,rl⟩:=hl
 obtain ⟨th,ph,rh⟩:=hh
 refine ⟨_,pe_slice ((sl_list.or sl_tup).or sl_str) pa pl ph,fun ρ σ σ' h H Q R S w=>ra ρ σ σ' h H _ R S (W.bind w fun ρ1 x x' h1 H1 e1 R1 q1 w1=>?_)⟩
 refine rl ρ1 σ σ' h1 H1 _ R1 (S.ext e1) (W.bind w1 fun ρ2 l l' h2 H2 e2 R2 q2 w2=>?_)
 refine rh ρ2 σ σ' h2 H2 _ R2 ((S.ext e1).ext e2) (W.bind w2 fun ρ3 u u' h3 H3 e3 R3 q3 w3=>?_)
 cases (show l = l' from q2)
 cases (show u = u' from q3)
 have q1':=(q1.ext e2).ext e3
 cases x with
 | ref n =>
  cases q1' with
  | @ref _ a q =>
   simp only [gSl] at w3
   cases o:h3.ob n with
   | none=>rw [o] at w3;exact w3.elim
   | some ob =>
    rw [o] at w3
    cases ob with
    | lst mu xs =>
     obtain ⟨ys,g1,r1⟩:=lst_sq R3 o q
     refine .inl ?_
     exact .inl ⟨a,ys,rfl,by rw [hK];exact g1,fun p hp=>newL_W R3 (cut_rep r1 l u) hp w3⟩
    | dct _=>exact w3.elim
    | ins _ _=>exact w3.elim
    | xo _=>exact w3.elim
 | tup xs =>
  cases q1' with
  | @tup a _ ys hq hr =>
   simp only [gSl] at w3
   by_cases hw:HT.sIx xs.length 0 l = 0/\HT.sIx xs.length xs.length u = xs.length
   ·rw [if_pos hw] at w3;exact w3.elim
   ·rw [if_neg hw] at w3
    refine .inl ?_
    refine .inr ⟨a,ys,rfl,by rw [hK];exact hq,by rw [<- hr.length];exact hw,fun p hp=>newT_W R3 (cut_rep hr l u) hp w3⟩
 | str z =>
  cases q1'
  simp only [gSl] at w3
  by_cases hz:z.length <= sizeLine
  ·rw [if_pos hz] at w3
   exact .inr ⟨z,rfl,Nat.le_trans (Txt.slice_le ..) hz,W.here w3 R3 (.str _)⟩
  ·rw [if_neg hz] at w3;exact w3.elim
 | _=>exact w3.elim
noncomputable def gLen (xs:List AV):M AV:=fun h=>match xs with
 | [.str z]=>if z.length <= sizeLine then .ok (.int z.length) h else .bad
 | [x]=>match seqOf h x with
  | some ys=>.ok (.int ys.length) h
  | none=>.bad
 | _=>.bad
noncomputable def gIntC (xs:List AV):M AV:=fun h=>match xs with
 | [.int i]=>.ok (.int i) h
 | [.bl k]=>.ok (.int (if k then 1 else 0)) h
 | [.str z]=>if z.length <= 640 then match intText? z with
  | some n=>.ok (.int n) h
  | none=>.bad
  else .bad
 | _=>.bad
noncomputable def int2:List AV->Option (Int × Int)
 | [.int i,.int j]=>some (i,j)
 | _=>none
noncomputable def one1:List AV->Option AV
 | [x]=>some x
 | _=>none
noncomputable def gMin (xs:List AV):M AV:=fun h=>match int2 xs with
 | some (i,j)=>.ok (.int (if j < i then j else i)) h
 | none=>.bad
noncomputable def gMax (xs:List AV):M AV:=fun h=>match int2 xs with
 | some (i,j)=>.ok (.int (if j > i then j else i)) h
 | none=>.bad
noncomputable def gDivmod (xs:List AV):M AV:=fun h=>match int2 xs with
 | some (i,j)=>if divOk j = true then .ok (.tup [.int (i / j),.int (i % j)]) h else .bad
 | none=>.bad
noncomputable def kAV:Key->AV
 | .inl i=>.int i
 | .inr x=>.str x
noncomputable def dkOf (h:AH):AV->Option (List AV)
 | .ref n=>match h.ob n with
  | some (.dct kvs)=>some (kvs.map fun p=>kAV p.1)
  | _=>none
 | _=>none
noncomputable def gTuple (xs:List AV):M AV:=fun h=>match (one1 xs).bind (seqOf h) with
 | some ys=>.ok (.tup ys) h
 | none=>.bad
noncomputable def gList (xs:List AV):M AV:=fun h=>match (one1 xs).bind (seqOf h) with
 | some ys=>newL ys h
 | none=>.bad
theorem int2_eq {xs:List AV}{i j:Int}(h:int2 xs = some (i,j)):xs = [.int i,.int j]:=by
 unfold int2 at h
 split at h
 ·cases h;rfl
 ·cases h
theorem one1_eq {xs:List AV}{x:AV}(h:one1 xs = some x):xs = [x]:=by
 unfold one1 at h
 split at h
 ·cases h;rfl
 ·cases h
theorem cs_len (hK:X.K = T.K):CallS X T E (.builtin "len") gLen:=by
 refine ⟨_,call_len_seq.or call_len_str,fun ρ h H xs xs' Q R r w=>?_⟩
 cases r with
 | nil=>exact w.elim
 | @cons x x' _ _ r1 rs =>
  cases rs with
  | nil =>
   have go:(∀ z,x ≠ .str z)->(∃ p ys,[x'] = [.ref p]/\(SqL X.K H p ys\/SqT X.K H p ys)/\Q (.int ys.length) H):=fun nz=>by
    have w':W T (RepV T) (match seqOf h x with
     | some ys=>Res.ok (.int ys.length) h
     | none=>.bad) ρ H Q E:=by
      cases x with
      | str z=>exact absurd rfl (nz z)
      | _=>exact w
    cases o:seqOf h x with
    | none=>rw [o] at w';exact w'.elim
    | some ys =>
     rw [o] at w'
     obtain ⟨p,zs,e,hq,hr⟩:=seq_V R r1 o
     refine ⟨p,zs,by rw [e],by rw [hK];exact hq,?_⟩
     rw [<- hr.length]
     exact w'.here R (.int _)
   cases x with
   | str z =>
    cases r1
    simp only [gLen] at w
    by_cases hz:z.length <= sizeLine
    ·rw [if_pos hz] at w;exact .inr ⟨z,rfl,hz,w.here R (.int _)⟩
    ·rw [if_neg hz] at w;exact w.elim
   | _=>exact .inl (go fun z e=>by cases e)
  | cons r2 rs2=>cases x <;> exact w.elim
theorem cs_int:CallS X T E (.type "int") gIntC:=by
 refine ⟨_,call_int1.or call_intT,fun ρ h H xs xs' Q R r w=>?_⟩
 cases r with
 | nil=>exact w.elim
 | cons r1 rs =>
  cases rs with
  | nil =>
   cases r1 with
   | int i =>
    refine .inl ?_
    exact .inl ⟨i,rfl,W.here w R (.int _)⟩
   | bl k =>
    refine .inl ?_
    exact .inr ⟨k,rfl,W.here w R (.int _)⟩
   | str z =>
    simp only [gIntC] at w
    by_cases hz:z.length <= 640
    ·rw [if_pos hz] at w
     cases hn:intText? z with
     | none=>rw [hn] at w;exact w.elim
     | some n=>rw [hn] at w;exact .inr ⟨z,n,rfl,hz,hn,W.here w R (.int _)⟩
    ·rw [if_neg hz] at w;exact w.elim
   | _=>exact w.elim
  | cons r2 rs2=>cases r1 <;> exact w.elim
noncomputable def gStr (xs:List AV):M AV:=fun h=>match xs with
 | [.int i]=>if i.natAbs.log2 < 1920 then .ok (.str (toString i)) h else .bad
 | _=>.bad
theorem cs_str:CallS X T E (.type "str") gStr:=by
 refine ⟨_,call_str_int,fun ρ h H xs xs' Q R r w=>?_⟩
 cases r with
 | nil=>exact w.elim
 | cons r1 rs =>
  cases rs with
  | nil =>
   cases r1 with
   | int i =>
    by_cases hi:i.natAbs.log2 < 1920
    ·simp only [gStr,if_pos hi] at w
     exact ⟨i,rfl,hi,W.here w R (.str _)⟩
    ·simp only [gStr,if_neg hi] at w
     exact w.elim
   | _=>exact w.elim
  | cons r2 rs2=>cases r1 <;> exact w.elim
theorem cs_two {f:Value}{k:Int->Int->M AV}{r:List V->Hp->VK->Prop}(hr:CallR X f r)
  (hw:∀ ρ h H i j Q,RepH T ρ h H->W T (RepV T) (k i j h) ρ H Q E->r [.int i,.int j] H Q):CallS X T E f (fun xs h=>match int2 xs with
   | some (i,j)=>k i j h
   | none=>.bad):=by
 refine ⟨_,hr,fun ρ h H xs xs' Q R rr w=>?_⟩
 cases o:int2 xs with
 | none=>simp only [o] at w;exact w.elim
 | some q =>
  obtain ⟨i,j⟩:=q
  simp only [o] at w
  have e:=int2_eq o
  subst e
  cases rr with
  | cons r1 rs =>
   cases r1
   cases rs with
   | cons r2 rs2 =>
    cases r2
    cases rs2
    exact hw ρ h H i j Q R w
theorem cs_min (hc:X.calm = true):CallS X T E (.builtin "min") gMin:=cs_two (k:=fun i j h=>.ok (.int (if j < i then j else i)) h) (call_min2 hc) fun ρ h H i j Q R w=>⟨i,j,rfl,W.here w R (.int _)⟩
theorem cs_max (hc:X.calm = true):CallS X T E (.builtin "max") gMax:=cs_two (k:=fun i j h=>.ok (.int (if j > i then j else i)) h) (call_max2 hc) fun ρ h H i j Q R w=>⟨i,j,rfl,W.here w R (.int _)⟩
theorem call_divmodW:CallR X (.builtin "divmod") (fun xs H Q=>∃ i j,xs = [.int i,.int j]/\(0 < j/\j < 2 ^ 1000)/\∀ p,H p = none->Q (.ref p) (upd H p (.tup [.int (i / j),.int (i % j)]))):=by
 intro pins s σ H xs us Q I r h
 obtain ⟨i,j,rfl,⟨h1,h2⟩,q⟩:=h
 obtain ⟨u,w',rfl,⟨t,rfl⟩,⟨t',rfl⟩⟩:=vals2 r
 refine divmod_int (by omega) ?_ (.inl (PyProof.noPylong_of_log2 (log2_lt h2 h1)))
 rw [Int.fdiv_eq_ediv_of_nonneg i (by omega),Int.fmod_eq_emod_of_nonneg i (by omega)]
 have hn:H s.heap.objs.size = none:=I.hok.fresh (Nat.le_refl _)
 refine ⟨.ref s.heap.objs.size,_,?_,rfl,q _ hn⟩
 refine I.laid (fun b o e=>Heap.get?_push_of_some _ e) (Nat.le_refl _) ⟨by simp only [List.length_cons,List.length_nil];rw [sizeLine_eq];decide,[.int (i / j) s.toks,.int (i % j) (s.toks + 1)],.cons ⟨_,rfl⟩ (.cons ⟨_,rfl⟩ .nil),?_⟩
 exact ⟨_,Heap.get?_push_size s.heap rfl,rfl,0,rfl⟩
theorem cs_divmod:CallS X T E (.builtin "divmod") gDivmod:=cs_two (k:=fun i j h=>if divOk j = true then .ok (.tup [.int (i / j),.int (i % j)]) h else .bad) call_divmodW fun ρ h H i j Q R w=>by
 by_cases hj:divOk j = true
 ·simp only [if_pos hj] at w
  exact ⟨i,j,rfl,divOk_c hj,fun p hp=>newT_W R (.cons (.int _) (.cons (.int _) .nil)) hp w⟩
 ·simp only [if_neg hj] at w;exact w.elim
theorem one_seq {ρ:List Addr}{h:AH}{H:Hp}{xs:List AV}{xs':List V}{Q:VK}{k:List AV->M AV}(R:RepH T ρ h H)(r:RepVs T ρ H xs xs')(w:W T (RepV T) ((match (one1 xs).bind (seqOf h) with
  | some ys=>k ys h
  | none=>.bad:Res AV)) ρ H Q E):∃ p ys zs,xs' = [.ref p]/\(SqL T.K H p zs\/SqT T.K H p zs)/\RepVs T ρ H ys zs/\W T (RepV T) (k ys h) ρ H Q E:=by
 cases o1:one1 xs with
 | none=>rw [o1] at w;exact w.elim
 | some x =>
  rw [o1] at w
  simp only [Option.bind_some] at w
  have e:=one1_eq o1
  subst e
  cases r with
  | cons r1 rs =>
   cases rs
   cases o:seqOf h x with
   | none=>rw [o] at w;exact w.elim
   | some ys =>
    rw [o] at w
    obtain ⟨p,zs,e,hq,hr⟩:=seq_V R r1 o
    exact ⟨p,ys,zs,by rw [e],hq,hr,w⟩
theorem cs_tuple (hK:X.K = T.K):CallS X T E (.type "tuple") gTuple:=by
 refine ⟨_,call_tuple_of,fun ρ h H xs xs' Q R r w=>?_⟩
 obtain ⟨p,ys,zs,rfl,hq,hr,w'⟩:=one_seq (k:=fun ys h=>.ok (.tup ys) h) R r w
 rcases hq with hq | hq
 ·exact ⟨p,zs,rfl,.inl ⟨by rw [hK];exact hq,fun l hl=>newT_W R hr hl w'⟩⟩
 ·exact ⟨p,zs,rfl,.inr ⟨by rw [hK];exact hq,W.here w' R (.tup hq hr)⟩⟩
theorem cs_list (hK:X.K = T.K)(hc:X.calm = true):CallS X T E (.type "list") gList:=by
 refine ⟨_,call_list_of,fun ρ h H xs xs' Q R r w=>?_⟩
 obtain ⟨p,ys,zs,rfl,hq,hr,w'⟩:=one_seq (k:=fun ys h=>newL ys h) R r w
 exact ⟨p,zs,rfl,by rw [hK];exact hq,fun l hl=>newL_W R hr hl w'⟩
theorem qe_callB {x:Str} {id:String} {g:List AV->M AV} (hc:CallS X T E (.builtin id) g) (hg:Gl X x) (hm:X.mg x = none) (hv:bootBuiltins x = some (.builtin id)) (ha:QA X T E (e :: es) mr) (hs:(e :: es).all shp = true) (hn:x ≠ "__name__") (hd:(x == ("__debug__":Str)) = false) :
  QE X T E (.Call (.Name x p) (e :: es) [] pos) (fun σ=>(mr σ).bind g):=by
 obtain ⟨r,hr,hgg⟩:=hc
 obtain ⟨tr,pr,rr⟩:=ha
 rw [List.all_cons,Bool.and_eq_true] at hs
 exact ⟨_,pe_callB hr hg hm hv pr hn hd (shp_star hs.1) (shp_any hs.2),fun ρ σ σ' h H Q R S w=>rr ρ σ σ' h H _ R S (W.bind w fun ρ1 xs xs' h1 H1 e1 R1 q1 w1=>hgg ρ1 h1 H1 xs xs' Q R1 q1 w1)⟩
theorem qe_callTy {x:Str} {id:String} {g:List AV->M AV} (hc:CallS X T E (.type id) g) (hg:Gl X x) (hm:X.mg x = none) (hv:bootBuiltins x = some (.type id)) (ha:QA X T E (e :: es) mr) (hs:(e :: es).all shp = true) (hn:x ≠ "__name__") (hd:(x == ("__debug__":Str)) = false) :
  QE X T E (.Call (.Name x p) (e :: es) [] pos) (fun σ=>(mr σ).bind g):=by
 obtain ⟨r,hr,hgg⟩:=hc
 obtain ⟨tr,pr,rr⟩:=ha
 rw [List.all_cons,Bool.and_eq_true] at hs
 exact ⟨_,pe_callTy hr hg hm hv pr hn hd (shp_star hs.1) (shp_any hs.2),fun ρ σ σ' h H Q R S w=>rr ρ σ σ' h H _ R S (W.bind w fun ρ1 xs xs' h1 H1 e1 R1 q1 w1=>hgg ρ1 h1 H1 xs xs' Q R1 q1 w1)⟩
end
end AM
namespace AM
open PySem PySem.Spec PyProof.Rows L2
noncomputable def Itz (kd1 kd2:Bool)(K:PySem.W.Frag)(a b:Addr):It :=
  ⟨fun i H=>∃ xs ys x y,SqK kd1 K H a xs/\SqK kd2 K H b ys/\xs[i]? = some x/\ys[i]? = some y,
   fun i H x H'=>∃ T u v,H T = none/\x = .ref T/\H' = upd H T (.tup [u,v])/\(∀ xs,SqK kd1 K H a xs->xs[i]? = some u)/\∀ ys,SqK kd2 K H b ys->ys[i]? = some v,
   fun i H=>∃ xs ys,SqK kd1 K H a xs/\SqK kd2 K H b ys/\(xs[i]? = none\/ys[i]? = none)⟩
section
variable {X:Cx}{T:Tab}{E:XK}{a b c e tg l:Expr}{es:List Expr}{ma mb m:ASt->M AV}{mr:ASt->M (List AV)}{pos p:Pos}
theorem sq_ar {pins:List (Addr × Obj)}{σ:L2.St}{H:Hp}{s:Shared}{kd:Bool}{l:Addr}{xs:List V}(I:Inv X pins σ H s)(h:SqK kd X.K H l xs):∃ its:List Value,Vals xs its/\ArK kd s.heap l its.toArray:=by
 cases kd with
 | true=>obtain ⟨its,rv,p,_⟩:=I.list h;exact ⟨its,rv,p.isList⟩
 | false=>obtain ⟨its,rv,p,_⟩:=I.tuple h;exact ⟨its,rv,p⟩
theorem sq_inj {pins:List (Addr × Obj)}{σ:L2.St}{H:Hp}{s:Shared}{kd:Bool}{l:Addr}{xs ys:List V}(I:Inv X pins σ H s)(h:SqK kd X.K H l xs)(h':SqK kd X.K H l ys):xs = ys:=by
 cases kd with
 | true=>exact I.list_inj h h'
 | false=>exact I.tuple_inj h h'
theorem turn_zip {P:Program}{w:World}{K:PySem.W.Frag}{elts:List Expr}{k:Nat}{tp:Pos}(kd1 kd2:Bool){z TI TO i1 i2 l1 l2:Addr}(D:ZipApart z TI TO i1 i2 l1 l2) :
  Turn P w K (.Tuple elts k tp) (Itz kd1 kd2 K l1 l2) [z,TI,TO,i1,i2] z (fun i h=>IsZip h z TI TO .none/\IsPair h TI (.ref i1) (.ref i2)/\(∃ a b,IsPair h TO a b)/\ItK kd1 h i1 l1 i/\ItK kd2 h i2 l2 i) where
 mem:=by simp
 obj:=fun i h st b hb=>by
  obtain ⟨hz,hTI,⟨a,b',hTO⟩,h1,h2⟩:=st
  simp only [List.mem_cons,List.not_mem_nil,or_false] at hb
  rcases hb with rfl | rfl | rfl | rfl | rfl
  ·exact ⟨_,hz,fun v q=>by cases q⟩
  ·exact ⟨_,hTI,fun v q=>by cases q⟩
  ·exact ⟨_,hTO,fun v q=>by cases q⟩
  ·exact h1.live
  ·exact h2.live
 keep:=fun i h h' st kk=>by
  obtain ⟨hz,hTI,⟨a,b',hTO⟩,h1,h2⟩:=st
  exact ⟨kk z (by simp) _ hz,kk TI (by simp) _ hTI,⟨a,b',kk TO (by simp) _ hTO⟩,h1.at fun o e=>kk i1 (by simp) o e,h2.at fun o e=>kk i2 (by simp) o e⟩
 item:=by
  intro X hP hw hK hc i pins s σ H E I hf st hg
  subst hP hw hK
  obtain ⟨xs,ys,x,y,hq1,hq2,hx,hy⟩:=hg
  obtain ⟨its1,rv1,p1⟩:=sq_ar I hq1
  obtain ⟨its2,rv2,p2⟩:=sq_ar I hq2
  obtain ⟨u1,hu1,ru1⟩:=rv1.get hx
  obtain ⟨u2,hu2,ru2⟩:=rv2.get hy
  obtain ⟨hz,hTI,⟨a,b',hTO⟩,h1,h2⟩:=id st
  have hh:X.A.in1.handled = none:=I.ok.hd hc
  refine next_zipK D (Pull.kd hh kd1 D.l1i1 its1.toArray) (Pull.kd hh kd2 D.l2i2 its2.toArray) hz hTI hTO ⟨h1,p1⟩ ⟨h2,p2⟩ (x:=u1) (y:=u2) (by simpa using hu1) (by simpa using hu2) fun h' z' t' s1 s2 new kk=>?_
  refine ⟨_,rfl,?_⟩
  refine wpAny_letOwnedTupleGo_zip z' fun h'' z'' sb=>?_
  have lt:∀ {c:Addr} {o:Obj},s.heap.get? c = some o->s.heap.objs.size ≠ c:=fun e=>Nat.ne_of_gt (Heap.lt_size e)
  have keep2:∀ c o,c ∉ [z,TI,TO,i1,i2]->s.heap.get? c = some o->h''.get? c = some o:=fun c o hc e=>by
   simp only [List.mem_cons,List.not_mem_nil,or_false,not_or] at hc
   exact sb.extBut _ _ hc.1 (kk c o hc.1 hc.2.2.1 hc.2.2.2.1 hc.2.2.2.2 e)
  have hTI2:IsPair h'' TI (.ref i1) (.ref i2):=sb.extBut _ _ D.TIz (kk _ _ D.TIz D.TITO D.TIi1 D.TIi2 hTI)
  have hTO2:IsPair h'' TO u1 u2:=sb.extBut _ _ D.TOz t'
  have s1':ItK kd1 h'' i1 l1 (i + 1):=s1.1.at fun o e=>sb.extBut _ _ D.i1z e
  have s2':ItK kd2 h'' i2 l2 (i + 1):=s2.1.at fun o e=>sb.extBut _ _ D.i2z e
  have new2:IsPair h'' s.heap.objs.size u1 u2:=sb.extBut _ _ (lt hz) new
  have I2:Inv X pins σ (upd H s.heap.objs.size (.tup [x,y])) { s with heap:=h'' }:=turned_tup (tk:=s.toks) (its:=[u1,u2]) I hf keep2 (fun c hc=>by
   simp only [List.mem_cons,List.not_mem_nil,or_false] at hc
   rcases hc with rfl | rfl | rfl | rfl | rfl
   ·exact ⟨_,z''⟩
   ·exact ⟨_,hTI2⟩
   ·exact ⟨_,hTO2⟩
   ·exact let ⟨o,e,_⟩:=s1'.live;⟨o,e⟩
   ·exact let ⟨o,e,_⟩:=s2'.live;⟨o,e⟩) (Nat.le_refl _) ⟨_,new2,rfl,_,rfl⟩ (.cons ru1 (.cons ru2 .nil)) (by show 2 <= sizeLine;decide)
  have hn:H s.heap.objs.size = none:=I.hok.fresh (Nat.le_refl _)
  refine ⟨.ref s.heap.objs.size,_,I2,rfl,⟨_,x,y,hn,rfl,rfl,fun zs hzs=>by rw [sq_inj I hzs hq1];exact hx,fun zs hzs=>by rw [sq_inj I hzs hq2];exact hy⟩,⟨z'',hTI2,⟨_,_,hTO2⟩,s1',s2'⟩,fun c hc=>?_⟩
  have hc':s.heap.objs.size ≠ c:=by
   simp only [List.mem_cons,List.not_mem_nil,or_false] at hc
   rcases hc with rfl | rfl | rfl | rfl | rfl
   ·exact lt hz
   ·exact lt hTI
   ·exact lt hTO
   ·exact let ⟨o,e,_⟩:=h1.live;lt e
   ·exact let ⟨o,e,_⟩:=h2.live;lt e
  rw [upd_ne hc'.symm]
  exact (hf c hc).1
 done:=by
  intro X hP hw hK hc i pins s σ H E I hf st hg
  subst hP hw hK
  obtain ⟨xs,ys,hq1,hq2,hend⟩:=hg
  obtain ⟨its1,rv1,p1⟩:=sq_ar I hq1
  obtain ⟨its2,rv2,p2⟩:=sq_ar I hq2
  obtain ⟨hz,hTI,⟨a,b',hTO⟩,h1,h2⟩:=id st
  have hh:X.A.in1.handled = none:=I.ok.hd hc
  refine end_zipK D (Pull.kd hh kd1 D.l1i1 its1.toArray) (Pull.kd hh kd2 D.l2i2 its2.toArray) hz hTI hTO ⟨h1,p1⟩ ⟨h2,p2⟩ ?_ fun h' kk=>⟨rfl,turned0 (tk:=s.toks) I hf fun c o hc e=>?_⟩
  ·rcases hend with q | q
   ·exact .inl (by simpa using rv1.none_of q)
   ·exact .inr (by simpa using rv2.none_of q)
  ·simp only [List.mem_cons,List.not_mem_nil,or_false,not_or] at hc
   exact kk c o hc.1 hc.2.2.1 hc.2.2.2.1 hc.2.2.2.2 e
 self:=fun A i s Q E st h=>wpAny_pyIter_zip st.1 h
theorem zapart (n a b:Nat)(ha:a < n)(hb:b < n):ZipApart (n + 4) (n + 2) (n + 3) n (n + 1) a b :=
 ⟨Nat.ne_of_lt (by omega),Nat.ne_of_lt (by omega),Nat.ne_of_lt (by omega),Nat.ne_of_lt (by omega),Nat.ne_of_lt (by omega),Nat.ne_of_gt (by omega),Nat.ne_of_gt (by omega),Nat.ne_of_gt (by omega),Nat.ne_of_gt (by omega),Nat.ne_of_lt (by omega),
  Nat.ne_of_lt (by omega),Nat.ne_of_lt (by omega),Nat.ne_of_lt (by omega),Nat.ne_of_lt (by omega),Nat.ne_of_lt (by omega),Nat.ne_of_lt (by omega),Nat.ne_of_lt (by omega),Nat.ne_of_lt (by omega)⟩
noncomputable def iZip (K:PySem.W.Frag)(ta:TA):TI:=fun σ H R=>ta σ H fun vs H1=>∃ a b kd1 kd2,vs = [.ref a,.ref b]/\(∃ xs,SqK kd1 K H1 a xs)/\(∃ ys,SqK kd2 K H1 b ys)/\R (Itz kd1 kd2 K a b) H1
theorem pi_zip {elts:List Expr} {k:Nat} {tp:Pos} {ta:TA} (hg:Gl X "zip") (hm:X.mg "zip" = none) (ha:PA X [a,b] ta) (hs:shp a = true) (hs2:shp b = true):PI X (.Tuple elts k tp) (.Call (.Name "zip" p) [a,b] [] pos) (iZip X.K ta):=by
 intro pins s σ H R I h
 refine Call_ (ld_blt I hg hm boot_zip (PyProof.Rows.callWith_type1 (thn (ha pos pins s σ H _ I h) fun us s1 ⟨vs,H1,I1,r1,q1⟩=>?_) (shp_star hs) (shp_any (by simp [hs2]))))
 obtain ⟨a,b,kd1,kd2,e,⟨xs,hq1⟩,⟨ys,hq2⟩,q⟩:=q1
 subst e
 cases r1 with
 | cons r rr =>
  cases r
  cases rr with
  | cons r' rr' =>
   cases r'
   cases rr'
   obtain ⟨its1,rv1,p1⟩:=sq_ar I1 hq1
   obtain ⟨its2,rv2,p2⟩:=sq_ar I1 hq2
   have ltA:∀ {kd:Bool} {l:Addr} {items:Array Value},ArK kd s1.heap l items->l < s1.heap.objs.size:=fun {kd l items} hl=>by
    cases kd with
    | true=>obtain ⟨o,e,_⟩:=(show s1.heap.IsList l items from hl);exact Heap.lt_size e
    | false=>obtain ⟨o,e,_⟩:=(show s1.heap.IsTuple l items from hl);exact Heap.lt_size e
   have la:=ltA p1
   have lb:=ltA p2
   refine call_zipK kd1 kd2 p1 p2 fun h' hz hTI hTO h1 h2 kk=>?_
   have I2:Inv X pins σ H1 { s1 with heap:=h' }:=I1.kept (t':=s1.toks) kk
   refine wpAny_pyIter_zip hz ?_
   have ne:∀ {x y:Nat},x < y->x ≠ y:=fun h=>Nat.ne_of_lt h
   have D:ZipApart (s1.heap.objs.size + 4) (s1.heap.objs.size + 2) (s1.heap.objs.size + 3) s1.heap.objs.size (s1.heap.objs.size + 1) a b:=zapart _ _ _ la lb
   refine ⟨s1.heap.objs.size + 4,[s1.heap.objs.size + 4,s1.heap.objs.size + 2,s1.heap.objs.size + 3,s1.heap.objs.size,s1.heap.objs.size + 1],_,_,H1,rfl,I2,turn_zip kd1 kd2 D,⟨hz,hTI,⟨_,_,hTO⟩,h1,h2⟩,fun c hc=>?_,q⟩
   have hle:s1.heap.objs.size <= c:=by
    simp only [List.mem_cons,List.not_mem_nil,or_false] at hc
    rcases hc with rfl | rfl | rfl | rfl | rfl
    ·exact Nat.le_add_right _ _
    ·exact Nat.le_add_right _ _
    ·exact Nat.le_add_right _ _
    ·exact Nat.le_refl _
    ·exact Nat.le_add_right _ _
   exact I1.fpOk hle (I1.hok.fresh hle)
noncomputable def zipIt (it jt:AIt):AIt:=fun i h=>match it i h,jt i h with
 | some (some u),some (some v)=>some (some (.tup [u,v]))
 | some none,some _=>some none
 | some _,some none=>some none
 | _,_=>none
noncomputable def gZip (xs:List AV):M AIt:=fun h=>match xs with
 | [x,y]=>match gIterZ x h,gIterZ y h with
  | .ok it _,.ok jt _=>.ok (zipIt it jt) h
  | _,_=>.bad
 | _=>.bad
theorem iter_sq {ρ:List Addr}{h:AH}{H:Hp}{x:AV}{x':V}{it:AIt}{h2:AH}(R:RepH T ρ h H)(r:RepV T ρ H x x')(e:gIterZ x h = .ok it h2) :
  ∃ a kd,x' = .ref a/\(∃ xs,SqK kd T.K H a xs)/\∀ ρ' h' H' i,Ext ρ H ρ' H'->RepH T ρ' h' H'->∀ o,it i h' = some o->∃ ys,SqK kd T.K H' a ys/\((o = none/\ys[i]? = none)\/∃ v v',o = some v/\ys[i]? = some v'/\RepV T ρ' H' v v'):=by
 cases x with
 | tup xs =>
  cases r with
  | @tup a _ ys hq hr =>
   cases e
   refine ⟨a,false,rfl,⟨ys,hq⟩,fun ρ' h' H' i ex R' o ho=>⟨ys,ex.sqT hq,?_⟩⟩
   have ho':xs[i]? = o:=Option.some.inj ho
   have r':=hr.ext ex
   cases o with
   | none=>exact .inl ⟨rfl,by rw [List.getElem?_eq_none_iff] at ho' ⊢;rw [<- hr.length];exact ho'⟩
   | some v=>obtain ⟨v',g1,g2⟩:=r'.get ho';exact .inr ⟨v,v',rfl,g1,g2⟩
 | ref n =>
  cases r with
  | @ref _ a q =>
   simp only [gIterZ] at e
   cases ob:h.ob n with
   | none=>rw [ob] at e;cases e
   | some u =>
    rw [ob] at e
    cases u with
    | lst mu xs =>
     cases e
     obtain ⟨ys,g1,r1⟩:=lst_sq R ob q
     refine ⟨a,true,rfl,⟨ys,g1⟩,fun ρ' h' H' i ex R' o ho=>?_⟩
     unfold listIt at ho
     cases ob':h'.ob n with
     | none=>rw [ob'] at ho;cases ho
     | some u' =>
      rw [ob'] at ho
      cases u' with
      | lst mu' xs' =>
       obtain ⟨zs,g2,r2⟩:=lst_sq R' ob' (ex.pre n a q)
       have ho':xs'[i]? = o:=Option.some.inj ho
       refine ⟨zs,g2,?_⟩
       cases o with
       | none=>exact .inl ⟨rfl,by rw [List.getElem?_eq_none_iff] at ho' ⊢;rw [<- r2.length];exact ho'⟩
       | some v=>obtain ⟨v',g3,g4⟩:=r2.get ho';exact .inr ⟨v,v',rfl,g3,g4⟩
      | dct _=>cases ho
      | ins _ _=>cases ho
      | xo _=>cases ho
    | dct _=>cases e
    | ins _ _=>cases e
    | xo _=>cases e
 | _=>cases e
theorem qi_zip {elts:List Expr} {k:Nat} {tp:Pos} (hK:X.K = T.K) (hg:Gl X "zip") (hm:X.mg "zip" = none) (ha:QA X T E [a,b] mr) (hs:shp a = true) (hs2:shp b = true) :
  QI X T E (.Tuple elts k tp) (.Call (.Name "zip" p) [a,b] [] pos) (fun σ=>(mr σ).bind gZip):=by
 obtain ⟨ta,pa,ra⟩:=ha
 refine ⟨_,pi_zip hg hm pa hs hs2,fun ρ σ σ' h H Q R S w=>ra ρ σ σ' h H _ R S (W.bind w fun ρ1 xs xs' h1 H1 e1 R1 q1 w1=>?_)⟩
 cases q1 with
 | nil=>exact w1.elim
 | @cons x x' _ _ r1 rs =>
  cases rs with
  | nil=>exact w1.elim
  | @cons y y' _ _ r2 rs2 =>
   cases rs2 with
   | cons _ _=>exact w1.elim
   | nil =>
    simp only [gZip] at w1
    cases g1:gIterZ x h1 with
    | exc _ _ _=>rw [g1] at w1;exact w1.elim
    | bad=>rw [g1] at w1;exact w1.elim
    | ok it hx =>
     cases g2:gIterZ y h1 with
     | exc _ _ _=>rw [g1,g2] at w1;exact w1.elim
     | bad=>rw [g1,g2] at w1;exact w1.elim
     | ok jt hy =>
      rw [g1,g2] at w1
      obtain ⟨pa,kd1,rfl,sa,fa⟩:=iter_sq R1 r1 g1
      obtain ⟨pb,kd2,rfl,sb,fb⟩:=iter_sq R1 r2 g2
      refine ⟨pa,pb,kd1,kd2,rfl,by rw [hK];exact sa,by rw [hK];exact sb,?_⟩
      rw [hK]
      refine W.here w1 R1 fun ρ' h' H' i ex R'=>?_
      unfold zipIt
      cases o1:it i h' with
      | none=>exact ⟨fun q=>(by cases q),fun v q=>(by cases q)⟩
      | some u =>
       cases o2:jt i h' with
       | none =>
        cases u with
        | none=>exact ⟨fun q=>(by cases q),fun v q=>(by cases q)⟩
        | some u=>exact ⟨fun q=>(by cases q),fun v q=>(by cases q)⟩
       | some v =>
        obtain ⟨ys1,s1,c1⟩:=fa ρ' h' H' i ex R' u o1
        obtain ⟨ys2,s2,c2⟩:=fb ρ' h' H' i ex R' v o2
        rcases c1 with ⟨rfl,n1⟩ | ⟨u1,u1',rfl,n1,t1⟩
        ·exact ⟨fun _=>⟨ys1,ys2,s1,s2,.inl n1⟩,fun v q=>(by cases q)⟩
        ·rcases c2 with ⟨rfl,n2⟩ | ⟨u2,u2',rfl,n2,t2⟩
         ·exact ⟨fun _=>⟨ys1,ys2,s1,s2,.inr n2⟩,fun v q=>(by cases q)⟩
         ·refine ⟨fun q=>(by cases q),fun v q=>⟨⟨ys1,ys2,u1',u2',s1,s2,n1,n2⟩,fun x H2 yl=>?_⟩⟩
          cases q
          obtain ⟨Tt,y1,y2,hn,rfl,rfl,k1,k2⟩:=yl
          have e1:=k1 ys1 s1
          have e2:=k2 ys2 s2
          rw [n1] at e1
          rw [n2] at e2
          cases e1
          cases e2
          exact ⟨ρ',.upd_new hn,R'.keep hn,.tup (.of upd_same) (.cons (t1.ext (.upd_new hn)) (.cons (t2.ext (.upd_new hn)) .nil))⟩
end
noncomputable def noX {α:Type}(m:M α):M α:=fun h=>match m h with
 | .ok a h1=>.ok a h1
 | _=>.bad
theorem noX_W {T:Tab}{α β:Type}{Rp:Rl α β}{m:M α}{h:AH}{ρ:List Addr}{H:Hp}{Q:β->Hp->Prop}{E E':XK}(w:W T Rp (noX m h) ρ H Q E):W T Rp (m h) ρ H Q E':=by
 unfold noX at w
 cases e:m h with
 | ok a h1=>rw [e] at w;exact w
 | exc c x h1=>rw [e] at w;exact w.elim
 | bad=>rw [e] at w;exact w.elim
theorem M.bind_assoc {α β γ:Type}(m:M α)(k:α->M β)(l:β->M γ):(m.bind k).bind l = m.bind fun x=>(k x).bind l:=by
 funext h
 unfold M.bind
 cases m h <;> rfl
noncomputable def compM (it:AIt)(g:AV->ASt->M ASt)(mt:ASt->M Bool)(me:ASt->M AV):Nat->Nat->List AV->ASt->M (List AV)
 | 0,_,_,_=>M.bad
 | f + 1,i,ys,σ=>fun h=>match it i h with
  | none=>.bad
  | some none=>.ok ys h
  | some (some v)=>((noX (g v σ)).bind fun σ1=>(noX (mt σ1)).bind fun b=>if b = true then (noX (me σ1)).bind fun y=>M.guard (ys.length < sizeLine) (compM it g mt me f (i + 1) (ys ++ [y]) σ1) else compM it g mt me f (i + 1) ys σ1) h
noncomputable def impS {α:Type}(imp:List (Option Nat))(σ:List (Option α)):List (Option α):=imp.map fun o=>match o with
 | some j=>(σ[j]?).getD none
 | none=>none
noncomputable def compE (mi:M AIt)(g:AV->ASt->M ASt)(mt:ASt->M Bool)(me:ASt->M AV)(imp:List (Option Nat))(σ:ASt):M AV:=mi.bind fun it=>(compM it g mt me FU 0 [] (impS imp σ)).bind newL
noncomputable def tOE (T:Tab)(m:ASt->M AV):TE:=fun σ' H Q=>∃ ρ σ h,RepH T ρ h H/\RepS T ρ H σ σ'/\W T (RepV T) (m σ h) ρ H Q E0
noncomputable def tOT (T:Tab)(m:ASt->M Bool):TT:=fun σ' H Q=>∃ ρ σ h,RepH T ρ h H/\RepS T ρ H σ σ'/\W T RB (m σ h) ρ H Q E0
noncomputable def tOG (T:Tab)(g:AV->ASt->M ASt):TG:=fun v' σ' H Q=>∃ ρ v σ h,RepH T ρ h H/\RepS T ρ H σ σ'/\RepV T ρ H v v'/\W T (RepS T) (g v σ h) ρ H Q E0
section
variable {X:Cx}{T:Tab}{E:XK}{elt tg iter:Expr}{ct:Option Expr}{me:ASt->M AV}{mt:ASt->M Bool}{mi:ASt->M AIt}{g:AV->ASt->M ASt}{imp:List (Option Nat)}{N':List Str}{scope:Scope}{pos:Pos}
theorem QE.canon {e:Expr}{m:ASt->M AV}(h:QE X T E0 e m):PE X e (tOE T m):=let ⟨t,p,r⟩:=h;fun pins s σ' H Q I ⟨ρ,σ,h,R,S,w⟩=>p pins s σ' H Q I (r ρ σ σ' h H Q R S w)
theorem QT.canon {e:Expr}{m:ASt->M Bool}(h:QT X T E0 e m):PT X e (tOT T m):=let ⟨t,p,r⟩:=h;fun pins s σ' H Q I ⟨ρ,σ,h,R,S,w⟩=>p pins s σ' H Q I (r ρ σ σ' h H Q R S w)
theorem QG.canon {e:Expr}{g:AV->ASt->M ASt}(h:QG X T E0 e g):PG X e (tOG T g):=let ⟨t,p,r⟩:=h;fun pins s σ' H v' u Q I ru ⟨ρ,v,σ,h,R,S,rv,w⟩=>p pins s σ' H v' u Q I ru (r ρ v v' σ σ' h H Q R S rv w)
theorem impS_len {α:Type}(σ:List (Option α)):(impS imp σ).length = imp.length:=by simp [impS]
theorem impS_get {α:Type}{σ:List (Option α)}{i:Nat}{v:α}(h:(impS imp σ)[i]? = some (some v)):∃ j,imp[i]? = some (some j)/\σ[j]? = some (some v):=by
 unfold impS at h
 rw [List.getElem?_map] at h
 cases e:imp[i]? with
 | none=>rw [e] at h;cases h
 | some o =>
  rw [e] at h
  cases o with
  | none=>cases h
  | some j =>
   refine ⟨j,rfl,?_⟩
   have h':(σ[j]?).getD none = some v:=Option.some.inj h
   cases q:σ[j]? with
   | none=>rw [q] at h';cases h'
   | some w=>rw [q] at h';exact congrArg some h'
theorem RepS.impS_ {ρ:List Addr}{H:Hp}{σ:ASt}{σ':L2.St}(S:RepS T ρ H σ σ'):RepS T ρ H (impS imp σ) (impS imp σ'):=by
 refine ⟨by rw [impS_len,impS_len],fun i v e=>?_⟩
 obtain ⟨j,h1,h2⟩:=impS_get e
 obtain ⟨v',h3,r⟩:=S.2 j v h2
 refine ⟨v',?_,r⟩
 unfold impS
 rw [List.getElem?_map,h1]
 show some ((σ'[j]?).getD none) = _
 rw [h3];rfl
theorem comp_rd {wi:TI}(ri:∀ ρ σ σ' h H R,RepH T ρ h H->RepS T ρ H σ σ'->W T (RI T) (mi σ h) ρ H R E->wi σ' H R){ρ:List Addr}{σ:ASt}{σ':L2.St}{h:AH}{H:Hp}{Q:VK}(R:RepH T ρ h H)(S:RepS T ρ H σ σ')
  (w:W T (RepV T) (compE (mi σ) g mt me imp σ h) ρ H Q E):tComp wi (impS imp) (tOG T g) (tOT T mt) (tOE T me) σ' H Q:=by
 refine ri ρ σ σ' h H _ R S (W.bind w fun ρ1 it J h1 H1 e1 R1 q1 w1=>?_)
 refine ⟨fun i m ys' σ' H=>∃ ρ ys σ h,Ext ρ1 H1 ρ H/\RepH T ρ h H/\RepS T ρ H σ σ'/\RepVs T ρ H ys ys'/\W T (RepV T) (((compM it g mt me m i ys σ).bind newL) h) ρ H Q E,FU,⟨ρ1,[],_,h1,.refl,R1,(S.ext e1).impS_,.nil,w1⟩,?_⟩
 rintro i m ys' σ' H ⟨ρ,ys,σ,h,e,R,S,rys,w⟩
 cases m with
 | zero=>exact w.elim
 | succ f =>
  cases hit:it i h with
  | none =>
   have w':W T (RepV T) Res.bad ρ H Q E:=by
    simp only [compM,M.bind,hit] at w
    exact w
   exact w'.elim
  | some o =>
   cases o with
   | none =>
    have w':W T (RepV T) (newL ys h) ρ H Q E:=by
     simp only [compM,M.bind,hit] at w
     exact w
    exact .inl ⟨(q1 ρ h H i e R).1 hit,fun D hD=>newL_W R rys hD w'⟩
   | some v =>
    have w':W T (RepV T) ((((noX (g v σ)).bind fun σ1=>(noX (mt σ1)).bind fun b=>if b = true then (noX (me σ1)).bind fun y=>M.guard (ys.length < sizeLine) (compM it g mt me f (i + 1) (ys ++ [y]) σ1) else compM it g mt me f (i + 1) ys σ1).bind newL) h) ρ H Q E:=by
     have e1:∀ k:List AV->M AV,((compM it g mt me (f + 1) i ys σ).bind k) h = ((((noX (g v σ)).bind fun σ1=>(noX (mt σ1)).bind fun b=>if b = true then (noX (me σ1)).bind fun y=>M.guard (ys.length < sizeLine) (compM it g mt me f (i + 1) (ys ++ [y]) σ1) else compM it g mt me f (i + 1) ys σ1).bind k) h):=fun k=>by
      unfold M.bind
      simp only [compM,hit]
      rfl
     rw [e1] at w
     exact w
    rw [M.bind_assoc] at w'
    obtain ⟨go,yl⟩:=(q1 ρ h H i e R).2 v hit
    refine .inr ⟨go,fun x H2 y=>?_⟩
    obtain ⟨ρ2,e2,R2,rv⟩:=yl x H2 y
    refine ⟨ρ2,v,σ,h,R2,S.ext e2,rv,noX_W (E:=E) (W.bind (w'.ext e2) fun ρ3 σ3 σ3' h3 H3 e3 R3 S3 w3=>?_)⟩
    rw [M.bind_assoc] at w3
    refine ⟨ρ3,σ3,h3,R3,S3,noX_W (E:=E) (W.bind w3 fun ρ4 d d' h4 H4 e4 R4 q4 w4=>?_)⟩
    have q4':d = d':=q4
    subst q4'
    cases d with
    | true =>
     rw [if_pos rfl] at w4 ⊢
     rw [M.bind_assoc] at w4
     refine ⟨ρ4,σ3,h4,R4,S3.ext e4,noX_W (E:=E) (W.bind w4 fun ρ5 y y' h5 H5 e5 R5 q5 w5=>?_)⟩
     by_cases hz:ys.length < sizeLine
     ·have w6:W T (RepV T) (((compM it g mt me f (i + 1) (ys ++ [y]) σ3).bind newL) h5) ρ5 H5 Q E:=by
       have e6:((M.guard (ys.length < sizeLine) (compM it g mt me f (i + 1) (ys ++ [y]) σ3)).bind newL) h5 = ((compM it g mt me f (i + 1) (ys ++ [y]) σ3).bind newL) h5:=by
        unfold M.bind M.guard
        rw [if_pos hz]
       rw [e6] at w5
       exact w5
      have eE:=(((e.trans e2).trans e3).trans e4).trans e5
      exact ⟨by rw [<- rys.length];exact hz,f,Nat.lt_succ_self f,ρ5,ys ++ [y],σ3,h5,eE,R5,(S3.ext e4).ext e5,(rys.ext (((e2.trans e3).trans e4).trans e5)).append (.cons q5 .nil),w6⟩
     ·have e6:((M.guard (ys.length < sizeLine) (compM it g mt me f (i + 1) (ys ++ [y]) σ3)).bind newL) h5 = .bad:=by
       unfold M.bind M.guard
       rw [if_neg hz]
      rw [e6] at w5
      exact w5.elim
    | false =>
     rw [if_neg Bool.false_ne_true] at w4 ⊢
     exact ⟨f,Nat.lt_succ_self f,ρ4,ys,σ3,h4,((e.trans e2).trans e3).trans e4,R4,S3.ext e4,rys.ext ((e2.trans e3).trans e4),w4⟩
theorem qe_comp (hsc:CompSc X N' scope)(hcalm:X.calm = true)(hi:QI X T E tg iter mi)(hg:∀ s H C fp,QG (X.comp N' scope s H C fp) T E0 tg g)(hct:∀ c,ct = some c->∀ s H C fp,QT (X.comp N' scope s H C fp) T E0 c mt)
  (hct0:ct = none->mt = fun _=>M.ret true) (he:∀ s H C fp,QE (X.comp N' scope s H C fp) T E0 elt me) (himp:imp.length = N'.length)
  (hσ:∀ (i j:Nat) x,N'[i]? = some x->imp[i]? = some (some j)->scope.names.lookup x = some .free/\(x,NameKind.free) ∈ scope.names/\X.N[j]? = some x) (hs:shp iter = true) :
  QE X T E (.ListComp elt [⟨tg,iter,ct.toList,0⟩] scope pos) (fun σ=>compE (mi σ) g mt me imp σ):=by
 obtain ⟨wi,pi,ri⟩:=hi
 refine ⟨_,pe_comp (imp:=impS imp) hsc hcalm pi (fun s H C fp=>(hg s H C fp).canon) (fun c e s H C fp=>(hct c e s H C fp).canon) (fun e σ H Q=>?_) (fun s H C fp=>(he s H C fp).canon) (fun σ=>by rw [impS_len,himp]) (fun σ i x v e1 e2=>?_) fun x=>shp_set hs,fun ρ σ σ' h H Q R S w=>comp_rd ri R S w⟩
 ·rintro ⟨ρ,σ,h,R,S,w⟩
  rw [hct0 e] at w
  exact W.here (Rp:=RB) w R rfl
 ·obtain ⟨j,h1,h2⟩:=impS_get e2
  obtain ⟨a,b,c⟩:=hσ i j x e1 h1
  exact ⟨a,b,j,c,h2⟩
theorem qs_setComp {i:Nat}{y:Str}{py spos:Pos}(hN:X.N.Nodup)(hi':X.N[i]? = some y)(hy:X.env.scope.names.lookup y = some .local)
  (hsw:swapsWith (.ListComp elt [⟨tg,iter,ct.toList,0⟩] scope pos) (some (.Name y py)) spos.line X.env = pure true) (hsc:CompSc X N' scope) (hcalm:X.calm = true) (hi:QI X T E tg iter mi) (hg:∀ s H C fp,QG (X.comp N' scope s H C fp) T E0 tg g) (hct:∀ c,ct = some c->∀ s H C fp,QT (X.comp N' scope s H C fp) T E0 c mt)
  (hct0:ct = none->mt = fun _=>M.ret true) (he:∀ s H C fp,QE (X.comp N' scope s H C fp) T E0 elt me) (himp:imp.length = N'.length)
  (hσ:∀ (i j:Nat) x,N'[i]? = some x->imp[i]? = some (some j)->scope.names.lookup x = some .free/\(x,NameKind.free) ∈ scope.names/\X.N[j]? = some x) (hs:shp iter = true) :
  QS X T E (.Assign [.Name y py] (.ListComp elt [⟨tg,iter,ct.toList,0⟩] scope pos) spos) (fun σ=>(compE (mi σ) g mt me imp σ).bind fun v=>(M.ret (σ.set i (some v))).bind fun σ1=>M.ret (.nx σ1)):=by
 obtain ⟨wi,pi,ri⟩:=hi
 refine ⟨_,ps_setComp (imp:=impS imp) hN hi' hy hsw hsc hcalm pi (fun s H C fp=>(hg s H C fp).canon) (fun c e s H C fp=>(hct c e s H C fp).canon) (fun e σ H Q=>?_) (fun s H C fp=>(he s H C fp).canon) (fun σ=>by rw [impS_len,himp]) (fun σ i x v e1 e2=>?_) fun x=>shp_set hs,
  fun ρ σ σ' h H D R S w=>comp_rd ri R S (W.bind w fun ρ1 x x' h1 H1 e1 R1 q1 w1=>W.here (Q:=toQ D) (b:=COut.nx (σ'.set i (some x'))) w1 R1 ((S.ext e1).set q1 i))⟩
 ·rintro ⟨ρ,σ,h,R,S,w⟩
  rw [hct0 e] at w
  exact W.here (Rp:=RB) w R rfl
 ·obtain ⟨j,h1,h2⟩:=impS_get e2
  obtain ⟨a,b,c⟩:=hσ i j x e1 h1
  exact ⟨a,b,j,c,h2⟩
end
inductive Kc where
 | any | srt (b:Bool) | minN
 | all | mx
noncomputable def blsA:List AV->Option (List Bool)
 | []=>some []
 | .bl b :: r=>(blsA r).map (b :: ·)
 | _=>none
noncomputable def intsA:List AV->Option (List Int)
 | []=>some []
 | .int b :: r=>(intsA r).map (b :: ·)
 | _=>none
theorem blsA_map:∀ bs:List Bool,blsA (bs.map AV.bl) = some bs
 | []=>rfl
 | b :: bs=>by simp [blsA,blsA_map bs]
noncomputable def Kc.gl:Kc->List AV->M AV
 | .any,xs=>fun h=>match blsA xs with
  | some bs=>.ok (.bl (bs.any id)) h
  | none=>.bad
 | .all,xs=>fun h=>match blsA xs with
  | some bs=>.ok (.bl (bs.all id)) h
  | none=>.bad
 | .mx,xs=>fun h=>match intsA xs with
  | some ns=>if ns.isEmpty = true then .bad else .ok (.int (maxI ns)) h
  | none=>.bad
 | .srt b,xs=>fun h=>match intsA xs with
  | some ns=>if ns.length < 64 then newL ((sortI b ns).map AV.int) h else .bad
  | none=>.bad
 | .minN,xs=>fun h=>match xs with
  | []=>.ok .non h
  | _=>.bad
noncomputable def Kc.g (k:Kc)(x:AV):M AV:=fun h=>match x with
 | .ref n=>match h.ob n with
  | some (.lst _ xs)=>k.gl xs h
  | _=>.bad
 | _=>.bad
section
variable {X:Cx}{T:Tab}{E:XK}{a:Expr}{m:ASt->M AV}{p pos:Pos}
theorem blsA_V {ρ:List Addr}{H:Hp}:∀ {xs:List AV} {ys:List V} {bs:List Bool},RepVs T ρ H xs ys->blsA xs = some bs->ys = bs.map V.bl
 | _,_,_,.nil,e=>by cases e;rfl
 | _,_,_,.cons (x:=x) (xs:=xs) h t,e=>by
  cases h with
  | bl b =>
   simp only [blsA] at e
   cases q:blsA xs with
   | none=>rw [q] at e;cases e
   | some bs=>rw [q] at e;cases e;rw [blsA_V t q];rfl
  | _=>cases e
theorem intsA_V {ρ:List Addr}{H:Hp}:∀ {xs:List AV} {ys:List V} {bs:List Int},RepVs T ρ H xs ys->intsA xs = some bs->ys = bs.map V.int
 | _,_,_,.nil,e=>by cases e;rfl
 | _,_,_,.cons (x:=x) (xs:=xs) h t,e=>by
  cases h with
  | int b =>
   simp only [intsA] at e
   cases q:intsA xs with
   | none=>rw [q] at e;cases e
   | some bs=>rw [q] at e;cases e;rw [intsA_V t q];rfl
  | _=>cases e
theorem kc_rd (hK:X.K = T.K){k:Kc}
  {ρ:List Addr} {h:AH} {H:Hp} {x:AV} {x':V} {Q:VK} (R:RepH T ρ h H) (r:RepV T ρ H x x') (w:W T (RepV T) (k.g x h) ρ H Q E) :
  ∃ (l:Addr) (xs:List AV) (ys:List V),x' = .ref l/\SqL X.K H l ys/\RepVs T ρ H xs ys/\W T (RepV T) (k.gl xs h) ρ H Q E:=by
 unfold Kc.g at w
 cases x with
 | ref n =>
  cases r with
  | @ref _ l q =>
   dsimp only at w
   cases o:h.ob n with
   | none=>rw [o] at w;exact w.elim
   | some u =>
    rw [o] at w
    cases u with
    | lst b xs =>
     obtain ⟨ys,h1,h2⟩:=lst_sq R o q
     exact ⟨l,xs,ys,rfl,by rw [hK];exact h1,h2,w⟩
    | _=>exact w.elim
 | _=>exact w.elim
theorem qe_any (hK:X.K = T.K) (hc:X.calm = true) (hg:Gl X "any") (hm:X.mg "any" = none) (ha:QE X T E a m) (hs:shp a = true):QE X T E (.Call (.Name "any" p) [a] [] pos) (fun σ=>(m σ).bind (Kc.any.g)):=by
 obtain ⟨ta,pa,ra⟩:=ha
 refine ⟨_,pe_callB (call_anyL hc) hg hm (by decide +kernel) (pa_cons pa pa_nil (shp_star hs)) (by decide) (by decide) (shp_star hs) rfl,fun ρ σ σ' h H Q R S w=>?_⟩
 refine ra ρ σ σ' h H _ R S (W.bind w fun ρ1 x x' h1 H1 e1 R1 q1 w1=>?_)
 obtain ⟨l,xs,ys,rfl,hq,hr,w2⟩:=kc_rd hK
  R1 q1 w1
 simp only [Kc.gl] at w2
 cases q:blsA xs with
 | none=>rw [q] at w2;exact w2.elim
 | some bs =>
  rw [q] at w2
  have e:=blsA_V hr q
  subst e
  exact ⟨l,bs,rfl,hq,w2.here R1 (.bl _)⟩
theorem qe_all (hK:X.K = T.K) (hc:X.calm = true) (hg:Gl X "all") (hm:X.mg "all" = none) (ha:QE X T E a m) (hs:shp a = true):QE X T E (.Call (.Name "all" p) [a] [] pos) (fun σ=>(m σ).bind (Kc.all.g)):=by
 obtain ⟨ta,pa,ra⟩:=ha
 refine ⟨_,pe_callB (call_allL hc) hg hm (by decide +kernel) (pa_cons pa pa_nil (shp_star hs)) (by decide) (by decide) (shp_star hs) rfl,fun ρ σ σ' h H Q R S w=>?_⟩
 refine ra ρ σ σ' h H _ R S (W.bind w fun ρ1 x x' h1 H1 e1 R1 q1 w1=>?_)
 obtain ⟨l,xs,ys,rfl,hq,hr,w2⟩:=kc_rd hK
  R1 q1 w1
 simp only [Kc.gl] at w2
 cases q:blsA xs with
 | none=>rw [q] at w2;exact w2.elim
 | some bs =>
  rw [q] at w2
  have e:=blsA_V hr q
  subst e
  exact ⟨l,bs,rfl,hq,w2.here R1 (.bl _)⟩
theorem qe_mx (hK:X.K = T.K) (hc:X.calm = true) (hg:Gl X "max") (hm:X.mg "max" = none) (ha:QE X T E a m) (hs:shp a = true):QE X T E (.Call (.Name "max" p) [a] [] pos) (fun σ=>(m σ).bind (Kc.mx.g)):=by
 obtain ⟨ta,pa,ra⟩:=ha
 refine ⟨_,pe_callB (call_maxL hc) hg hm (by decide +kernel) (pa_cons pa pa_nil (shp_star hs)) (by decide) (by decide) (shp_star hs) rfl,fun ρ σ σ' h H Q R S w=>?_⟩
 refine ra ρ σ σ' h H _ R S (W.bind w fun ρ1 x x' h1 H1 e1 R1 q1 w1=>?_)
 obtain ⟨l,xs,ys,rfl,hq,hr,w2⟩:=kc_rd hK
  R1 q1 w1
 simp only [Kc.gl] at w2
 cases q:intsA xs with
 | none=>rw [q] at w2;exact w2.elim
 | some ns =>
  rw [q] at w2
  have e:=intsA_V hr q
  subst e
  dsimp only at w2
  by_cases hn:ns.isEmpty = true
  ·rw [if_pos hn] at w2;exact w2.elim
  ·rw [if_neg hn] at w2
   exact ⟨l,ns,rfl,hq,fun z=>hn (by rw [z];rfl),w2.here R1 (.int _)⟩
theorem qe_srt (hK:X.K = T.K) {b:Bool} {k:Nat} {kp kq:Pos} (hg:Gl X "sorted") (hm:X.mg "sorted" = none) (ha:QE X T E a m) (hs:shp a = true) :
  QE X T E (.Call (.Name "sorted" p) [a] [⟨some "reverse",.Constant (.bool b) k kq,kp⟩] pos) (fun σ=>(m σ).bind ((Kc.srt b).g)):=by
 obtain ⟨ta,pa,ra⟩:=ha
 refine ⟨_,pe_callBK (z:=.bl b) (r:=fun v H Q=>∃ l ns,v = .ref l/\SqL X.K H l (ns.map V.int)/\ns.length < 64/\∀ D,H D = none->Q (.ref D) (upd H D (.lst ((sortI b ns).map V.int)))) ?_ hg hm boot_sorted pa pe_bl (shp_star hs) (by decide) (by decide),fun ρ σ σ' h H Q R S w=>?_⟩
 ·intro pins s σ H v u zu Q I rv rz ⟨l,ns,ev,hq,hn,q⟩
  subst ev
  cases rv
  have rz':zu = Value.bool b:=rz
  subst rz'
  exact call_sortK b I hq hn q
 refine ra ρ σ σ' h H _ R S (W.bind w fun ρ1 x x' h1 H1 e1 R1 q1 w1=>?_)
 obtain ⟨l,xs,ys,rfl,hq,hr,w2⟩:=kc_rd hK
  R1 q1 w1
 simp only [Kc.gl] at w2
 cases q:intsA xs with
 | none=>rw [q] at w2;exact w2.elim
 | some ns =>
  rw [q] at w2
  dsimp only at w2
  have e:=intsA_V hr q
  subst e
  by_cases hn:ns.length < 64
  ·rw [if_pos hn] at w2
   exact ⟨l,ns,rfl,hq,hn,fun D hD=>newL_W R1 (RepVs.ints _) hD w2⟩
  ·rw [if_neg hn] at w2;exact w2.elim
theorem qe_minN (hK:X.K = T.K) (hc:X.calm = true) {k:Nat} {kp kq:Pos} (hg:Gl X "min") (hm:X.mg "min" = none) (ha:QE X T E a m) (hs:shp a = true) :
  QE X T E (.Call (.Name "min" p) [a] [⟨some "default",.Constant .none k kq,kp⟩] pos) (fun σ=>(m σ).bind (Kc.minN.g)):=by
 obtain ⟨ta,pa,ra⟩:=ha
 refine ⟨_,pe_callBK (z:=.non) (r:=fun v H Q=>∃ l,v = .ref l/\SqL X.K H l []/\Q .non H) ?_ hg hm (show bootBuiltins "min" = some (.builtin "min") from by decide +kernel) pa pe_non (shp_star hs) (by decide) (by decide),fun ρ σ σ' h H Q R S w=>?_⟩
 ·intro pins s σ H v u zu Q I rv rz ⟨l,ev,hq,q⟩
  subst ev
  cases rv
  exact call_minD0 hc I hq rz q
 refine ra ρ σ σ' h H _ R S (W.bind w fun ρ1 x x' h1 H1 e1 R1 q1 w1=>?_)
 obtain ⟨l,xs,ys,rfl,hq,hr,w2⟩:=kc_rd hK
  R1 q1 w1
 cases xs with
 | nil=>cases hr;exact ⟨l,rfl,hq,W.here w2 R1 .non⟩
 | cons _ _=>exact w2.elim
end
end AM
set_option genSizeOf false
namespace AM
open PySem PySem.Spec PyProof.Rows L2
inductive BT where
 | non | bl | int | str | tup | lst | dct
 deriving DecidableEq
noncomputable def BT.nm:BT->String
 | .non=>"NoneType" | .bl=>"bool" | .int=>"int" | .str=>"str" | .tup=>"tuple" | .lst=>"list" | .dct=>"dict"
noncomputable def BT.sub (s t:BT):Bool:=decide (s = t) || (decide (s = .bl) && decide (t = .int))
theorem kit_bt {K:PySem.W.Frag}(s t:BT):PySem.W.kitOne K (.type s.nm) (.type t.nm) = some (s.sub t):=by
 cases s <;> cases t <;> first | rfl | (with_unfolding_all rfl) | decide +kernel
inductive TyB (K:PySem.W.Frag)(H:Hp):V->BT->Prop where
 | non:TyB K H .non .non
 | bl (x:Bool):TyB K H (.bl x) .bl
 | int (i:Int):TyB K H (.int i) .int
 | str (x:Str):TyB K H (.str x) .str
 | lst {a:Addr} {xs:List V} (e:SqL K H a xs):TyB K H (.ref a) .lst
 | tup {a:Addr} {xs:List V} (e:SqT K H a xs):TyB K H (.ref a) .tup
 | dct {a:Addr} {kvs:List (Key × V)} (e:H a = some (.dK kvs)):TyB K H (.ref a) .dct
noncomputable def btOf (h:AH):AV->Option BT
 | .non=>some .non
 | .bl _=>some .bl
 | .int _=>some .int
 | .str _=>some .str
 | .tup _=>some .tup
 | .ref n=>match h.ob n with
  | some (.lst _ _)=>some .lst
  | some (.dct _)=>some .dct
  | _=>none
 | _=>none
noncomputable def gIsa (t:BT)(x:AV):M AV:=fun h=>match btOf h x with
 | some s=>.ok (.bl (s.sub t)) h
 | none=>.bad
section
variable {X:Cx}{T:Tab}{E:XK}{a b c e tg l o:Expr}{es:List Expr}{ma mb mc m:ASt->M AV}{mr:ASt->M (List AV)}{pos p apos:Pos}
theorem call_isaB (t:BT):CallR X (.builtin "isinstance") (fun xs H Q=>∃ x s,xs = [x,.ty t.nm]/\TyB X.K H x s/\Q (.bl (s.sub t)) H):=by
 intro pins st σ H xs us Q I r h
 obtain ⟨x,s,rfl,ty,q⟩:=h
 obtain ⟨u,w',rfl,ru,rw'⟩:=vals2 r
 obtain rfl:w' = Value.type t.nm:=rw'
 have fin:∀ tk,EP X pins σ Q (.bool (s.sub t)) { st with toks:=tk }:=fun tk=>⟨.bl _,H,I.tok tk,rfl,q⟩
 cases ty with
 | non=>cases ru;exact PySem.W.kia_one PySem.W.kitx_none I.kIn True.intro (kit_bt .non t) (fun z=>nomatch z) fin
 | bl y=>cases ru;exact PySem.W.kia_one PySem.W.kitx_bool I.kIn True.intro (kit_bt .bl t) (fun z=>nomatch z) fin
 | int i=>obtain ⟨tk,rfl⟩:=ru;exact PySem.W.kia_one PySem.W.kitx_int I.kIn True.intro (kit_bt .int t) (fun z=>nomatch z) fin
 | str y=>obtain ⟨tk,rfl⟩:=ru;exact PySem.W.kia_one PySem.W.kitx_str I.kIn True.intro (kit_bt .str t) (fun z=>nomatch z) fin
 | lst e =>
  cases ru
  obtain ⟨_,_,⟨ob,n,h1,h2,_⟩,_⟩:=I.list e
  exact PySem.W.kia_one PySem.W.kitx_list I.kIn ⟨ob,h1,h2⟩ (kit_bt .lst t) (fun z=>nomatch z) fin
 | tup e =>
  cases ru
  obtain ⟨_,_,⟨ob,h1,h2,_⟩,_⟩:=I.tuple e
  exact PySem.W.kia_one PySem.W.kitx_tuple I.kIn ⟨ob,h1,h2⟩ (kit_bt .tup t) (fun z=>nomatch z) fin
 | @dct a kvs e =>
  cases ru
  obtain ⟨_,_,vs,_,ob,es,ep,h1,h2,_⟩:=(show ObjOk X.prog X.w H st.heap a (.dK kvs) from I.hok a _ e)
  exact PySem.W.kia_one PySem.W.kitx_dict I.kIn ⟨ob,h1,h2.1⟩ (kit_bt .dct t) (fun z=>nomatch z) fin
theorem bt_V (hK:X.K = T.K){ρ:List Addr}{h:AH}{H:Hp}{x:AV}{x':V}{s:BT}(R:RepH T ρ h H)(r:RepV T ρ H x x')(e:btOf h x = some s):TyB X.K H x' s:=by
 cases r with
 | non=>cases e;exact .non
 | bl b=>cases e;exact .bl b
 | int i=>cases e;exact .int i
 | str y=>cases e;exact .str y
 | tup hq hr=>cases e;exact .tup (by rw [hK];exact hq)
 | @ref n a q =>
  simp only [btOf] at e
  cases o:h.ob n with
  | none=>rw [o] at e;cases e
  | some u =>
   rw [o] at e
   cases u with
   | lst m xs =>
    cases e
    obtain ⟨ys,h1,_⟩:=lst_sq R o q
    exact .lst (by rw [hK];exact h1)
   | dct kvs =>
    cases e
    obtain ⟨ks,ys,h1,_⟩:=R.obj n _ a o q
    exact .dct h1
   | ins _ _=>cases e
   | xo _=>cases e
 | glb q=>cases e
theorem qe_isa (hK:X.K = T.K) {y:Str} {p2:Pos} (t:BT) (hg:Gl X "isinstance") (hm:X.mg "isinstance" = none) (hg2:Gl X y) (hm2:X.mg y = none) (hv2:bootBuiltins y = some (.type t.nm)) (hn2:y ≠ "__name__") (hd2:(y == ("__debug__":Str)) = false)
  (ha:QE X T E a m) (hs:shp a = true):QE X T E (.Call (.Name "isinstance" p) [a,.Name y p2] [] pos) (fun σ=>(m σ).bind (gIsa t)):=by
 obtain ⟨ta,pa,ra⟩:=ha
 refine ⟨_,pe_callB (call_isaB t) hg hm boot_isinstance (pa_cons pa (pa_cons (pe_bltn (v:=.ty t.nm) hg2 hm2 hv2 rfl hn2 hd2) pa_nil) (shp_star hs)) (by decide) (by decide) (shp_star hs) rfl,fun ρ σ σ' h H Q R S w=>?_⟩
 refine ra ρ σ σ' h H _ R S (W.bind w fun ρ1 x x' h1 H1 e1 R1 q1 w1=>?_)
 unfold gIsa at w1
 cases o:btOf h1 x with
 | none=>rw [o] at w1;exact w1.elim
 | some s=>rw [o] at w1;exact ⟨x',s,rfl,bt_V hK R1 q1 o,w1.here R1 (.bl _)⟩
noncomputable def gApp (x v:AV):M AV:=fun h=>match x with
 | .ref n=>match h.ob n with
  | some (.lst true xs)=>if xs.length < sizeLine then .ok .non (h.put n (.lst true (xs ++ [v]))) else .bad
  | _=>.bad
 | _=>.bad
noncomputable def isL (h:AH):AV->Bool
 | .ref n=>match h.ob n with
  | some (.lst _ _)=>true
  | _=>false
 | _=>false
noncomputable def appM (a b:M AV):M AV:=a.bind fun x h=>if isL h x = true then (b.bind fun y=>gApp x y) h else .bad
noncomputable def baseOk:Expr->Bool
 | .Name ..=>true | .Attribute ..=>true | .Subscript ..=>true
 | .Call (.Attribute ..) _ _ _=>true
 | .Call (.Name ..) (_ :: _) _ _=>true
 | _=>false
theorem base_is {o:Expr}{f:Str}{env:Env}{whole:Sem Value}(h:baseOk o = true):attributeBase o f env whole = whole:=by
 cases o with
 | Name=>rfl
 | Attribute=>rfl
 | Subscript=>rfl
 | Call g es ks p =>
  cases g with
  | Attribute=>rfl
  | Name =>
   cases es with
   | nil=>cases h
   | cons=>rfl
  | _=>cases h
 | _=>cases h
theorem write_ext {ρ:List Addr}{H:Hp}{p:Addr}{O O':HO}(g1:H p = some O)(nt:∀ xs,O ≠ .tup xs)(nf:∀ x u,O ≠ .frz x u):Ext ρ H ρ (upd H p O'):=⟨fun _ _ z=>z,fun b xs z=>by
 rw [upd_ne (ne_of z g1 fun w=>nt xs w.symm)];exact z,fun b x u z=>by
 rw [upd_ne (ne_of z g1 fun w=>nf x u w.symm)];exact z⟩
theorem qe_app (hK:X.K = T.K)(ho:QE X T E o ma)(ha:QE X T E a mb)(hb:baseOk o = true)(hs:shp a = true)(hl:(apos.endLine == pos.line) = true) :
  QE X T E (.Call (.Attribute o "append" apos) [a] [] pos) (fun σ=>appM (ma σ) (mb σ)):=by
 obtain ⟨ta,pa,ra⟩:=ho
 obtain ⟨tb,pb,rb⟩:=ha
 refine ⟨_,pe_bm PySem.F.plainAttrs_list PySem.F.slot_list_append PySem.F.type_list_append mt_append pa (pa_cons pb pa_nil (shp_star hs)) (base_is hb) (by rw [shp_star hs];rfl) hl (shp_star hs) rfl,fun ρ σ σ' h H Q R S w=>?_⟩
 refine ra ρ σ σ' h H _ R S (W.bind w fun ρ1 x x' h1 H1 e1 R1 q1 w1=>?_)
 have w1':W T (RepV T) (if isL h1 x = true then ((mb σ).bind fun y=>gApp x y) h1 else .bad) ρ1 H1 Q E:=w1
 by_cases hL:isL h1 x = true
 case neg=>rw [if_neg hL] at w1';exact w1'.elim
 rw [if_pos hL] at w1'
 cases x with
 | ref n =>
  cases q1 with
  | @ref _ p q =>
   have fin:∀ ρ2 y y' h2 H2,Ext ρ1 H1 ρ2 H2->RepH T ρ2 h2 H2->RepV T ρ2 H2 y y'->W T (RepV T) (gApp (.ref n) y h2) ρ2 H2 Q E->rAppend (.ref p) [y'] H2 Q:=fun ρ2 y y' h2 H2 e2 R2 q2 w2=>by
    have q':=e2.pre n p q
    simp only [gApp] at w2
    cases ob:h2.ob n with
    | none=>rw [ob] at w2;exact w2.elim
    | some u =>
     rw [ob] at w2
     cases u with
     | lst mu xs =>
      cases mu with
      | true =>
       obtain ⟨ys,g1,r1⟩:=R2.obj n _ p ob q'
       by_cases hz:xs.length < sizeLine
       ·simp only [if_pos hz] at w2
        obtain ⟨R3,e3⟩:=R2.write (o':=.lst true (xs ++ [y])) (O':=.lst (ys ++ [y'])) ob rfl rfl q' g1 (fun _ z=>by cases z) (fun _ _ z=>by cases z)
         ⟨_,upd_same,(r1.append (.cons q2 .nil)).ext (write_ext g1 (fun _ z=>by cases z) (fun _ _ z=>by cases z))⟩
        exact ⟨p,ys,y',rfl,rfl,g1,by rw [<- r1.length];exact hz,W.ok w2 e3 R3 .non⟩
       ·simp only [if_neg hz] at w2;exact w2.elim
      | false=>exact w2.elim
     | dct _=>exact w2.elim
     | ins _ _=>exact w2.elim
     | xo _=>exact w2.elim
   refine ⟨.inl ⟨rfl,?_⟩,rb ρ1 σ σ' h1 H1 _ R1 (S.ext e1) (W.bind w1' fun ρ2 y y' h2 H2 e2 R2 q2 w2=>fin ρ2 y y' h2 H2 e2 R2 q2 w2)⟩
   simp only [isL] at hL
   cases ob:h1.ob n with
   | none=>rw [ob] at hL;cases hL
   | some u =>
    cases u with
    | lst mu xs =>
     obtain ⟨ys,g1,_⟩:=lst_sq R1 ob q
     exact ⟨ys,by rw [hK];exact g1⟩
    | dct _=>rw [ob] at hL;cases hL
    | ins _ _=>rw [ob] at hL;cases hL
    | xo _=>rw [ob] at hL;cases hL
 | _=>cases hL
noncomputable def KTab (P:Program)(w:World)(K:PySem.W.Frag)(a:Addr)(kvs:List (Str × Int)):Prop:=∀ h:Heap,K.In h->StrTab P w h a (kvs.map fun p=>(PyData.str p.1,PyData.int p.2))
noncomputable def getOf (kvs:List (Str × Int))(x:Str)(z:Int):Int:=(kvs.lookup x).getD z
noncomputable def tabOf:AV->Option (List (Str × Int))
 | .glb kvs=>some kvs
 | _=>none
noncomputable def strInt:List AV->Option (Str × Int)
 | [.str s,.int z]=>some (s,z)
 | _=>none
noncomputable def getM (o:M AV)(r:M (List AV)):M AV:=o.bind fun x h=>match tabOf x with
 | some kvs=>(r.bind fun xs h2=>match strInt xs with
  | some (s,z)=>.ok (.int (getOf kvs s z)) h2
  | none=>.bad) h
 | none=>.bad
noncomputable def gTix (kvs:List (Str × AV))(y:AV):M AV:=fun h=>match y with
 | .str k=>match kvs.lookup k with
  | some v=>.ok v h
  | none=>.bad
 | _=>.bad
noncomputable def TabAV (X:Cx)(T:Tab)(x:Str)(kvs:List (Str × AV)):Prop:=∃ (a:Addr) (us:List (Str × Value)),X.mg x = some (.ref a)/\KTabR X.prog X.w X.K a us /\
 (a == sysModules) = false /\
 ∀ k v,kvs.lookup k = some v->∃ u v',valueAt us k = some u/\RelV v' u/\∀ ρ H,RepV T ρ H v v'
theorem qe_tix {x:Str} {kvs:List (Str × AV)} {b:Expr} {mb:ASt->M AV} {p1 pos:Pos} (hg:Gl X x) (hT:TabAV X T x kvs) (hb:QE X T E b mb) (hs:PlainIx b) (hd:(x == ("__debug__":Str)) = false) :
  QE X T E (.Subscript (.Name x p1) b pos) (fun σ=>(mb σ).bind (gTix kvs)):=by
 obtain ⟨tb,pb,rb⟩:=hb
 obtain ⟨a,us,hm,hK,-,hv⟩:=hT
 refine ⟨_,pe_ix ix_tab (pe_glob (v:=.ref a) hg hm rfl hd) pb hs,fun ρ σ σ' h H Q R S w=>?_⟩
 refine rb ρ σ σ' h H _ R S (W.bind w fun ρ1 y y' h1 H1 e1 R1 q1 w1=>?_)
 cases y with
 | str k =>
  cases q1
  simp only [gTix] at w1
  cases l:kvs.lookup k with
  | none=>rw [l] at w1;exact w1.elim
  | some v =>
   rw [l] at w1
   obtain ⟨u,v',h1,h2,h3⟩:=hv k v l
   exact ⟨a,us,k,u,v',rfl,rfl,hK,h1,h2,W.here w1 R1 (h3 _ _)⟩
 | _=>exact w1.elim
noncomputable def strsOf:List AV->Option (List Str)
 | []=>some []
 | .str x :: r=>(strsOf r).map (x :: ·)
 | _ :: _=>none
theorem strsOf_eq:∀ {xs:List AV} {ts:List Str},strsOf xs = some ts->xs = ts.map AV.str
 | [],ts,h=>by cases h;rfl
 | x :: r,ts,h=>by
  cases x with
  | str y =>
   simp only [strsOf] at h
   cases q:strsOf r with
   | none=>rw [q] at h;cases h
   | some us =>
    rw [q] at h
    cases h
    rw [strsOf_eq q];rfl
  | _=>cases h
theorem RepVs.strs:∀ {ρ:List Addr} {H:Hp} {ts:List Str} {ys:List V},RepVs T ρ H (ts.map AV.str) ys->ys = ts.map V.str
 | _,_,[],_,.nil=>rfl
 | _,_,t :: ts,_,.cons (.str _) r=>by rw [RepVs.strs r];rfl
inductive Tk where
 | sw | ew | st | sp | pa
noncomputable def Tk.nm:Tk->Str
 | .sw=>"startswith" | .ew=>"endswith" | .st=>"strip" | .sp=>"split" | .pa=>"partition"
noncomputable def spOk (z u:Str):Bool:=!(u.length == 0) && (decide (z.length <= sizeLine) && (decide ((Txt.split z u).length <= sizeLine) && decide ((Builtin.Str.partsBetween z (Builtin.Str.occurrences z u 0 z.length (z.length + 1)) u.length).length <= sizeLine)))
noncomputable def gTm (k:Tk)(x y:AV):M AV:=fun h=>match x,y with
 | .str z,.str u=>match k with
  | .sw=>.ok (.bl (Txt.startswith z u)) h
  | .ew=>.ok (.bl (Txt.endswith z u)) h
  | .st=>if z.length <= sizeLine then .ok (.str (Txt.stripChars z u)) h else .bad
  | .sp=>if spOk z u = true then newL ((Txt.split z u).map AV.str) h else .bad
  | .pa=>if (u.length == 0) = false/\z.length <= sizeLine then .ok (.tup ((partT z u).map AV.str)) h else .bad
 | _,_=>.bad
noncomputable def tmM (k:Tk)(a b:M AV):M AV:=a.bind fun x=>match x with
 | .str z=>b.bind fun y=>gTm k (.str z) y
 | _=>M.bad
theorem RepVs.strR {ρ:List Addr}{H:Hp}:∀ {ts:List Str},RepVs T ρ H (ts.map AV.str) (ts.map V.str)
 | []=>.nil
 | _ :: _=>.cons (.str _) RepVs.strR
theorem qe_tmr {k:Tk} {id:String} {r:V->List V->Hp->VK->Prop} (hsl:Slot "str" k.nm id) (hty:typeOf (.builtin id) = pure (.type "method_descriptor")) (hm:MtR X id r) (ho:QE X T E o ma) (ha:QE X T E a mb) (hb:baseOk o = true) (hs:shp a = true) (hl:(apos.endLine == pos.line) = true)
  (hr:∀ ρ h H z u Q,RepH T ρ h H->W T (RepV T) (gTm k (.str z) (.str u) h) ρ H Q E->r (.str z) [.str u] H Q) :
  QE X T E (.Call (.Attribute o k.nm apos) [a] [] pos) (fun σ=>tmM k (ma σ) (mb σ)):=by
 obtain ⟨ta,pa,ra⟩:=ho
 obtain ⟨tb,pb,rb⟩:=ha
 refine ⟨_,pe_bm PySem.F.plainAttrs_str hsl hty hm pa (pa_cons pb pa_nil (shp_star hs)) (base_is hb) (by rw [shp_star hs];rfl) hl (shp_star hs) rfl,fun ρ σ σ' h H Q R S w=>?_⟩
 refine ra ρ σ σ' h H _ R S (W.bind w fun ρ1 x x' h1 H1 e1 R1 q1 w1=>?_)
 cases x with
 | str z =>
  cases q1
  refine ⟨rfl,rb ρ1 σ σ' h1 H1 _ R1 (S.ext e1) (W.bind w1 fun ρ2 y y' h2 H2 e2 R2 q2 w2=>?_)⟩
  cases y with
  | str u =>
   cases q2
   exact hr ρ2 h2 H2 z u Q R2 w2
  | _=>exact w2.elim
 | _=>exact w1.elim
theorem qe_tm (k:Tk)(ho:QE X T E o ma)(ha:QE X T E a mb)(hb:baseOk o = true)(hs:shp a = true)(hl:(apos.endLine == pos.line) = true) :
  QE X T E (.Call (.Attribute o k.nm apos) [a] [] pos) (fun σ=>tmM k (ma σ) (mb σ)):=by
 cases k with
 | sw=>exact qe_tmr PySem.F.slot_str_startswith PySem.F.type_str_startswith mt_starts ho ha hb hs hl fun ρ h H z u Q R w=>⟨z,u,rfl,rfl,W.here w R (.bl _)⟩
 | ew=>exact qe_tmr PySem.F.slot_str_endswith PySem.F.type_str_endswith mt_ends ho ha hb hs hl fun ρ h H z u Q R w=>⟨z,u,rfl,rfl,W.here w R (.bl _)⟩
 | st =>
  exact qe_tmr PySem.F.slot_str_strip PySem.F.type_str_strip mt_stripC ho ha hb hs hl fun ρ h H z u Q R w=>by
   by_cases hz:z.length <= sizeLine
   ·simp only [gTm,if_pos hz] at w
    exact ⟨z,u,rfl,rfl,hz,W.here w R (.str _)⟩
   ·simp only [gTm,if_neg hz] at w
    exact w.elim
 | sp =>
  exact qe_tmr PySem.F.slot_str_split PySem.F.type_str_split mt_split ho ha hb hs hl fun ρ h H z u Q R w=>by
   by_cases hz:spOk z u = true
   ·simp only [gTm,if_pos hz] at w
    simp only [spOk,Bool.and_eq_true,Bool.not_eq_true',decide_eq_true_eq] at hz
    exact ⟨z,u,rfl,rfl,hz.1,hz.2.1,hz.2.2.1,hz.2.2.2,fun D hD=>newL_W R RepVs.strR hD w⟩
   ·simp only [gTm,if_neg hz] at w
    exact w.elim
 | pa =>
  exact qe_tmr PySem.F.slot_str_partition PySem.F.type_str_partition mt_partition ho ha hb hs hl fun ρ h H z u Q R w=>by
   by_cases hz:(u.length == 0) = false/\z.length <= sizeLine
   ·simp only [gTm,if_pos hz] at w
    exact ⟨z,u,rfl,rfl,hz.1,hz.2,fun D hD=>newT_W R RepVs.strR hD w⟩
   ·simp only [gTm,if_neg hz] at w
    exact w.elim
noncomputable def TupAV (X:Cx)(x:Str)(ts:List Str):Prop:=∃ (a:Addr) (o:Obj) (its:Array Value) (n:Nat),X.mg x = some (.ref a)/\X.K.lookup a = some o/\o.cls = .type "tuple"/\o.dict = none/\o.data = .seq its n/\its.size <= sizeLine/\Vals (ts.map V.str) its.toList
noncomputable def gTdx (ts:List Str)(y:AV):M AV:=fun h=>match y with
 | .str u=>match ts.idxOf? u with
  | some i=>.ok (.int (i:Nat)) h
  | none=>.bad
 | _=>.bad
theorem qe_tdx {x:Str} {ts:List Str} {p1:Pos} (hg:Gl X x) (hT:TupAV X x ts) (ha:QE X T E a mb) (hs:shp a = true) (hd:(x == ("__debug__":Str)) = false) (hl:(apos.endLine == pos.line) = true) :
  QE X T E (.Call (.Attribute (.Name x p1) "index" apos) [a] [] pos) (fun σ=>(mb σ).bind (gTdx ts)):=by
 obtain ⟨tb,pb,rb⟩:=ha
 obtain ⟨d,o,its,n,hm,hk,hc,hn,hdt,hz,hv⟩:=hT
 refine ⟨_,pe_bm PySem.F.plainAttrs_tuple PySem.F.slot_tuple_index PySem.F.type_tuple_index mt_tindex (pe_glob (v:=.ref d) hg hm rfl hd) (pa_cons pb pa_nil (shp_star hs)) rfl (by rw [shp_star hs];rfl) hl (shp_star hs) rfl,fun ρ σ σ' h H Q R S w=>?_⟩
 refine ⟨.inr (.inl ⟨rfl,o,hk,hc,hn⟩),rb ρ σ σ' h H _ R S (W.bind w fun ρ2 y y' h2 H2 e2 R2 q2 w2=>?_)⟩
 cases y with
 | str u =>
  cases q2
  simp only [gTdx] at w2
  cases hi:ts.idxOf? u with
  | none=>rw [hi] at w2;exact w2.elim
  | some i=>rw [hi] at w2;exact ⟨d,ts,u,i,rfl,.inr ⟨o,its,n,hk,hc,hdt,hz,hv⟩,rfl,hi,W.here w2 R2 (.int _)⟩
 | _=>exact w2.elim
noncomputable def gTin (neg:Bool)(kvs:List (Str × AV))(y:AV):M AV:=fun h=>match y with
 | .str k=>match kvs.lookup k with
  | some _=>.ok (.bl (!neg)) h
  | none=>.bad
 | _=>.bad
noncomputable def inOp (neg:Bool):CmpOp:=if neg then .NotIn else .In
theorem op_tin (neg:Bool):OpR X (compareOp (inOp neg)) (rInTb X neg):=by
 cases neg with
 | true=>exact op_ninTab
 | false=>exact op_inTab
theorem tin_W {neg:Bool}{x:Str}{kvs:List (Str × AV)}{a:Addr}{us:List (Str × Value)}(hK:KTabR X.prog X.w X.K a us)(hs:(a == sysModules) = false)(hv:∀ k v,kvs.lookup k = some v->∃ u v',valueAt us k = some u/\RelV v' u/\∀ ρ H,RepV T ρ H v v')
  {ρ:List Addr} {h:AH} {H:Hp} {y:AV} {y':V} {Q:VK} (R:RepH T ρ h H) (r:RepV T ρ H y y') (w:W T (RepV T) (gTin neg kvs y h) ρ H Q E):rInTb X neg y' (.ref a) H Q:=by
 cases y with
 | str k =>
  cases r
  simp only [gTin] at w
  cases l:kvs.lookup k with
  | none=>rw [l] at w;exact w.elim
  | some v =>
   rw [l] at w
   obtain ⟨u,v',h1,h2,h3⟩:=hv k v l
   refine ⟨a,us,k,rfl,rfl,hK,hs,?_⟩
   rw [h1]
   cases neg <;> exact W.here w R (.bl _)
 | _=>exact w.elim
theorem qe_tin {neg:Bool} {x:Str} {kvs:List (Str × AV)} {p1:Pos} (hg:Gl X x) (hT:TabAV X T x kvs) (ha:QE X T E a mb) (hd:(x == ("__debug__":Str)) = false) :
  QE X T E (.Compare a [inOp neg] [.Name x p1] pos) (fun σ=>(mb σ).bind (gTin neg kvs)):=by
 obtain ⟨tb,pb,rb⟩:=ha
 obtain ⟨d,us,hm,hK,hs,hv⟩:=hT
 refine ⟨_,pe_cmpR (op_tin neg) pb (pe_glob (v:=.ref d) hg hm rfl hd) (by cases neg <;> rfl),fun ρ σ σ' h H Q R S w=>?_⟩
 exact rb ρ σ σ' h H _ R S (W.bind w fun ρ2 y y' h2 H2 e2 R2 q2 w2=>tin_W (x:=x) hK hs hv R2 q2 w2)
theorem qt_tin {neg:Bool} {x:Str} {kvs:List (Str × AV)} {p1:Pos} (hg:Gl X x) (hT:TabAV X T x kvs) (ha:QE X T E a mb) (hd:(x == ("__debug__":Str)) = false) :
  QT X T E (.Compare a [inOp neg] [.Name x p1] pos) (fun σ=>((mb σ).bind (gTin neg kvs)).bind gBool):=by
 obtain ⟨tb,pb,rb⟩:=ha
 obtain ⟨d,us,hm,hK,hs,hv⟩:=hT
 refine ⟨_,pt_cmpR (op_tin neg) pb (pe_glob (v:=.ref d) hg hm rfl hd) (by cases neg <;> rfl),fun ρ σ σ' h H Q R S w=>?_⟩
 have w':W T (RepV T) ((mb σ).bind (gTin neg kvs) h) ρ H (fun x H'=>∃ k,x = .bl k/\Q k H') E:=W.bind w fun ρ1 z z' h1 H1 e1 R1 q1 w1=>bool_W R1 q1 w1
 exact rb ρ σ σ' h H _ R S (W.bind w' fun ρ2 y y' h2 H2 e2 R2 q2 w2=>tin_W (x:=x) hK hs hv R2 q2 w2)
noncomputable def tkOf (m:Str):Option Tk:=if m = "startswith" then some .sw else if m = "endswith" then some .ew else if m = "strip" then some .st else if m = "split" then some .sp else if m = "partition" then some .pa else none
theorem tkOf_nm {m:Str}{k:Tk}(h:tkOf m = some k):m = k.nm:=by
 unfold tkOf at h
 repeat' (split at h;· rename_i e;cases h;exact e)
 cases h
noncomputable def gJoin (z:Str)(x:AV):M AV:=fun h=>match x with
 | .ref n=>match h.ob n with
  | some (.lst _ xs)=>match strsOf xs with
   | some ts=>if JoinOk z ts = true then .ok (.str (Txt.join z ts)) h else .bad
   | none=>.bad
  | _=>.bad
 | _=>.bad
theorem qe_join {z:Str}{k:Nat}{p0:Pos}(hK:X.K = T.K)(ha:QE X T E a mb)(hs:shp a = true)(hl:(apos.endLine == pos.line) = true) :
  QE X T E (.Call (.Attribute (.Constant (.str z) k p0) "join" apos) [a] [] pos) (fun σ=>(mb σ).bind (gJoin z)):=by
 obtain ⟨tb,pb,rb⟩:=ha
 refine ⟨_,pe_bm PySem.F.plainAttrs_str PySem.F.slot_str_join PySem.F.type_str_join mt_join (pe_str (x:=z)) (pa_cons pb pa_nil (shp_star hs)) rfl (by rw [shp_star hs];rfl) hl (shp_star hs) rfl,fun ρ σ σ' h H Q R S w=>?_⟩
 refine ⟨rfl,rb ρ σ σ' h H _ R S (W.bind w fun ρ1 y y' h1 H1 e1 R1 q1 w1=>?_)⟩
 cases y with
 | ref n =>
  cases q1 with
  | @ref _ p q =>
   simp only [gJoin] at w1
   cases ob:h1.ob n with
   | none=>rw [ob] at w1;exact w1.elim
   | some u =>
    rw [ob] at w1
    cases u with
    | lst mu xs =>
     obtain ⟨ys,g1,r1⟩:=lst_sq R1 ob q
     cases l:strsOf xs with
     | none=>simp only [l] at w1;exact w1.elim
     | some ts =>
      simp only [l] at w1
      have e:=strsOf_eq l
      subst e
      have e2:=RepVs.strs r1
      subst e2
      by_cases hj:JoinOk z ts = true
      ·rw [if_pos hj] at w1
       exact ⟨z,p,ts,rfl,rfl,by rw [hK];exact g1,hj,W.here w1 R1 (.str _)⟩
      ·rw [if_neg hj] at w1;exact w1.elim
    | _=>exact w1.elim
 | _=>exact w1.elim
end
end AM
set_option genSizeOf false
namespace AM
open PySem PySem.Spec PyProof.Rows L2
section
variable {X:Cx}{T:Tab}{E:XK}{o v:Expr}{ma mb:ASt->M AV}{f:Str}{pos pos':Pos}{ρ:List Addr}{H:Hp}
noncomputable def gFld (cs:List Nat)(f:Str)(x:AV):M AV:=fun h=>match x with
 | .ref n=>match h.ob n with
  | some (.ins c fs)=>if cs.contains c = true then match fs.lookup f with
   | some v=>.ok v h
   | none=>.bad
   else .bad
  | _=>.bad
 | _=>.bad
noncomputable def putA (f:Str)(v:AV):List (Str × AV)->List (Str × AV)
 | []=>[(f,v)]
 | (g,x) :: r=>if g = f then (g,v) :: r else (g,x) :: putA f v r
noncomputable def setF (cs:List Nat)(f:Str)(x v:AV)(h:AH):Option AH:=match x with
 | .ref n=>match h.ob n with
  | some (.ins c fs)=>if cs.contains c = true/\fs.length < 1000 then some (h.put n (.ins c (putA f v fs))) else none
  | _=>none
 | _=>none
noncomputable def fldM (cs:List Nat)(f:Str)(a b:M AV)(σ:ASt):M Out:=b.bind fun v=>a.bind fun x h=>match setF cs f x v h with
 | some h'=>.ok (.nx σ) h'
 | none=>.bad
variable {EE:L2.St->XK}
variable {e:Expr}{es:List Expr}{m:Str}{apos:Pos}{mr:ASt->M (List AV)}{ta:TE}{t:TA}
noncomputable def methK (dp:Nat->Option (List AV->M AV))(m:Str)(r:M (List AV))(x:AV):M AV:=fun h=>match x with
 | .ref n=>match h.ob n with
  | some (.ins c fs)=>match dp c,fs.lookup m with
   | some g,none=>(r.bind fun xs=>g (.ref n :: xs)) h
   | _,_=>.bad
  | _=>.bad
 | _=>.bad
noncomputable def methM (dp:Nat->Option (List AV->M AV))(m:Str)(a:M AV)(r:M (List AV)):M AV:=a.bind (methK dp m r)
noncomputable def isNone:AV->Bool
 | .non=>true
 | _=>false
noncomputable def makeM (c:Nat)(dv:List AV)(g:List AV->M AV)(r:M (List AV)):M AV:=r.bind fun xs h=>((g (.ref h.nx :: (xs ++ dv))).bind fun v=>if isNone v = true then M.ret (.ref h.nx) else M.bad) (h.new (.ins c []))
noncomputable def augIn (f:Str)(n c:Nat)(i:Int)(σ:ASt)(y:AV):M Out:=fun h=>match y with
 | .int j=>match h.ob n with
  | some (.ins c' fs)=>if c' = c/\fs.length < 1000 then .ok (.nx σ) (h.put n (.ins c (putA f (.int (i + j)) fs))) else .bad
  | _=>.bad
 | _=>.bad
noncomputable def augM (cs:List Nat)(f:Str)(a b:M AV)(σ:ASt):M Out:=a.bind fun x h=>match x with
 | .ref n=>match h.ob n with
  | some (.ins c fs)=>if cs.contains c = true then match fs.lookup f with
   | some (.int i)=>(b.bind (augIn f n c i σ)) h
   | _=>.bad
   else .bad
  | _=>.bad
 | _=>.bad
noncomputable def gIsc (cs:List (Nat × Bool))(x:AV):M AV:=fun h=>match x with
 | .ref n=>match h.ob n with
  | some (.ins c _)=>match cs.lookup c with
   | some b=>.ok (.bl b) h
   | none=>.bad
  | _=>.bad
 | _=>.bad
noncomputable def augV (sub:Bool)(i:Nat)(b:M AV)(σ:ASt):M Out:=match σ[i]? with
 | some (some (.int a))=>b.bind fun y=>match y with
  | .int j=>M.ret (.nx (σ.set i (some (.int (if sub = true then a - j else a + j)))))
  | _=>M.bad
 | _=>M.bad
theorem qs_aug {i:Nat}{x:Str}(sub:Bool)(hN:X.N.Nodup)(hi:X.N[i]? = some x)(hx:Loc X.env.scope x)(hf:X.fn x = true\/X.env.scope.names.lookup x = some .local)(hv:QE X T E v mb) :
  QS X T E (.AugAssign (.Name x pos') (if sub = true then .Sub else .Add) v pos) (fun σ=>augV sub i (mb σ) σ):=by
 obtain ⟨tb,pb,rb⟩:=hv
 have ip:PIp X (if sub = true then .Sub else .Add) (ipI fun a j=>if sub = true then a - j else a + j):=by
  cases sub
  ·exact ip_add
  ·exact ip_sub
 refine ⟨_,ps_aug hN hi hx pb ip hf,fun ρ σ σ' h H D R S w=>?_⟩
 unfold augV at w
 cases l:σ[i]? with
 | none=>simp only [l] at w;exact w.elim
 | some u =>
  cases u with
  | none=>simp only [l] at w;exact w.elim
  | some a =>
   obtain ⟨y,g,r⟩:=S.2 i a l
   cases a with
   | int a =>
    simp only [l] at w
    cases r
    refine ⟨_,g,rb ρ σ σ' h H _ R S (W.bind w fun ρ1 z z' h1 H1 e1 R1 q1 w1=>?_)⟩
    cases z with
    | int j =>
     cases q1
     exact ⟨a,j,rfl,rfl,W.here (Q:=toQ D) (b:=COut.nx (σ'.set i (some (.int (if sub = true then a - j else a + j))))) w1 R1 ((S.ext e1).set (.int _) i)⟩
    | _=>exact w1.elim
   | _=>simp only [l] at w;exact w.elim
end
end AM
set_option genSizeOf false
namespace AM
open PySem PySem.Spec PyProof.Rows L2
section
variable {X:Cx}{T:Tab}{E:XK}{o:Expr}{ma:ASt->M AV}{pos apos:Pos}
noncomputable def gClear (x:AV):M AV:=fun h=>match x with
 | .ref n=>match h.ob n with
  | some (.lst true _)=>.ok .non (h.put n (.lst true []))
  | _=>.bad
 | _=>.bad
noncomputable def gPopL (x:AV):M AV:=fun h=>match x with
 | .ref n=>match h.ob n with
  | some (.lst true xs)=>match xs[xs.length - 1]? with
   | some y=>.ok y (h.put n (.lst true xs.dropLast))
   | none=>.bad
  | _=>.bad
 | _=>.bad
noncomputable def dnewM:M AV:=fun h=>.ok (.ref h.nx) (h.new (.dct []))
theorem qe_dnew:QE X T E (.Dict [] [] pos) (fun _=>dnewM):=by
 refine ⟨_,pe_dnewK,fun ρ σ σ' h H Q R S w p hp=>?_⟩
 obtain ⟨R1,e1⟩:=R.alloc (a:=p) (o:=.dct []) (O:=.dK []) hp ⟨[],[],upd_same,rfl,.nil⟩
 refine W.ok (a:=AV.ref h.nx) (b:=V.ref p) w e1 R1 (.ref ?_)
 rw [<- R.len]
 simp
noncomputable def dmM (g:AV->List AV->M AV)(a:M AV)(r:M (List AV)):M AV:=a.bind fun x h=>if (dctOf h x).isSome = true then (r.bind fun xs=>g x xs) h else .bad
variable {e:Expr}{es:List Expr}{mr:ASt->M (List AV)}
theorem qe_dm {m:Str} {id:String} {r:V->List V->Hp->VK->Prop} {g:AV->List AV->M AV} (slot:Slot "dict" m id) (hty:typeOf (.builtin id) = pure (.type "method_descriptor")) (hm:MtM X id r)
  (hg:∀ ρ h H x x' xs xs' Q,RepH T ρ h H->RepV T ρ H x x'->RepVs T ρ H xs xs'->W T (RepV T) (g x xs h) ρ H Q E->r x' xs' H Q)
  (ho:QE X T E o ma) (ha:QA X T E (e :: es) mr) (hb:baseOk o = true) (hs:(e :: es).all shp = true) (hn:(e :: es).length < 29) (hl:(apos.endLine == pos.line) = true) :
  QE X T E (.Call (.Attribute o m apos) (e :: es) [] pos) (fun σ=>dmM g (ma σ) (mr σ)):=by
 obtain ⟨ta,pa,ra⟩:=ho
 obtain ⟨tr,pr,rr⟩:=ha
 have hs':=hs
 rw [List.all_cons,Bool.and_eq_true] at hs
 have hany:=shp_any (env:=X.env) (pos:=pos) hs'
 refine ⟨_,pe_bm PySem.F.plainAttrs_dict slot hty hm pa pr (base_is hb) ?_ hl (shp_star hs.1) (shp_any hs.2),fun ρ σ σ' h H Q R S w=>?_⟩
 ·rw [<- List.not_any_eq_all_not,hany]
  simp only [keywordEach,backToKw,List.map_nil,List.all_nil,List.length_nil,List.isEmpty_nil,if_true,Bool.not_false,Bool.true_and,decide_eq_true_eq]
  omega
 refine ra ρ σ σ' h H _ R S (W.bind w fun ρ1 x x' h1 H1 e1 R1 q1 w1=>?_)
 have w1':W T (RepV T) (if (dctOf h1 x).isSome = true then ((mr σ).bind fun xs=>g x xs) h1 else .bad) ρ1 H1 Q E:=w1
 by_cases hd:(dctOf h1 x).isSome = true
 case neg=>rw [if_neg hd] at w1';exact w1'.elim
 rw [if_pos hd] at w1'
 obtain ⟨kvs,hd⟩:=Option.isSome_iff_exists.mp hd
 obtain ⟨n,a,us,rfl,q,ob,rfl,gd,rk⟩:=dct_V R1 q1 hd
 refine ⟨.inr (.inr (.inl ⟨rfl,.inl ⟨us,gd⟩⟩)),rr ρ1 σ σ' h1 H1 _ R1 (S.ext e1) (W.bind w1' fun ρ2 xs xs' h2 H2 e2 R2 q2 w2=>?_)⟩
 exact hg ρ2 h2 H2 _ _ xs xs' Q R2 (.ref (e2.pre n a q)) q2 w2
noncomputable def gDget (x:AV)(xs:List AV):M AV:=fun h=>match dctOf h x with
 | some kvs=>match xs with
  | [y]=>match keyOf y with
   | some k=>.ok ((valA kvs k).getD .non) h
   | none =>
    if isNon y = true then .ok .non h else
    .bad
  | [y,z]=>match keyOf y with
   | some k=>.ok ((valA kvs k).getD z) h
   | none=>.bad
  | _=>.bad
 | none=>.bad
noncomputable def refOf:AV->Nat
 | .ref n=>n
 | _=>0
noncomputable def gDpop (x:AV)(xs:List AV):M AV:=fun h=>match dctOf h x with
 | some kvs=>match xs with
  | [y]=>match keyOf y with
   | some k=>match valA kvs k with
    | some v=>.ok v (h.put (refOf x) (.dct (dropD kvs k)))
    | none=>.bad
   | none=>.bad
  | [y,z]=>match keyOf y with
   | some k=>match valA kvs k with
    | some v=>.ok v (h.put (refOf x) (.dct (dropD kvs k)))
    | none=>.ok z h
   | none=>.bad
  | _=>.bad
 | none=>.bad
noncomputable def gDset (x:AV)(xs:List AV):M AV:=fun h=>match dctOf h x with
 | some kvs=>match xs with
  | [y,z]=>match keyOf y with
   | some k=>if kvs.length < sizeLine then match valA kvs k with
    | some v=>.ok v h
    | none=>.ok z (h.put (refOf x) (.dct (putD kvs k z)))
    else .bad
   | none=>.bad
  | _=>.bad
 | none=>.bad
theorem dget_ok (ρ:List Addr)(h:AH)(H:Hp)(x:AV)(x':V)(xs:List AV)(xs':List V)(Q:VK)(R:RepH T ρ h H)(rx:RepV T ρ H x x')(rs:RepVs T ρ H xs xs')(w:W T (RepV T) (gDget x xs h) ρ H Q E):rDGet x' xs' H Q:=by
 unfold gDget at w
 cases d:dctOf h x with
 | none=>simp only [d] at w;exact w.elim
 | some kvs =>
  simp only [d] at w
  obtain ⟨n,a,us,rfl,q,ob,rfl,gd,rk⟩:=dct_V R rx d
  cases rs with
  | nil=>exact w.elim
  | @cons y y' ys ys' ry rs =>
   have fin:∀ {k:Key} {z:AV} {z':V},RepV T ρ H z z'->RepV T ρ H ((valA kvs k).getD z) ((valV us k).getD z'):=fun {k z z'} rz=>by
    obtain ⟨g1,g2⟩:=rkv_val (k:=k) rk
    cases l:valA kvs k with
    | none=>rw [g2 l];exact rz
    | some v=>obtain ⟨y1,e1,r1⟩:=g1 v l;rw [e1];exact r1
   cases rs with
   | nil =>
    dsimp only at w
    cases k:keyOf y with
    | none =>
     simp only [k] at w
     by_cases hn:isNon y = true
     ·rw [if_pos hn] at w
      have ey:y = .non:=by cases y <;> first | rfl | cases hn
      subst ey
      cases ry
      exact .inr ⟨a,_,rfl,gd,rfl,W.here w R .non⟩
     rw [if_neg hn] at w
     exact w.elim
    | some k' =>
     simp only [k] at w
     have ek:=key_V ry k
     subst ek
     refine .inl ?_
     exact ⟨a,_,_,rfl,DGet.k gd,.inl ⟨rfl,W.here w R (fin .non)⟩⟩
   | @cons z z' zs zs' rz rs =>
    cases rs with
    | nil =>
     dsimp only at w
     cases k:keyOf y with
     | none=>simp only [k] at w;exact w.elim
     | some k' =>
      simp only [k] at w
      have ek:=key_V ry k
      subst ek
      refine .inl ?_
      exact ⟨a,_,_,rfl,DGet.k gd,.inr ⟨z',rfl,W.here w R (fin rz)⟩⟩
    | cons _ _=>exact w.elim
theorem dpop_ok (ρ:List Addr)(h:AH)(H:Hp)(x:AV)(x':V)(xs:List AV)(xs':List V)(Q:VK)(R:RepH T ρ h H)(rx:RepV T ρ H x x')(rs:RepVs T ρ H xs xs')(w:W T (RepV T) (gDpop x xs h) ρ H Q E):rDPop x' xs' H Q:=by
 unfold gDpop at w
 cases d:dctOf h x with
 | none=>simp only [d] at w;exact w.elim
 | some kvs =>
  simp only [d] at w
  obtain ⟨n,a,us,rfl,q,ob,rfl,gd,rk⟩:=dct_V R rx d
  have wr:∀ {k:Key} {v:AV} {y:V},valA kvs k = some v->RepV T ρ H v y->W T (RepV T) (.ok v (h.put n (.dct (dropD kvs k)))) ρ H Q E->Q y (upd H a (.dK (dropK us k))):=fun {k v y} l rv w=>by
   have ex:=write_ext (ρ:=ρ) (p:=a) (O':=.dK (dropK us k)) gd (fun _ z=>by cases z) (fun _ _ z=>by cases z)
   obtain ⟨R3,e3⟩:=R.write (o':=.dct (dropD kvs k)) (O':=.dK (dropK us k)) ob rfl rfl q gd (fun _ z=>by cases z) (fun _ _ z=>by cases z) (dct_rep upd_same ((rkv_drop rk).ext ex))
   exact W.ok w e3 R3 (rv.ext e3)
  cases rs with
  | nil=>exact w.elim
  | @cons y y' ys ys' ry rs =>
   cases rs with
   | nil =>
    dsimp only at w
    cases k:keyOf y with
    | none=>simp only [k] at w;exact w.elim
    | some k' =>
     simp only [k] at w
     have ek:=key_V ry k
     subst ek
     obtain ⟨g1,g2⟩:=rkv_val (k:=k') rk
     cases l:valA kvs k' with
     | none=>simp only [l] at w;exact w.elim
     | some v =>
      simp only [l] at w
      obtain ⟨y1,e1,r1⟩:=g1 v l
      exact ⟨a,us,k',rfl,gd,.inl ⟨rfl,y1,e1,wr l r1 w⟩⟩
   | @cons z z' zs zs' rz rs =>
    cases rs with
    | nil =>
     dsimp only at w
     cases k:keyOf y with
     | none=>simp only [k] at w;exact w.elim
     | some k' =>
      simp only [k] at w
      have ek:=key_V ry k
      subst ek
      obtain ⟨g1,g2⟩:=rkv_val (k:=k') rk
      refine ⟨a,us,k',rfl,gd,.inr ⟨z',rfl,fun v1 e1=>?_,fun e1=>?_⟩⟩
      ·cases l:valA kvs k' with
       | none=>rw [g2 l] at e1;cases e1
       | some v =>
        simp only [l] at w
        obtain ⟨y1,e2,r1⟩:=g1 v l
        rw [e1] at e2
        cases e2
        exact wr l r1 w
      ·cases l:valA kvs k' with
       | none=>simp only [l] at w;exact W.here w R rz
       | some v =>
        obtain ⟨y1,e2,r1⟩:=g1 v l
        rw [e1] at e2
        cases e2
    | cons _ _=>exact w.elim
theorem dset_ok (ρ:List Addr)(h:AH)(H:Hp)(x:AV)(x':V)(xs:List AV)(xs':List V)(Q:VK)(R:RepH T ρ h H)(rx:RepV T ρ H x x')(rs:RepVs T ρ H xs xs')(w:W T (RepV T) (gDset x xs h) ρ H Q E):rDSet x' xs' H Q:=by
 unfold gDset at w
 cases d:dctOf h x with
 | none=>simp only [d] at w;exact w.elim
 | some kvs =>
  simp only [d] at w
  obtain ⟨n,a,us,rfl,q,ob,rfl,gd,rk⟩:=dct_V R rx d
  cases rs with
  | nil=>exact w.elim
  | @cons y y' ys ys' ry rs =>
   cases rs with
   | nil=>exact w.elim
   | @cons z z' zs zs' rz rs =>
    cases rs with
    | nil =>
     dsimp only at w
     cases k:keyOf y with
     | none=>simp only [k] at w;exact w.elim
     | some k' =>
      simp only [k] at w
      have ek:=key_V ry k
      subst ek
      by_cases hz:kvs.length < sizeLine
      case neg=>rw [if_neg hz] at w;exact w.elim
      rw [if_pos hz] at w
      obtain ⟨g1,g2⟩:=rkv_val (k:=k') rk
      refine ⟨a,us,k',z',rfl,gd,rfl,by rw [<- rkv_len rk];exact hz,fun v1 e1=>?_,fun e1=>?_⟩
      ·cases l:valA kvs k' with
       | none=>rw [g2 l] at e1;cases e1
       | some v =>
        simp only [l] at w
        obtain ⟨y1,e2,r1⟩:=g1 v l
        rw [e1] at e2
        cases e2
        exact W.here w R r1
      ·cases l:valA kvs k' with
       | none =>
        simp only [l] at w
        have ex:=write_ext (ρ:=ρ) (p:=a) (O':=.dK (putK us k' z')) gd (fun _ z=>by cases z) (fun _ _ z=>by cases z)
        obtain ⟨R3,e3⟩:=R.write (o':=.dct (putD kvs k' z)) (O':=.dK (putK us k' z')) ob rfl rfl q gd (fun _ z=>by cases z) (fun _ _ z=>by cases z) (dct_rep upd_same ((rkv_put rk rz).ext ex))
        exact W.ok w e3 R3 (rz.ext e3)
       | some v =>
        obtain ⟨y1,e2,r1⟩:=g1 v l
        rw [e1] at e2
        cases e2
    | cons _ _=>exact w.elim
inductive Dm where
 | get
 | pop | setd
noncomputable def Dm.g:Dm->AV->List AV->M AV
 | .get=>gDget
 | .pop=>gDpop | .setd=>gDset
noncomputable def dmOf (m:Str):Option Dm:=if m = "get" then some .get else
 if m = "pop" then some .pop else if m = "setdefault" then some .setd else
 none
theorem qe_dmOf {m:Str}{f:Dm}(hf:dmOf m = some f)(hu:X.A.units + 1 < cLine)(ho:QE X T E o ma)(ha:QA X T E (e :: es) mr)(hb:baseOk o = true)(hs:(e :: es).all shp = true)(hn:(e :: es).length < 29)(hl:(apos.endLine == pos.line) = true) :
  QE X T E (.Call (.Attribute o m apos) (e :: es) [] pos) (fun σ=>dmM f.g (ma σ) (mr σ)):=by
 unfold dmOf at hf
 split at hf
 case isTrue h=>cases hf;subst h;exact qe_dm PySem.F.slot_dict_get PySem.F.type_dict_get (mt_dget hu) dget_ok ho ha hb hs hn hl
 split at hf
 case isTrue h=>cases hf;subst h;exact qe_dm PySem.F.slot_dict_pop PySem.F.type_dict_pop mt_dpop dpop_ok ho ha hb hs hn hl
 split at hf
 case isTrue h=>cases hf;subst h;exact qe_dm PySem.F.slot_dict_setdefault PySem.F.type_dict_setdefault mt_dset dset_ok ho ha hb hs hn hl
 cases hf
end
end AM
set_option genSizeOf false
namespace AM
open PySem PySem.Spec PyProof.Rows L2
inductive Op where
 | add | sub | mul | fdiv | mod | pow | shl | shr | band | bor | bxor | ix
noncomputable def Op.g:Op->AV->AV->M AV
 | .add=>gAdd | .sub=>gSub | .mul=>gMul | .fdiv=>gFdiv | .mod=>gMod | .pow=>gPow | .shl=>gShl | .shr=>gShr | .band=>gAnd | .bor=>gOr | .bxor=>gXor | .ix=>gIx
inductive Cp where
 | eq | ne | lt | le | gt | ge | is_ | isn | in_ | nin
noncomputable def Cp.g:Cp->AV->AV->M AV
 | .eq=>gEq | .ne=>gNe | .lt=>gLt | .le=>gLe | .gt=>gGt | .ge=>gGe | .is_=>gIs | .isn=>gIsNot | .in_=>gIn false | .nin=>gIn true
inductive Bi where
 | len | int | min | max | divmod | tuple | list
 | str
noncomputable def Bi.g:Bi->List AV->M AV
 | .len=>gLen | .int=>gIntC | .min=>gMin | .max=>gMax | .divmod=>gDivmod | .tuple=>gTuple | .list=>gList
 | .str=>gStr
inductive CT where
 | bad
 | nm (i:Nat)
 | tup (is:List Nat)
noncomputable def asgnNs:List Nat->List AV->ASt->M ASt
 | []=>gsNil
 | i :: is=>gsCons (fun v σ=>M.ret (σ.set i (some v))) (asgnNs is)
noncomputable def asgnC:CT->AV->ASt->M ASt
 | .bad,_,_=>M.bad
 | .nm i,v,σ=>M.ret (σ.set i (some v))
 | .tup is,v,σ=>gUnp is.length (asgnNs is) v σ
mutual
inductive Ex where
 | comp0 (imp:List (Option Nat)) (t:CT) (it:Ir) (e:Ex)
 | comp1 (imp:List (Option Nat)) (t:CT) (it:Ir) (c e:Ex)
 | bad | no
 | var (i:Nat)
 | val (v:AV)
 | op (o:Op) (a b:Ex)
 | cmp (o:Cp) (a b:Ex)
 | chain (o o':Cp) (a b c:Ex)
 | chain3 (o o' o'':Cp) (a b c d:Ex)
 | neg (a:Ex)
 | not (a:Ex)
 | and (a b:Ex)
 | or (a b:Ex)
 | ite (c a b:Ex)
 | tup (es:Exs)
 | lst (es:Exs)
 | slice (a lo hi:Ex)
 | call (f:Nat) (es:Exs)
 | bi (f:Bi) (es:Exs)
 | isa (t:BT) (a:Ex)
 | tix (kvs:List (Str × AV)) (a:Ex)
 | join (z:Str) (a:Ex)
 | tm (k:Tk) (o a:Ex)
 | tdx (ts:List Str) (a:Ex)
 | tin (neg:Bool) (kvs:List (Str × AV)) (a:Ex)
 | kc (k:Kc) (a:Ex)
 | dnew
 | dm (f:Dm) (o:Ex) (es:Exs)
 | app (o a:Ex)
inductive Exs where
 | nil
 | cons (e:Ex) (es:Exs)
inductive Ir where
 | bad
 | seq (e:Ex)
 | rng1 (es:Exs)
 | rng2 (es:Exs)
 | enum (e:Ex)
 | zip (es:Exs)
end
abbrev Run:=Nat->List AV->M AV
noncomputable def partOf (e:Ex)(m:M AV):M (Option Int):=match e with
 | .no=>M.ret none
 | _=>m.bind gPart
mutual
noncomputable def den (F:Run):Ex->ASt->M AV
 | .bad,_=>M.bad
 | .no,_=>M.bad
 | .var i,σ=>gVar i σ
 | .val v,_=>M.ret v
 | .op o a b,σ=>op2M o.g (den F a σ) (den F b σ)
 | .cmp o a b,σ=>op2M o.g (den F a σ) (den F b σ)
 | .chain o o' a b c,σ=>chainM o.g o'.g (den F a σ) (den F b σ) (den F c σ)
 | .chain3 o o' o'' a b c d,σ=>chain3M o.g o'.g o''.g (den F a σ) (den F b σ) (den F c σ) (den F d σ)
 | .neg a,σ=>(den F a σ).bind gNeg
 | .not a,σ=>(den F a σ).bind fun x=>(gTruth x).bind fun b=>M.ret (.bl (!b))
 | .and a b,σ=>andV (den F a σ) (den F b σ)
 | .or a b,σ=>orV (den F a σ) (den F b σ)
 | .ite c a b,σ=>iteM (denT F c σ) (den F a σ) (den F b σ)
 | .tup es,σ=>tupM (dens F es σ)
 | .lst es,σ=>lstM (dens F es σ)
 | .slice a lo hi,σ=>(den F a σ).bind fun x=>(partOf lo (den F lo σ)).bind fun l=>(partOf hi (den F hi σ)).bind fun u=>gSl x l u
 | .call f es,σ=>(dens F es σ).bind (F f)
 | .bi f es,σ=>(dens F es σ).bind f.g
 | .isa t a,σ=>(den F a σ).bind (gIsa t)
 | .tix kvs a,σ=>(den F a σ).bind (gTix kvs)
 | .join z a,σ=>(den F a σ).bind (gJoin z)
 | .tm k o a,σ=>tmM k (den F o σ) (den F a σ)
 | .tdx ts a,σ=>(den F a σ).bind (gTdx ts)
 | .tin neg kvs a,σ=>(den F a σ).bind (gTin neg kvs)
 | .kc k a,σ=>(den F a σ).bind k.g
 | .dnew,_=>dnewM
 | .dm f o es,σ=>dmM f.g (den F o σ) (dens F es σ)
 | .app o a,σ=>appM (den F o σ) (den F a σ)
 | .comp0 imp t it e,σ=>compE (iter F it σ) (asgnC t) (fun _=>M.ret true) (den F e) imp σ
 | .comp1 imp t it c e,σ=>compE (iter F it σ) (asgnC t) (denT F c) (den F e) imp σ
noncomputable def denT (F:Run):Ex->ASt->M Bool
 | .bad,_=>M.bad
 | .no,_=>M.bad
 | .ite _ _ _,_=>M.bad
 | .var i,σ=>(gVar i σ).bind gTruth
 | .val v,_=>gTruth v
 | .op o a b,σ=>(op2M o.g (den F a σ) (den F b σ)).bind gTruth
 | .cmp o a b,σ=>(op2M o.g (den F a σ) (den F b σ)).bind gBool
 | .chain o o' a b c,σ=>(chainM o.g o'.g (den F a σ) (den F b σ) (den F c σ)).bind gBool
 | .chain3 o o' o'' a b c d,σ=>(chain3M o.g o'.g o''.g (den F a σ) (den F b σ) (den F c σ) (den F d σ)).bind gBool
 | .neg a,_=>M.bad
 | .not a,σ=>(denT F a σ).bind fun b=>M.ret (!b)
 | .and a b,σ=>andT (denT F a σ) (denT F b σ)
 | .or a b,σ=>orT (denT F a σ) (denT F b σ)
 | .tup es,σ=>(tupM (dens F es σ)).bind gTruth
 | .lst es,σ=>(lstM (dens F es σ)).bind gTruth
 | .slice a lo hi,σ=>((den F a σ).bind fun x=>(partOf lo (den F lo σ)).bind fun l=>(partOf hi (den F hi σ)).bind fun u=>gSl x l u).bind gTruth
 | .call f es,σ=>((dens F es σ).bind (F f)).bind gTruth
 | .bi f es,σ=>((dens F es σ).bind f.g).bind gTruth
 | .isa t a,σ=>((den F a σ).bind (gIsa t)).bind gTruth
 | .tix kvs a,σ=>((den F a σ).bind (gTix kvs)).bind gTruth
 | .join z a,σ=>((den F a σ).bind (gJoin z)).bind gTruth
 | .tm k o a,σ=>(tmM k (den F o σ) (den F a σ)).bind gTruth
 | .tdx ts a,σ=>((den F a σ).bind (gTdx ts)).bind gTruth
 | .tin neg kvs a,σ=>((den F a σ).bind (gTin neg kvs)).bind gBool
 | .kc k a,σ=>((den F a σ).bind k.g).bind gTruth
 | .dnew,_=>dnewM.bind gTruth
 | .dm f o es,σ=>(dmM f.g (den F o σ) (dens F es σ)).bind gTruth
 | .app o a,σ=>(appM (den F o σ) (den F a σ)).bind gTruth
 | .comp0 imp t it e,σ=>(compE (iter F it σ) (asgnC t) (fun _=>M.ret true) (den F e) imp σ).bind gTruth
 | .comp1 imp t it c e,σ=>(compE (iter F it σ) (asgnC t) (denT F c) (den F e) imp σ).bind gTruth
noncomputable def dens (F:Run):Exs->ASt->M (List AV)
 | .nil,_=>M.ret []
 | .cons e es,σ=>consM (den F e σ) (dens F es σ)
noncomputable def iter (F:Run):Ir->ASt->M AIt
 | .bad,_=>M.bad
 | .seq e,σ=>(den F e σ).bind gIter
 | .rng1 es,σ=>(dens F es σ).bind gRange1
 | .rng2 es,σ=>(dens F es σ).bind gRange2
 | .enum e,σ=>(den F e σ).bind gEnum
 | .zip es,σ=>(dens F es σ).bind gZip
end
end AM
set_option genSizeOf false
namespace AM
open PySem PySem.Spec PyProof.Rows L2
structure Cn where
 N:List Str
 sc:Scope
 fns:List Str
 gvs:List (Str × AV)
 bls:List Str

 xcs:List (Str × Nat)

 cat:List (Str × List (Nat × Bool))

 isx:List (Str × List (Nat × Bool))

 top:Bool:=true

 tds:List (Str × List (Str × AV)):=[]

 tis:List (Str × List Str):=[]
noncomputable def Cn.gl (C:Cn)(x:Str):Bool:=decide (C.sc.names.lookup x = some .globalImplicit)
noncomputable def okN (x:Str):Bool:=!(x == ("__debug__":Str)) && !(x == ("__classdict__":Str)) && !(x == ("__name__":Str))
noncomputable def Cn.loc (C:Cn)(x:Str):Bool:=decide (C.sc.names.lookup x = some .local) || decide (C.sc.names.lookup x = some .cell)
noncomputable def Cn.name (C:Cn)(x:Str):Ex:=if okN x then
  if C.loc x then match C.N.idxOf? x with
   | some i=>.var i
   | none=>.bad
  else if C.gl x then match C.gvs.lookup x with
   | some v=>.val v
   | none=>.bad
  else .bad
 else .bad
noncomputable def cst:Const->Ex
 | .none=>.val .non
 | .bool b=>.val (.bl b)
 | .int i=>.val (.int i)
 | .str x=>.val (.str x)
 | _=>.bad
noncomputable def binOf:Operator->Option Op
 | .Add=>some .add | .Sub=>some .sub | .Mult=>some .mul | .FloorDiv=>some .fdiv | .Mod=>some .mod | .Pow=>some .pow
 | .LShift=>some .shl | .RShift=>some .shr | .BitAnd=>some .band | .BitOr=>some .bor | .BitXor=>some .bxor
 | _=>none
noncomputable def cpOf:CmpOp->Cp
 | .Eq=>.eq | .NotEq=>.ne | .Lt=>.lt | .LtE=>.le | .Gt=>.gt | .GtE=>.ge | .Is=>.is_ | .IsNot=>.isn | .In=>.in_ | .NotIn=>.nin
noncomputable def cBin (op:Operator)(a b:Ex):Ex:=match binOf op with
 | some o=>.op o a b
 | none=>.bad
noncomputable def cBo (k:Ex->Ex->Ex):List Ex->Ex
 | []=>.bad
 | [a]=>a
 | a :: r=>k a (cBo k r)
noncomputable def exs:List Ex->Exs
 | []=>.nil
 | e :: es=>.cons e (exs es)
noncomputable def btyOf (x:Str):Option BT :=
 if x = "int" then some .int else if x = "bool" then some .bl else if x = "str" then some .str else if x = "tuple" then some .tup else if x = "list" then some .lst else if x = "dict" then some .dct else none
noncomputable def biOf (x:Str):Option Bi :=
 if x = "len" then some .len else if x = "int" then some .int else if x = "min" then some .min else if x = "max" then some .max else if x = "divmod" then some .divmod else if x = "tuple" then some .tuple else if x = "list" then some .list else
  if x = "str" then some .str else
  none
noncomputable def Cn.bl (C:Cn)(x:Str):Bool:=C.gl x && C.bls.contains x && okN x
noncomputable def nmOf:Expr->Option Str
 | .Name x _=>some x
 | _=>none
noncomputable def Cn.callN (C:Cn)(x:Str)(es:List Expr)(cs:List Ex):Ex:=if okN x && es.all shp then match C.fns.idxOf? x with
  | some i=>if C.gl x then .call i (exs cs) else .bad
  | none=>match biOf x with
   | some f=>if C.bl x && !es.isEmpty then .bi f (exs cs) else .bad
   | none=>if decide (x = "isinstance") && C.bl x then match es,cs with
     | [_,t],[a,_]=>match (nmOf t).bind fun y=>if C.bl y then btyOf y else none with
      | some bt=>.isa bt a
      | none=>.bad
     | _,_=>.bad
    else .bad
 else .bad
noncomputable def EF:Nat:=40
noncomputable def Cn.slot (C:Cn)(x:Str):Option Nat:=if C.loc x then C.N.idxOf? x else none
noncomputable def cI (C:Cn)(f:Expr->Ex)(tg:Expr)(e:Expr):Ir:=match e with
 | .Call (.Name x _) es [] _ =>
  if decide (x = "range") && C.bl x then match es with
   | [a]=>if shp a then .rng1 (exs ([a].map f)) else .bad
   | [a,b]=>if shp a && shp b then .rng2 (exs ([a,b].map f)) else .bad
   | _=>.bad
  else if decide (x = "enumerate") && C.bl x then match es,tg with
   | [a],.Tuple _ _ _=>if shp a then .enum (f a) else .bad
   | _,_=>.bad
  else if decide (x = "zip") && C.bl x then match es,tg with
   | [a,b],.Tuple _ _ _=>if shp a && shp b then .zip (exs ([a,b].map f)) else .bad
   | _,_=>.bad
  else .seq (f e)
 | e=>if shp e then .seq (f e) else .bad
noncomputable def compN (scope:Scope):List Str:=(scope.names.filter fun x=>(x.2 == NameKind.local && x.1 != (".0":Str)) || x.2 == NameKind.free).map (·.1)
noncomputable def relC (scope sc:Scope):Scope :=
 { scope with names:=scope.names.map fun (n,k)=>if (k == .free && sc.kind == .function && sc.names.lookup n == some .cell) then (n,.cell) else (n,k) }
noncomputable def Cn.comp (C:Cn)(scope:Scope):Cn:={ C with N:=compN scope,sc:=relC scope C.sc,top:=false }
noncomputable def Cn.imp (C:Cn)(scope:Scope):List (Option Nat):=(compN scope).map fun x=>if decide (scope.names.lookup x = some .free) then C.N.idxOf? x else none
noncomputable def Cn.compOk (C:Cn)(scope:Scope):Bool:=decide (scope.kind = .function) && scope.names.all (fun y=>decide (y.2 ≠ .cell)) && scope.names.all (fun y=>decide (y.2 = .local->scope.names.lookup y.1 = some .local)) &&
 scope.names.all (fun y=>decide (y.2 = .free->C.sc.names.lookup y.1 = some .cell)) && decide (compN scope).Nodup
noncomputable def ctNs (C:Cn):List Expr->Option (List Nat)
 | []=>some []
 | .Name x _ :: r=>if decide (C.sc.names.lookup x = some .local) then match C.N.idxOf? x,ctNs C r with
   | some i,some l=>some (i :: l)
   | _,_=>none
  else none
 | _=>none
noncomputable def cCT (C:Cn)(e:Expr):CT:=match e with
 | .Name x _=>if decide (C.sc.names.lookup x = some .local) then match C.N.idxOf? x with
   | some i=>.nm i
   | none=>.bad
  else .bad
 | .Tuple es _ _=>match ctNs C es with
  | some l=>.tup l
  | none=>.bad
 | _=>.bad
noncomputable def Cn.ixN (C:Cn)(a:Expr)(ea eb:Ex):Ex:=match (nmOf a).bind fun x=>if okN x && C.gl x then C.tds.lookup x else none with
 | some kvs=>.tix kvs eb
 | none=>.op .ix ea eb
noncomputable def strC:Expr->Option Str
 | .Constant (.str z) _ _=>some z
 | _=>none
noncomputable def mth0 (o:Expr)(m:Str)(eo:Ex):Ex :=
 .bad
noncomputable def mth1 (o:Expr)(m:Str)(eo ea:Ex):Ex :=
 if decide (m = "append") && baseOk o then .app eo ea else
 if decide (m = "join") then (match strC o with
  | some z=>.join z ea
  | none=>.bad) else
 if baseOk o && (tkOf m).isSome then (match tkOf m with
  | some f=>.tm f eo ea
  | none=>.bad) else
 if baseOk o then (match dmOf m with
  | some f=>.dm f eo (.cons ea .nil)
  | none=>.bad) else
 .bad
noncomputable def mth2 (o:Expr)(m:Str)(eo ea eb:Ex):Ex :=
 if baseOk o then (match dmOf m with
  | some f=>.dm f eo (.cons ea (.cons eb .nil))
  | none=>.bad) else
 .bad
noncomputable def bltM (o:Expr)(m:Str)(eo:Ex):List Ex->Ex
 | []=>mth0 o m eo
 | [a]=>mth1 o m eo a
 | [a,b]=>mth2 o m eo a b
 | _=>.bad
noncomputable def Cn.tdi (C:Cn)(o:Expr)(m:Str)(es:List Expr):Option (List Str):=if decide (m = "index") && (es.length == 1) then (nmOf o).bind fun x=>if okN x && C.gl x then C.tis.lookup x else none else none
noncomputable def tdxE (ts:List Str):List Ex->Ex
 | [a]=>.tdx ts a
 | _=>.bad
noncomputable def Cn.tinN (C:Cn)(os:List CmpOp)(bs:List Expr):Option (Bool × List (Str × AV)):=match os,bs with
 | [.In],[.Name x _]=>if okN x && C.gl x then (C.tds.lookup x).map fun k=>(false,k) else none
 | [.NotIn],[.Name x _]=>if okN x && C.gl x then (C.tds.lookup x).map fun k=>(true,k) else none
 | _,_=>none
noncomputable def Cn.methN (C:Cn)(o:Expr)(m:Str)(apos pos:Pos)(es:List Expr)(eo:Ex)(cs:List Ex):Ex :=
 if es.all shp && (apos.endLine == pos.line) then
  match C.tdi o m es with
  | some ts=>tdxE ts cs
  | none =>
  bltM o m eo cs
 else .bad
noncomputable def cUn (op:UnaryOp)(a:Ex):Ex:=match op with
 | .USub=>.neg a
 | .Not=>.not a
 | _=>.bad
noncomputable def cCmp (f:Expr->Ex)(a:Expr)(os:List CmpOp)(bs:List Expr):Ex:=match os,bs with
 | [o],[b]=>if shp b then .cmp (cpOf o) (f a) (f b) else .bad
 | [o,o'],[b,c]=>if shp c then .chain (cpOf o) (cpOf o') (f a) (f b) (f c) else .bad
 | [o,o',o''],[b,c,d]=>if shp d then .chain3 (cpOf o) (cpOf o') (cpOf o'') (f a) (f b) (f c) (f d) else .bad
 | _,_=>.bad
noncomputable def cBoo (op:BoolOp)(vs:List Ex):Ex:=match op with
 | .And=>cBo .and vs
 | .Or=>cBo .or vs
noncomputable def cSub (C:Cn)(f:Expr->Ex)(a s:Expr):Ex:=match s with
 | .Slice lo hi none _=>.slice (f a) (lo.elim .no f) (hi.elim .no f)
 | b=>if shp b then C.ixN a (f a) (f b) else .bad
noncomputable def cCal (C:Cn)(f:Expr->Ex)(g:Expr)(es:List Expr)(ks:List Keyword)(pos:Pos):Ex:=match ks with
 | []=>match g with
  | .Name x _=>C.callN x es (es.map f)
  | .Attribute o m apos=>C.methN o m apos pos es (f o) (es.map f)
  | _=>.bad
 | _=>.bad
noncomputable def cLc (C:Cn)(r:Cn->Expr->Ex)(elt:Expr)(gs:List Comprehension)(scope:Scope):Ex:=match gs with
 | [⟨t,it,cs,0⟩]=>if C.compOk scope && shp it then match cs with
   | []=>.comp0 (C.imp scope) (cCT (C.comp scope) t) (cI C (r C) t it) (r (C.comp scope) elt)
   | [c]=>.comp1 (C.imp scope) (cCT (C.comp scope) t) (cI C (r C) t it) (r (C.comp scope) c) (r (C.comp scope) elt)
   | _=>.bad
  else .bad
 | _=>.bad
noncomputable def cDi (f:Expr->Ex)(ks:List (Option Expr))(vs:List Expr):Ex:=match ks,vs with
 | [],[]=>.dnew
 | _,_=>.bad
noncomputable def kcOf (x:Str)(ks:List Keyword):Option Kc:=match ks with
 | []=>if x = "any" then some .any else
  if x = "all" then some .all else
  if x = "max" then some .mx else
  none
 | [⟨some nm,kc,_⟩]=>match kc with
  | .Constant (.bool b) _ _=>if x = "sorted"/\nm = "reverse" then some (.srt b) else none
  | .Constant .none _ _=>if x = "min"/\nm = "default" then some .minN else none
  | _=>none
 | _=>none
noncomputable def cKc (C:Cn)(f:Expr->Ex)(g:Expr)(es:List Expr)(ks:List Keyword):Option Ex:=match g,es with
 | .Name x _,[a]=>match kcOf x ks with
  | some k=>if C.bl x && shp a then some (.kc k (f a)) else none
  | none=>none
 | _,_=>none
noncomputable def cE:Cn->Nat->Expr->Ex
 | _,0,_=>.bad
 | C,n + 1,e=>match e with
  | .Name x _=>C.name x
  | .Constant c _ _=>cst c
  | .BinOp a op b _=>cBin op (cE C n a) (cE C n b)
  | .UnaryOp op a _=>cUn op (cE C n a)
  | .Compare a os bs _=>(match C.tinN os bs with
   | some (neg,kvs)=>.tin neg kvs (cE C n a)
   | none=>cCmp (cE C n) a os bs)
  | .BoolOp op vs _=>cBoo op (vs.map (cE C n))
  | .IfExp c a b _=>.ite (cE C n c) (cE C n a) (cE C n b)
  | .Tuple es _ _=>if es.all shp then .tup (exs (es.map (cE C n))) else .bad
  | .List es _=>if es.all shp then .lst (exs (es.map (cE C n))) else .bad
  | .Subscript a s _=>cSub C (cE C n) a s
  | .Call g es ks pos=>match cKc C (cE C n) g es ks with
   | some y=>y
   | none=>cCal C (cE C n) g es ks pos
  | .Dict ks vs _=>cDi (cE C n) ks vs
  | .ListComp elt gs scope _=>cLc C (fun C' e'=>cE C' n e') elt gs scope
  | _=>.bad
structure Lk (X:Cx)(T:Tab)(E:XK)(C:Cn)(F:Run):Prop where
 K:X.K = T.K
 N:X.N = C.N
 sc:X.env.scope = C.sc
 nd:C.N.Nodup
 fn:C.top = true->∀ x,X.fn x = true
 calm:X.calm = true
 po:PassesOwn (model X.prog X.w) X.A X.env X.xe
 gv:∀ x v,C.gvs.lookup x = some v->∃ u v',X.mg x = some u/\RelV v' u/\∀ ρ H,RepV T ρ H v v'
 fns:∀ (i:Nat) x,C.fns[i]? = some x->Fn X T E x (F i)
 bls:∀ x,C.bls.contains x = true->X.mg x = none
 tab:∀ kvs a,T.G kvs a->KTab X.prog X.w X.K a kvs
 tds:∀ x kvs,C.tds.lookup x = some kvs->TabAV X T x kvs
 tis:∀ x ts,C.tis.lookup x = some ts->TupAV X x ts
 un:X.A.units + 64 < cLine
 stk:C.top = true->X.stack = X.env :: X.outer
 fr:C.top = true->X.env.frame = some X.env.locals
section
variable {X:Cx}{T:Tab}{E:XK}{C:Cn}{F:Run}(L:Lk X T E C F)
theorem okN_c {x:Str}(h:okN x = true):(x == ("__debug__":Str)) = false/\(x == ("__classdict__":Str)) = false/\x ≠ "__name__":=by
 simp only [okN,Bool.and_eq_true,Bool.not_eq_true',beq_eq_false_iff_ne] at h
 exact ⟨beq_eq_false_iff_ne.mpr h.1.1,beq_eq_false_iff_ne.mpr h.1.2,h.2⟩
theorem idx_get {x:Str}{l:List Str}{i:Nat}(h:l.idxOf? x = some i):l[i]? = some x:=by
 unfold List.idxOf? at h
 obtain ⟨h1,h2,_⟩:=List.findIdx?_eq_some_iff_getElem.mp h
 rw [List.getElem?_eq_getElem h1]
 exact congrArg some (eq_of_beq h2)
include L in
theorem Lk.gl {x:Str}(h:C.gl x = true):Gl X x:=by
 have h':C.sc.names.lookup x = some .globalImplicit:=of_decide_eq_true h
 rw [<- L.sc] at h'
 exact h'
noncomputable def Q2 (X:Cx)(T:Tab)(E:XK)(F:Run)(e:Expr)(x:Ex):Prop:=QE X T E e (den F x)/\QT X T E e (denT F x)
theorem q2_bad {e:Expr}:Q2 X T E F e .bad:=⟨qe_bad,qt_bad⟩
include L in
theorem snd_name (x:Str)(pos:Pos):Q2 X T E F (.Name x pos) (C.name x):=by
 unfold Cn.name
 split
 case isFalse=>exact q2_bad
 case isTrue ok =>
  obtain ⟨h1,h2,h3⟩:=okN_c ok
  split
  case isTrue hl =>
   split
   case h_1 i hi =>
    have hv:Vis X.env.scope x:=by
     rw [L.sc]
     simp only [Cn.loc,Bool.or_eq_true,decide_eq_true_eq] at hl
     rcases hl with hl | hl
     ·exact .inl hl
     ·exact .inr (.inl hl)
    have q:QE X T E (.Name x pos) (gVar i):=qe_var (by rw [L.N];exact idx_get hi) hv h1 h2
    exact ⟨q,qt_truth L.K q rfl⟩
   case h_2=>exact q2_bad
  case isFalse =>
   split
   case isFalse=>exact q2_bad
   case isTrue hg =>
    split
    case h_1 v hv =>
     obtain ⟨u,v',e1,r,rp⟩:=L.gv x v hv
     have q:QE X T E (.Name x pos) (fun _=>M.ret v):=qe_tc (pe_glob (L.gl hg) e1 r h1) rp
     exact ⟨q,qt_truth L.K q rfl⟩
    case h_2=>exact q2_bad
include L in
theorem snd_cst (c:Const)(k:Nat)(pos:Pos):Q2 X T E F (.Constant c k pos) (cst c):=by
 cases c with
 | none=>exact ⟨qe_tc pe_non fun _ _=>.non,qt_truth L.K (qe_tc pe_non fun _ _=>.non) rfl⟩
 | bool b=>exact ⟨qe_tc pe_bl fun _ _=>.bl b,qt_truth L.K (qe_tc pe_bl fun _ _=>.bl b) rfl⟩
 | int i=>exact ⟨qe_tc pe_int fun _ _=>.int i,qt_truth L.K (qe_tc pe_int fun _ _=>.int i) rfl⟩
 | str x=>exact ⟨qe_tc pe_str fun _ _=>.str x,qt_truth L.K (qe_tc pe_str fun _ _=>.str x) rfl⟩
 | _=>exact q2_bad
include L in
theorem os_bin {op:Operator}{o:Op}(h:binOf op = some o):OpS X T E (binaryOp op) o.g:=by
 cases op <;> cases h
 ·exact os_add L.K
 ·exact os_sub
 ·exact os_mul
 ·exact os_mod
 ·exact os_pow
 ·exact os_shl
 ·exact os_shr
 ·exact os_or
 ·exact os_xor
 ·exact os_and
 ·exact os_fdiv
include L in
theorem os_cp (op:CmpOp):OpS X T E (compareOp op) (cpOf op).g:=by
 cases op
 ·exact os_eq L.K (by have:=L.un;omega)
 ·exact os_ne L.K (by have:=L.un;omega)
 ·exact os_lt
 ·exact os_le
 ·exact os_gt
 ·exact os_ge
 ·exact os_is
 ·exact os_isNot
 ·exact os_in L.K (by have:=L.un;omega)
 ·exact os_notIn L.K (by have:=L.un;omega)
theorem exs_snd {es:List Expr}{f:Expr->Ex}(hs:es.all shp = true)(h:∀ e,Q2 X T E F e (f e)):QA X T E es (dens F (exs (es.map f))):=by
 induction es with
 | nil=>exact qa_nil
 | cons e es ih =>
  rw [List.all_cons,Bool.and_eq_true] at hs
  exact qa_cons (h e).1 (ih hs.2) hs.1
include L in
theorem and_snd {pos:Pos}{f:Expr->Ex}(h:∀ e,Q2 X T E F e (f e)):∀ (e:Expr) (es:List Expr),QE X T E (.BoolOp .And (e :: es) pos) (den F (cBo .and ((e :: es).map f)))/\QW X T E (.BoolOp .And (e :: es) pos) (denT F (cBo .and ((e :: es).map f)))
 | e,[]=>⟨qe_one (h e).1,qw_and1 (h e).2⟩
 | e,b :: rest=>by
  obtain ⟨h1,h2⟩:=and_snd h b rest
  exact ⟨qe_and L.K (h e).1 h1,qw_and (h e).2 h2⟩
include L in
theorem or_snd {pos:Pos}{f:Expr->Ex}(h:∀ e,Q2 X T E F e (f e)):∀ (e:Expr) (es:List Expr),QE X T E (.BoolOp .Or (e :: es) pos) (den F (cBo .or ((e :: es).map f)))/\QW X T E (.BoolOp .Or (e :: es) pos) (denT F (cBo .or ((e :: es).map f)))
 | e,[]=>⟨qe_one (h e).1,qw_or1 (h e).2⟩
 | e,b :: rest=>by
  obtain ⟨h1,h2⟩:=or_snd h b rest
  exact ⟨qe_or L.K (h e).1 h1,qw_or (h e).2 h2⟩
theorem part_snd {o:Option Expr}{f:Expr->Ex}(h:∀ e,Q2 X T E F e (f e))(hn:∀ e,f e ≠ .no):QO X T E o (fun σ=>partOf (o.elim .no f) (den F (o.elim .no f) σ)):=by
 cases o with
 | none=>exact qo_none
 | some e =>
  have q:QO X T E (some e) (fun σ=>(den F (f e) σ).bind gPart):=qo_some (h e).1
  have e1:∀ m,partOf (f e) m = m.bind gPart:=fun m=>by
   unfold partOf
   split
   ·rename_i z;exact absurd z (hn e)
   ·rfl
  simp only [Option.elim,e1]
  exact q
theorem cBo_no {k:Ex->Ex->Ex}(hk:∀ a b,k a b ≠ .no):∀ {l:List Ex},(∀ x ∈ l,x ≠ .no)->cBo k l ≠ .no
 | [],_=>by intro z;cases z
 | [a],h=>h a (by simp)
 | a :: b :: r,_=>hk _ _
theorem cKc_no {f:Expr->Ex}{g:Expr}{es:List Expr}{ks:List Keyword}{y:Ex}(h:cKc C f g es ks = some y):y ≠ .no:=by
 unfold cKc at h
 split at h
 ·split at h
  ·split at h
   ·cases h;intro z;cases z
   ·cases h
  ·cases h
 ·cases h
theorem cE_no:∀ (n:Nat) (e:Expr),cE C n e ≠ .no
 | 0,e=>by intro z;cases z
 | n + 1,e=>by
  have ih:=cE_no n
  unfold cE
  split
  ·unfold Cn.name;(repeat' split) <;> (intro z;cases z;done)
  ·rename_i c _ _;cases c <;> (intro z;cases z;done)
  ·unfold cBin;split <;> (intro z;cases z;done)
  ·unfold cUn;split <;> (intro z;cases z;done)
  ·split
   ·intro z;cases z
   ·unfold cCmp;(repeat' split) <;> (intro z;cases z;done)
  ·rename_i op vs _
   have:∀ x ∈ vs.map (cE C n),x ≠ .no:=fun x hx=>by
    obtain ⟨y,_,rfl⟩:=List.mem_map.mp hx
    exact ih y
   unfold cBoo
   split
   ·exact cBo_no (fun _ _ z=>by cases z) this
   ·exact cBo_no (fun _ _ z=>by cases z) this
  ·intro z;cases z
  ·split <;> (intro z;cases z;done)
  ·split <;> (intro z;cases z;done)
  ·unfold cSub
   unfold Cn.ixN
   (repeat' split) <;> (intro z;cases z;done)
  ·split
   ·rename_i h;exact cKc_no h
   unfold cCal;split
   ·split
    ·unfold Cn.callN;(repeat' split) <;> (intro z;cases z;done)
    ·unfold Cn.methN tdxE bltM mth0 mth1 mth2;(repeat' split) <;> (intro z;cases z;done)
    ·intro z;cases z
   ·intro z;cases z
  ·unfold cDi;(repeat' split) <;> (intro z;cases z;done)
  ·unfold cLc;(repeat' split) <;> (intro z;cases z;done)
  ·intro z;cases z
include L in
theorem snd_kc {f:Expr->Ex}(ih:∀ e,Q2 X T E F e (f e)){g:Expr}{es:List Expr}{ks:List Keyword}{pos:Pos}{y:Ex}(h:cKc C f g es ks = some y):Q2 X T E F (.Call g es ks pos) y:=by
 unfold cKc at h
 split at h
 case h_2=>cases h
 case h_1 x p a =>
  split at h
  case h_2=>cases h
  case h_1 k hk =>
   split at h
   case isFalse=>cases h
   case isTrue hb =>
    cases h
    simp only [Bool.and_eq_true,Cn.bl] at hb
    obtain ⟨⟨⟨hg,hm⟩,_⟩,hs⟩:=hb
    have mk:QE X T E (.Call (.Name x p) [a] ks pos) (den F (.kc k (f a)))->Q2 X T E F (.Call (.Name x p) [a] ks pos) (.kc k (f a)):=fun q=>⟨q,qt_truth L.K q rfl⟩
    refine mk ?_
    unfold kcOf at hk
    split at hk
    case h_1 =>
     split at hk
     case isTrue hx =>
      cases hk;subst hx
      exact qe_any L.K L.calm (L.gl hg) (L.bls _ hm) (ih a).1 hs
     split at hk
     case isTrue hx =>
      cases hk;subst hx
      exact qe_all L.K L.calm (L.gl hg) (L.bls _ hm) (ih a).1 hs
     split at hk
     case isTrue hx =>
      cases hk;subst hx
      exact qe_mx L.K L.calm (L.gl hg) (L.bls _ hm) (ih a).1 hs
     cases hk
    case h_2 nm kc kp =>
     split at hk
     case h_1 b kk kq =>
      split at hk
      case isFalse=>cases hk
      case isTrue hx =>
       cases hk
       obtain ⟨rfl,rfl⟩:=hx
       exact qe_srt L.K (L.gl hg) (L.bls _ hm) (ih a).1 hs
     case h_2 kk kq =>
      split at hk
      case isFalse=>cases hk
      case isTrue hx =>
       cases hk
       obtain ⟨rfl,rfl⟩:=hx
       exact qe_minN L.K L.calm (L.gl hg) (L.bls _ hm) (ih a).1 hs
     case h_3=>cases hk
    case h_3=>cases hk
include L in
theorem snd_call {n:Nat}(ih:∀ e,Q2 X T E F e (cE C n e))(x:Str)(p:Pos)(es:List Expr)(pos:Pos):Q2 X T E F (.Call (.Name x p) es [] pos) (C.callN x es (es.map (cE C n))):=by
 have mk:∀ {y:Ex},QE X T E (.Call (.Name x p) es [] pos) (den F y)->(∀ σ,denT F y σ = (den F y σ).bind gTruth)->Q2 X T E F (.Call (.Name x p) es [] pos) y:=fun {y} q e=>by
  refine ⟨q,?_⟩
  have:=qt_truth L.K q rfl
  have e2:denT F y = fun σ=>(den F y σ).bind gTruth:=funext e
  rw [e2];exact this
 unfold Cn.callN
 split
 case isFalse=>exact q2_bad
 case isTrue ok =>
  rw [Bool.and_eq_true] at ok
  obtain ⟨h1,h2,h3⟩:=okN_c ok.1
  split
  case h_1 i hi =>
   split
   case isFalse=>exact q2_bad
   case isTrue hg =>
    have FN:=L.fns i x (idx_get hi)
    refine mk ?_ fun _=>rfl
    cases es with
    | nil=>exact qe_call0 FN (L.gl hg) h1
    | cons e es=>exact qe_call FN (L.gl hg) (exs_snd ok.2 ih) ok.2 h1
  case h_2 =>
   split
   case h_1 f hf =>
    split
    case isFalse=>exact q2_bad
    case isTrue hb =>
     simp only [Cn.bl,Bool.and_eq_true] at hb
     obtain ⟨⟨⟨hg,hm⟩,_⟩,hne⟩:=hb
     refine mk ?_ fun _=>rfl
     cases es with
     | nil=>cases hne
     | cons e es =>
      have q:=exs_snd ok.2 ih
      have hm':=L.bls x hm
      unfold biOf at hf
      split at hf
      case isTrue hx=>cases hf;subst hx;exact qe_callB (cs_len L.K) (L.gl hg) hm' boot_len q ok.2 h3 h1
      split at hf
      case isTrue hx=>cases hf;subst hx;exact qe_callTy cs_int (L.gl hg) hm' boot_int q ok.2 h3 h1
      split at hf
      case isTrue hx=>cases hf;subst hx;exact qe_callB (cs_min L.calm) (L.gl hg) hm' boot_min q ok.2 h3 h1
      split at hf
      case isTrue hx=>cases hf;subst hx;exact qe_callB (cs_max L.calm) (L.gl hg) hm' boot_max q ok.2 h3 h1
      split at hf
      case isTrue hx=>cases hf;subst hx;exact qe_callB cs_divmod (L.gl hg) hm' boot_divmod q ok.2 h3 h1
      split at hf
      case isTrue hx=>cases hf;subst hx;exact qe_callTy (cs_tuple L.K) (L.gl hg) hm' boot_tuple q ok.2 h3 h1
      split at hf
      case isTrue hx=>cases hf;subst hx;exact qe_callTy (cs_list L.K L.calm) (L.gl hg) hm' boot_list q ok.2 h3 h1
      split at hf
      case isTrue hx=>cases hf;subst hx;exact qe_callTy cs_str (L.gl hg) hm' boot_str q ok.2 h3 h1
      cases hf
   case h_2 =>
    split
    case isFalse=>exact q2_bad
    case isTrue hi =>
     simp only [Bool.and_eq_true,decide_eq_true_eq,Cn.bl] at hi
     obtain ⟨hx,⟨hg,hm⟩,_⟩:=hi
     subst hx
     split
     case h_2=>exact q2_bad
     case h_1 a t ca ct ec =>
      rw [List.map_cons,List.map_cons,List.map_nil] at ec
      injection ec with ec1 ec2
      subst ec1
      cases t with
      | Name y p2 =>
       simp only [nmOf,Option.bind_some]
       have sa':shp a = true:=by
        have:=ok.2
        rw [List.all_cons,Bool.and_eq_true] at this
        exact this.1
       split
       case h_2=>exact q2_bad
       case h_1 bt hbt =>
        refine mk ?_ fun _=>rfl
        split at hbt
        case isFalse=>cases hbt
        case isTrue hy =>
         simp only [Cn.bl,Bool.and_eq_true] at hy
         obtain ⟨⟨hg2,hm2⟩,oky⟩:=hy
         obtain ⟨k1,k2,k3⟩:=okN_c oky
         have sa:shp a = true:=by
          have:=ok.2
          rw [List.all_cons,Bool.and_eq_true] at this
          exact this.1
         have fin:∀ bt,bootBuiltins y = some (.type bt.nm)->QE X T E (.Call (.Name "isinstance" p) [a,.Name y p2] [] pos) (den F (.isa bt (cE C n a))):=fun bt hv =>
          qe_isa L.K bt (L.gl hg) (L.bls _ hm) (L.gl hg2) (L.bls _ hm2) hv k3 k1 (ih a).1 sa
         unfold btyOf at hbt
         split at hbt
         case isTrue hz=>cases hbt;subst hz;exact fin .int boot_int
         split at hbt
         case isTrue hz=>cases hbt;subst hz;exact fin .bl boot_bool
         split at hbt
         case isTrue hz=>cases hbt;subst hz;exact fin .str boot_str
         split at hbt
         case isTrue hz=>cases hbt;subst hz;exact fin .tup boot_tuple
         split at hbt
         case isTrue hz=>cases hbt;subst hz;exact fin .lst boot_list
         split at hbt
         case isTrue hz=>cases hbt;subst hz;exact fin .dct (by decide +kernel)
         cases hbt
      | _=>exact q2_bad
include L in
theorem snd_i {f:Expr->Ex}(ih:∀ e,Q2 X T E F e (f e))(tg e:Expr):QI X T E tg e (iter F (cI C f tg e)):=by
 unfold cI
 split
 ·rename_i x p es pos
  split
  ·rename_i h
   simp only [Bool.and_eq_true,decide_eq_true_eq,Cn.bl] at h
   obtain ⟨hx,⟨hg,hm⟩,_⟩:=h
   subst hx
   split
   ·split
    ·rename_i a hs
     exact qi_range1 (L.gl hg) (L.bls _ hm) (exs_snd (f:=f) (by simp [hs]) ih) hs
    ·exact qi_bad
   ·split
    ·rename_i a b hs
     rw [Bool.and_eq_true] at hs
     exact qi_range2 (L.gl hg) (L.bls _ hm) (exs_snd (f:=f) (by simp [hs.1,hs.2]) ih) hs.1 hs.2
    ·exact qi_bad
   ·exact qi_bad
  ·split
   ·rename_i h
    simp only [Bool.and_eq_true,decide_eq_true_eq,Cn.bl] at h
    obtain ⟨hx,⟨hg,hm⟩,_⟩:=h
    subst hx
    split
    ·split
     ·rename_i hs
      exact qi_enum L.K (L.gl hg) (L.bls _ hm) (ih _).1 hs
     ·exact qi_bad
    ·exact qi_bad
   ·split
    ·rename_i h
     simp only [Bool.and_eq_true,decide_eq_true_eq,Cn.bl] at h
     obtain ⟨hx,⟨hg,hm⟩,_⟩:=h
     subst hx
     split
     ·split
      ·rename_i hs
       rw [Bool.and_eq_true] at hs
       exact qi_zip L.K (L.gl hg) (L.bls _ hm) (exs_snd (f:=f) (by simp [hs.1,hs.2]) ih) hs.1 hs.2
      ·exact qi_bad
     ·exact qi_bad
    ·exact qi_seq L.K (ih _).1
 ·split
  ·exact qi_seq L.K (ih _).1
  ·exact qi_bad
include L in
theorem snd_ctN:∀ {es:List Expr} {l:List Nat},ctNs C es = some l->QGs X T E es (asgnNs l)/\es.all tgOk = true/\l.length = es.length
 | [],l,h=>by cases h;exact ⟨qgs_nil,rfl,rfl⟩
 | e :: es,l,h=>by
  cases e with
  | Name x p =>
   simp only [ctNs] at h
   split at h
   ·rename_i hx
    split at h
    ·rename_i i l' hi hl
     cases h
     obtain ⟨h1,h2,h3⟩:=snd_ctN hl
     have hx':X.env.scope.names.lookup x = some .local:=by rw [L.sc];exact of_decide_eq_true hx
     exact ⟨qgs_cons (qg_name (by rw [L.N];exact L.nd) (by rw [L.N];exact idx_get hi) (.inl hx') (.inr hx')) h1 rfl,by rw [List.all_cons,h2];rfl,by simp [h3]⟩
    ·cases h
   ·cases h
  | _=>cases h
include L in
theorem snd_ct (e:Expr):QG X T E e (asgnC (cCT C e)):=by
 unfold cCT
 split
 ·split
  ·rename_i hx
   split
   ·rename_i i hi
    have lc:∀ {x:Str},C.sc.names.lookup x = some .local->X.env.scope.names.lookup x = some .local:=fun {x} h=>by rw [L.sc];exact h
    exact qg_name (by rw [L.N];exact L.nd) (by rw [L.N];exact idx_get hi) (.inl (lc (of_decide_eq_true hx))) (.inr (lc (of_decide_eq_true hx)))
   ·exact qg_bad
  ·exact qg_bad
 ·split
  ·rename_i l hl
   obtain ⟨h1,h2,h3⟩:=snd_ctN L hl
   show QG X T E _ (gUnp l.length (asgnNs l))
   rw [h3]
   exact qg_tup L.K L.calm h1 h2
  ·exact qg_bad
 ·exact qg_bad
end
theorem lookup_mem {α:Type}{x:Str}{v:α}:∀ {l:List (Str × α)},l.lookup x = some v->(x,v) ∈ l
 | [],h=>by cases h
 | (k,u) :: r,h=>by
  rw [List.lookup_cons] at h
  split at h
  ·rename_i q
   have:=eq_of_beq q
   subst this
   cases h
   exact List.mem_cons_self
  ·exact List.mem_cons_of_mem _ (lookup_mem h)
section
variable {X:Cx}{T:Tab}{E:XK}{C:Cn}{F:Run}{scope:Scope}
theorem compOk_c (ok:C.compOk scope = true):scope.kind = .function/\(∀ y ∈ scope.names,y.2 ≠ .cell)/\(∀ y ∈ scope.names,y.2 = .local->scope.names.lookup y.1 = some .local)/\(∀ y ∈ scope.names,y.2 = .free->C.sc.names.lookup y.1 = some .cell)/\(compN scope).Nodup:=by
 simp only [Cn.compOk,Bool.and_eq_true,decide_eq_true_eq,List.all_eq_true] at ok
 exact ⟨ok.1.1.1.1,ok.1.1.1.2,ok.1.1.2,ok.1.2,ok.2⟩
theorem Lk.csc (L:Lk X T E C F)(ok:C.compOk scope = true):CompSc X (compN scope) scope:=by
 obtain ⟨h1,h2,h3,h4,_⟩:=compOk_c ok
 exact ⟨h1,h2,h3,fun y hy hk=>by rw [L.sc];exact h4 y hy hk⟩
theorem Lk.imp (L:Lk X T E C F){i j:Nat}{x:Str}(e1:(compN scope)[i]? = some x)(e2:(C.imp scope)[i]? = some (some j)):scope.names.lookup x = some .free/\(x,NameKind.free) ∈ scope.names/\X.N[j]? = some x:=by
 unfold Cn.imp at e2
 rw [List.getElem?_map,e1] at e2
 have e3:(if decide (scope.names.lookup x = some .free) then C.N.idxOf? x else none) = some j:=Option.some.inj e2
 split at e3
 ·rename_i h
  have h:=of_decide_eq_true h
  exact ⟨h,lookup_mem h,by rw [L.N];exact idx_get e3⟩
 ·cases e3
theorem Lk.comp (L:Lk X T E C F)(ok:C.compOk scope = true)(s:Shared)(H:Hp)(a:Addr)(fp:List Addr):Lk (X.comp (compN scope) scope s H a fp) T E0 (C.comp scope) F where
 K:=L.K
 N:=rfl
 sc:=by
  show relabel scope X.env = relC scope C.sc
  rw [<- L.sc]
  rfl
 nd:=(compOk_c ok).2.2.2.2
 fn:=fun z=>by cases z
 calm:=L.calm
 po:=PassesOwn.never
 gv:=L.gv
 fns:=fun i x h=>let ⟨k,f,fd,ps,F,hr,hm,hk,hb,_⟩:=(L.fns i x h).ex;⟨⟨k,f,fd,ps,F,hr,hm,hk,hb,fun _ _ _ _ _ _ _ ⟨_,_,_,_,_,_,_,_,_,_,_,_,z⟩=>z.elim⟩⟩
 bls:=L.bls
 tab:=L.tab
 tds:=L.tds
 tis:=L.tis
 un:=L.un
 stk:=fun z=>by cases z
 fr:=fun z=>by cases z
end
theorem snd_ix {X:Cx}{T:Tab}{E:XK}{C:Cn}{F:Run}(L:Lk X T E C F){n:Nat}(ih:∀ e,Q2 X T E F e (cE C n e))(a b:Expr)(pos:Pos)(hb:shp b = true):Q2 X T E F (.Subscript a b pos) (C.ixN a (cE C n a) (cE C n b)):=by
 have tr:∀ {e:Expr} {y:Ex},QE X T E e (den F y)->plainT e = true->(∀ σ,denT F y σ = (den F y σ).bind gTruth)->Q2 X T E F e y:=fun {e y} q pl e1=>by
  refine ⟨q,?_⟩
  have:=qt_truth L.K q pl
  have e2:denT F y = fun σ=>(den F y σ).bind gTruth:=funext e1
  rw [e2];exact this
 have pl:QE X T E (.Subscript a b pos) (den F (.op .ix (cE C n a) (cE C n b))):=qe_ix (ixs L.K (by have:=L.un;omega)) (ih _).1 (ih _).1 (shp_ix hb)
 cases a with
 | Name x p =>
  unfold Cn.ixN
  simp only [nmOf,Option.bind_some]
  by_cases hy:(okN x && C.gl x) = true
  ·rw [if_pos hy]
   rw [Bool.and_eq_true] at hy
   cases hk:C.tds.lookup x with
   | none=>exact tr pl rfl fun _=>rfl
   | some kvs=>exact tr (qe_tix (L.gl hy.2) (L.tds _ _ hk) (ih _).1 (shp_ix hb) (okN_c hy.1).1) rfl fun _=>rfl
  ·rw [if_neg hy]
   exact tr pl rfl fun _=>rfl
 | _=>exact tr pl rfl fun _=>rfl
theorem snd_meth {X:Cx}{T:Tab}{E:XK}{C:Cn}{F:Run}(L:Lk X T E C F){n:Nat}(ih:∀ e,Q2 X T E F e (cE C n e))(o:Expr)(m:Str)(apos pos:Pos)(es:List Expr):Q2 X T E F (.Call (.Attribute o m apos) es [] pos) (C.methN o m apos pos es (cE C n o) (es.map (cE C n))):=by
 have tr:∀ {e:Expr} {y:Ex},QE X T E e (den F y)->plainT e = true->(∀ σ,denT F y σ = (den F y σ).bind gTruth)->Q2 X T E F e y:=fun {e y} q pl e1=>by
  refine ⟨q,?_⟩
  have:=qt_truth L.K q pl
  have e2:denT F y = fun σ=>(den F y σ).bind gTruth:=funext e1
  rw [e2];exact this
 unfold Cn.methN
 split
 case isFalse=>exact q2_bad
 case isTrue hb =>
  rw [Bool.and_eq_true] at hb
  obtain ⟨hs,hl⟩:=hb
  have blt:Q2 X T E F (.Call (.Attribute o m apos) es [] pos) (bltM o m (cE C n o) (es.map (cE C n))):=by
   cases es with
   | nil =>
    show Q2 X T E F _ (mth0 o m (cE C n o))
    unfold mth0
    exact q2_bad
   | cons a es =>
    rw [List.all_cons,Bool.and_eq_true] at hs
    cases es with
    | nil =>
     show Q2 X T E F _ (mth1 o m (cE C n o) (cE C n a))
     unfold mth1
     split
     case isTrue hm =>
      simp only [Bool.and_eq_true,decide_eq_true_eq] at hm
      obtain ⟨hm,ho⟩:=hm
      subst hm
      exact tr (qe_app L.K (ih _).1 (ih _).1 ho hs.1 hl) rfl fun _=>rfl
     split
     case isTrue hm =>
      have hm:=of_decide_eq_true hm
      subst hm
      split
      ·rename_i z hz
       unfold strC at hz
       split at hz
       ·cases hz
        exact tr (qe_join L.K (ih _).1 hs.1 hl) rfl fun _=>rfl
       ·cases hz
      ·exact q2_bad
     split
     case isTrue hm =>
      rw [Bool.and_eq_true] at hm
      split
      ·rename_i f hf
       rw [tkOf_nm hf]
       exact tr (qe_tm f (ih _).1 (ih _).1 hm.1 hs.1 hl) rfl fun _=>rfl
      ·exact q2_bad
     split
     case isTrue ho =>
      split
      ·rename_i f hf
       exact tr (qe_dmOf hf (by have:=L.un;omega) (ih _).1 (exs_snd (f:=cE C n) (es:=[a]) (by simp [hs.1]) ih) ho (by simp [hs.1]) (by simp) hl) rfl fun _=>rfl
      ·exact q2_bad
     exact q2_bad
    | cons b es =>
     obtain ⟨hs1,hs2⟩:=hs
     rw [List.all_cons,Bool.and_eq_true] at hs2
     cases es with
     | nil =>
      show Q2 X T E F _ (mth2 o m (cE C n o) (cE C n a) (cE C n b))
      unfold mth2
      split
      case isTrue ho =>
       split
       ·rename_i f hf
        exact tr (qe_dmOf hf (by have:=L.un;omega) (ih _).1 (exs_snd (f:=cE C n) (es:=[a,b]) (by simp [hs1,hs2.1]) ih) ho (by simp [hs1,hs2.1]) (by simp) hl) rfl fun _=>rfl
       ·exact q2_bad
      exact q2_bad
     | cons c es=>exact q2_bad
  split
  case h_1 ts hts =>
   unfold Cn.tdi at hts
   split at hts
   case isFalse=>cases hts
   case isTrue hz =>
    rw [Bool.and_eq_true] at hz
    have hm:=of_decide_eq_true hz.1
    subst hm
    cases o with
    | Name x p =>
     simp only [nmOf,Option.bind_some] at hts
     split at hts
     case isFalse=>cases hts
     case isTrue hx =>
      rw [Bool.and_eq_true] at hx
      cases es with
      | nil=>cases hz.2
      | cons a es =>
       cases es with
       | cons b es=>cases hz.2
       | nil =>
        have hsa:shp a = true:=by simpa using hs
        exact tr (qe_tdx (L.gl hx.2) (L.tis _ _ hts) (ih _).1 hsa (okN_c hx.1).1 hl) rfl fun _=>rfl
    | _=>cases hts
  exact blt
theorem snd_e {T:Tab}{F:Run}:∀ (n:Nat) {X:Cx} {E:XK} {C:Cn} (L:Lk X T E C F) (e:Expr),Q2 X T E F e (cE C n e)
 | 0,X,E,C,L,e=>q2_bad
 | n + 1,X,E,C,L,e=>by
  have ih:∀ e,Q2 X T E F e (cE C n e):=fun e=>snd_e n L e
  have tr:∀ {e:Expr} {y:Ex},QE X T E e (den F y)->plainT e = true->(∀ σ,denT F y σ = (den F y σ).bind gTruth)->Q2 X T E F e y:=fun {e y} q pl e1=>by
   refine ⟨q,?_⟩
   have:=qt_truth L.K q pl
   have e2:denT F y = fun σ=>(den F y σ).bind gTruth:=funext e1
   rw [e2];exact this
  unfold cE
  split
  ·exact snd_name L _ _
  ·exact snd_cst L _ _ _
  ·unfold cBin
   split
   ·rename_i o ho
    exact tr (qe_op (os_bin L ho) (ih _).1 (ih _).1) rfl fun _=>rfl
   ·exact q2_bad
  ·unfold cUn
   split
   ·exact ⟨qe_un us_neg (ih _).1,qt_bad⟩
   ·exact ⟨qe_not L.K (ih _).1,qt_not (ih _).2⟩
   ·exact q2_bad
  ·split
   ·rename_i neg kvs ht
    unfold Cn.tinN at ht
    split at ht
    ·split at ht
     case isFalse=>cases ht
     case isTrue hx =>
      rw [Bool.and_eq_true] at hx
      obtain ⟨k,hk,e⟩:=Option.map_eq_some_iff.mp ht
      cases e
      exact ⟨qe_tin (neg:=false) (L.gl hx.2) (L.tds _ _ hk) (ih _).1 (okN_c hx.1).1,qt_tin (neg:=false) (L.gl hx.2) (L.tds _ _ hk) (ih _).1 (okN_c hx.1).1⟩
    ·split at ht
     case isFalse=>cases ht
     case isTrue hx =>
      rw [Bool.and_eq_true] at hx
      obtain ⟨k,hk,e⟩:=Option.map_eq_some_iff.mp ht
      cases e
      exact ⟨qe_tin (neg:=true) (L.gl hx.2) (L.tds _ _ hk) (ih _).1 (okN_c hx.1).1,qt_tin (neg:=true) (L.gl hx.2) (L.tds _ _ hk) (ih _).1 (okN_c hx.1).1⟩
    ·cases ht
   ·unfold cCmp
    split
    ·split
     ·rename_i hb
      exact ⟨qe_cmp (os_cp L _) (ih _).1 (ih _).1 (shp_mark hb),qt_cmp (os_cp L _) (ih _).1 (ih _).1 (shp_mark hb)⟩
     ·exact q2_bad
    ·split
     ·rename_i hc
      exact ⟨qe_chain (os_cp L _) (os_cp L _) (ih _).1 (ih _).1 (ih _).1 (shp_mark hc),qt_chain (os_cp L _) (os_cp L _) (ih _).1 (ih _).1 (ih _).1 (shp_mark hc)⟩
     ·exact q2_bad
    ·split
     ·rename_i hc
      exact ⟨qe_chain3 (os_cp L _) (os_cp L _) (os_cp L _) (ih _).1 (ih _).1 (ih _).1 (ih _).1 (shp_mark hc),qt_chain3 (os_cp L _) (os_cp L _) (os_cp L _) (ih _).1 (ih _).1 (ih _).1 (ih _).1 (shp_mark hc)⟩
     ·exact q2_bad
    ·exact q2_bad
  ·rename_i op vs _
   unfold cBoo
   cases vs with
   | nil=>split <;> exact q2_bad
   | cons v vs =>
    split
    ·obtain ⟨h1,h2⟩:=and_snd L ih v vs
     exact ⟨h1,h2.qt⟩
    ·obtain ⟨h1,h2⟩:=or_snd L ih v vs
     exact ⟨h1,h2.qt⟩
  ·exact ⟨qe_if (ih _).2 (ih _).1 (ih _).1,qt_bad⟩
  ·split
   ·rename_i hs
    exact tr (qe_tup (exs_snd hs ih)) rfl fun _=>rfl
   ·exact q2_bad
  ·split
   ·rename_i hs
    exact tr (qe_lst (exs_snd hs ih)) rfl fun _=>rfl
   ·exact q2_bad
  ·unfold cSub
   split
   ·exact tr (qe_slice L.K (ih _).1 (part_snd ih (cE_no n)) (part_snd ih (cE_no n))) rfl fun _=>rfl
   ·split
    ·rename_i hb
     exact snd_ix L ih _ _ _ hb
    ·exact q2_bad
  ·split
   ·rename_i h;exact snd_kc L ih h
   unfold cCal
   split
   ·split
    ·exact snd_call L ih _ _ _ _
    ·exact snd_meth L ih _ _ _ _ _
    ·exact q2_bad
   ·exact q2_bad
  ·unfold cDi
   split
   ·exact tr qe_dnew rfl fun _=>rfl
   ·exact q2_bad
  ·unfold cLc
   split
   ·split
    ·rename_i hb
     rw [Bool.and_eq_true] at hb
     have LY:=fun s H a fp=>L.comp hb.1 s H a fp
     split
     ·exact tr (qe_comp (ct:=none) (L.csc hb.1) L.calm (snd_i L ih _ _) (fun s H a fp=>snd_ct (LY s H a fp) _) (fun c z=>by cases z) (fun _=>rfl) (fun s H a fp=>(snd_e n (LY s H a fp) _).1) (by simp [Cn.imp]) (fun i j x e1 e2=>L.imp e1 e2) hb.2) rfl fun _=>rfl
     ·exact tr (qe_comp (ct:=some _) (L.csc hb.1) L.calm (snd_i L ih _ _) (fun s H a fp=>snd_ct (LY s H a fp) _) (fun c z s H a fp=>by cases z;exact (snd_e n (LY s H a fp) _).2) (fun z=>by cases z) (fun s H a fp=>(snd_e n (LY s H a fp) _).1) (by simp [Cn.imp]) (fun i j x e1 e2=>L.imp e1 e2) hb.2) rfl fun _=>rfl
     ·exact q2_bad
    ·exact q2_bad
   ·exact q2_bad
  ·exact q2_bad
end AM
set_option genSizeOf false
namespace AM
open PySem PySem.Spec PyProof.Rows L2
noncomputable def setAll:List Nat->List AV->ASt->ASt
 | i :: is,v :: vs,σ=>setAll is vs (σ.set i (some v))
 | _,_,σ=>σ
noncomputable def parM (is:List Nat)(mr:M (List AV))(σ:ASt):M Out:=mr.bind fun vs=>M.guard (vs.length = is.length) (M.ret (.nx (setAll is vs σ)))
noncomputable def tPar3 (i j k:Nat)(ta:TA):TS:=fun D σ H=>ta σ H fun vs H1=>∃ v w z,vs = [v,w,z]/\D.nx (((σ.set i (some v)).set j (some w)).set k (some z)) H1
section
variable {X:Cx}{T:Tab}{E:XK}{a b c:Expr}{x y z:Str}{px py pz pt pos:Pos}{kt k2:Nat}{pt2:Pos}{i j k:Nat}{mr:ASt->M (List AV)}
theorem ps_par3 {ta:TA}(hc:X.calm = true)(hN:X.N.Nodup)(hi:X.N[i]? = some x)(hj:X.N[j]? = some y)(hk:X.N[k]? = some z)(hij:i ≠ j)(hik:i ≠ k)(hjk:j ≠ k)
  (hx:X.env.scope.names.lookup x = some .local) (hy:X.env.scope.names.lookup y = some .local) (hz:X.env.scope.names.lookup z = some .local) (ha:PA X [a,b,c] ta)
  (hw:swappedStores [.Tuple [.Name x px,.Name y py,.Name z pz] kt pt] (.Tuple [a,b,c] k2 pt2) X.env = pure (some [x,y,z])) :
  PS X (.Assign [.Tuple [.Name x px,.Name y py,.Name z pz] kt pt] (.Tuple [a,b,c] k2 pt2) pos) (tPar3 i j k ta):=by
 have hs:swapsWithSole [.Tuple [.Name x px,.Name y py,.Name z pz] kt pt] (.Tuple [a,b,c] k2 pt2) pos.line X.env = pure false:=by rfl
 intro pins s σ H D I h
 rw [exec_Assign_arm]
 refine wpAny_bind (wpAny_standAt ?_)
 rw [hs]
 refine wpAny_bind (wpAny_pure ?_)
 rw [if_neg (by decide)]
 refine wpAny_bind (Tuple_ (thn (ha _ pins s σ H _ I h) fun us s1 ⟨vs,H1,I1,r1,q1⟩=>?_))
 obtain ⟨v,w,z',e1,q1⟩:=q1
 subst e1
 obtain ⟨u1,u2,u3,rfl,rv,rw',rz⟩:∃ u1 u2 u3,us = [u1,u2,u3]/\RelV v u1/\RelV w u2/\RelV z' u3:=by
  cases r1 with
  | cons p q =>
   cases q with
   | cons p' q' =>
    cases q' with
    | cons p2 q2 =>
     cases q2
     exact ⟨_,_,_,rfl,p,p',p2⟩
 refine wpAny_newObj_type ?_ (by show 3 <= sizeLine;decide)
 have I2:Inv X pins σ H1 { s1 with heap:=s1.heap.push { cls:=.type "tuple",data:=.seq [u1,u2,u3].toArray } }:=I1.kept (t':=s1.toks) fun b o e=>Heap.get?_push_of_some _ e
 rw [hw]
 refine wpAny_bind (wpAny_pure ?_)
 show wpAny (model X.prog X.w) X.A (do rule "assign.swapped-stores";let items <- unpackItems (.ref s1.heap.objs.size) 3 none;assignInOrder [fun v=>bindName X.env z v,fun v=>bindName X.env y v,fun v=>bindName X.env x v] items.reverse;pure Flow.next) _ _ _
 refine wpAny_bind (wpAny_rule (wpAny_bind (unpackItems_tuple (items:=#[u1,u2,u3]) (I.ok.hd hc) (IsTup.new s1.heap _) fun h' hx'=>?_)))
 have I3:=I2.kept (h':=h') (t':=s1.toks) fun b o e=>hx' b o (Nat.ne_of_lt (Heap.lt_size e)) e
 show wpAny _ _ (assignInOrder [fun v=>bindName X.env z v,fun v=>bindName X.env y v,fun v=>bindName X.env x v] [u3,u2,u1] >>= fun _=>pure Flow.next) _ _ _
 refine wpAny_bind (assignInOrder_cons (wpAny_bindName (store_ok I3 hN hk (.inl hz) rz (fun s2 I4=>?_) (.inr hz))))
 refine assignInOrder_cons (wpAny_bindName (store_ok I4 hN hj (.inl hy) rw' (fun s3 I5=>?_) (.inr hy)))
 refine assignInOrder_cons (wpAny_bindName (store_ok I5 hN hi (.inl hx) rv (fun s4 I6=>assignInOrder_nil (wpAny_pure ?_)) (.inr hx)))
 rw [List.set_comm _ _ (Ne.symm hjk),List.set_comm _ _ (Ne.symm hik),List.set_comm _ _ (Ne.symm hij)] at I6
 exact ⟨_,H1,I6,q1⟩
theorem qs_par2 (hc:X.calm = true)(hN:X.N.Nodup)(hi:X.N[i]? = some x)(hj:X.N[j]? = some y)(hij:i ≠ j)(hx:X.env.scope.names.lookup x = some .local)(hy:X.env.scope.names.lookup y = some .local)(ha:QA X T E [a,b] mr)
  (hw:swappedStores [.Tuple [.Name x px,.Name y py] kt pt] (.Tuple [a,b] k2 pt2) X.env = pure (some [x,y])) :
  QS X T E (.Assign [.Tuple [.Name x px,.Name y py] kt pt] (.Tuple [a,b] k2 pt2) pos) (fun σ=>parM [i,j] (mr σ) σ):=by
 obtain ⟨tr,pr,rr⟩:=ha
 refine ⟨_,ps_par hc hN hi hj hij hx hy pr hw,fun ρ σ σ' h H D R S w=>rr ρ σ σ' h H _ R S (W.bind w fun ρ1 xs xs' h1 H1 e1 R1 q1 w1=>?_)⟩
 obtain ⟨hz,w1⟩:=guard_ok w1
 cases q1 with
 | nil=>cases hz
 | cons r1 rs =>
  cases rs with
  | nil=>cases hz
  | cons r2 rs =>
   cases rs with
   | nil=>exact ⟨_,_,rfl,W.here (Q:=toQ D) (b:=COut.nx _) w1 R1 (((S.ext e1).set r1 i).set r2 j)⟩
   | cons _ _=>cases hz
theorem qs_par3 (hc:X.calm = true)(hN:X.N.Nodup)(hi:X.N[i]? = some x)(hj:X.N[j]? = some y)(hk:X.N[k]? = some z)(hij:i ≠ j)(hik:i ≠ k)(hjk:j ≠ k)
  (hx:X.env.scope.names.lookup x = some .local) (hy:X.env.scope.names.lookup y = some .local) (hz:X.env.scope.names.lookup z = some .local) (ha:QA X T E [a,b,c] mr)
  (hw:swappedStores [.Tuple [.Name x px,.Name y py,.Name z pz] kt pt] (.Tuple [a,b,c] k2 pt2) X.env = pure (some [x,y,z])) :
  QS X T E (.Assign [.Tuple [.Name x px,.Name y py,.Name z pz] kt pt] (.Tuple [a,b,c] k2 pt2) pos) (fun σ=>parM [i,j,k] (mr σ) σ):=by
 obtain ⟨tr,pr,rr⟩:=ha
 refine ⟨_,ps_par3 hc hN hi hj hk hij hik hjk hx hy hz pr hw,fun ρ σ σ' h H D R S w=>rr ρ σ σ' h H _ R S (W.bind w fun ρ1 xs xs' h1 H1 e1 R1 q1 w1=>?_)⟩
 obtain ⟨hz,w1⟩:=guard_ok w1
 cases q1 with
 | nil=>cases hz
 | cons r1 rs =>
  cases rs with
  | nil=>cases hz
  | cons r2 rs =>
   cases rs with
   | nil=>cases hz
   | cons r3 rs =>
    cases rs with
    | nil=>exact ⟨_,_,_,rfl,W.here (Q:=toQ D) (b:=COut.nx _) w1 R1 ((((S.ext e1).set r1 i).set r2 j).set r3 k)⟩
    | cons _ _=>cases hz
end
end AM
set_option genSizeOf false
namespace AM
open PySem PySem.Spec PyProof.Rows L2
mutual
inductive Tg where
 | bad
 | nm (i:Nat)
 | tup (n:Nat) (ts:Tgs)
 | sub (o i:Ex)
inductive Tgs where
 | nil
 | cons (t:Tg) (ts:Tgs)
end
mutual
inductive Sx where
 | bad | pass | brk | cnt | retN
 | expr (e:Ex)
 | ret (e:Ex)
 | asg (t:Tg) (e:Ex)
 | ite (c:Ex) (a b:Sxs)
 | for_ (t:Tg) (it:Ir) (b:Sxs)
 | par (is:List Nat) (es:Exs)
 | aug (sub:Bool) (i:Nat) (e:Ex)
inductive Sxs where
 | nil
 | cons (s:Sx) (ss:Sxs)
end
mutual
noncomputable def asgn (F:Run):Tg->AV->ASt->M ASt
 | .bad,_,_=>M.bad
 | .nm i,v,σ=>M.ret (σ.set i (some v))
 | .tup n ts,v,σ=>gUnp n (asgns F ts) v σ
 | .sub o i,v,σ=>(den F o σ).bind fun x=>(den F i σ).bind fun y=>(gSetIx x y v).bind fun _=>M.ret σ
noncomputable def asgns (F:Run):Tgs->List AV->ASt->M ASt
 | .nil,vs,σ=>gsNil vs σ
 | .cons t ts,vs,σ=>gsCons (asgn F t) (asgns F ts) vs σ
end
mutual
noncomputable def ex1 (F:Run):Sx->ASt->M Out
 | .bad,_=>M.bad
 | .pass,σ=>M.ret (.nx σ)
 | .brk,σ=>M.ret (.brk σ)
 | .cnt,σ=>M.ret (.cnt σ)
 | .retN,_=>M.ret (.ret .non)
 | .expr e,σ=>(den F e σ).bind fun _=>M.ret (.nx σ)
 | .ret e,σ=>(den F e σ).bind fun v=>M.ret (.ret v)
 | .asg t e,σ=>(den F e σ).bind fun v=>(asgn F t v σ).bind fun σ1=>M.ret (.nx σ1)
 | .ite c a b,σ=>iteM (denT F c σ) (exs1 F a σ) (exs1 F b σ)
 | .for_ t it b,σ=>(iter F it σ).bind fun i=>forM i (asgn F t) (exs1 F b) FU 0 σ
 | .par is es,σ=>parM is (dens F es σ) σ
 | .aug sub i e,σ=>augV sub i (den F e σ) σ
noncomputable def exs1 (F:Run):Sxs->ASt->M Out
 | .nil,σ=>M.ret (.nx σ)
 | .cons s ss,σ=>seqM (ex1 F s σ) (exs1 F ss)
end
noncomputable def tgs:List Tg->Tgs
 | []=>.nil
 | t :: ts=>.cons t (tgs ts)
noncomputable def cG (C:Cn):Nat->Expr->Tg
 | 0,_=>.bad
 | n + 1,e=>match e with
  | .Name x _=>match C.slot x with
   | some i=>.nm i
   | none=>.bad
  | .Tuple es _ _=>if es.all tgOk then .tup es.length (tgs (es.map (cG C n))) else .bad
  | .Subscript a b _=>if shp b then .sub (cE C EF a) (cE C EF b) else .bad
  | _=>.bad
noncomputable def isTup:Expr->Bool
 | .Tuple ..=>true
 | _=>false
noncomputable def sxs:List Sx->Sxs
 | []=>.nil
 | s :: ss=>.cons s (sxs ss)
noncomputable def swB (C:Cn)(y:Str)(yl:Nat)(e:Expr):Bool:=match e with
 | .ListComp _ _ scope pos=>decide (C.sc.kind = .function) && decide (C.sc.names.lookup y = some .local) && (yl == pos.line) && !(scope.names.any fun x=>x.1 == y && (x.2 == .local || x.2 == .cell))
 | _=>false
noncomputable def lcOk (e:Expr):Bool:=match e with
 | .ListComp _ [⟨_,_,[],0⟩] _ _=>true
 | .ListComp _ [⟨_,_,[_],0⟩] _ _=>true
 | _=>false
noncomputable def cL (C:Cn)(t e:Expr):Sx:=match t with
 | .Name y py=>match C.slot y with
  | some i=>if swB C y py.line e && lcOk e then .asg (.nm i) (cE C EF e) else
   if !decide (C.sc.names.lookup y = some .local) then .asg (cG C 4 t) (cE C EF e) else
   .bad
  | none=>.bad
 | _=>.bad
noncomputable def nms (C:Cn):List Expr->Option (List (Str × Pos × Nat))
 | []=>some []
 | .Name x p :: r=>if decide (C.sc.names.lookup x = some .local) then match C.N.idxOf? x,nms C r with
   | some i,some l=>some ((x,p,i) :: l)
   | _,_=>none
  else none
 | _=>none
noncomputable def parOk (C:Cn)(l:List (Str × Pos × Nat))(vs:List Expr):Bool:=decide (C.sc.kind = .function) && (l.length == 2 || l.length == 3) && (vs.length == l.length) && l.all (fun x=>x.2.1.line == (l.head?.map (·.2.1.line)).getD 0) && decide ((l.map (·.1)).Nodup) &&
 vs.all shp && !(vs.all (foldedForSure 8)) && !(vs.all (constantsAlone 8))
noncomputable def cellB (C:Cn):Expr->Bool
 | .Name x _=>!decide (C.sc.names.lookup x = some .local)
 | _=>true
noncomputable def cP (C:Cn)(t e:Expr):Sx:=match t,e with
 | .Tuple ts _ _,.Tuple vs _ _=>match nms C ts with
  | some l=>if parOk C l vs then .par (l.map (·.2.2)) (exs (vs.map (cE C EF))) else
   if vs.all (foldedForSure 8) && tgOk t && shp e then .asg (cG C 4 t) (cE C EF e) else
   .bad
  | none=>if ts.any (cellB C) && vs.all shp && tgOk t && shp e then .asg (cG C 4 t) (cE C EF e) else .bad
 | _,_=>.bad
noncomputable def cAug (C:Cn)(t:Expr)(op:Operator)(e:Expr):Sx:=match t with
 | .Name x _=>match C.slot x with
  | some i=>match op with
   | .Add=>.aug false i (cE C EF e)
   | .Sub=>.aug true i (cE C EF e)
   | _=>.bad
  | none=>.bad
 | _=>.bad
noncomputable def cRet (C:Cn)(o:Option Expr):Sx:=match o with
 | none=>.retN
 | some e=>.ret (cE C EF e)
noncomputable def cAs1 (C:Cn)(t e:Expr):Sx :=
 if isLc e then cL C t e else
 if isTup t && isTup e then cP C t e else
 if shp e && tgOk t then .asg (cG C 4 t) (cE C EF e) else .bad
noncomputable def cAsg (C:Cn)(ts:List Expr)(e:Expr):Sx:=match ts with
 | [t]=>cAs1 C t e
 | _=>.bad
noncomputable def cS (C:Cn):Nat->Stmt->Sx
 | 0,_=>.bad
 | n + 1,s=>match s with
  | .Pass _=>.pass
  | .Break _=>.brk
  | .Continue _=>.cnt
  | .Return o _=>cRet C o
  | .Expr e _=>if shp e && !isLc e then .expr (cE C EF e) else .bad
  | .Assign ts e _=>cAsg C ts e
  | .AugAssign t op e _=>cAug C t op e
  | .If c a b _=>.ite (cE C EF c) (sxs (a.map (cS C n))) (sxs (b.map (cS C n)))
  | .For t it b els _=>if els.isEmpty && shp it then .for_ (cG C 4 t) (cI C (cE C EF) t it) (sxs (b.map (cS C n))) else .bad
  | _=>.bad
section
variable {X:Cx}{T:Tab}{E:XK}{C:Cn}{F:Run}(L:Lk X T E C F)(ht:C.top = true)
theorem tgs_snd {es:List Expr}{f:Expr->Tg}(hs:es.all tgOk = true)(h:∀ e,QG X T E e (asgn F (f e))):QGs X T E es (asgns F (tgs (es.map f))):=by
 induction es with
 | nil=>exact qgs_nil
 | cons e es ih =>
  rw [List.all_cons,Bool.and_eq_true] at hs
  exact qgs_cons (h e) (ih hs.2) hs.1
include L ht in
theorem snd_g:∀ (n:Nat) (e:Expr),QG X T E e (asgn F (cG C n e))
 | 0,e=>qg_bad
 | n + 1,e=>by
  have ih:=snd_g n
  unfold cG
  split
  ·split
   ·rename_i i hi
    unfold Cn.slot at hi
    split at hi
    ·rename_i hl
     have hv:∀ {x:Str},C.loc x = true->Loc X.env.scope x:=fun {x} hl=>by
      rw [L.sc]
      simp only [Cn.loc,Bool.or_eq_true,decide_eq_true_eq] at hl
      exact hl
     exact qg_name (by rw [L.N];exact L.nd) (by rw [L.N];exact idx_get hi) (hv hl) (.inl (L.fn ht _))
    ·cases hi
   ·exact qg_bad
  ·split
   ·rename_i hs
    exact qg_tup L.K L.calm (tgs_snd hs ih) hs
   ·exact qg_bad
  ·split
   ·rename_i hs
    exact qg_sub (by have:=L.un;omega) (snd_e EF L _).1 (snd_e EF L _).1 hs
   ·exact qg_bad
  ·exact qg_bad
theorem sxs_snd {ss:List Stmt}{f:Stmt->Sx}(h:∀ s,QS X T E s (ex1 F (f s))):QSs X T E ss (exs1 F (sxs (ss.map f))):=by
 induction ss with
 | nil=>exact qss_nil
 | cons s ss ih=>exact qss_cons (h s) ih
theorem nms_c:∀ {ts:List Expr} {l:List (Str × Pos × Nat)},nms C ts = some l->ts = l.map (fun q=>Expr.Name q.1 q.2.1)/\∀ q ∈ l,C.sc.names.lookup q.1 = some .local/\C.N[q.2.2]? = some q.1
 | [],l,h=>by cases h;exact ⟨rfl,fun q hq=>by cases hq⟩
 | e :: es,l,h=>by
  cases e with
  | Name x p =>
   simp only [nms] at h
   split at h
   ·rename_i hx
    split at h
    ·rename_i i l' hi hl
     cases h
     obtain ⟨h1,h2⟩:=nms_c hl
     refine ⟨by rw [List.map_cons,h1],fun q hq=>?_⟩
     rcases List.mem_cons.mp hq with rfl | hq
     ·exact ⟨of_decide_eq_true hx,idx_get hi⟩
     ·exact h2 q hq
    ·cases h
   ·cases h
  | _=>cases h
theorem nodup_ne {N:List Str}(hN:N.Nodup){i j:Nat}{x y:Str}(h1:N[i]? = some x)(h2:N[j]? = some y)(h:x ≠ y):i ≠ j:=by
 rintro rfl
 rw [h1] at h2
 exact h (Option.some.inj h2)
theorem ne_beq {x y:Str}(h:x ≠ y):(x == y) = false:=beq_eq_false_iff_ne.mpr h
theorem sw_is {env:Env}{x y:Str}{px py pt p2:Pos}{kt k2:Nat}{a b:Expr}(hb:env.blockKind = .function)(q1:env.kindOf x = some .local)(q2:env.kindOf y = some .local)(hl:py.line = px.line)(hn:x ≠ y)
  (s1:shp a = true) (s2:shp b = true) (hff:([a,b].all (foldedForSure 8)) = false) (hca:([a,b].all (constantsAlone 8)) = false) :
  swappedStores [.Tuple [.Name x px,.Name y py] kt pt] (.Tuple [a,b] k2 p2) env = pure (some [x,y]):=by
 have e1:([x,y]:List Str).eraseDups = [x,y]:=by simp [List.eraseDups_cons,ne_beq hn,ne_beq (Ne.symm hn)]
 unfold swappedStores
 simp only [List.length_cons,List.length_nil,hb,hff,hca,List.filterMap_cons,List.filterMap_nil,q1,q2,List.head?_cons,Option.map_some,Option.getD_some,hl]
 simp [e1,Expr.pos,hl]
 rintro (h | h)
 ·cases a <;> first | (cases h;done) | (cases s1;done)
 ·cases b <;> first | (cases h;done) | (cases s2;done)
theorem sw_is3 {env:Env}{x y z:Str}{px py pz pt p2:Pos}{kt k2:Nat}{a b c:Expr}(hb:env.blockKind = .function)(q1:env.kindOf x = some .local)(q2:env.kindOf y = some .local)(q3:env.kindOf z = some .local)(hl:py.line = px.line)(hl2:pz.line = px.line)(hn:x ≠ y)(hn2:x ≠ z)(hn3:y ≠ z)
  (s1:shp a = true) (s2:shp b = true) (s3:shp c = true) (hff:([a,b,c].all (foldedForSure 8)) = false) (hca:([a,b,c].all (constantsAlone 8)) = false) :
  swappedStores [.Tuple [.Name x px,.Name y py,.Name z pz] kt pt] (.Tuple [a,b,c] k2 p2) env = pure (some [x,y,z]):=by
 have e1:([x,y,z]:List Str).eraseDups = [x,y,z]:=by simp [List.eraseDups_cons,ne_beq hn,ne_beq (Ne.symm hn),ne_beq hn2,ne_beq (Ne.symm hn2),ne_beq hn3,ne_beq (Ne.symm hn3)]
 unfold swappedStores
 simp only [List.length_cons,List.length_nil,hb,hff,hca,List.filterMap_cons,List.filterMap_nil,q1,q2,q3,List.head?_cons,Option.map_some,Option.getD_some,hl,hl2]
 simp [e1,Expr.pos,hl,hl2]
 rintro (h | h | h)
 ·cases a <;> first | (cases h;done) | (cases s1;done)
 ·cases b <;> first | (cases h;done) | (cases s2;done)
 ·cases c <;> first | (cases h;done) | (cases s3;done)
theorem sw_cell {env:Env}{ts vs:List Expr}{kt k2:Nat}{pt p2:Pos}(hc:∃ t ∈ ts,(match t with
  | .Name id pos=>if env.kindOf id == some .local && pos.line == (ts.head?.map (·.pos.line)).getD 0 then some id else none
  | _=>none:Option Str) = none) (hv:vs.all shp = true):swappedStores [.Tuple ts kt pt] (.Tuple vs k2 p2) env = pure none:=by
 unfold swappedStores
 dsimp only
 split
 ·rfl
 split
 ·rfl
 ·obtain ⟨t,hm,ht⟩:=hc
  rw [if_pos]
  ·rw [Bool.or_eq_true]
   refine .inl ?_
   rw [bne_iff_ne]
   refine Nat.ne_of_lt (List.length_filterMap_lt_length_iff_exists.mpr ⟨t,hm,?_⟩)
   cases t with
   | Name x p=>exact ht
   | _=>rfl
theorem sw_fold {env:Env}{ts vs:List Expr}{kt k2:Nat}{pt p2:Pos}(hv:vs.all (foldedForSure 8) = true):swappedStores [.Tuple ts kt pt] (.Tuple vs k2 p2) env = pure none:=by
 unfold swappedStores
 dsimp only
 split
 ·rfl
 split
 ·rfl
 split
 ·rfl
 rfl
include L ht in
theorem snd_P (t e:Expr)(spos:Pos):QS X T E (.Assign [t] e spos) (ex1 F (cP C t e)):=by
 unfold cP
 split
 ·rename_i ts kt pt vs k2 p2
  split
  ·rename_i l hl
   split
   ·rename_i ok
    obtain ⟨hts,hq⟩:=nms_c hl
    subst hts
    simp only [parOk,Bool.and_eq_true,Bool.not_eq_true',decide_eq_true_eq,beq_iff_eq,Bool.or_eq_true] at ok
    obtain ⟨⟨⟨⟨⟨⟨⟨hk,hlen⟩,hvl⟩,hline⟩,hnd⟩,hshp⟩,hff⟩,hca⟩:=ok
    have qa:=exs_snd (f:=cE C EF) hshp (snd_e EF L)
    have hb:X.env.blockKind = .function:=by
     have:X.env.scope.kind = .function:=by rw [L.sc];exact hk
     unfold Env.blockKind
     rw [this];rfl
    have lc:∀ {x:Str},C.sc.names.lookup x = some .local->X.env.scope.names.lookup x = some .local:=fun {x} h=>by rw [L.sc];exact h
    have kd:∀ {x:Str},C.sc.names.lookup x = some .local->X.env.kindOf x = some .local:=fun {x} h=>lc h
    match l,vs,hlen,hvl,hline,hnd,hq with
    | [(x,px,i),(y,py,j)],[a,b],_,_,hline,hnd,hq =>
     obtain ⟨q1,g1⟩:=hq (x,px,i) (by simp)
     obtain ⟨q2,g2⟩:=hq (y,py,j) (by simp)
     simp only [List.all_cons,List.all_nil,Bool.and_true,List.head?_cons,Option.map_some,Option.getD_some,Bool.and_eq_true,beq_iff_eq] at hline
     simp only [List.map_cons,List.map_nil,List.nodup_cons,List.mem_cons,List.not_mem_nil,or_false,not_false_eq_true,List.nodup_nil,and_true] at hnd
     refine qs_par2 L.calm (by rw [L.N];exact L.nd) (by rw [L.N];exact g1) (by rw [L.N];exact g2) (nodup_ne L.nd g1 g2 hnd) (lc q1) (lc q2) qa ?_
     simp only [List.all_cons,List.all_nil,Bool.and_true,Bool.and_eq_true] at hshp
     exact sw_is hb (kd q1) (kd q2) hline.2 hnd hshp.1 hshp.2 hff hca
    | [(x,px,i),(y,py,j),(z,pz,k)],[a,b,c],_,_,hline,hnd,hq =>
     obtain ⟨q1,g1⟩:=hq (x,px,i) (by simp)
     obtain ⟨q2,g2⟩:=hq (y,py,j) (by simp)
     obtain ⟨q3,g3⟩:=hq (z,pz,k) (by simp)
     simp only [List.all_cons,List.all_nil,Bool.and_true,List.head?_cons,Option.map_some,Option.getD_some,Bool.and_eq_true,beq_iff_eq] at hline
     simp only [List.map_cons,List.map_nil,List.nodup_cons,List.mem_cons,List.not_mem_nil,or_false,not_false_eq_true,List.nodup_nil,and_true,not_or] at hnd
     refine qs_par3 L.calm (by rw [L.N];exact L.nd) (by rw [L.N];exact g1) (by rw [L.N];exact g2) (by rw [L.N];exact g3) (nodup_ne L.nd g1 g2 hnd.1.1) (nodup_ne L.nd g1 g3 hnd.1.2) (nodup_ne L.nd g2 g3 hnd.2) (lc q1) (lc q2) (lc q3) qa ?_
     simp only [List.all_cons,List.all_nil,Bool.and_true,Bool.and_eq_true] at hshp
     exact sw_is3 hb (kd q1) (kd q2) (kd q3) hline.2.1 hline.2.2 hnd.1.1 hnd.1.2 hnd.2 hshp.1 hshp.2.1 hshp.2.2 hff hca
   ·split
    ·rename_i hz
     simp only [Bool.and_eq_true] at hz
     exact qs_asgT (snd_e EF L _).1 (snd_g L ht 4 _) hz.2 rfl hz.1.2 (sw_fold hz.1.1)
    ·exact qs_bad
  ·split
   ·rename_i hz
    simp only [Bool.and_eq_true] at hz
    refine qs_asgT (snd_e EF L _).1 (snd_g L ht 4 _) hz.2 rfl hz.1.2 (sw_cell ?_ hz.1.1.2)
    obtain ⟨t,hm,hb⟩:=List.any_eq_true.mp hz.1.1.1
    refine ⟨t,hm,?_⟩
    cases t with
    | Name x p =>
     have hk:¬ X.env.kindOf x = some .local:=by
      have:¬ C.sc.names.lookup x = some .local:=by simpa [cellB] using hb
      rw [<- L.sc] at this
      exact this
     exact if_neg (by simp [hk])
    | _=>rfl
   ·exact qs_bad
 ·exact qs_bad
include L ht in
theorem snd_L (t e:Expr)(spos:Pos)(hlc:isLc e = true):QS X T E (.Assign [t] e spos) (ex1 F (cL C t e)):=by
 unfold cL
 split
 ·rename_i y py
  split
  ·rename_i i hi
   split
   ·rename_i hsw
    rw [Bool.and_eq_true] at hsw
    obtain ⟨hsw,hok⟩:=hsw
    cases e with
    | ListComp elt gens scope pos =>
     simp only [swB,Bool.and_eq_true,Bool.not_eq_true',decide_eq_true_eq,beq_iff_eq] at hsw
     obtain ⟨⟨⟨hk,hy⟩,hln⟩,hnm⟩:=hsw
     unfold Cn.slot at hi
     split at hi
     ·have hy':X.env.scope.names.lookup y = some .local:=by rw [L.sc];exact hy
      have hb:X.env.blockKind = .function:=by
       have:X.env.scope.kind = .function:=by rw [L.sc];exact hk
       unfold Env.blockKind
       rw [this];rfl
      have hs2:swapsWith (.ListComp elt gens scope pos) (some (.Name y py)) spos.line X.env = pure true:=by
       show (pure (X.env.blockKind == .function && X.env.kindOf y == some .local && py.line == pos.line && !(scope.names.any fun (n,k)=>n == y && (k == .local || k == .cell))):Sem Bool) = pure true
       rw [hb,show X.env.kindOf y = some .local from hy',hln]
       have:(scope.names.any fun (n,k)=>n == y && (k == NameKind.local || k == NameKind.cell)) = false:=hnm
       rw [this]
       simp
      have hN:X.N.Nodup:=by rw [L.N];exact L.nd
      have hi':X.N[i]? = some y:=by rw [L.N];exact idx_get hi
      match gens,hok,hs2 with
      | [⟨t,it,[],0⟩],_,hs2 =>
       show QS X T E _ (fun σ=>(den F (if C.compOk scope && shp it then .comp0 (C.imp scope) (cCT (C.comp scope) t) (cI C (cE C 39) t it) (cE (C.comp scope) 39 elt) else .bad) σ).bind fun v=>(M.ret (σ.set i (some v))).bind fun σ1=>M.ret (.nx σ1))
       split
       ·rename_i hb
        rw [Bool.and_eq_true] at hb
        have LY:=fun s H a fp=>L.comp hb.1 s H a fp
        exact qs_setComp (ct:=none) hN hi' hy' hs2 (L.csc hb.1) L.calm (snd_i L (snd_e 39 L) _ _) (fun s H a fp=>snd_ct (LY s H a fp) _) (fun c z=>by cases z) (fun _=>rfl) (fun s H a fp=>(snd_e 39 (LY s H a fp) _).1) (by simp [Cn.imp]) (fun i j x e1 e2=>L.imp e1 e2) hb.2
       ·exact qs_bad
      | [⟨t,it,[c],0⟩],_,hs2 =>
       show QS X T E _ (fun σ=>(den F (if C.compOk scope && shp it then .comp1 (C.imp scope) (cCT (C.comp scope) t) (cI C (cE C 39) t it) (cE (C.comp scope) 39 c) (cE (C.comp scope) 39 elt) else .bad) σ).bind fun v=>(M.ret (σ.set i (some v))).bind fun σ1=>M.ret (.nx σ1))
       split
       ·rename_i hb
        rw [Bool.and_eq_true] at hb
        have LY:=fun s H a fp=>L.comp hb.1 s H a fp
        exact qs_setComp (ct:=some c) hN hi' hy' hs2 (L.csc hb.1) L.calm (snd_i L (snd_e 39 L) _ _) (fun s H a fp=>snd_ct (LY s H a fp) _) (fun c z s H a fp=>by cases z;exact (snd_e 39 (LY s H a fp) _).2) (fun z=>by cases z) (fun s H a fp=>(snd_e 39 (LY s H a fp) _).1) (by simp [Cn.imp]) (fun i j x e1 e2=>L.imp e1 e2) hb.2
       ·exact qs_bad
     ·cases hi
    | _=>cases hlc
   ·split
    ·rename_i hc
     have hk:¬ X.env.kindOf y = some .local:=by
      have:¬ C.sc.names.lookup y = some .local:=by simpa using hc
      rw [<- L.sc] at this
      exact this
     cases e with
     | ListComp elt gens scope pos =>
      refine qs_asgW (snd_e EF L _).1 (snd_g L ht 4 _) ?_ rfl rfl
      show (pure (X.env.blockKind == .function && X.env.kindOf y == some .local && py.line == pos.line && !(scope.names.any fun (n,k)=>n == y && (k == .local || k == .cell))):Sem Bool) = pure false
      have:(X.env.kindOf y == some NameKind.local) = false:=by simpa using hk
      rw [this]
      simp
     | _=>cases hlc
    ·exact qs_bad
  ·exact qs_bad
 ·exact qs_bad
include L ht in
theorem snd_A (t:Expr)(op:Operator)(e:Expr)(pos:Pos):QS X T E (.AugAssign t op e pos) (ex1 F (cAug C t op e)):=by
 unfold cAug
 split
 ·rename_i x px
  split
  ·rename_i i hi
   unfold Cn.slot at hi
   split at hi
   ·rename_i hl
    have hv:Loc X.env.scope x:=by
     rw [L.sc]
     simp only [Cn.loc,Bool.or_eq_true,decide_eq_true_eq] at hl
     exact hl
    split
    ·exact qs_aug false (by rw [L.N];exact L.nd) (by rw [L.N];exact idx_get hi) hv (.inl (L.fn ht _)) (snd_e EF L _).1
    ·exact qs_aug true (by rw [L.N];exact L.nd) (by rw [L.N];exact idx_get hi) hv (.inl (L.fn ht _)) (snd_e EF L _).1
    ·exact qs_bad
   ·cases hi
  ·exact qs_bad
 ·exact qs_bad
include L ht in
theorem snd_s:∀ (n:Nat) (s:Stmt),QS X T E s (ex1 F (cS C n s))
 | 0,s=>qs_bad
 | n + 1,s=>by
  have ih:=snd_s n
  unfold cS
  split
  ·exact qs_pass
  ·exact qs_break
  ·exact qs_continue
  ·unfold cRet
   split
   ·exact qs_retN
   ·exact qs_ret (snd_e EF L _).1
  ·split
   ·rename_i hs
    rw [Bool.and_eq_true,Bool.not_eq_true'] at hs
    exact qs_expr (snd_e EF L _).1 hs.1 hs.2
   ·exact qs_bad
  ·rename_i ts e spos
   unfold cAsg
   split
   case h_2=>exact qs_bad
   case h_1 t =>
    unfold cAs1
    split
    ·rename_i hlc
     exact snd_L L ht t e spos hlc
    ·rename_i hlc
     split
     ·exact snd_P L ht t e spos
     ·rename_i htt
      split
      ·rename_i hs
       rw [Bool.and_eq_true] at hs
       refine qs_asg (snd_e EF L _).1 (snd_g L ht 4 _) hs.1 (by simpa using hlc) hs.2 fun es k p e1 vs k2 p2 e2=>?_
       subst e1;subst e2
       exact htt rfl
      ·exact qs_bad
  ·exact snd_A L ht _ _ _ _
  ·exact qs_if (snd_e EF L _).2 (sxs_snd ih) (sxs_snd ih)
  ·rename_i els _
   split
   ·rename_i hs
    rw [Bool.and_eq_true] at hs
    cases els with
    | nil=>exact qs_for L.po L.calm (snd_i L (snd_e EF L) _ _) (snd_g L ht 4 _) (sxs_snd ih) hs.2
    | cons _ _=>cases hs.1
   ·exact qs_bad
  ·exact qs_bad
end
end AM
set_option genSizeOf false
namespace AM
open PySem PySem.Spec PyProof.Rows L2
abbrev Pg:=Nat->Option (Nat × Nat × Sxs)
noncomputable def outV:Out->M AV
 | .nx _=>M.ret .non
 | .ret v=>M.ret v
 | _=>M.bad
noncomputable def run (P:Pg):Nat->Run
 | 0,_,_=>M.bad
 | k + 1,f,args=>match P f with
  | none=>M.bad
  | some (np,nn,b)=>M.guard (args.length = np) ((exs1 (run P k) b (args.map some ++ List.replicate (nn - np) none)).bind outV)
structure Df where
 name:Str
 qual:Str
 st:Stmt
 N:List Str
 ps:List Str
structure Pr where
 defs:List Df

 fnN:Nat
 gvs:List (Str × AV)
 bls:List Str
 xcs:List (Str × Nat):=[]
 cat:List (Str × List (Nat × Bool)):=[]
 isx:List (Str × List (Nat × Bool)):=[]
 tds:List (Str × List (Str × AV)):=[]
 tis:List (Str × List Str):=[]
noncomputable def SF:Nat:=30
noncomputable def Pr.cn (p:Pr)(d:Df):Cn:=⟨d.N,defScope d.st,(p.defs.take p.fnN).map (·.name),p.gvs,p.bls,p.xcs,p.cat,p.isx,true
 ,p.tds
 ,p.tis
 ⟩
noncomputable def Pr.bodyOf (p:Pr)(d:Df):Nat × Nat × Sxs:=(d.ps.length,d.N.length,sxs ((defBody d.st).map (cS (p.cn d) SF)))
noncomputable def Pr.ir (p:Pr):Pg:=fun i=>(p.defs[i]?).map p.bodyOf
structure FunD (K:PySem.W.Frag)(x qual:Str)(st:Stmt)(f:Addr)(fd:FuncData):Prop where
 ex:∃ (oc:Value) (od:Option Addr) (dV kV doc pm:Value) (an:Option Addr) (cdv ct:Value) (osl:Array (Option Value)),
  fd = PySem.W.fnOf x qual (defArgs st) (defBody st) (defScope st) dV kV doc pm an cdv ct/\K.lookup f = some ⟨oc,od,.func fd,osl⟩/\PySem.W.codeIn K cdv qual = true
 kp:PySem.W.keepIn K (.ref f) = true
structure DfOk (K:PySem.W.Frag)(d:Df)(f:Addr)(fd:FuncData):Prop where
 fn:FunD K d.name d.qual d.st f fd
 bd:Binds K fd d.ps []
 sc:FnScope d.N d.ps (defScope d.st)
inductive DfsOk (K:PySem.W.Frag):List Df->List Addr->List FuncData->Prop
 | nil:DfsOk K [] [] []
 | cons {d:Df} {a:Addr} {f:FuncData} {ds:List Df} {as:List Addr} {fs:List FuncData} (h:DfOk K d a f) (t:DfsOk K ds as fs):DfsOk K (d :: ds) (a :: as) (f :: fs)
theorem DfsOk.get {K:PySem.W.Frag}{ds:List Df}{as:List Addr}{fs:List FuncData}(h:DfsOk K ds as fs){f0:FuncData}:∀ (i:Nat) d,ds[i]? = some d->DfOk K d (as.getD i 0) (fs.getD i f0):=by
 induction h with
 | nil=>intro i d e;simp at e
 | cons h t ih =>
  intro i d e
  cases i with
  | zero=>cases (show some _ = some d from e);exact h
  | succ i=>exact ih i d e
inductive GnsOk (mg:Str->Option Value):List Df->List Addr->Prop
 | nil {as:List Addr}:GnsOk mg [] as
 | cons {d:Df} {a:Addr} {ds:List Df} {as:List Addr} (h:mg d.name = some (.ref a)) (t:GnsOk mg ds as):GnsOk mg (d :: ds) (a :: as)
theorem GnsOk.get {mg:Str->Option Value}{ds:List Df}{as:List Addr}(h:GnsOk mg ds as):∀ (i:Nat) d,ds[i]? = some d->mg d.name = some (.ref (as.getD i 0)):=by
 induction h with
 | nil=>intro i d e;simp at e
 | cons h t ih =>
  intro i d e
  cases i with
  | zero=>cases (show some _ = some d from e);exact h
  | succ i=>exact ih i d e
theorem vlen0 {α:Type}{us:List α}(h:us.length = 0):us = []:=List.eq_nil_of_length_eq_zero h
theorem vlen1 {α:Type}{us:List α}(h:us.length = 1):∃ a0,us = [a0]:=by
 obtain ⟨a,r,rfl⟩:=List.exists_cons_of_length_eq_add_one h
 obtain rfl:=vlen0 (us:=r) (by simpa using h)
 exact ⟨a,rfl⟩
theorem vlen2 {α:Type}{us:List α}(h:us.length = 2):∃ a0 a1,us = [a0,a1]:=by
 obtain ⟨a,r,rfl⟩:=List.exists_cons_of_length_eq_add_one h
 obtain ⟨b0,rfl⟩:=vlen1 (us:=r) (by simpa using h)
 exact ⟨a,b0,rfl⟩
theorem vlen3 {α:Type}{us:List α}(h:us.length = 3):∃ a0 a1 a2,us = [a0,a1,a2]:=by
 obtain ⟨a,r,rfl⟩:=List.exists_cons_of_length_eq_add_one h
 obtain ⟨b0,b1,rfl⟩:=vlen2 (us:=r) (by simpa using h)
 exact ⟨a,b0,b1,rfl⟩
theorem vlen4 {α:Type}{us:List α}(h:us.length = 4):∃ a0 a1 a2 a3,us = [a0,a1,a2,a3]:=by
 obtain ⟨a,r,rfl⟩:=List.exists_cons_of_length_eq_add_one h
 obtain ⟨b0,b1,b2,rfl⟩:=vlen3 (us:=r) (by simpa using h)
 exact ⟨a,b0,b1,b2,rfl⟩
structure PrOk (P:Program)(w:World)(p:Pr)(T:Tab)(mg:Str->Option Value)(ad:Nat->Addr)(fds:Nat->FuncData):Prop where
 df:∀ (i:Nat) d,p.defs[i]? = some d->DfOk T.K d (ad i) (fds i)
 gn:∀ (i:Nat) d,(p.defs.take p.fnN)[i]? = some d->mg d.name = some (.ref (ad i))
 gv:∀ x v,p.gvs.lookup x = some v->∃ u v',mg x = some u/\RelV v' u/\∀ ρ H,RepV T ρ H v v'
 bl:∀ x,p.bls.contains x = true->mg x = none
 tab:∀ (kvs:List (Str × Int)) a,T.G kvs a->KTab P w T.K a kvs
 tds:∀ x kvs,p.tds.lookup x = some kvs->∃ (a:Addr) (us:List (Str × Value)),mg x = some (.ref a)/\KTabR P w T.K a us /\
  (a == sysModules) = false /\
  ∀ k v,kvs.lookup k = some v->∃ u v',valueAt us k = some u/\RelV v' u/\∀ ρ H,RepV T ρ H v v'
 tis:∀ x ts,p.tis.lookup x = some ts->∃ (a:Addr) (o:Obj) (its:Array Value) (n:Nat),mg x = some (.ref a)/\T.K.lookup a = some o/\o.cls = .type "tuple"/\o.dict = none/\o.data = .seq its n/\its.size <= sizeLine/\Vals (ts.map V.str) its.toList
theorem RepVs.ofStrs {T:Tab}{ρ:List Addr}{H:Hp}:∀ (ts:List Str),RepVs T ρ H (ts.map AV.str) (ts.map V.str)
 | []=>.nil
 | _ :: ts=>.cons (.str _) (RepVs.ofStrs ts)
theorem tdL_look:∀ {ks:List (Str × List Str)} {k:Str} {v:AV},(ks.map fun p=>(p.1,AV.tup (p.2.map AV.str))).lookup k = some v->∃ ts,ks.lookup k = some ts/\v = .tup (ts.map AV.str)
 | [],_,_,h=>by cases h
 | (x,ts) :: r,k,v,h=>by
  rw [List.map_cons,List.lookup_cons] at h
  rw [List.lookup_cons]
  cases hb:(k == x) with
  | true =>
   simp only [hb] at h ⊢
   cases h
   exact ⟨ts,rfl,rfl⟩
  | false =>
   simp only [hb] at h ⊢
   exact tdL_look h
theorem tds_mk {P:Program}{w:World}{T:Tab}{mg:Str->Option Value}{x:Str}{a:Addr}{o:Obj}{ks:List (Str × List Str)}(m:mg x = some (.ref a))(l:T.K.lookup a = some o)(e:PyProof.Rows.KTD.tabLook refLooks (fun _=>some o) a (refsOf o) = true)
  (n:(ks.map (·.1)).Nodup) (q:PyProof.Rows.KTD.hashesOf (fun _=>some o) a = (refsOf o).map fun p=>(PySem.strKind P w).hash p.1) (t:tupsIn T.K (refsOf o) ks = true)
  (hs:(a == sysModules) = false)
  :
  ∃ (a:Addr) (us:List (Str × Value)),mg x = some (.ref a)/\KTabR P w T.K a us /\
  (a == sysModules) = false /\
  ∀ k v,(ks.map fun p=>(p.1,AV.tup (p.2.map AV.str))).lookup k = some v->∃ u v',valueAt us k = some u/\RelV v' u/\∀ ρ H,RepV T ρ H v v':=by
 obtain ⟨g1,g2⟩:=tups_get t
 refine ⟨a,_,m,ktabR_mk l e (by rw [g1];exact n) q,hs,fun k v hk=>?_⟩
 obtain ⟨ts,h1,rfl⟩:=tdL_look hk
 obtain ⟨b,ob,vs,nn,z1,z2,z3,z4,z5,z6⟩:=g2 k ts h1
 exact ⟨_,.ref b,z1,rfl,fun ρ H=>.tup (.inr ⟨ob,vs,nn,z2,z3,z4,z5,z6⟩) (RepVs.ofStrs ts)⟩
section
variable {P:Program}{w:World}{T:Tab}{mg:Str->Option Value}{base:Heap}{p:Pr}{ad:Nat->Addr}{fds:Nat->FuncData}
theorem start_rep {ρ:List Addr}{H:Hp}{args:List AV}{vs:List V}{N:List Str}{n:Nat}(r:RepVs T ρ H args vs)(hn:N.length = n):RepS T ρ H (args.map some ++ List.replicate (n - args.length) none) (L2.start N vs):=by
 subst hn
 unfold L2.start
 have hl:=r.length
 refine ⟨by simp [hl],fun i v e=>?_⟩
 by_cases hi:i < args.length
 ·rw [List.getElem?_append_left (by simpa using hi),List.getElem?_map] at e
  cases q:args[i]? with
  | none=>rw [q] at e;cases e
  | some a =>
   rw [q] at e
   cases e
   obtain ⟨y,h1,h2⟩:=r.get q
   exact ⟨y,by rw [List.getElem?_append_left (by rw [List.length_map,<- hl];exact hi),List.getElem?_map,h1];rfl,h2⟩
 ·rw [List.getElem?_append_right (by simpa using hi),List.getElem?_replicate] at e
  split at e <;> cases e
theorem fun_okX {K:PySem.W.Frag}{x qual:Str}{st:Stmt}{f:Addr}{fd:FuncData}{N ps:List Str}{k:Nat}{sp:Sp}(F:FunD K x qual st f fd)(S:FnScope N ps (defScope st))(len:∀ vs H Q E,sp vs H Q E->vs.length = ps.length)
  (hbody:∀ (cdv:Value) (A:Around) (outer:List Env) (s:Shared) (H:Hp) (vs:List V) (Q:VK) (E:XK),Room k (A.deeper (envOfC qual (defScope st) s.heap.objs.size f cdv))->sp vs H Q E ->
   ∃ t,PSs (cxOf (CXo P w) P w K mg base N qual (defScope st) f cdv A outer s H E) (defBody st) t/\t { nx:=fun _ H'=>Q .non H',rt:=Q } (L2.start N vs) H):FnOk P w K mg base (CXo P w) (k + 1) f fd ps sp:=by
 obtain ⟨oc,od,dV,kV,doc,pm,an,cdv,ct,osl,rfl,lk,hcd⟩:=F.ex
 exact fn_of lk hcd S len fun A outer s H vs Q E hr hsp=>hbody cdv A outer s H vs Q E hr hsp
theorem run_ok (O:PrOk P w p T mg ad fds):∀ (k i:Nat) (d:Df),p.defs[i]? = some d->FnOk P w T.K mg base (CXo P w) (2 * k) (ad i) (fds i) d.ps (spOf T (run p.ir k i))
 | 0,i,d,hd=>⟨fun vs H Q E ⟨ρ,h,args,_,_,w⟩=>w.elim,fun A outer s H args us vs Q E _ _ _ _ ⟨ρ,h,ar,_,_,w⟩=>w.elim⟩
 | k + 1,i,d,hd=>by
  have ih:=run_ok O k
  have D:=O.df i d hd
  have hir:p.ir i = some (p.bodyOf d):=by unfold Pr.ir;rw [hd];rfl
  refine fun_okX (k:=2 * k + 1) D.fn D.sc (fun vs H Q E h=>?_) (fun cdv A outer s H vs Q E hr h=>?_)
  ·obtain ⟨ρ,h,args,R,r,w⟩:=h
   simp only [run,hir,Pr.bodyOf] at w
   obtain ⟨hl,_⟩:=guard_ok w
   rw [<- r.length,hl]
  ·obtain ⟨ρ,h,args,R,r,wq⟩:=h
   simp only [run,hir,Pr.bodyOf] at wq
   obtain ⟨hl,wq⟩:=guard_ok wq
   have L:Lk (cxOf (CXo P w) P w T.K mg base d.N d.qual (defScope d.st) (ad i) cdv A outer s H E) T E (p.cn d) (run p.ir k):={
    K:=rfl
    N:=rfl
    sc:=rfl
    nd:=D.sc.nd
    fn:=fun _ _=>rfl
    calm:=rfl
    po:=PassesOwn.leaving
    gv:=O.gv
    fns:=fun j x hx=>by
     have hx':((p.defs.take p.fnN).map (·.name))[j]? = some x:=hx
     rw [List.getElem?_map] at hx'
     cases q:(p.defs.take p.fnN)[j]? with
     | none=>rw [q] at hx';cases hx'
     | some d' =>
      rw [q] at hx'
      cases hx'
      have q':p.defs[j]? = some d':=by
       rw [List.getElem?_take] at q
       split at q
       ·exact q
       ·cases q
      have D':=O.df j d' q'
      exact ⟨2 * k,ad j,fds j,d'.ps,ih j d' q',hr,O.gn j d' q,D'.fn.kp,D'.bd,pass_cx⟩
    bls:=O.bl
    tab:=O.tab
    tds:=O.tds
    tis:=O.tis
    un:=hr.units
    stk:=fun _=>rfl
    fr:=fun _=>rfl }
   obtain ⟨t,ps,rs⟩:=sxs_snd (ss:=defBody d.st) (f:=cS (p.cn d) SF) (snd_s L rfl SF)
   refine ⟨t,ps,rs ρ _ (L2.start d.N vs) h H _ R ?_ (W.bind wq fun ρ1 o o' h1 H1 e1 R1 q1 w1=>?_)⟩
   ·rw [<- hl]
    exact start_rep r rfl
   ·cases o with
    | nx σ=>cases o' with
     | nx σ'=>exact (W.here (Q:=Q) (Rp:=RepV T) (a:=AV.non) (b:=V.non) w1 R1 RepV.non:Q V.non H1)
     | _=>exact q1.elim
    | ret v=>cases o' with
     | ret v'=>exact (W.here (Q:=Q) (Rp:=RepV T) (a:=v) (b:=v') w1 R1 q1:Q v' H1)
     | _=>exact q1.elim
    | brk σ=>exact w1.elim
    | cnt σ=>exact w1.elim
noncomputable def spLaw (K:PySem.W.Frag):Sp:=fun vs H Q _=>∃ (a:Addr) (ns:List Int),vs = [.ref a]/\FzL K H a (ns.map V.int)/\ns.length <= 63/\∀ H',Q (.bl true) H'
noncomputable def h0 (ns:List Int):AH:=⟨1,fun m=>if m = 0 then some (.lst false (ns.map AV.int)) else none⟩
noncomputable def Keeps (P:Pg)(k i:Nat):Prop:=∀ ns:List Int,ns.length <= 63->∃ h',run P k i [.ref 0] (h0 ns) = .ok (.bl true) h'
theorem h0_rep {H:Hp}{a:Addr}{ns:List Int}(h:FzL T.K H a (ns.map V.int)):RepH T [a] (h0 ns) H:=by
 have z:∀ {n:Nat} {o:AObj},(h0 ns).ob n = some o->n = 0/\o = .lst false (ns.map AV.int):=fun {n o} e=>by
  have e':(if n = 0 then some (AObj.lst false (ns.map AV.int)) else none) = some o:=e
  by_cases hn:n = 0
  ·rw [if_pos hn] at e';exact ⟨hn,(Option.some.inj e').symm⟩
  ·rw [if_neg hn] at e';cases e'
 refine ⟨rfl,fun n o e=>?_,fun n o b e q=>?_,fun n m b o u e1 e2 m1 m2 _ _=>?_⟩
 ·rw [(z e).1];exact Nat.zero_lt_one
 ·obtain ⟨rfl,rfl⟩:=z e
  cases q
  exact ⟨_,h,RepVs.ints ns⟩
 ·rw [(z e1).1,(z e2).1]
theorem law_ok (O:PrOk P w p T mg ad fds){k i:Nat}{d:Df}(hd:p.defs[i]? = some d)(h:Keeps p.ir k i):FnOk P w T.K mg base (CXo P w) (2 * k) (ad i) (fds i) d.ps (spLaw T.K):=by
 refine (run_ok O k i d hd).imp fun vs H Q E ⟨a,ns,e,hf,hl,q⟩=>?_
 subst e
 obtain ⟨h',e⟩:=h ns hl
 refine ⟨[a],h0 ns,[.ref 0],h0_rep hf,.cons (.ref rfl) .nil,?_⟩
 rw [e]
 intro ρ' b H' _ _ r
 cases r
 exact q H'
theorem fz_of {K:PySem.W.Frag}{H:Hp}{a:Addr}{xs:List V}(ho:Only H)(h:SqL K H a xs):FzL K H a xs:=by
 rcases h with (h | h) | h
 ·rcases ho a with z | ⟨o,ys,z⟩
  ·rw [h] at z;cases z
  ·rw [h] at z;cases z
 ·exact .inl h
 ·exact .inr h
end
theorem walk {l:PySem.W.OpenLaw}{q:Program}{loose:List Str}{XP:(Str->Option Value)->Heap->Prop}{YP:World->Heap->Prop}{d:DefRec}{K:Params->PySem.W.Frag}{k:Nat}{x:Str}(hn:l.most = some 63)(hdf:d.params.defaults = [])(hr:Room k callerA)
  (hY:∀ (w:World) (h:Heap),YP w h->(K w.params).In h)
  (F:∀ (w:World) (mg:Str->Option Value) (fa:Addr) (h:Heap),(K w.params).In h->h.Ns mainGlobals mg->mg d.name = some (.ref fa) ->
   ∃ fd:FuncData,(∀ (s:Shared) (u:Value),BindsTo s fd ⟨[u],[]⟩ [(x,u)])/\∀ base:Heap,(K w.params).In base->base.Ns mainGlobals mg->FnOk l.prog w (K w.params) mg base (CXo l.prog w) k fa fd [x] (spLaw (K w.params))) :
  PySem.W.WalkO q loose XP YP l.row.toRowW d [] (fun f vs=>PySem.call f vs) :=
 L2.walk_of (n:=63) (k:=k) (x:=x) (CX:=fun w=>CXo l.prog w) (sp:=fun w=>spLaw (K w.params)) hn (by decide) hdf hr hY F (fun _ _ a ns hl ho hS=>⟨a,ns,rfl,fz_of ho hS,hl,fun _=>rfl⟩) fun _ _ _ _ _ ⟨_,_,_,_,_,_,_,_,_,_,_,_,z⟩=>z
end AM
set_option genSizeOf false
namespace AM
open PySem PySem.Spec PyProof.Rows L2
noncomputable def We {α:Type}(Xc:Nat->AH->Prop)(m:M α)(h:AH)(Q:α->AH->Prop):Prop:=match m h with
 | .ok a h'=>Q a h'
 | .exc c _ h'=>Xc c h'
 | .bad=>False
abbrev Wp {α:Type}(m:M α)(h:AH)(Q:α->AH->Prop):Prop:=We (fun _ _=>False) m h Q
variable {Xc:Nat->AH->Prop}
section
variable {α β:Type}{m:M α}{k:α->M β}{h h':AH}{Q:α->AH->Prop}{Q2:β->AH->Prop}{F:Run}{σ:ASt}
theorem wp_bind (w:We Xc m h fun a h1=>We Xc (k a) h1 Q2):We Xc (M.bind m k) h Q2:=by
 unfold We at w ⊢
 unfold M.bind
 cases e:m h with
 | ok a h1=>rw [e] at w;exact w
 | exc c x h1=>rw [e] at w;exact w
 | bad=>rw [e] at w;exact w.elim
theorem We.mono {Q':α->AH->Prop}(w:We Xc m h Q)(f:∀ a h1,Q a h1->Q' a h1):We Xc m h Q':=by
 unfold We at w ⊢
 cases e:m h with
 | ok a h1=>rw [e] at w;exact f a h1 w
 | exc c x h1=>rw [e] at w;exact w
 | bad=>rw [e] at w;exact w.elim
theorem We.eq {a:α}(e:m h = .ok a h')(q:Q a h'):We Xc m h Q:=by
 unfold We;rw [e];exact q
theorem We.ex (w:We (fun _ _=>False) m h Q):∃ a h',m h = .ok a h'/\Q a h':=by
 unfold We at w
 cases e:m h with
 | ok a h1=>rw [e] at w;exact ⟨a,h1,rfl,w⟩
 | exc c x h1=>rw [e] at w;exact w.elim
 | bad=>rw [e] at w;exact w.elim
theorem wp_ret {a:α}(q:Q a h):We Xc (M.ret a) h Q:=q
theorem wp_guard {p:Prop} [Decidable p] (hp:p)(w:We Xc m h Q):We Xc (M.guard p m) h Q:=by
 unfold We at w ⊢
 unfold M.guard
 rw [if_pos hp];exact w
variable {V1:AV->AH->Prop}{B1:Bool->AH->Prop}{L1:List AV->AH->Prop}
theorem wp_val {v:AV}(q:V1 v h):We Xc (den F (.val v) σ) h V1:=q
theorem wp_var {i:Nat}{v:AV}(e:σ[i]? = some (some v))(q:V1 v h):We Xc (den F (.var i) σ) h V1:=by
 show We Xc (gVar i σ) h V1
 unfold We gVar;rw [e];exact q
theorem wp_op {o:Op}{a b:Ex}(w:We Xc (den F a σ) h fun x h1=>We Xc (den F b σ) h1 fun y h2=>We Xc (o.g x y) h2 V1):We Xc (den F (.op o a b) σ) h V1:=wp_bind (w.mono fun _ _ z=>wp_bind z)
theorem wp_cmp {o:Cp}{a b:Ex}(w:We Xc (den F a σ) h fun x h1=>We Xc (den F b σ) h1 fun y h2=>We Xc (o.g x y) h2 V1):We Xc (den F (.cmp o a b) σ) h V1:=wp_bind (w.mono fun _ _ z=>wp_bind z)
theorem wp_neg {a:Ex}(w:We Xc (den F a σ) h fun x h1=>We Xc (gNeg x) h1 V1):We Xc (den F (.neg a) σ) h V1:=wp_bind w
theorem wp_and {a b:Ex}(w:We Xc (den F a σ) h fun x h1=>We Xc (gTruth x) h1 fun t h2=>if t = true then We Xc (den F b σ) h2 V1 else V1 x h2):We Xc (den F (.and a b) σ) h V1 :=
 wp_bind (w.mono fun x _ z=>wp_bind (z.mono fun t _ y=>by
  cases t with
  | true=>exact y
  | false=>exact y))
theorem wp_ite {c a b:Ex}(w:We Xc (denT F c σ) h fun t h1=>if t = true then We Xc (den F a σ) h1 V1 else We Xc (den F b σ) h1 V1):We Xc (den F (.ite c a b) σ) h V1:=wp_bind (w.mono fun t _ y=>by
 cases t with
 | true=>exact y
 | false=>exact y)
theorem wp_tup {es:Exs}(w:We Xc (dens F es σ) h fun xs h1=>xs.length <= sizeLine/\V1 (.tup xs) h1):We Xc (den F (.tup es) σ) h V1:=wp_bind (w.mono fun xs _ z=>wp_guard z.1 z.2)
theorem wp_lst {es:Exs}(w:We Xc (dens F es σ) h fun xs h1=>xs.length <= sizeLine/\V1 (.ref h1.nx) (h1.new (.lst true xs))):We Xc (den F (.lst es) σ) h V1:=wp_bind (w.mono fun xs _ z=>wp_guard z.1 z.2)
theorem wp_slice {a lo hi:Ex}(w:We Xc (den F a σ) h fun x h1=>We Xc (partOf lo (den F lo σ)) h1 fun l h2=>We Xc (partOf hi (den F hi σ)) h2 fun u h3=>We Xc (gSl x l u) h3 V1):We Xc (den F (.slice a lo hi) σ) h V1 :=
 wp_bind (w.mono fun _ _ z=>wp_bind (z.mono fun _ _ z=>wp_bind z))
theorem wp_call {f:Nat}{es:Exs}(w:We Xc (dens F es σ) h fun xs h1=>We Xc (F f xs) h1 V1):We Xc (den F (.call f es) σ) h V1:=wp_bind w
theorem wp_bi {f:Bi}{es:Exs}(w:We Xc (dens F es σ) h fun xs h1=>We Xc (f.g xs) h1 V1):We Xc (den F (.bi f es) σ) h V1:=wp_bind w
theorem wp_isa {t:BT}{a:Ex}(w:We Xc (den F a σ) h fun x h1=>We Xc (gIsa t x) h1 V1):We Xc (den F (.isa t a) σ) h V1:=wp_bind w
theorem wp_app {o a:Ex}(w:We Xc (den F o σ) h fun x h1=>isL h1 x = true/\We Xc (den F a σ) h1 fun y h2=>We Xc (gApp x y) h2 V1):We Xc (den F (.app o a) σ) h V1:=wp_bind (w.mono fun x h1 ⟨z1,z2⟩=>by
 unfold We
 simp only [if_pos z1]
 exact wp_bind z2)
theorem wpa_nil (q:L1 [] h):We Xc (dens F .nil σ) h L1:=q
theorem wpa_cons {e:Ex}{es:Exs}(w:We Xc (den F e σ) h fun x h1=>We Xc (dens F es σ) h1 fun xs h2=>L1 (x :: xs) h2):We Xc (dens F (.cons e es) σ) h L1:=wp_bind (w.mono fun _ _ z=>wp_bind z)
theorem wt_cmp {o:Cp}{a b:Ex}(w:We Xc (den F a σ) h fun x h1=>We Xc (den F b σ) h1 fun y h2=>We Xc (o.g x y) h2 fun z h3=>∃ t,z = .bl t/\B1 t h3):We Xc (denT F (.cmp o a b) σ) h B1 :=
 wp_bind (wp_bind (w.mono fun _ _ z=>wp_bind (z.mono fun _ _ z=>z.mono fun u h3 ⟨t,e,q⟩=>by subst e;exact q)))
theorem wt_not {a:Ex}(w:We Xc (denT F a σ) h fun t h1=>B1 (!t) h1):We Xc (denT F (.not a) σ) h B1:=wp_bind w
theorem wt_and {a b:Ex}(w:We Xc (denT F a σ) h fun t h1=>if t = true then We Xc (denT F b σ) h1 B1 else B1 false h1):We Xc (denT F (.and a b) σ) h B1:=wp_bind (w.mono fun t _ y=>by
 cases t with
 | true=>exact y
 | false=>exact y)
theorem wt_or {a b:Ex}(w:We Xc (denT F a σ) h fun t h1=>if t = true then B1 true h1 else We Xc (denT F b σ) h1 B1):We Xc (denT F (.or a b) σ) h B1:=wp_bind (w.mono fun t _ y=>by
 cases t with
 | true=>exact y
 | false=>exact y)
theorem wt_call {f:Nat}{es:Exs}(w:We Xc (den F (.call f es) σ) h fun x h1=>We Xc (gTruth x) h1 B1):We Xc (denT F (.call f es) σ) h B1:=wp_bind w
theorem wt_isa {t:BT}{a:Ex}(w:We Xc (den F (.isa t a) σ) h fun x h1=>We Xc (gTruth x) h1 B1):We Xc (denT F (.isa t a) σ) h B1:=wp_bind w
theorem wg_add {i j:Int}(q:V1 (.int (i + j)) h):We Xc (Op.g .add (.int i) (.int j)) h V1:=q
theorem wg_sub {i j:Int}(q:V1 (.int (i - j)) h):We Xc (Op.g .sub (.int i) (.int j)) h V1:=q
theorem wg_int {p:Int->Int->Bool}{f:Int->Int->Int}{i j:Int}(hp:p i j = true)(q:V1 (.int (f i j)) h):We Xc (gInt p f (.int i) (.int j)) h V1:=by
 unfold We gInt;simp only [if_pos hp];exact q
theorem wg_mul {i j:Int}(hp:mulOk i j = true)(q:V1 (.int (i * j)) h):We Xc (Op.g .mul (.int i) (.int j)) h V1:=wg_int hp q
theorem wg_fdiv {i j:Int}(hp:divOk j = true)(q:V1 (.int (i / j)) h):We Xc (Op.g .fdiv (.int i) (.int j)) h V1:=wg_int (p:=fun _ j=>divOk j) hp q
theorem wg_mod {i j:Int}(hp:0 < j)(q:V1 (.int (i % j)) h):We Xc (Op.g .mod (.int i) (.int j)) h V1:=wg_int (p:=fun _ j=>decide (0 < j)) (decide_eq_true hp) q
theorem wg_pow {i j:Int}(hp:powOk i j = true)(q:V1 (.int (i ^ j.toNat)) h):We Xc (Op.g .pow (.int i) (.int j)) h V1:=wg_int (f:=fun i j=>i ^ j.toNat) hp q
theorem wg_lt {i j:Int}(q:V1 (.bl (decide (i < j))) h):We Xc (Cp.g .lt (.int i) (.int j)) h V1:=q
theorem wg_le {i j:Int}(q:V1 (.bl (decide (i <= j))) h):We Xc (Cp.g .le (.int i) (.int j)) h V1:=q
theorem wg_gt {i j:Int}(q:V1 (.bl (decide (j < i))) h):We Xc (Cp.g .gt (.int i) (.int j)) h V1:=q
theorem wg_eqi {i j:Int}(q:V1 (.bl (decide (i = j))) h):We Xc (Cp.g .eq (.int i) (.int j)) h V1:=q
theorem wg_nei {i j:Int}(q:V1 (.bl (!decide (i = j))) h):We Xc (Cp.g .ne (.int i) (.int j)) h V1:=q
theorem wg_eqs {i j:Str}(q:V1 (.bl (decide (i = j))) h):We Xc (Cp.g .eq (.str i) (.str j)) h V1:=q
theorem wg_nes {i j:Str}(q:V1 (.bl (!decide (i = j))) h):We Xc (Cp.g .ne (.str i) (.str j)) h V1:=q
theorem wg_is {x:AV}(q:V1 (.bl (isNon x)) h):We Xc (Cp.g .is_ x .non) h V1:=q
theorem seq_nod {x:AV}{xs:List AV}(e:seqOf h x = some xs):dctOf h x = none:=by
 cases x with
 | ref n =>
  simp only [seqOf] at e
  simp only [dctOf]
  cases o:h.ob n with
  | none=>rfl
  | some u =>
   rw [o] at e
   cases u with
   | lst m ys=>rfl
   | _=>cases e
 | _=>rfl
theorem wg_in {x y:AV}{xs:List AV}(e:seqOf h y = some xs)(f:(flatA x && xs.all flatA) = true)(q:V1 (.bl (inA x xs)) h):We Xc (Cp.g .in_ x y) h V1:=by
 show We Xc (gIn false x y) h V1
 have ed:dctOf h y = none:=seq_nod e
 unfold We gIn;simp only [ed];unfold gIn0;rw [e];simp only [if_pos f];exact q
theorem wg_neg {i:Int}(q:V1 (.int (-i)) h):We Xc (gNeg (.int i)) h V1:=q
theorem wg_ix {x v:AV}{i:Int}{xs:List AV}(e:seqOf h x = some xs)(e2:atI xs i = some v)(q:V1 v h):We Xc (Op.g .ix x (.int i)) h V1:=by
 show We Xc (gIx x (.int i)) h V1
 have ed:dctOf h x = none:=seq_nod e
 unfold We gIx;simp only [ed]
 unfold gIx1
 unfold gIx0
 cases x with
 | str z=>cases e
 | non=>cases e
 | bl _=>cases e
 | int _=>cases e
 | glb _=>cases e
 | tup ys=>simp only [e,Option.bind_some,e2];exact q
 | ref n=>simp only [e,Option.bind_some,e2];exact q
theorem wg_trb {b:Bool}(q:B1 b h):We Xc (gTruth (.bl b)) h B1:=q
theorem wg_isa {t s:BT}{x:AV}(e:btOf h x = some s)(q:V1 (.bl (s.sub t)) h):We Xc (gIsa t x) h V1:=by
 unfold We gIsa;rw [e];exact q
theorem wg_len {x:AV}{xs:List AV}(e:seqOf h x = some xs)(q:V1 (.int xs.length) h):We Xc (Bi.g .len [x]) h V1:=by
 show We Xc (gLen [x]) h V1
 unfold We gLen
 cases x with
 | str z=>cases e
 | non=>cases e
 | bl _=>cases e
 | int _=>cases e
 | glb _=>cases e
 | tup ys=>simp only [e];exact q
 | ref n=>simp only [e];exact q
theorem wg_tuple {x:AV}{xs:List AV}(e:seqOf h x = some xs)(q:V1 (.tup xs) h):We Xc (Bi.g .tuple [x]) h V1:=by
 show We Xc (gTuple [x]) h V1
 unfold We gTuple one1;simp only [Option.bind_some,e];exact q
theorem wg_list {x:AV}{xs:List AV}(e:seqOf h x = some xs)(q:V1 (.ref h.nx) (h.new (.lst true xs))):We Xc (Bi.g .list [x]) h V1:=by
 show We Xc (gList [x]) h V1
 unfold We gList one1 newL;simp only [Option.bind_some,e];exact q
theorem wg_app {n:Nat}{v:AV}{xs:List AV}(e:h.ob n = some (.lst true xs))(hz:xs.length < sizeLine)(q:V1 .non (h.put n (.lst true (xs ++ [v])))):We Xc (gApp (.ref n) v) h V1:=by
 unfold We gApp;simp only [e,if_pos hz];exact q
theorem wg_cat {n k:Nat}{xs ys:List AV}(e:h.ob n = some (.lst true xs))(e2:h.ob k = some (.lst true ys))(hz:xs.length + ys.length <= sizeLine)(q:V1 (.ref h.nx) (h.new (.lst true (xs ++ ys)))):We Xc (Op.g .add (.ref n) (.ref k)) h V1:=by
 show We Xc (gAdd (.ref n) (.ref k)) h V1
 unfold We gAdd;simp only [e,e2,if_pos hz];exact q
theorem wg_slr {n:Nat}{b:Bool}{lo hi:Option Int}{xs:List AV}(e:h.ob n = some (.lst b xs))(q:V1 (.ref h.nx) (h.new (.lst true (cutA xs lo hi)))):We Xc (gSl (.ref n) lo hi) h V1:=by
 unfold We gSl;simp only [e];exact q
variable {P1:Option Int->AH->Prop}
theorem wp_no (q:P1 none h){m:M AV}:We Xc (partOf .no m) h P1:=q
theorem wp_part {e:Ex}(he:∀ m,partOf e m = m.bind gPart)(w:We Xc (den F e σ) h fun x h1=>∃ i,x = .int i/\P1 (some i) h1):We Xc (partOf e (den F e σ)) h P1:=by
 rw [he]
 exact wp_bind (w.mono fun x h1 ⟨i,e,q⟩=>by subst e;exact q)
end
noncomputable def Wt (Xc:Nat->AH->Prop)(m:M Out)(h:AH)(N:ASt->AH->Prop)(R:AV->AH->Prop)(B C:ASt->AH->Prop):Prop:=We Xc m h fun o h1=>match o with
 | .nx σ=>N σ h1
 | .ret v=>R v h1
 | .brk σ=>B σ h1
 | .cnt σ=>C σ h1
section
variable {F:Run}{σ:ASt}{h:AH}{N B C:ASt->AH->Prop}{R:AV->AH->Prop}
theorem ws_nil (q:N σ h):Wt Xc (exs1 F .nil σ) h N R B C:=q
theorem ws_cons {s:Sx}{ss:Sxs}(w:Wt Xc (ex1 F s σ) h (fun σ1 h1=>Wt Xc (exs1 F ss σ1) h1 N R B C) R B C):Wt Xc (exs1 F (.cons s ss) σ) h N R B C :=
 wp_bind (We.mono w fun o h1 z=>by
  cases o with
  | nx σ1=>exact z
  | ret v=>exact z
  | brk σ1=>exact z
  | cnt σ1=>exact z)
theorem ws_ret {e:Ex}(w:We Xc (den F e σ) h R):Wt Xc (ex1 F (.ret e) σ) h N R B C:=wp_bind w
theorem ws_expr {e:Ex}(w:We Xc (den F e σ) h fun _ h1=>N σ h1):Wt Xc (ex1 F (.expr e) σ) h N R B C:=wp_bind w
theorem ws_nm {i:Nat}{e:Ex}(w:We Xc (den F e σ) h fun v h1=>N (σ.set i (some v)) h1):Wt Xc (ex1 F (.asg (.nm i) e) σ) h N R B C:=wp_bind w
theorem wa_nm {i:Nat}{v:AV}{Q:ASt->AH->Prop}(q:Q (σ.set i (some v)) h):We Xc (asgn F (.nm i) v σ) h Q:=q
theorem wa_tup {n:Nat}{ts:Tgs}{v:AV}{xs:List AV}{Q:ASt->AH->Prop}(e:seqOf h v = some xs)(hl:xs.length = n)(w:We Xc (asgns F ts xs σ) h Q):We Xc (asgn F (.tup n ts) v σ) h Q:=by
 show We Xc (gUnp n (asgns F ts) v σ) h Q
 unfold We gUnp;simp only [e,if_pos hl];exact w
theorem wa_nil {Q:ASt->AH->Prop}(q:Q σ h):We Xc (asgns F .nil [] σ) h Q:=q
theorem wa_cons {t:Tg}{ts:Tgs}{v:AV}{vs:List AV}{Q:ASt->AH->Prop}(w:We Xc (asgn F t v σ) h fun σ1 h1=>We Xc (asgns F ts vs σ1) h1 Q):We Xc (asgns F (.cons t ts) (v :: vs) σ) h Q:=wp_bind w
theorem ws_ite {c:Ex}{a b:Sxs}(w:We Xc (denT F c σ) h fun t h1=>if t = true then Wt Xc (exs1 F a σ) h1 N R B C else Wt Xc (exs1 F b σ) h1 N R B C):Wt Xc (ex1 F (.ite c a b) σ) h N R B C:=wp_bind (w.mono fun t _ y=>by
 cases t with
 | true=>exact y
 | false=>exact y)
theorem forM_by {it:AIt}{g:AV->ASt->M ASt}{body:ASt->M Out}(I:Nat->ASt->AH->Prop)(n:Nat)
  (turn:∀ i σ h,i < n->I i σ h->∃ v,it i h = some (some v)/\We Xc (g v σ) h fun σ1 h1=>Wt Xc (body σ1) h1 (I (i + 1)) R N (I (i + 1)))
  (done:∀ σ h,I n σ h->it n h = some none/\N σ h):∀ (f i:Nat) (σ:ASt) (h:AH),i <= n->n - i < f->I i σ h->Wt Xc (forM it g body f i σ) h N R B C
 | 0,i,σ,h,hi,hf,_=>by omega
 | f + 1,i,σ,h,hi,hf,hI=>by
  have ih:=forM_by I n turn done f
  by_cases hn:i < n
  ·obtain ⟨v,e,w⟩:=turn i σ h hn hI
   unfold Wt We forM
   simp only [e]
   refine wp_bind (w.mono fun σ1 h1 w1=>wp_bind (We.mono w1 fun o h2 z=>?_))
   cases o with
   | nx σ2=>exact ih (i + 1) σ2 h2 hn (by omega) z
   | cnt σ2=>exact ih (i + 1) σ2 h2 hn (by omega) z
   | brk σ2=>exact z
   | ret v=>exact z
  ·have e0:i = n:=by omega
   subst e0
   obtain ⟨e,q⟩:=done σ h hI
   unfold Wt We forM
   simp only [e]
   exact q
theorem ws_for {t:Tg}{it:Ir}{b:Sxs}(w:We Xc (iter F it σ) h fun i h1=>Wt Xc (forM i (asgn F t) (exs1 F b) FU 0 σ) h1 N R B C):Wt Xc (ex1 F (.for_ t it b) σ) h N R B C:=wp_bind w
variable {Q:AIt->AH->Prop}
theorem wi_seq {e:Ex}(w:We Xc (den F e σ) h fun x h1=>We Xc (gIter x) h1 Q):We Xc (iter F (.seq e) σ) h Q:=wp_bind w
theorem wi_rng1 {es:Exs}(w:We Xc (dens F es σ) h fun xs h1=>∃ j,xs = [.int j]/\rngOk j = true/\Q (rngIt 0 j.toNat) h1):We Xc (iter F (.rng1 es) σ) h Q:=wp_bind (w.mono fun xs h1 ⟨j,e,r,q⟩=>by
 subst e
 unfold We gRange1;simp only [if_pos r];exact q)
theorem wi_rng2 {es:Exs}(w:We Xc (dens F es σ) h fun xs h1=>∃ i j,xs = [.int i,.int j]/\(rngOk i && rngOk j) = true/\Q (rngIt i (j - i).toNat) h1):We Xc (iter F (.rng2 es) σ) h Q:=wp_bind (w.mono fun xs h1 ⟨i,j,e,r,q⟩=>by
 subst e
 unfold We gRange2;simp only [if_pos r];exact q)
theorem wi_enum {e:Ex}(w:We Xc (den F e σ) h fun x h1=>∃ n b xs,x = .ref n/\h1.ob n = some (.lst b xs)/\Q (enumIt (listIt n)) h1):We Xc (iter F (.enum e) σ) h Q:=wp_bind (w.mono fun x h1 ⟨n,b,xs,e,r,q⟩=>by
 subst e
 unfold We gEnum;simp only [r];exact q)
theorem wi_zip {es:Exs}(w:We Xc (dens F es σ) h fun xs h1=>∃ x y it jt,xs = [x,y]/\gIterZ x h1 = .ok it h1/\gIterZ y h1 = .ok jt h1/\Q (zipIt it jt) h1):We Xc (iter F (.zip es) σ) h Q:=wp_bind (w.mono fun xs h1 ⟨x,y,it,jt,e,e1,e2,q⟩=>by
 subst e
 unfold We gZip;simp only [e1,e2];exact q)
theorem wi_str {z:Str}(q:Q (valsIt ((sgs z).map AV.str)) h):We Xc (gIter (.str z)) h Q:=q
theorem wi_tup {xs:List AV}(q:Q (valsIt xs) h):We Xc (gIter (.tup xs)) h Q:=q
theorem wi_ref {n:Nat}{b:Bool}{xs:List AV}(e:h.ob n = some (.lst b xs))(q:Q (listIt n) h):We Xc (gIter (.ref n)) h Q:=by
 unfold We gIter gIterZ;simp only [e];exact q
theorem wp_run {P:Pg}{k f np nn:Nat}{b:Sxs}{args:List AV}(e:P f = some (np,nn,b))(hl:args.length = np)(w:Wt Xc (exs1 (run P k) b (args.map some ++ List.replicate (nn - np) none)) h (fun _ h1=>R .non h1) R (fun _ _=>False) (fun _ _=>False)):We Xc (run P (k + 1) f args) h R:=by
 show We Xc (match P f with
  | none=>M.bad
  | some (np,nn,b)=>M.guard (args.length = np) ((exs1 (run P k) b (args.map some ++ List.replicate (nn - np) none)).bind outV)) h R
 rw [e]
 refine wp_guard hl (wp_bind (We.mono w fun o h1 z=>?_))
 cases o with
 | nx σ=>exact z
 | ret v=>exact z
 | brk σ=>exact z.elim
 | cnt σ=>exact z.elim
end
theorem Keeps.of {P:Pg}{k i:Nat}(h:∀ ns:List Int,ns.length <= 63->Wp (run P k i [.ref 0]) (h0 ns) fun v _=>v = .bl true):Keeps P k i:=fun ns hl=>by
 obtain ⟨a,h',e,q⟩:=(h ns hl).ex
 subst q
 exact ⟨h',e⟩
end AM
namespace AM
theorem if_dec {c:Prop} [Decidable c] {A B:Prop}(h1:c->A)(h2:¬ c->B):if decide c = true then A else B:=by
 by_cases h:c
 ·rw [decide_eq_true h,if_pos rfl];exact h1 h
 ·rw [decide_eq_false h,if_neg Bool.false_ne_true];exact h2 h
theorem if_ndec {c:Prop} [Decidable c] {A B:Prop}(h1:¬ c->A)(h2:c->B):if (!decide c) = true then A else B:=by
 by_cases h:c
 ·rw [decide_eq_true h,Bool.not_true,if_neg Bool.false_ne_true];exact h2 h
 ·rw [decide_eq_false h,Bool.not_false,if_pos rfl];exact h1 h
end AM
namespace AM
theorem if_tru {b:Bool}{A B:Prop}(e:b = true)(h:A):if b = true then A else B:=by rw [if_pos e];exact h
theorem if_fls {b:Bool}{A B:Prop}(e:b = false)(h:B):if b = true then A else B:=by rw [if_neg (by rw [e];exact Bool.false_ne_true)];exact h
theorem if_dt {c:Prop} [Decidable c] {A B:Prop}(e:c)(h:A):if decide c = true then A else B:=if_tru (decide_eq_true e) h
theorem if_df {c:Prop} [Decidable c] {A B:Prop}(e:¬ c)(h:B):if decide c = true then A else B:=if_fls (decide_eq_false e) h
theorem if_ndt {c:Prop} [Decidable c] {A B:Prop}(e:c)(h:B):if (!decide c) = true then A else B:=if_fls (by rw [decide_eq_true e];rfl) h
theorem if_ndf {c:Prop} [Decidable c] {A B:Prop}(e:¬ c)(h:A):if (!decide c) = true then A else B:=if_tru (by rw [decide_eq_false e];rfl) h
end AM
namespace AM
open PySem PySem.Spec PyProof.Rows L2
set_option exponentiation.threshold 2000
section
variable {F:Run}{σ:ASt}{h:AH}{V1:AV->AH->Prop}
theorem wc_2_64 (q:V1 (.int 18446744073709551616) h):We Xc (den F (.op .pow (.val (.int 2)) (.val (.int 64))) σ) h V1:=by
 refine wp_op (wp_val (wp_val (wg_pow (by decide) ?_)))
 rw [show ((2:Int) ^ Int.toNat 64) = 18446744073709551616 from by decide +kernel]
 exact q
theorem wc_10_20 (q:V1 (.int 100000000000000000000) h):We Xc (den F (.op .pow (.val (.int 10)) (.val (.int 20))) σ) h V1:=by
 refine wp_op (wp_val (wp_val (wg_pow (by decide) ?_)))
 rw [show ((10:Int) ^ Int.toNat 20) = 100000000000000000000 from by decide +kernel]
 exact q
end
theorem mulOk_r {i j:Int}(h1:-18446744073709551616 < j)(h2:j < 18446744073709551616):mulOk i j = true:=by
 have e:(18446744073709551616:Nat) = 2 ^ 64:=by decide
 simp only [mulOk,Bool.or_eq_true,Bool.and_eq_true,decide_eq_true_eq]
 exact .inl (.inr (by omega))
theorem seq_ref {h:AH}{n:Nat}{b:Bool}{xs:List AV}(e:h.ob n = some (.lst b xs)):seqOf h (.ref n) = some xs:=by
 simp only [seqOf,e]
noncomputable def cell (ns:List Int)(i:Int):Int:=ns.getD i.toNat 0
theorem atI_ints {ns:List Int}{i:Int}(h0:0 <= i)(h1:i < (ns.map AV.int).length):atI (ns.map AV.int) i = some (.int (cell ns i)):=by
 have hl:i.toNat < ns.length:=by rw [List.length_map] at h1;omega
 unfold atI ixN
 rw [if_pos h0,if_pos h1]
 simp only [Option.bind_some,List.getElem?_map,cell,List.getD,List.getElem?_eq_getElem hl,Option.map_some,Option.getD_some]
noncomputable def cutI {α:Type}(xs:List α)(lo hi:Option Int):List α:=(xs.drop (HT.sIx xs.length 0 lo)).take (HT.sIx xs.length xs.length hi - HT.sIx xs.length 0 lo)
theorem cut_map {α:Type}(xs:List α)(f:α->AV)(lo hi:Option Int):cutA (xs.map f) lo hi = (cutI xs lo hi).map f:=by
 unfold cutA cutI
 rw [List.length_map,<- List.map_drop,<- List.map_take]
theorem cut_len {α:Type}(xs:List α)(lo hi:Option Int):(cutI xs lo hi).length <= xs.length:=by
 unfold cutI
 rw [List.length_take,List.length_drop]
 omega
theorem new_ob {h:AH}{o:AObj}:(h.new o).ob h.nx = some o:=by simp only [AH.new,if_pos]
theorem new_old {h:AH}{o:AObj}{n:Nat}(hn:n ≠ h.nx):(h.new o).ob n = h.ob n:=by simp only [AH.new,if_neg hn]
theorem put_ob {h:AH}{o:AObj}{n:Nat}:(h.put n o).ob n = some o:=by simp only [AH.put,if_pos]
theorem put_old {h:AH}{o:AObj}{n k:Nat}(hn:k ≠ n):(h.put n o).ob k = h.ob k:=by simp only [AH.put,if_neg hn]
theorem list_it {h:AH}{n i:Nat}{b:Bool}{xs:List AV}(e:h.ob n = some (.lst b xs)):listIt n i h = some xs[i]?:=by
 simp only [listIt,e]
theorem enum_it {h:AH}{n i:Nat}{b:Bool}{xs:List AV}{v:AV}(e:h.ob n = some (.lst b xs))(hv:xs[i]? = some v):enumIt (listIt n) i h = some (some (.tup [.int i,v])):=by
 simp only [enumIt,list_it e,hv]
theorem enum_end {h:AH}{n i:Nat}{b:Bool}{xs:List AV}(e:h.ob n = some (.lst b xs))(hv:xs[i]? = none):enumIt (listIt n) i h = some none:=by
 simp only [enumIt,list_it e,hv]
theorem for_enum {n:Nat}{bb:Bool}{xs:List AV}{g:AV->ASt->M ASt}{body:ASt->M Out}{N B C:ASt->AH->Prop}{R:AV->AH->Prop}{σ:ASt}{h:AH}(I:Nat->ASt->AH->Prop)(hn:xs.length < FU)(i0:I 0 σ h)(il:∀ i σ h,I i σ h->h.ob n = some (.lst bb xs))
  (turn:∀ (i:Nat) x σ h,xs[i]? = some x->I i σ h->We Xc (g (.tup [.int i,x]) σ) h fun σ1 h1=>Wt Xc (body σ1) h1 (I (i + 1)) R N (I (i + 1)))
  (done:∀ σ h,I xs.length σ h->N σ h):Wt Xc (forM (enumIt (listIt n)) g body FU 0 σ) h N R B C:=by
 refine forM_by I xs.length (fun i σ h hi hI=>?_) (fun σ h hI=>⟨enum_end (il _ _ _ hI) (by simp),done σ h hI⟩) FU 0 σ h (Nat.zero_le _) (by omega) i0
 exact ⟨_,enum_it (il _ _ _ hI) (List.getElem?_eq_getElem hi),turn i _ σ h (List.getElem?_eq_getElem hi) hI⟩
theorem for_vals {xs:List AV}{g:AV->ASt->M ASt}{body:ASt->M Out}{N B C:ASt->AH->Prop}{R:AV->AH->Prop}{σ:ASt}{h:AH}(I:Nat->ASt->AH->Prop)(hn:xs.length < FU)(i0:I 0 σ h)
  (turn:∀ (i:Nat) x σ h,xs[i]? = some x->I i σ h->We Xc (g x σ) h fun σ1 h1=>Wt Xc (body σ1) h1 (I (i + 1)) R N (I (i + 1)))
  (done:∀ σ h,I xs.length σ h->N σ h):Wt Xc (forM (valsIt xs) g body FU 0 σ) h N R B C:=by
 refine forM_by I xs.length (fun i σ h hi hI=>?_) (fun σ h hI=>⟨by simp [valsIt],done σ h hI⟩) FU 0 σ h (Nat.zero_le _) (by omega) i0
 exact ⟨_,by simp only [valsIt,List.getElem?_eq_getElem hi],turn i _ σ h (List.getElem?_eq_getElem hi) hI⟩
theorem for_listw {n:Nat}{bb:Bool}{xs:List AV}{g:AV->ASt->M ASt}{body:ASt->M Out}{N B C:ASt->AH->Prop}{R:AV->AH->Prop}{σ:ASt}{h:AH}(I:Nat->ASt->AH->Prop)(hn:xs.length < FU)(i0:I 0 σ h)(il:∀ i σ h,I i σ h->h.ob n = some (.lst bb xs))
  (turn:∀ (i:Nat) x σ h,xs[i]? = some x->I i σ h->We Xc (g x σ) h fun σ1 h1=>Wt Xc (body σ1) h1 (I (i + 1)) R N (I (i + 1)))
  (done:∀ σ h,I xs.length σ h->N σ h):Wt Xc (forM (listIt n) g body FU 0 σ) h N R B C:=by
 refine forM_by I xs.length (fun i σ h hi hI=>?_) (fun σ h hI=>⟨by rw [list_it (il _ _ _ hI)];simp,done σ h hI⟩) FU 0 σ h (Nat.zero_le _) (by omega) i0
 exact ⟨_,by rw [list_it (il _ _ _ hI),List.getElem?_eq_getElem hi],turn i _ σ h (List.getElem?_eq_getElem hi) hI⟩
theorem for_rng {lo:Int}{n:Nat}{g:AV->ASt->M ASt}{body:ASt->M Out}{N B C:ASt->AH->Prop}{R:AV->AH->Prop}{σ:ASt}{h:AH}(I:Nat->ASt->AH->Prop)(hn:n < FU)(i0:I 0 σ h)
  (turn:∀ (i:Nat) σ h,i < n->I i σ h->We Xc (g (.int (lo + i)) σ) h fun σ1 h1=>Wt Xc (body σ1) h1 (I (i + 1)) R N (I (i + 1)))
  (done:∀ σ h,I n σ h->N σ h):Wt Xc (forM (rngIt lo n) g body FU 0 σ) h N R B C:=by
 refine forM_by I n (fun i σ h hi hI=>?_) (fun σ h hI=>⟨by simp [rngIt],done σ h hI⟩) FU 0 σ h (Nat.zero_le _) (by omega) i0
 exact ⟨_,by simp only [rngIt,if_pos hi],turn i σ h hi hI⟩
theorem FU_eq:FU = 1000000:=rfl
theorem ex_bl {t:Bool}{P:Bool->Prop}(q:P t):∃ t',AV.bl t = .bl t'/\P t':=⟨t,rfl,q⟩
theorem ex_rng1 {j:Int}{P:Int->Prop}(hr:rngOk j = true)(q:P j):∃ j',[AV.int j] = [.int j']/\rngOk j' = true/\P j':=⟨j,rfl,hr,q⟩
theorem ex_rng2 {i j:Int}{P:Int->Int->Prop}(hr:(rngOk i && rngOk j) = true)(q:P i j):∃ i' j',[AV.int i,AV.int j] = [.int i',.int j']/\(rngOk i' && rngOk j') = true/\P i' j':=⟨i,j,rfl,hr,q⟩
theorem ex_part {i:Int}{P:Int->Prop}(q:P i):∃ i',AV.int i = .int i'/\P i':=⟨i,rfl,q⟩
theorem ex_len {n:Nat}{P:Prop}(hn:n <= sizeLine)(q:P):n <= sizeLine/\P:=⟨hn,q⟩
theorem rng_ok {j:Int}(h1:-4611686018427387904 <= j)(h2:j < 4611686018427387904):rngOk j = true:=by
 simp only [rngOk,Bool.and_eq_true,decide_eq_true_eq]
 omega
end AM
namespace AM
structure Kp (h h':AH):Prop where
 nx:h.nx <= h'.nx
 ob:∀ n,n < h.nx->h'.ob n = h.ob n
theorem Kp.refl {h:AH}:Kp h h:=⟨Nat.le_refl _,fun _ _=>rfl⟩
theorem Kp.trans {a b c:AH}(x:Kp a b)(y:Kp b c):Kp a c:=⟨Nat.le_trans x.nx y.nx,fun n hn=>(y.ob n (Nat.lt_of_lt_of_le hn x.nx)).trans (x.ob n hn)⟩
theorem Kp.new {a b:AH}{o:AObj}(x:Kp a b):Kp a (b.new o):=⟨Nat.le_succ_of_le x.nx,fun n hn=>(new_old (Nat.ne_of_lt (Nat.lt_of_lt_of_le hn x.nx))).trans (x.ob n hn)⟩
theorem Kp.put {a b:AH}{o:AObj}{k:Nat}(x:Kp a b)(hk:a.nx <= k):Kp a (b.put k o):=⟨x.nx,fun n hn=>(put_old (Nat.ne_of_lt (Nat.lt_of_lt_of_le hn hk))).trans (x.ob n hn)⟩
end AM
namespace AM
end AM
set_option genSizeOf false
set_option exponentiation.threshold 2000
namespace AM
open PySem PySem.Spec PyProof.Rows L2
inductive W12 where
 | sum | less | times | share | rest | both | some_ | odd | up | down | below | same
noncomputable def W12.nm:W12->Str
 | .sum=>"sum" | .less=>"less" | .times=>"times" | .share=>"share" | .rest=>"rest" | .both=>"both" | .some_=>"some" | .odd=>"odd" | .up=>"up" | .down=>"down" | .below=>"below" | .same=>"same"
inductive PRow where
 | way (w:W12) (x y z:Int) | set (x v:Int) | move (x y:Int) | load (x y s:Int) | store (x y s:Int) | jump (x t:Int) | go (t:Int) | fault (v:Int)
noncomputable def PRow.av:PRow->AV
 | .way w x y z=>.tup [.str w.nm,.int x,.int y,.int z] | .set x v=>.tup [.str "set",.int x,.int v] | .move x y=>.tup [.str "move",.int x,.int y]
 | .load x y s=>.tup [.str "load",.int x,.int y,.int s] | .store x y s=>.tup [.str "store",.int x,.int y,.int s] | .jump x t=>.tup [.str "jump",.int x,.int t]
 | .go t=>.tup [.str "go",.int t] | .fault v=>.tup [.str "fault",.int v]
noncomputable def words (ws:List Int):Prop:=∀ w ∈ ws,0 <= w/\w < 18446744073709551616
theorem div_ok {b:Int}(b0:0 < b)(b1:b < 18446744073709551616):divOk b = true:=by
 have e:(18446744073709551616:Int) < 2 ^ 1000:=by decide
 simp only [divOk,Bool.and_eq_true,decide_eq_true_eq]
 exact ⟨b0,Int.lt_trans b1 e⟩
end AM
set_option genSizeOf false
set_option exponentiation.threshold 2000
namespace AM
open PySem PySem.Spec PyProof.Rows L2
section
variable {Xc:Nat->AH->Prop}{α:Type}{m:M α}{h:AH}{Q:α->AH->Prop}{F:Run}{σ:ASt}{V1:AV->AH->Prop}{L1:List AV->AH->Prop}
theorem we_noX (w:Wp m h Q):We Xc (noX m) h Q:=by
 obtain ⟨a,h1,e,q⟩:=w.ex
 exact We.eq (show noX m h = .ok a h1 by unfold noX;rw [e]) q
theorem wp_comp0 {imp:List (Option Nat)}{t:CT}{it:Ir}{e:Ex}(w:We Xc (iter F it σ) h fun i h1=>We Xc (compM i (asgnC t) (fun _=>M.ret true) (den F e) FU 0 [] (impS imp σ)) h1 fun ys h2=>V1 (.ref h2.nx) (h2.new (.lst true ys))):We Xc (den F (.comp0 imp t it e) σ) h V1 :=
 wp_bind (w.mono fun _ _ z=>wp_bind (z.mono fun _ _ y=>y))
theorem wp_comp1 {imp:List (Option Nat)}{t:CT}{it:Ir}{c e:Ex}(w:We Xc (iter F it σ) h fun i h1=>We Xc (compM i (asgnC t) (denT F c) (den F e) FU 0 [] (impS imp σ)) h1 fun ys h2=>V1 (.ref h2.nx) (h2.new (.lst true ys))):We Xc (den F (.comp1 imp t it c e) σ) h V1 :=
 wp_bind (w.mono fun _ _ z=>wp_bind (z.mono fun _ _ y=>y))
theorem wa_cnm {i:Nat}{v:AV}{Q:ASt->AH->Prop}(q:Q (σ.set i (some v)) h):We Xc (asgnC (.nm i) v σ) h Q:=q
theorem wa_ct2 {i j:Nat}{a b:AV}{Q:ASt->AH->Prop}(q:Q ((σ.set i (some a)).set j (some b)) h):We Xc (asgnC (.tup [i,j]) (.tup [a,b]) σ) h Q:=q
theorem compM_by {it:AIt}{g:AV->ASt->M ASt}{mt:ASt->M Bool}{me:ASt->M AV}(I:Nat->List AV->ASt->AH->Prop)(n:Nat)
  (turn:∀ i ys σ h,i < n->I i ys σ h->∃ v,it i h = some (some v)/\Wp (g v σ) h fun σ1 h1=>Wp (mt σ1) h1 fun b h2=>if b = true then Wp (me σ1) h2 fun y h3=>ys.length < sizeLine/\I (i + 1) (ys ++ [y]) σ1 h3 else I (i + 1) ys σ1 h2)
  (done:∀ ys σ h,I n ys σ h->it n h = some none/\L1 ys h):∀ (f i:Nat) (ys:List AV) (σ:ASt) (h:AH),i <= n->n - i < f->I i ys σ h->We Xc (compM it g mt me f i ys σ) h L1
 | 0,i,ys,σ,h,_,hf,_=>absurd hf (Nat.not_lt_zero _)
 | f + 1,i,ys,σ,h,hi,hf,hI=>by
  by_cases hx:i < n
  ·obtain ⟨v,e,w⟩:=turn i ys σ h hx hI
   have e1:compM it g mt me (f + 1) i ys σ h = ((noX (g v σ)).bind fun σ1=>(noX (mt σ1)).bind fun b=>if b = true then (noX (me σ1)).bind fun y=>M.guard (ys.length < sizeLine) (compM it g mt me f (i + 1) (ys ++ [y]) σ1) else compM it g mt me f (i + 1) ys σ1) h:=by
    simp only [compM,e]
   unfold We
   rw [e1]
   refine wp_bind (we_noX (w.mono fun σ1 h1 w1=>wp_bind (we_noX (w1.mono fun b h2 w2=>?_))))
   cases b with
   | true =>
    rw [if_pos rfl] at w2 ⊢
    exact wp_bind (we_noX (w2.mono fun y h3 w3=>wp_guard w3.1 (compM_by I n turn done f (i + 1) _ σ1 h3 hx (by omega) w3.2)))
   | false =>
    rw [if_neg Bool.false_ne_true] at w2 ⊢
    exact compM_by I n turn done f (i + 1) ys σ1 h2 hx (by omega) w2
  ·have:i = n:=by omega
   subst this
   obtain ⟨e,q⟩:=done ys σ h hI
   unfold We
   have e1:compM it g mt me (f + 1) i ys σ h = .ok ys h:=by simp only [compM,e]
   rw [e1]
   exact q
variable {g:AV->ASt->M ASt}{mt:ASt->M Bool}{me:ASt->M AV}
theorem tt_true {h:AH}{A B:AH->Prop}(q:A h):Wp (M.ret true) h fun b h2=>if b = true then A h2 else B h2:=by
 show if true = true then A h else B h
 rw [if_pos rfl];exact q
theorem comp_rng {lo:Int}{n:Nat}(I:Nat->List AV->ASt->AH->Prop)(hn:n < FU)(i0:I 0 [] σ h)
  (turn:∀ (i:Nat) ys σ h,i < n->I i ys σ h->Wp (g (.int (lo + i)) σ) h fun σ1 h1=>Wp (me σ1) h1 fun y h3=>ys.length < sizeLine/\I (i + 1) (ys ++ [y]) σ1 h3)
  (done:∀ ys σ h,I n ys σ h->L1 ys h):We Xc (compM (rngIt lo n) g (fun _=>M.ret true) me FU 0 [] σ) h L1:=by
 refine compM_by I n (fun i ys σ h hi hI=>?_) (fun ys σ h hI=>⟨by simp [rngIt],done ys σ h hI⟩) FU 0 [] σ h (Nat.zero_le _) (by omega) i0
 exact ⟨_,by simp only [rngIt,if_pos hi],(turn i ys σ h hi hI).mono fun σ1 h1 w=>tt_true w⟩
theorem comp_vals {xs:List AV}(I:Nat->List AV->ASt->AH->Prop)(hn:xs.length < FU)(i0:I 0 [] σ h)
  (turn:∀ (i:Nat) x ys σ h,xs[i]? = some x->I i ys σ h->Wp (g x σ) h fun σ1 h1=>Wp (me σ1) h1 fun y h3=>ys.length < sizeLine/\I (i + 1) (ys ++ [y]) σ1 h3)
  (done:∀ ys σ h,I xs.length ys σ h->L1 ys h):We Xc (compM (valsIt xs) g (fun _=>M.ret true) me FU 0 [] σ) h L1:=by
 refine compM_by I xs.length (fun i ys σ h hi hI=>?_) (fun ys σ h hI=>⟨by simp [valsIt],done ys σ h hI⟩) FU 0 [] σ h (Nat.zero_le _) (by omega) i0
 exact ⟨xs[i],by simp only [valsIt,List.getElem?_eq_getElem hi],(turn i _ ys σ h (List.getElem?_eq_getElem hi) hI).mono fun σ1 h1 w=>tt_true w⟩
theorem comp_list {n:Nat}{bb:Bool}{xs:List AV}(I:Nat->List AV->ASt->AH->Prop)(hn:xs.length < FU)(i0:I 0 [] σ h)(il:∀ i ys σ h,I i ys σ h->h.ob n = some (.lst bb xs))
  (turn:∀ (i:Nat) x ys σ h,xs[i]? = some x->I i ys σ h->Wp (g x σ) h fun σ1 h1=>Wp (me σ1) h1 fun y h3=>ys.length < sizeLine/\I (i + 1) (ys ++ [y]) σ1 h3)
  (done:∀ ys σ h,I xs.length ys σ h->L1 ys h):We Xc (compM (listIt n) g (fun _=>M.ret true) me FU 0 [] σ) h L1:=by
 refine compM_by I xs.length (fun i ys σ h hi hI=>?_) (fun ys σ h hI=>⟨by rw [list_it (il _ _ _ _ hI)];simp,done ys σ h hI⟩) FU 0 [] σ h (Nat.zero_le _) (by omega) i0
 exact ⟨_,by rw [list_it (il _ _ _ _ hI),List.getElem?_eq_getElem hi],(turn i _ ys σ h (List.getElem?_eq_getElem hi) hI).mono fun σ1 h1 w=>tt_true w⟩
theorem comp_enum {n:Nat}{bb:Bool}{xs:List AV}(I:Nat->List AV->ASt->AH->Prop)(hn:xs.length < FU)(i0:I 0 [] σ h)(il:∀ i ys σ h,I i ys σ h->h.ob n = some (.lst bb xs))
  (turn:∀ (i:Nat) x ys σ h,xs[i]? = some x->I i ys σ h->Wp (g (.tup [.int i,x]) σ) h fun σ1 h1=>Wp (me σ1) h1 fun y h3=>ys.length < sizeLine/\I (i + 1) (ys ++ [y]) σ1 h3)
  (done:∀ ys σ h,I xs.length ys σ h->L1 ys h):We Xc (compM (enumIt (listIt n)) g (fun _=>M.ret true) me FU 0 [] σ) h L1:=by
 refine compM_by I xs.length (fun i ys σ h hi hI=>?_) (fun ys σ h hI=>⟨enum_end (il _ _ _ _ hI) (by simp),done ys σ h hI⟩) FU 0 [] σ h (Nat.zero_le _) (by omega) i0
 exact ⟨_,enum_it (il _ _ _ _ hI) (List.getElem?_eq_getElem hi),(turn i _ ys σ h (List.getElem?_eq_getElem hi) hI).mono fun σ1 h1 w=>tt_true w⟩
variable {N:ASt->AH->Prop}{R:AV->AH->Prop}{B C:ASt->AH->Prop}
theorem ws_par {is:List Nat}{es:Exs}(w:We Xc (dens F es σ) h fun vs h1=>vs.length = is.length/\N (setAll is vs σ) h1):Wt Xc (ex1 F (.par is es) σ) h N R B C :=
 wp_bind (w.mono fun vs h1 z=>wp_guard z.1 z.2)
end
end AM
namespace AM
open PySem PySem.Spec PyProof.Rows L2
theorem for_zipl {Xc:Nat->AH->Prop}{n1 n2:Nat}{b1 b2:Bool}{xs ys:List AV}{g:AV->ASt->M ASt}{body:ASt->M Out}{N B C:ASt->AH->Prop}{R:AV->AH->Prop}{σ:ASt}{h:AH}(I:Nat->ASt->AH->Prop)(hl:xs.length = ys.length)(hn:xs.length < FU)(i0:I 0 σ h)
  (il:∀ i σ h,I i σ h->h.ob n1 = some (.lst b1 xs)/\h.ob n2 = some (.lst b2 ys))
  (turn:∀ (i:Nat) x y σ h,xs[i]? = some x->ys[i]? = some y->I i σ h->We Xc (g (.tup [x,y]) σ) h fun σ1 h1=>Wt Xc (body σ1) h1 (I (i + 1)) R N (I (i + 1)))
  (done:∀ σ h,I xs.length σ h->N σ h):Wt Xc (forM (zipIt (listIt n1) (listIt n2)) g body FU 0 σ) h N R B C:=by
 refine forM_by I xs.length (fun i σ h hi hI=>?_) (fun σ h hI=>⟨?_,done σ h hI⟩) FU 0 σ h (Nat.zero_le _) (by omega) i0
 ·obtain ⟨g1,g2⟩:=il _ _ _ hI
  have e1:=List.getElem?_eq_getElem hi
  have e2:=List.getElem?_eq_getElem (show i < ys.length by omega)
  exact ⟨_,by simp only [zipIt,list_it g1,list_it g2,e1,e2],turn i _ _ σ h e1 e2 hI⟩
 ·obtain ⟨g1,g2⟩:=il _ _ _ hI
  simp [zipIt,list_it g1,list_it g2]
theorem gIter_ref {h:AH}{n:Nat}{b:Bool}{xs:List AV}(e:h.ob n = some (.lst b xs)):gIterZ (.ref n) h = .ok (listIt n) h:=by simp only [gIterZ,e]
theorem wg_catT {Xc:Nat->AH->Prop}{xs ys:List AV}{h:AH}{V1:AV->AH->Prop}(hz:xs.length + ys.length <= sizeLine)(q:V1 (.tup (xs ++ ys)) h):We Xc (Op.g .add (.tup xs) (.tup ys)) h V1:=wp_guard hz q
theorem wg_slt {Xc:Nat->AH->Prop}{xs:List AV}{lo hi:Option Int}{h:AH}{V1:AV->AH->Prop}(hz:¬ (HT.sIx xs.length 0 lo = 0/\HT.sIx xs.length xs.length hi = xs.length))(q:V1 (.tup (cutA xs lo hi)) h):We Xc (gSl (.tup xs) lo hi) h V1:=by
 unfold We gSl;simp only [if_neg hz];exact q
end AM
set_option genSizeOf false
set_option exponentiation.threshold 2000
namespace AM
open PySem PySem.Spec PyProof.Rows L2
section
variable {Xc:Nat->AH->Prop}{h:AH}{F:Run}{σ:ASt}{V1:AV->AH->Prop}{L1:List AV->AH->Prop}
theorem wp_tix {kvs:List (Str × AV)}{a:Ex}(w:We Xc (den F a σ) h fun x h1=>We Xc (gTix kvs x) h1 V1):We Xc (den F (.tix kvs a) σ) h V1:=wp_bind w
theorem wp_join {z:Str}{a:Ex}(w:We Xc (den F a σ) h fun x h1=>We Xc (gJoin z x) h1 V1):We Xc (den F (.join z a) σ) h V1:=wp_bind w
theorem wg_tix {kvs:List (Str × AV)}{k:Str}{v:AV}(e:kvs.lookup k = some v)(q:V1 v h):We Xc (gTix kvs (.str k)) h V1:=by
 unfold We gTix;simp only [e];exact q
theorem wg_str {i:Int}(e:i.natAbs.log2 < 1920)(q:V1 (.str (toString i)) h):We Xc (Bi.g .str [.int i]) h V1:=by
 show We Xc (gStr [.int i]) h V1
 unfold We gStr;simp only [if_pos e];exact q
theorem strsOf_map:∀ (ts:List Str),strsOf (ts.map AV.str) = some ts
 | []=>rfl
 | t :: ts=>by rw [List.map_cons,strsOf,strsOf_map ts];rfl
theorem wg_join {z:Str}{n:Nat}{b:Bool}{ts:List Str}(e:h.ob n = some (.lst b (ts.map AV.str)))(hj:JoinOk z ts = true)(q:V1 (.str (Txt.join z ts)) h):We Xc (gJoin z (.ref n)) h V1:=by
 unfold We gJoin;simp only [e,strsOf_map,if_pos hj];exact q
theorem wg_ixs {z:Str}{i:Int}{c:Nat}(hz:z.length <= sizeLine)(e:atI z.cps.toList i = some c)(q:V1 (.str ⟨#[c]⟩) h):We Xc (Op.g .ix (.str z) (.int i)) h V1:=by
 show We Xc (gIx (.str z) (.int i)) h V1
 unfold We gIx;simp only [dctOf]
 unfold gIx1
 unfold gIx0;simp only [if_pos hz,e];exact q
theorem comp_zip {xs ys:List AV}{g:AV->ASt->M ASt}{me:ASt->M AV}(I:Nat->List AV->ASt->AH->Prop)(hl:xs.length = ys.length)(hn:xs.length < FU)(i0:I 0 [] σ h)
  (turn:∀ (i:Nat) x y zs σ h,xs[i]? = some x->ys[i]? = some y->I i zs σ h->Wp (g (.tup [x,y]) σ) h fun σ1 h1=>Wp (me σ1) h1 fun z h3=>zs.length < sizeLine/\I (i + 1) (zs ++ [z]) σ1 h3)
  (done:∀ zs σ h,I xs.length zs σ h->L1 zs h):We Xc (compM (zipIt (valsIt xs) (valsIt ys)) g (fun _=>M.ret true) me FU 0 [] σ) h L1:=by
 refine compM_by I xs.length (fun i zs σ h hi hI=>?_) (fun zs σ h hI=>⟨by simp [zipIt,valsIt],done zs σ h hI⟩) FU 0 [] σ h (Nat.zero_le _) (by omega) i0
 have e1:=List.getElem?_eq_getElem hi
 have e2:=List.getElem?_eq_getElem (show i < ys.length by omega)
 exact ⟨_,by simp only [zipIt,valsIt,e1,e2],(turn i _ _ zs σ h e1 e2 hI).mono fun σ1 h1 w=>tt_true w⟩
theorem small_log {v:Int}(h0:-(18446744073709551616:Int) <= v)(h1:v <= 18446744073709551616):v.natAbs.log2 < 1920:=by
 by_cases hz:v.natAbs = 0
 ·rw [hz];decide
 ·refine (Nat.log2_lt hz).mpr (Nat.lt_of_lt_of_le (m:=2 ^ 65) ?_ (Nat.pow_le_pow_right (by decide) (by decide)))
  have:(2:Nat) ^ 65 = 36893488147419103232:=by decide
  omega
end
end AM
set_option genSizeOf false
set_option exponentiation.threshold 2000
namespace AM
open PySem PySem.Spec PyProof.Rows L2
section
variable {Xc:Nat->AH->Prop}{h:AH}{F:Run}{σ:ASt}{V1:AV->AH->Prop}{B1:Bool->AH->Prop}{N B C:ASt->AH->Prop}{R:AV->AH->Prop}
theorem ws_aug {sub:Bool}{i:Nat}{e:Ex}{a:Int}(l:σ[i]? = some (some (.int a)))(w:We Xc (den F e σ) h fun y h1=>∃ j:Int,y = .int j/\N (σ.set i (some (.int (if sub = true then a - j else a + j)))) h1):Wt Xc (ex1 F (.aug sub i e) σ) h N R B C:=by
 show We Xc (augV sub i (den F e σ) σ) h _
 unfold augV
 simp only [l]
 exact wp_bind (w.mono fun y h1 ⟨j,e1,q⟩=>by subst e1;exact q)
theorem wp_dnew (q:V1 (.ref h.nx) (h.new (.dct []))):We Xc (den F .dnew σ) h V1:=q
theorem wg_eqD {x y:AV}{b:Bool}(e:eqSc x y = none)(e2:eqT h x y = some b)(q:V1 (.bl b) h):We Xc (Cp.g .eq x y) h V1:=by
 show We Xc (gEq x y) h V1
 unfold We gEq;simp only [e,e2];exact q
theorem wg_neD {x y:AV}{b:Bool}(e:eqSc x y = none)(e2:eqT h x y = some b)(q:V1 (.bl (!b)) h):We Xc (Cp.g .ne x y) h V1:=by
 show We Xc (gNe x y) h V1
 unfold We gNe;simp only [e,e2];exact q
theorem eqAll_same {f:AV->AV->Option Bool}:∀ {xs ys:List AV},xs.length = ys.length->(∀ (i:Nat) x y,xs[i]? = some x->ys[i]? = some y->f x y = some true)->eqAll f xs ys = some true
 | [],[],_,_=>rfl
 | [],_ :: _,hl,_=>by cases hl
 | _ :: _,[],hl,_=>by cases hl
 | x :: xs,y :: ys,hl,he=>by
  rw [eqAll,he 0 x y rfl rfl,eqAll_same (by simpa using hl) fun i p q h1 h2=>he (i + 1) p q h1 h2]
  rfl
theorem eqA_lst {n m k:Nat}{b1 b2:Bool}{xs ys:List AV}(e1:h.ob n = some (.lst b1 xs))(e2:h.ob m = some (.lst b2 ys))(hl:xs.length = ys.length)(he:eqAll (eqA h k) xs ys = some true):eqA h (k + 1) (.ref n) (.ref m) = some true:=by
 have s1:sqOf h (.ref n) = some (true,xs):=by simp only [sqOf,e1]
 have s2:sqOf h (.ref m) = some (true,ys):=by simp only [sqOf,e2]
 have hf:¬ (flatA (.ref n) = true/\flatA (.ref m) = true):=fun z=>by cases z.1
 have hz:¬ (true = true/\xs.length ≠ ys.length):=fun z=>z.2 hl
 simp only [eqA,if_neg hf,if_neg (show ¬ nonTup (.ref n) (.ref m) = true from fun z=>by cases z),s1,s2,if_true,he,Option.map_some,decide_eq_true hl,Bool.and_true]
 rw [if_neg (fun z=>z.2 hl)]
theorem eqT_lst {n m:Nat}{b1 b2:Bool}{xs ys:List AV}{b:Bool}(e1:h.ob n = some (.lst b1 xs))(e2:h.ob m = some (.lst b2 ys))(he:eqA h 12 (.ref n) (.ref m) = some b):eqT h (.ref n) (.ref m) = some b:=by
 have s1:sqOf h (.ref n) = some (true,xs):=by simp only [sqOf,e1]
 have s2:sqOf h (.ref m) = some (true,ys):=by simp only [sqOf,e2]
 simp only [eqT,s1,s2,he]
theorem eqA_emp {n m:Nat}{b1 b2:Bool}{xs:List AV}(e1:h.ob n = some (.lst b1 xs))(e2:h.ob m = some (.lst b2 [])):eqT h (.ref n) (.ref m) = some (decide (xs = [])):=by
 refine eqT_lst e1 e2 ?_
 have s1:sqOf h (.ref n) = some (true,xs):=by simp only [sqOf,e1]
 have s2:sqOf h (.ref m) = some (true,[]):=by simp only [sqOf,e2]
 have hf:¬ (flatA (.ref n) = true/\flatA (.ref m) = true):=fun z=>by cases z.1
 simp only [eqA,if_neg hf,if_neg (show ¬ nonTup (.ref n) (.ref m) = true from fun z=>by cases z),s1,s2]
 cases xs with
 | nil=>rfl
 | cons x xs=>rfl
end
theorem Kp.get {h h':AH}(g:Kp h h'){n:Nat}{o:Option AObj}(hn:n < h.nx)(e:h.ob n = o):h'.ob n = o:=(g.ob n hn).trans e
theorem put_nx {h:AH}{n:Nat}{o:AObj}:(h.put n o).nx = h.nx:=rfl
theorem new_nx {h:AH}{o:AObj}:(h.new o).nx = h.nx + 1:=rfl
theorem comp_listc {Xc:Nat->AH->Prop}{n:Nat}{bb:Bool}{xs:List AV}{σ:ASt}{h:AH}{L1:List AV->AH->Prop}{g:AV->ASt->M ASt}{mt:ASt->M Bool}{me:ASt->M AV}(I:Nat->List AV->ASt->AH->Prop)(hn:xs.length < FU)(i0:I 0 [] σ h)(il:∀ i ys σ h,I i ys σ h->h.ob n = some (.lst bb xs))
  (turn:∀ (i:Nat) x ys σ h,xs[i]? = some x->I i ys σ h->Wp (g x σ) h fun σ1 h1=>Wp (mt σ1) h1 fun b h2=>if b = true then Wp (me σ1) h2 fun y h3=>ys.length < sizeLine/\I (i + 1) (ys ++ [y]) σ1 h3 else I (i + 1) ys σ1 h2)
  (done:∀ ys σ h,I xs.length ys σ h->L1 ys h):We Xc (compM (listIt n) g mt me FU 0 [] σ) h L1:=by
 refine compM_by I xs.length (fun i ys σ h hi hI=>?_) (fun ys σ h hI=>⟨by rw [list_it (il _ _ _ _ hI)];simp,done ys σ h hI⟩) FU 0 [] σ h (Nat.zero_le _) (by omega) i0
 exact ⟨_,by rw [list_it (il _ _ _ _ hI),List.getElem?_eq_getElem hi],turn i _ ys σ h (List.getElem?_eq_getElem hi) hI⟩
theorem size_big:(1000:Nat) < sizeLine:=by decide
theorem map_at {α:Type}{f:α->AV}{ws:List α}{i:Nat}{x:AV}(h:(ws.map f)[i]? = some x):∃ w,ws[i]? = some w/\x = f w:=by
 rw [List.getElem?_map] at h
 obtain ⟨w,h1,h2⟩:=Option.map_eq_some_iff.mp h
 exact ⟨w,h1,h2.symm⟩
theorem cut_drop {xs:List AV}{n:Nat}:cutA xs (some (n:Int)) none = xs.drop n:=by
 unfold cutA
 rw [HT.sIx_none,HT.sIx_nat]
 rcases Nat.le_total n xs.length with h | h
 ·rw [Nat.min_eq_left h,List.take_of_length_le (by rw [List.length_drop];exact Nat.le_refl _)]
 ·rw [Nat.min_eq_right h,List.drop_eq_nil_of_le h,Nat.sub_self,List.drop_length];rfl
section
variable {Xc:Nat->AH->Prop}{h:AH}{F:Run}{σ:ASt}{V1:AV->AH->Prop}{N B C:ASt->AH->Prop}{R:AV->AH->Prop}
theorem wg_addS {i j:Str}(hz:i.length + j.length <= sizeLine)(q:V1 (.str (i ++ j)) h):We Xc (Op.g .add (.str i) (.str j)) h V1:=wp_guard hz q
theorem wg_lenS {z:Str}(hz:z.length <= sizeLine)(q:V1 (.int z.length) h):We Xc (Bi.g .len [.str z]) h V1:=by
 show We Xc (gLen [.str z]) h V1
 unfold We gLen;simp only [if_pos hz];exact q
end
end AM
set_option genSizeOf false
set_option exponentiation.threshold 2000
namespace AM
open PySem PySem.Spec PyProof.Rows L2
section
variable {Xc:Nat->AH->Prop}{h:AH}{F:Run}{σ:ASt}{V1:AV->AH->Prop}{B1:Bool->AH->Prop}{N B C:ASt->AH->Prop}{R:AV->AH->Prop}
theorem wp_kc {k:Kc}{a:Ex}(w:We Xc (den F a σ) h fun x h1=>We Xc (k.g x) h1 V1):We Xc (den F (.kc k a) σ) h V1:=wp_bind w
theorem wt_kc {k:Kc}{a:Ex}(w:We Xc (den F (.kc k a) σ) h fun x h1=>We Xc (gTruth x) h1 B1):We Xc (denT F (.kc k a) σ) h B1:=wp_bind w
theorem wg_any {n:Nat}{b:Bool}{bs:List Bool}(e:h.ob n = some (.lst b (bs.map AV.bl)))(q:V1 (.bl (bs.any id)) h):We Xc (Kc.any.g (.ref n)) h V1:=by
 unfold We Kc.g;simp only [e,Kc.gl,blsA_map];exact q
theorem wg_all {n:Nat}{b:Bool}{bs:List Bool}(e:h.ob n = some (.lst b (bs.map AV.bl)))(q:V1 (.bl (bs.all id)) h):We Xc (Kc.all.g (.ref n)) h V1:=by
 unfold We Kc.g;simp only [e,Kc.gl,blsA_map];exact q
end
end AM
namespace AMx
open PySem PySem.Spec PyProof.Rows L2 AM
noncomputable def top (i:Nat):Stmt:=PySem.Challenge.pw_aheadmill_k11_programs_read_back.main.body.getD i (.Pass ⟨0,0,0,0⟩)
noncomputable def tk_FORMS:List (Str × List Str):=[("set",["box","word"]),("move",["box","box"]),("sum",["box","box","box"]),("less",["box","box","box"]),("times",["box","box","box"]),("share",["box","box","box"]),("rest",["box","box","box"]),("both",["box","box","box"]),("some",["box","box","box"]),("odd",["box","box","box"]),("up",["box","box","box"]),("down",["box","box","box"]),("below",["box","box","box"]),("same",["box","box","box"]),("load",["box","box","step"]),("store",["box","box","step"]),("jump",["box","target"]),("go",["target"]),("fault",["word"])]
noncomputable def td_FORMS:List (Str × AV):=tk_FORMS.map fun p=>(p.1,AV.tup (p.2.map AV.str))
abbrev f_bare:Nat:=0
noncomputable abbrev s_0:Stmt:=top 14
noncomputable def d_0:Df:=⟨"bare","bare",s_0,["line"],["line"]⟩
abbrev f_words_in:Nat:=1
noncomputable abbrev s_1:Stmt:=top 15
noncomputable def d_1:Df:=⟨"words_in","words_in",s_1,["line"],["line"]⟩
abbrev f_made_of:Nat:=2
noncomputable abbrev s_2:Stmt:=top 16
noncomputable def d_2:Df:=⟨"made_of","made_of",s_2,["text","signs"],["text","signs"]⟩
abbrev f_is_label:Nat:=3
noncomputable abbrev s_3:Stmt:=top 17
noncomputable def d_3:Df:=⟨"is_label","is_label",s_3,["word"],["word"]⟩
abbrev f_number_in:Nat:=4
noncomputable abbrev s_4:Stmt:=top 18
noncomputable def d_4:Df:=⟨"number_in","number_in",s_4,["figures","greatest","number"],["figures","greatest"]⟩
abbrev f_step_in:Nat:=5
noncomputable abbrev s_5:Stmt:=top 19
noncomputable def d_5:Df:=⟨"step_in","step_in",s_5,["word","number"],["word"]⟩
abbrev f_target_in:Nat:=6
noncomputable abbrev s_6:Stmt:=top 20
noncomputable def d_6:Df:=⟨"target_in","target_in",s_6,["word"],["word"]⟩
abbrev f_box_in:Nat:=7
noncomputable abbrev s_7:Stmt:=top 21
noncomputable def d_7:Df:=⟨"box_in","box_in",s_7,["word"],["word"]⟩
abbrev f_part_in:Nat:=8
noncomputable abbrev s_8:Stmt:=top 22
noncomputable def d_8:Df:=⟨"part_in","part_in",s_8,["form","word"],["form","word"]⟩
abbrev f_part_shown:Nat:=9
noncomputable abbrev s_9:Stmt:=top 23
noncomputable def d_9:Df:=⟨"part_shown","part_shown",s_9,["form","part"],["form","part"]⟩
abbrev f_row_in:Nat:=10
noncomputable abbrev s_10:Stmt:=top 24
noncomputable def d_10:Df:=⟨"row_in","row_in",s_10,["line","words","forms","parts"],["line"]⟩
abbrev f_label_in:Nat:=11
noncomputable abbrev s_11:Stmt:=top 25
noncomputable def d_11:Df:=⟨"label_in","label_in",s_11,["line","left"],["line"]⟩
abbrev f_show_row:Nat:=12
noncomputable abbrev s_12:Stmt:=top 27
noncomputable def d_12:Df:=⟨"show_row","show_row",s_12,["row","parts"],["row"]⟩
abbrev f_shown:Nat:=13
noncomputable abbrev s_13:Stmt:=top 28
noncomputable def d_13:Df:=⟨"shown","shown",s_13,["program"],["program"]⟩
abbrev f_told_lines:Nat:=14
noncomputable abbrev s_14:Stmt:=top 29
noncomputable def d_14:Df:=⟨"told_lines","told_lines",s_14,["text","told","number","line","label","row"],["text"]⟩
abbrev f_labels_in:Nat:=15
noncomputable abbrev s_15:Stmt:=top 30
noncomputable def d_15:Df:=⟨"labels_in","labels_in",s_15,["told","labels","above","number","label","row"],["told"]⟩
abbrev f_aimed:Nat:=16
noncomputable abbrev s_16:Stmt:=top 31
noncomputable def d_16:Df:=⟨"aimed","aimed",s_16,["row","number","labels","many","target"],["row","number","labels","many"]⟩
abbrev f_read:Nat:=17
noncomputable abbrev s_17:Stmt:=top 32
noncomputable def d_17:Df:=⟨"read","read",s_17,["text","told","labels","rows"],["text"]⟩
abbrev f_law_cell_at:Nat:=18
noncomputable abbrev s_18:Stmt:=top 34
noncomputable def d_18:Df:=⟨"_law_cell_at","_law_cell_at",s_18,["_law_script","_law_k"],["_law_script","_law_k"]⟩
abbrev f_law_number:Nat:=19
noncomputable abbrev s_19:Stmt:=top 35
noncomputable def d_19:Df:=⟨"_law_number","_law_number",s_19,["_law_cell","_law_k"],["_law_cell","_law_k"]⟩
abbrev f_law_word:Nat:=20
noncomputable abbrev s_20:Stmt:=top 36
noncomputable def d_20:Df:=⟨"_law_word","_law_word",s_20,["_law_cell","_law_part"],["_law_cell","_law_part"]⟩
abbrev f_law_step:Nat:=21
noncomputable abbrev s_21:Stmt:=top 37
noncomputable def d_21:Df:=⟨"_law_step","_law_step",s_21,["_law_part"],["_law_part"]⟩
abbrev f_law_row:Nat:=22
noncomputable abbrev s_22:Stmt:=top 38
noncomputable def d_22:Df:=⟨"_law_row","_law_row",s_22,["_law_cell","_law_k","_law_most","_law_number_here","_law_x","_law_y","_law_z","_law_part","_law_kind","_law_ways"],["_law_cell","_law_k","_law_most"]⟩
abbrev f_law_boxed:Nat:=23
noncomputable abbrev s_23:Stmt:=top 39
noncomputable def d_23:Df:=⟨"_law_boxed","_law_boxed",s_23,["_law_kind","_law_k"],["_law_kind","_law_k"]⟩
abbrev f_law_words:Nat:=24
noncomputable abbrev s_24:Stmt:=top 40
noncomputable def d_24:Df:=⟨"_law_words","_law_words",s_24,["_law_row_here","_law_words_here","_law_k"],["_law_row_here"]⟩
abbrev f_law_alike:Nat:=25
noncomputable abbrev s_25:Stmt:=top 41
noncomputable def d_25:Df:=⟨"_law_alike","_law_alike",s_25,["_law_found","_law_due","_law_row_here","_law_other","_law_part"],["_law_found","_law_due"]⟩
abbrev f_law_remark:Nat:=26
noncomputable abbrev s_26:Stmt:=top 42
noncomputable def d_26:Df:=⟨"_law_remark","_law_remark",s_26,["_law_number_here","_law_some","_law_signs","_law_k","_law_at"],["_law_number_here"]⟩
abbrev f_law_line:Nat:=27
noncomputable abbrev s_27:Stmt:=top 43
noncomputable def d_27:Df:=⟨"_law_line","_law_line",s_27,["_law_words_here","_law_number_here","_law_line_here","_law_k","_law_word_here"],["_law_words_here","_law_number_here"]⟩
abbrev f_law_dressed:Nat:=28
noncomputable abbrev s_28:Stmt:=top 44
noncomputable def d_28:Df:=⟨"_law_dressed","_law_dressed",s_28,["_law_program_here","_law_cell","_law_lines","_law_k","_law_row_here","_law_number_here","_law_j"],["_law_program_here","_law_cell"]⟩
abbrev f_law_program:Nat:=29
noncomputable abbrev s_29:Stmt:=top 45
noncomputable def d_29:Df:=⟨"_law_program","_law_program",s_29,["_law_script","_law_cells","_law_first","_law_many"],["_law_script"]⟩
abbrev f_law:Nat:=30
noncomputable abbrev s_30:Stmt:=top 46
noncomputable def d_30:Df:=⟨"law","law",s_30,["_law_script","_law_program_here","_law_handed","_law_found","_law_lines","_law_first"],["_law_script"]⟩
noncomputable def b_bare:Sxs:=(.cons (.ret (.tm .st (.op .ix (.tm .pa (.var 0) (.val (.str "#"))) (.val (.int 0))) (.val (.str " ")))) .nil)
noncomputable def b_words_in:Sxs:=(.cons (.ret (.comp1 [none] (.nm 0) (.seq (.tm .sp (.call 0 (.cons (.var 0) .nil)) (.val (.str " ")))) (.cmp .ne (.var 0) (.val (.str ""))) (.var 0))) .nil)
noncomputable def b_made_of:Sxs:=(.cons (.ret (.and (.cmp .ne (.var 0) (.val (.str ""))) (.kc .all (.comp0 [none,some 1] (.nm 0) (.seq (.var 0)) (.cmp .in_ (.var 0) (.var 1)))))) .nil)
noncomputable def b_is_label:Sxs:=(.cons (.ret (.and (.call 2 (.cons (.var 0) (.cons (.val (.str "abcdefghijklmnopqrstuvwxyz")) .nil))) (.cmp .le (.bi .len (.cons (.var 0) .nil)) (.val (.int 8))))) .nil)
noncomputable def b_number_in:Sxs:=(.cons (.ite (.or (.not (.call 2 (.cons (.var 0) (.cons (.val (.str "0123456789")) .nil)))) (.cmp .gt (.bi .len (.cons (.var 0) .nil)) (.bi .len (.cons (.bi .str (.cons (.var 1) .nil)) .nil))))
 (.cons (.ret (.val .non)) .nil)
 .nil) (.cons (.ite (.and (.cmp .ne (.var 0) (.val (.str "0"))) (.tm .sw (.var 0) (.val (.str "0"))))
 (.cons (.ret (.val .non)) .nil)
 .nil) (.cons (.asg (.nm 2) (.bi .int (.cons (.var 0) .nil))) (.cons (.ret (.ite (.cmp .le (.var 2) (.var 1)) (.var 2) (.val .non))) .nil))))
noncomputable def b_step_in:Sxs:=(.cons (.ite (.not (.tm .sw (.var 0) (.val (.str "-"))))
 (.cons (.ret (.call 4 (.cons (.var 0) (.cons (.val (.int 999)) .nil)))) .nil)
 .nil) (.cons (.asg (.nm 1) (.call 4 (.cons (.slice (.var 0) (.val (.int 1)) .no) (.cons (.val (.int 999)) .nil)))) (.cons (.ret (.ite (.or (.cmp .is_ (.var 1) (.val .non)) (.cmp .eq (.var 1) (.val (.int 0)))) (.val .non) (.neg (.var 1)))) .nil)))
noncomputable def b_target_in:Sxs:=(.cons (.ret (.ite (.call 3 (.cons (.var 0) .nil)) (.var 0) (.call 4 (.cons (.var 0) (.cons (.val (.int 400)) .nil))))) .nil)
noncomputable def b_box_in:Sxs:=(.cons (.ret (.ite (.cmp .in_ (.var 0) (.val (.tup [.str "a",.str "b",.str "c",.str "d",.str "e",.str "f",.str "g",.str "h"]))) (.tdx ["a","b","c","d","e","f","g","h"] (.var 0)) (.val .non))) .nil)
noncomputable def b_part_in:Sxs:=(.cons (.ite (.cmp .eq (.var 0) (.val (.str "box")))
 (.cons (.ret (.call 7 (.cons (.var 1) .nil))) .nil)
 .nil) (.cons (.ite (.cmp .eq (.var 0) (.val (.str "step")))
 (.cons (.ret (.call 5 (.cons (.var 1) .nil))) .nil)
 .nil) (.cons (.ite (.cmp .eq (.var 0) (.val (.str "target")))
 (.cons (.ret (.call 6 (.cons (.var 1) .nil))) .nil)
 .nil) (.cons (.ret (.call 4 (.cons (.var 1) (.cons (.val (.int 18446744073709551615)) .nil)))) .nil))))
noncomputable def b_part_shown:Sxs:=(.cons (.ret (.ite (.cmp .eq (.var 0) (.val (.str "box"))) (.op .ix (.val (.tup [.str "a",.str "b",.str "c",.str "d",.str "e",.str "f",.str "g",.str "h"])) (.var 1)) (.bi .str (.cons (.var 1) .nil)))) .nil)
noncomputable def b_row_in:Sxs:=(.cons (.asg (.nm 1) (.call 1 (.cons (.var 0) .nil))) (.cons (.ite (.or (.cmp .eq (.var 1) (.lst .nil)) (.tin true td_FORMS (.op .ix (.var 1) (.val (.int 0)))))
 (.cons (.ret (.val .non)) .nil)
 .nil) (.cons (.asg (.nm 2) (.tix td_FORMS (.op .ix (.var 1) (.val (.int 0))))) (.cons (.ite (.cmp .ne (.bi .len (.cons (.var 1) .nil)) (.op .add (.bi .len (.cons (.var 2) .nil)) (.val (.int 1))))
 (.cons (.ret (.val .non)) .nil)
 .nil) (.cons (.asg (.nm 3) (.comp0 [none,none] (.tup [0,1]) (.zip (.cons (.var 2) (.cons (.slice (.var 1) (.val (.int 1)) .no) .nil))) (.call 8 (.cons (.var 0) (.cons (.var 1) .nil))))) (.cons (.ite (.kc .any (.comp0 [none] (.nm 0) (.seq (.var 3)) (.cmp .is_ (.var 0) (.val .non))))
 (.cons (.ret (.val .non)) .nil)
 .nil) (.cons (.ret (.op .add (.tup (.cons (.op .ix (.var 1) (.val (.int 0))) .nil)) (.bi .tuple (.cons (.var 3) .nil)))) .nil)))))))
noncomputable def b_label_in:Sxs:=(.cons (.asg (.nm 1) (.call 0 (.cons (.var 0) .nil))) (.cons (.ite (.and (.tm .ew (.var 1) (.val (.str ":"))) (.call 3 (.cons (.slice (.var 1) .no (.neg (.val (.int 1)))) .nil)))
 (.cons (.ret (.slice (.var 1) .no (.neg (.val (.int 1))))) .nil)
 .nil) (.cons (.ret (.val .non)) .nil)))
noncomputable def b_show_row:Sxs:=(.cons (.asg (.nm 1) (.comp0 [none,none] (.tup [0,1]) (.zip (.cons (.tix td_FORMS (.op .ix (.var 0) (.val (.int 0)))) (.cons (.slice (.var 0) (.val (.int 1)) .no) .nil))) (.call 9 (.cons (.var 0) (.cons (.var 1) .nil))))) (.cons (.ret (.join " " (.op .add (.lst (.cons (.op .ix (.var 0) (.val (.int 0))) .nil)) (.var 1)))) .nil))
noncomputable def b_shown:Sxs:=(.cons (.ret (.join "\n" (.comp0 [none] (.nm 0) (.seq (.var 0)) (.call 12 (.cons (.var 0) .nil))))) .nil)
noncomputable def b_told_lines:Sxs:=(.cons (.asg (.nm 1) (.lst .nil)) (.cons (.for_ (.tup 2 (.cons (.nm 2) (.cons (.nm 3) .nil))) (.enum (.tm .sp (.var 0) (.val (.str "\n"))))
 (.cons (.ite (.cmp .ne (.call 0 (.cons (.var 3) .nil)) (.val (.str "")))
 (.cons (.asg (.nm 4) (.call 11 (.cons (.var 3) .nil))) (.cons (.asg (.nm 5) (.call 10 (.cons (.var 3) .nil))) (.cons (.ite (.and (.cmp .is_ (.var 4) (.val .non)) (.cmp .is_ (.var 5) (.val .non)))
 (.cons .bad .nil)
 .nil) (.cons (.expr (.app (.var 1) (.tup (.cons (.var 2) (.cons (.var 4) (.cons (.var 5) .nil)))))) .nil))))
 .nil) .nil)) (.cons (.ret (.var 1)) .nil)))
noncomputable def b_labels_in:Sxs:=(.cons (.asg (.nm 1) .dnew) (.cons (.asg (.nm 2) (.val (.int 0))) (.cons (.for_ (.tup 3 (.cons (.nm 3) (.cons (.nm 4) (.cons (.nm 5) .nil)))) (.seq (.var 0))
 (.cons (.ite (.cmp .is_ (.var 4) (.val .non))
 (.cons (.aug false 2 (.val (.int 1))) .nil)
 (.cons (.ite (.cmp .in_ (.var 4) (.var 1))
 (.cons .bad .nil)
 (.cons (.asg (.sub (.var 1) (.var 4)) (.var 2)) .nil)) .nil)) .nil)) (.cons (.ret (.var 1)) .nil))))
noncomputable def b_aimed:Sxs:=(.cons (.ite (.and (.cmp .ne (.op .ix (.var 0) (.val (.int 0))) (.val (.str "jump"))) (.cmp .ne (.op .ix (.var 0) (.val (.int 0))) (.val (.str "go"))))
 (.cons (.ret (.var 0)) .nil)
 .nil) (.cons (.asg (.nm 4) (.op .ix (.var 0) (.neg (.val (.int 1))))) (.cons (.ite (.isa .str (.var 4))
 (.cons (.ite (.cmp .nin (.var 4) (.var 2))
 (.cons .bad .nil)
 .nil) (.cons (.ret (.op .add (.slice (.var 0) .no (.neg (.val (.int 1)))) (.tup (.cons (.op .ix (.var 2) (.var 4)) .nil)))) .nil))
 .nil) (.cons (.ite (.cmp .gt (.var 4) (.var 3))
 (.cons .bad .nil)
 .nil) (.cons (.ret (.var 0)) .nil)))))
noncomputable def b_read:Sxs:=(.cons (.asg (.nm 1) (.call 14 (.cons (.var 0) .nil))) (.cons (.asg (.nm 2) (.call 15 (.cons (.var 1) .nil))) (.cons (.asg (.nm 3) (.comp1 [none,none,none] (.tup [0,1,2]) (.seq (.var 1)) (.cmp .is_ (.var 1) (.val .non)) (.tup (.cons (.var 0) (.cons (.var 2) .nil))))) (.cons (.ret (.comp0 [none,none,some 2,some 3] (.tup [0,1]) (.seq (.var 3)) (.call 16 (.cons (.var 1) (.cons (.var 0) (.cons (.var 2) (.cons (.bi .len (.cons (.var 3) .nil)) .nil))))))) .nil))))
noncomputable def b_law_cell_at:Sxs:=(.cons (.ite (.cmp .lt (.var 1) (.bi .len (.cons (.var 0) .nil)))
 (.cons (.ret (.op .ix (.var 0) (.var 1))) .nil)
 .nil) (.cons (.ret (.val (.int 0))) .nil))
noncomputable def b_law_number:Sxs:=(.cons (.ret (.op .mod (.op .mul (.op .add (.op .add (.op .mod (.var 0) (.op .pow (.val (.int 10)) (.val (.int 20)))) (.op .mul (.var 1) (.var 1))) (.val (.int 1))) (.op .add (.val (.int 48271)) (.op .mul (.val (.int 2)) (.var 1)))) (.val (.int 2147483647)))) .nil)
noncomputable def b_law_word:Sxs:=(.cons (.ite (.cmp .eq (.op .mod (.var 1) (.val (.int 3))) (.val (.int 0)))
 (.cons (.ret (.op .mod (.op .fdiv (.var 1) (.val (.int 3))) (.val (.int 12)))) .nil)
 .nil) (.cons (.ite (.cmp .eq (.op .mod (.var 1) (.val (.int 3))) (.val (.int 1)))
 (.cons (.ret (.op .sub (.op .sub (.op .pow (.val (.int 2)) (.val (.int 64))) (.val (.int 1))) (.op .mod (.op .fdiv (.var 1) (.val (.int 3))) (.val (.int 12))))) .nil)
 .nil) (.cons (.ret (.op .mod (.var 0) (.op .pow (.val (.int 2)) (.val (.int 64))))) .nil)))
noncomputable def b_law_step:Sxs:=(.cons (.ite (.cmp .eq (.op .mod (.var 0) (.val (.int 3))) (.val (.int 0)))
 (.cons (.ret (.op .ix (.lst (.cons (.val (.int 0)) (.cons (.neg (.val (.int 1))) (.cons (.val (.int 1)) (.cons (.neg (.val (.int 999))) (.cons (.val (.int 999)) (.cons (.val (.int 10)) (.cons (.neg (.val (.int 10))) (.cons (.val (.int 100)) .nil))))))))) (.op .mod (.op .fdiv (.var 0) (.val (.int 3))) (.val (.int 8))))) .nil)
 .nil) (.cons (.ret (.op .sub (.op .mod (.var 0) (.val (.int 1999))) (.val (.int 999)))) .nil))
noncomputable def b_law_row:Sxs:=(.cons (.asg (.nm 3) (.call 19 (.cons (.var 0) (.cons (.var 1) .nil)))) (.cons (.par [4,5,6] (.cons (.op .mod (.op .fdiv (.var 3) (.val (.int 20))) (.val (.int 8))) (.cons (.op .mod (.op .fdiv (.var 3) (.val (.int 160))) (.val (.int 8))) (.cons (.op .mod (.op .fdiv (.var 3) (.val (.int 1280))) (.val (.int 8))) .nil)))) (.cons (.asg (.nm 7) (.op .fdiv (.var 3) (.val (.int 10240)))) (.cons (.asg (.nm 8) (.op .mod (.var 3) (.val (.int 20)))) (.cons (.asg (.nm 9) (.lst (.cons (.val (.str "sum")) (.cons (.val (.str "less")) (.cons (.val (.str "times")) (.cons (.val (.str "share")) (.cons (.val (.str "rest")) (.cons (.val (.str "both")) (.cons (.val (.str "some")) (.cons (.val (.str "odd")) (.cons (.val (.str "up")) (.cons (.val (.str "down")) (.cons (.val (.str "below")) (.cons (.val (.str "same")) .nil)))))))))))))) (.cons (.ite (.cmp .lt (.var 8) (.val (.int 9)))
 (.cons (.ret (.tup (.cons (.op .ix (.var 9) (.op .mod (.var 7) (.val (.int 12)))) (.cons (.var 4) (.cons (.var 5) (.cons (.var 6) .nil)))))) .nil)
 .nil) (.cons (.ite (.cmp .lt (.var 8) (.val (.int 11)))
 (.cons (.ret (.tup (.cons (.val (.str "set")) (.cons (.var 4) (.cons (.call 20 (.cons (.var 0) (.cons (.var 7) .nil))) .nil))))) .nil)
 .nil) (.cons (.ite (.cmp .eq (.var 8) (.val (.int 11)))
 (.cons (.ret (.tup (.cons (.val (.str "move")) (.cons (.var 4) (.cons (.var 5) .nil))))) .nil)
 .nil) (.cons (.ite (.cmp .lt (.var 8) (.val (.int 15)))
 (.cons (.ret (.tup (.cons (.op .ix (.lst (.cons (.val (.str "load")) (.cons (.val (.str "store")) .nil))) (.op .mod (.var 8) (.val (.int 2)))) (.cons (.var 4) (.cons (.var 5) (.cons (.call 21 (.cons (.var 7) .nil)) .nil)))))) .nil)
 .nil) (.cons (.ite (.cmp .lt (.var 8) (.val (.int 17)))
 (.cons (.ret (.tup (.cons (.val (.str "jump")) (.cons (.var 4) (.cons (.op .mod (.var 7) (.op .add (.var 2) (.val (.int 1)))) .nil))))) .nil)
 .nil) (.cons (.ite (.cmp .lt (.var 8) (.val (.int 19)))
 (.cons (.ret (.tup (.cons (.val (.str "go")) (.cons (.op .mod (.var 7) (.op .add (.var 2) (.val (.int 1)))) .nil)))) .nil)
 .nil) (.cons (.ret (.tup (.cons (.val (.str "fault")) (.cons (.call 20 (.cons (.var 0) (.cons (.var 7) .nil))) .nil)))) .nil))))))))))))
noncomputable def b_law_boxed:Sxs:=(.cons (.ite (.or (.cmp .eq (.var 0) (.val (.str "set"))) (.cmp .eq (.var 0) (.val (.str "jump"))))
 (.cons (.ret (.cmp .eq (.var 1) (.val (.int 1)))) .nil)
 .nil) (.cons (.ite (.or (.cmp .eq (.var 0) (.val (.str "load"))) (.cmp .eq (.var 0) (.val (.str "store"))))
 (.cons (.ret (.cmp .lt (.var 1) (.val (.int 3)))) .nil)
 .nil) (.cons (.ret (.and (.cmp .ne (.var 0) (.val (.str "go"))) (.cmp .ne (.var 0) (.val (.str "fault"))))) .nil)))
noncomputable def b_law_words:Sxs:=(.cons (.asg (.nm 1) (.lst (.cons (.op .ix (.var 0) (.val (.int 0))) .nil))) (.cons (.for_ (.nm 2) (.rng2 (.cons (.val (.int 1)) (.cons (.bi .len (.cons (.var 0) .nil)) .nil)))
 (.cons (.ite (.call 23 (.cons (.op .ix (.var 0) (.val (.int 0))) (.cons (.var 2) .nil)))
 (.cons (.expr (.app (.var 1) (.op .ix (.val (.str "abcdefgh")) (.op .ix (.var 0) (.var 2))))) .nil)
 (.cons (.expr (.app (.var 1) (.bi .str (.cons (.op .ix (.var 0) (.var 2)) .nil)))) .nil)) .nil)) (.cons (.ret (.var 1)) .nil)))
noncomputable def b_law_alike:Sxs:=(.cons (.ite (.or (.not (.isa .lst (.var 0))) (.cmp .ne (.bi .len (.cons (.var 0) .nil)) (.bi .len (.cons (.var 1) .nil))))
 (.cons (.ret (.val (.bl false))) .nil)
 .nil) (.cons (.for_ (.tup 2 (.cons (.nm 2) (.cons (.nm 3) .nil))) (.zip (.cons (.var 0) (.cons (.var 1) .nil)))
 (.cons (.ite (.or (.not (.isa .tup (.var 2))) (.cmp .ne (.bi .len (.cons (.var 2) .nil)) (.bi .len (.cons (.var 3) .nil))))
 (.cons (.ret (.val (.bl false))) .nil)
 .nil) (.cons (.ite (.or (.not (.isa .str (.op .ix (.var 2) (.val (.int 0))))) (.cmp .ne (.var 2) (.var 3)))
 (.cons (.ret (.val (.bl false))) .nil)
 .nil) (.cons (.for_ (.nm 4) (.seq (.slice (.var 2) (.val (.int 1)) .no))
 (.cons (.ite (.or (.not (.isa .int (.var 4))) (.isa .bl (.var 4)))
 (.cons (.ret (.val (.bl false))) .nil)
 .nil) .nil)) .nil)))) (.cons (.ret (.val (.bl true))) .nil)))
noncomputable def b_law_remark:Sxs:=(.cons (.asg (.nm 1) (.val (.str " !#$&'()*+,-./0123456789:;<=>?@ABCXYZ[]^_abcxyz{|}~"))) (.cons (.asg (.nm 2) (.val (.str "#"))) (.cons (.for_ (.nm 3) (.rng1 (.cons (.op .mod (.var 0) (.val (.int 9))) .nil))
 (.cons (.asg (.nm 4) (.op .add (.op .fdiv (.var 0) (.val (.int 9))) (.op .mul (.op .fdiv (.var 0) (.op .add (.var 3) (.val (.int 13)))) (.var 3)))) (.cons (.asg (.nm 2) (.op .add (.var 2) (.op .ix (.var 1) (.op .mod (.var 4) (.bi .len (.cons (.var 1) .nil)))))) .nil))) (.cons (.ret (.var 2)) .nil))))
noncomputable def b_law_line:Sxs:=(.cons (.asg (.nm 2) (.op .mul (.val (.str " ")) (.op .mod (.var 1) (.val (.int 3))))) (.cons (.for_ (.tup 2 (.cons (.nm 3) (.cons (.nm 4) .nil))) (.enum (.var 0))
 (.cons (.ite (.cmp .gt (.var 3) (.val (.int 0)))
 (.cons (.asg (.nm 2) (.op .add (.var 2) (.op .mul (.val (.str " ")) (.op .add (.val (.int 1)) (.op .mod (.op .fdiv (.var 1) (.op .add (.var 3) (.val (.int 3)))) (.val (.int 3))))))) .nil)
 .nil) (.cons (.asg (.nm 2) (.op .add (.var 2) (.var 4))) .nil))) (.cons (.asg (.nm 2) (.op .add (.var 2) (.op .mul (.val (.str " ")) (.op .mod (.op .fdiv (.var 1) (.val (.int 9))) (.val (.int 3)))))) (.cons (.ite (.cmp .eq (.op .mod (.op .fdiv (.var 1) (.val (.int 27))) (.val (.int 3))) (.val (.int 0)))
 (.cons (.asg (.nm 2) (.op .add (.var 2) (.call 26 (.cons (.op .fdiv (.var 1) (.val (.int 81))) .nil)))) .nil)
 .nil) (.cons (.ret (.var 2)) .nil)))))
noncomputable def b_law_dressed:Sxs:=(.cons (.asg (.nm 2) (.lst .nil)) (.cons (.for_ (.tup 2 (.cons (.nm 3) (.cons (.nm 4) .nil))) (.enum (.var 0))
 (.cons (.asg (.nm 5) (.call 19 (.cons (.op .add (.var 1) (.var 3)) (.cons (.var 3) .nil)))) (.cons (.for_ (.nm 6) (.rng1 (.cons (.op .fdiv (.op .mod (.var 5) (.val (.int 5))) (.val (.int 2))) .nil))
 (.cons (.expr (.app (.var 2) (.call 27 (.cons (.lst .nil) (.cons (.op .fdiv (.var 5) (.op .add (.val (.int 5)) (.var 6))) .nil))))) .nil)) (.cons (.expr (.app (.var 2) (.call 27 (.cons (.call 24 (.cons (.var 4) .nil)) (.cons (.op .fdiv (.var 5) (.val (.int 10))) .nil))))) .nil)))) (.cons (.for_ (.nm 6) (.rng1 (.cons (.op .mod (.var 1) (.val (.int 3))) .nil))
 (.cons (.expr (.app (.var 2) (.call 27 (.cons (.lst .nil) (.cons (.call 19 (.cons (.var 1) (.cons (.var 6) .nil))) .nil))))) .nil)) (.cons (.ret (.join "\n" (.var 2))) .nil))))
noncomputable def b_law_program:Sxs:=(.cons (.asg (.nm 1) (.slice (.var 0) (.val (.int 2)) (.val (.int 42)))) (.cons (.asg (.nm 2) (.call 18 (.cons (.var 0) (.cons (.val (.int 0)) .nil)))) (.cons (.ite (.cmp .eq (.op .mod (.var 2) (.val (.int 8))) (.val (.int 1)))
 (.cons (.asg (.nm 3) (.op .add (.val (.int 41)) (.op .mod (.op .fdiv (.var 2) (.val (.int 8))) (.val (.int 120))))) (.cons (.ret (.comp0 [none,some 2,some 3] (.nm 0) (.rng1 (.cons (.var 3) .nil)) (.tup (.cons (.val (.str "go")) (.cons (.op .mod (.op .add (.op .fdiv (.var 1) (.val (.int 8))) (.op .mul (.var 0) (.var 0))) (.op .add (.var 2) (.val (.int 1)))) .nil))))) .nil))
 .nil) (.cons (.ret (.comp0 [none,none,some 1] (.tup [0,1]) (.enum (.var 1)) (.call 22 (.cons (.var 1) (.cons (.var 0) (.cons (.bi .len (.cons (.var 2) .nil)) .nil)))))) .nil))))
noncomputable def b_law:Sxs:=(.cons (.asg (.nm 1) (.call 29 (.cons (.var 0) .nil))) (.cons (.asg (.nm 2) (.bi .list (.cons (.var 1) .nil))) (.cons (.asg (.nm 3) (.call 13 (.cons (.var 2) .nil))) (.cons (.asg (.nm 4) (.join "\n" (.comp0 [none] (.nm 0) (.seq (.var 1)) (.join " " (.call 24 (.cons (.var 0) .nil)))))) (.cons (.ite (.or (.not (.isa .str (.var 3))) (.or (.cmp .ne (.var 3) (.var 4)) (.cmp .ne (.var 2) (.var 1))))
 (.cons (.ret (.val (.bl false))) .nil)
 .nil) (.cons (.asg (.nm 5) (.call 17 (.cons (.var 4) .nil))) (.cons (.ite (.not (.call 25 (.cons (.var 5) (.cons (.var 1) .nil))))
 (.cons (.ret (.val (.bl false))) .nil)
 .nil) (.cons (.ite (.cmp .gt (.bi .len (.cons (.var 1) .nil)) (.val (.int 40)))
 (.cons (.ret (.val (.bl true))) .nil)
 .nil) (.cons (.ite (.not (.call 25 (.cons (.call 17 (.cons (.call 28 (.cons (.var 1) (.cons (.op .mod (.call 18 (.cons (.var 0) (.cons (.val (.int 1)) .nil))) (.op .pow (.val (.int 10)) (.val (.int 20)))) .nil))) .nil)) (.cons (.var 1) .nil))))
 (.cons (.ret (.val (.bl false))) .nil)
 .nil) (.cons (.ite (.or (.not (.call 25 (.cons (.call 17 (.cons (.val (.str "go 0\nset a 7")) .nil)) (.cons (.lst (.cons (.tup (.cons (.val (.str "go")) (.cons (.val (.int 0)) .nil))) (.cons (.tup (.cons (.val (.str "set")) (.cons (.val (.int 0)) (.cons (.val (.int 7)) .nil)))) .nil))) .nil)))) (.not (.call 25 (.cons (.var 5) (.cons (.var 1) .nil)))))
 (.cons (.ret (.val (.bl false))) .nil)
 .nil) (.cons (.expr (.app (.var 5) (.tup (.cons (.val (.str "go")) (.cons (.val (.int 0)) .nil))))) (.cons (.ret (.call 25 (.cons (.call 17 (.cons (.var 4) .nil)) (.cons (.var 1) .nil)))) .nil))))))))))))
noncomputable def irL:List (Nat × Nat × Sxs):=[(1,1,b_bare),(1,1,b_words_in),(2,2,b_made_of),(1,1,b_is_label),(2,3,b_number_in),(1,2,b_step_in),(1,1,b_target_in),(1,1,b_box_in),(2,2,b_part_in),(2,2,b_part_shown),(1,4,b_row_in),(1,2,b_label_in),(1,2,b_show_row),(1,1,b_shown),(1,6,b_told_lines),(1,6,b_labels_in),(4,5,b_aimed),(1,4,b_read),(2,2,b_law_cell_at),(2,2,b_law_number),(2,2,b_law_word),(1,1,b_law_step),(3,10,b_law_row),(2,2,b_law_boxed),(1,3,b_law_words),(2,5,b_law_alike),(1,5,b_law_remark),(2,5,b_law_line),(2,7,b_law_dressed),(1,4,b_law_program),(1,6,b_law)]
noncomputable abbrev pg:Pg:=fun i=>irL[i]?
end AMx
open AM
local macro_rules | `(tactic| walk_at "om")=>`(tactic| first | lia | omega)
local macro_rules | `(tactic| walk_at "am1")=>`(tactic| with_reducible first
 | refine wc_2_64 ?_
 | refine wc_10_20 ?_
 | refine wc_10_30 ?_
 | refine wc_10_39 ?_
 | refine wc_10_40 ?_
 | refine wc_10_59 ?_
 | refine wc_10_60 ?_
 | refine wc_10_18 ?_
 | refine wc_10_15 ?_
 | refine wc_10_17 ?_
 | refine ws_cons ?_
 | refine ws_nil ?_
 | refine ws_ret ?_
 | refine ws_nm ?_
 | refine ws_ite ?_
 | refine ws_expr ?_
 | refine ws_asg ?_
 | refine ws_pass ?_
 | refine ws_retN ?_
 | refine wp_val ?_
 | refine wp_op ?_
 | refine wp_cmp ?_
 | refine wt_cmp ?_
 | refine wpa_cons ?_
 | refine wpa_nil ?_
 | refine wp_call ?_
 | refine wp_bi ?_
 | refine wp_isa ?_
 | refine wp_isx ?_
 | refine wp_and ?_
 | refine wp_or ?_
 | refine wp_not ?_
 | refine wp_neg ?_
 | refine wp_ite ?_
 | refine wp_chain ?_
 | refine wp_chain3 ?_
 | refine wp_tup ?_
 | refine wp_lst ?_
 | refine wp_slice ?_
 | refine wp_app ?_
 | refine wp_get ?_
 | refine wt_chain ?_
 | refine wt_chain3 ?_
 | refine wt_not ?_
 | refine wt_and ?_
 | refine wt_or ?_
 | refine wt_var ?_
 | refine wt_call ?_
 | refine wt_bi ?_
 | refine wt_isa ?_
 | refine wt_isx ?_
 | refine ws_raise ?_
 | refine ws_try ?_
 | refine wc_call ?_
 | refine wc_meth ?_
 | refine ws_hd ?_
 | refine ws_hd0 ?_
 | refine wt_op ?_
 | refine wg_add ?_
 | refine wg_sub ?_
 | refine wg_lt ?_
 | refine wg_le ?_
 | refine wg_gt ?_
 | refine wg_ge ?_
 | refine wg_eqi ?_
 | refine wg_nei ?_
 | refine wg_eqs ?_
 | refine wg_nes ?_
 | refine wg_is ?_
 | refine wg_isn ?_
 | refine wg_neg ?_
 | refine wg_trb ?_
 | refine wg_tri ?_
 | refine wg_band ?_
 | refine wg_bor ?_
 | refine wg_bxor ?_
 | refine wg_inti ?_
 | refine wg_intb ?_
 | refine wg_min ?_
 | refine wg_max ?_
 | refine wp_no ?_
 | refine wa_nm ?_
 | refine wa_nil ?_
 | refine wa_sub ?_
 | refine wa_cons ?_
 | refine ws_for ?_
 | refine wi_seq ?_
 | refine wi_rng1 ?_
 | refine wi_rng2 ?_
 | refine wi_enum ?_
 | refine wi_zip ?_
 | refine wi_tup ?_
 | refine wp_comp0 ?_
 | refine wp_comp1 ?_
 | refine wa_cnm ?_
 | refine wa_ct2 ?_
 | refine ws_par ?_
 | refine wp_fld ?_
 | refine wp_dnew ?_
 | refine wp_dm ?_
 | refine wp_disp ?_
 | refine wp_meth ?_
 | refine wp_make ?_
 | refine wp_isc ?_
 | refine wp_cmeth ?_
 | refine wt_fld ?_
 | refine wt_meth ?_
 | refine wt_isc ?_
 | refine ws_fset ?_
 | refine ws_fadd ?_
 | refine wp_clear ?_
 | refine wp_popL ?_
 | refine wp_zf ?_
 | refine wp_join ?_
 | refine ws_while ?_
 | refine wp_kc ?_
 | refine wp_sk ?_
 | refine wt_kc ?_
 | refine ws_brk ?_
 | refine ws_cnt ?_)
local macro_rules | `(tactic| walk_at "am")=>`(tactic| first
 | walk_at "am1"
 | ((with_reducible refine' wp_var ?k1 ?_);(case k1=>exact rfl))
 | ((with_reducible refine' wg_mod ?k1 ?_);(case k1=>first | decide | lia | (simp only [List.length_map];lia) | omega))
 | ((with_reducible refine' wg_fdiv ?k1 ?_);(case k1=>first | decide | rfl))
 | ((with_reducible refine' wg_pow ?k1 ?_);(case k1=>first | decide | rfl))
 | ((with_reducible refine' wg_mul ?k1 ?_);(case k1=>first | decide | rfl | (apply mulOk_r <;> omega) | (apply mulOk_l <;> omega) | (apply mulOk_big <;> omega)))
 | ((with_reducible refine' wp_part ?k1 ?_);(case k1=>intro _;rfl))
 | ((with_reducible refine' wg_isa ?k1 ?_);(case k1=>exact rfl))
 | ((with_reducible refine' wg_isx ?k1 ?k2 ?_);(case k1=>first | assumption | exact new_ob);(case k2=>exact rfl))
 | ((with_reducible refine' ws_hxT ?k1 ?_);(case k1=>rfl))
 | ((with_reducible refine' ws_hxF ?k1 ?_);(case k1=>rfl))
 | ((with_reducible refine' wg_fld ?k1 ?k2 ?k3 ?_);(case k1=>assumption);(case k2=>rfl);(case k3=>rfl))
 | ((with_reducible refine' wg_isc ?k1 ?k2 ?_);(case k1=>assumption);(case k2=>rfl))
 | ((with_reducible refine' ws_aug ?k1 ?_);(case k1=>exact rfl))
 | ((with_reducible refine' wg_ix ?k1 ?k2 ?_);(case k1=>first | exact rfl | exact seq_ref (by assumption));(case k2=>exact rfl))
 | ((with_reducible refine' wg_in ?k1 ?k2 ?_);(case k1=>first | exact rfl | exact seq_ref (by assumption));(case k2=>first | decide +kernel | rfl))
 | ((with_reducible refine' wg_nin ?k1 ?k2 ?_);(case k1=>first | exact rfl | exact seq_ref (by assumption));(case k2=>first | decide +kernel | rfl))
 | ((with_reducible refine' wg_len ?k1 ?_);(case k1=>first | exact rfl | exact seq_ref (by assumption)))
 | ((with_reducible refine' wg_tuple ?k1 ?_);(case k1=>first | exact rfl | exact seq_ref (by assumption)))
 | ((with_reducible refine' wa_tup ?k1 ?k2 ?_);(case k1=>exact rfl);(case k2=>exact rfl))
 | ((with_reducible refine' wg_eq ?k1 ?_);(case k1=>exact rfl))
 | ((with_reducible refine' wg_ne ?k1 ?_);(case k1=>exact rfl)))
local macro_rules | `(tactic| walk_at "user0")=>`(tactic| fail)
local macro_rules | `(tactic| walk_at "amb")=>`(tactic| first
 | walk_at "am"
 | with_reducible refine ex_bl ?_
 | with_reducible refine ex_part ?_
 | with_reducible refine ex_zip ?_
 | with_reducible refine ex_glb ?_
 | with_reducible refine ex_si ?_
 | ((with_reducible refine' ex_rng1 ?k1 ?_);(case k1=>first | decide | (apply rng_ok <;> omega)))
 | ((with_reducible refine' ex_len ?k1 ?_);(case k1=>first | decide | (simp only [List.length_cons,List.length_nil];decide)))
 | ((with_reducible refine' if_dt ?k1 ?_);(case k1=>first | decide | lia))
 | ((with_reducible refine' if_df ?k1 ?_);(case k1=>first | decide | lia))
 | ((with_reducible refine' if_ndt ?k1 ?_);(case k1=>first | decide | lia))
 | ((with_reducible refine' if_ndf ?k1 ?_);(case k1=>first | decide | lia))
 | walk_at "user0"
 | with_reducible refine if_dec (fun hc=>?_) (fun hc=>?_)
 | with_reducible refine if_ndec (fun hc=>?_) (fun hc=>?_)
 | with_reducible refine if_nndec (fun hc=>?_) (fun hc=>?_)
 | with_reducible refine if_bne (fun hc=>?_) (fun hc=>?_)
 | ((with_reducible refine' if_tru ?k1 ?_);(case k1=>first | decide +kernel | exact rfl))
 | ((with_reducible refine' if_fls ?k1 ?_);(case k1=>first | decide +kernel | exact rfl))
 | walk_at "user"
 | fail)
namespace AMx
open PySem PySem.Spec PyProof.Rows L2 AM
abbrev tl (z:PySem.Str):List Nat:=z.cps.toList
abbrev mkS (l:List Nat):PySem.Str:=⟨l.toArray⟩
theorem tl_mk {l:List Nat}:tl (mkS l) = l:=rfl
theorem mk_tl {z:PySem.Str}:mkS (tl z) = z:=by cases z;simp [mkS,tl]
theorem len_tl {z:PySem.Str}:z.length = (tl z).length:=by simp [PySem.Str.length,tl]
theorem str_ext {x y:PySem.Str}(h:tl x = tl y):x = y:=by rw [<- mk_tl (z:=x),<- mk_tl (z:=y),h]
theorem sub1 {z:PySem.Str}{c i:Nat}:Builtin.Str.subAt z (mkS [c]) i = decide ((tl z)[i]? = some c):=by
 unfold Builtin.Str.subAt
 have e:(mkS [c]).length = 1:=rfl
 rw [e]
 have:z.cps.extract i (i + 1) = match (tl z)[i]? with
  | some d=>#[d]
  | none=>#[]:=by
  apply Array.ext'
  rw [Array.toList_extract,List.extract_eq_drop_take']
  show ((tl z).take (i + 1)).drop i = _
  cases h:(tl z)[i]? with
  | none =>
   have:=List.getElem?_eq_none_iff.mp h
   rw [List.drop_of_length_le (by rw [List.length_take];omega)]
  | some d =>
   have hi:=(List.getElem?_eq_some_iff.mp h).1
   rw [List.take_add_one,h,List.drop_append,List.length_take,Nat.min_eq_left (by omega),List.drop_of_length_le (by rw [List.length_take];omega),Nat.sub_self]
   rfl
 rw [this]
 cases h:(tl z)[i]? with
 | none=>simp
 | some d =>
  show (#[d] == #[c]) = decide (some d = some c)
  by_cases e:d = c
  ·subst e;simp
  ·rw [decide_eq_false (fun z=>e (Option.some.inj z))]
   simp [e]
noncomputable def posL (c:Nat)(l:List Nat):List Nat:=(List.range l.length).filter fun i=>decide (l[i]? = some c)
theorem forId {α β:Type}(f:α->β->β):∀ (l:List α) (b:β),(forIn (m:=Id) l b fun a b=>pure (ForInStep.yield (f a b))) = pure (l.foldl (fun b a=>f a b) b)
 | [],b=>rfl
 | a :: l,b=>by rw [List.forIn_cons];exact forId f l (f a b)
noncomputable def occS (z:PySem.Str)(c lim:Nat)(i:Nat)(st:Array Nat × Nat):Array Nat × Nat :=
 if (decide (st.1.size < lim) && decide (st.2 <= i) && decide (i + 1 <= z.length) && decide ((tl z)[i]? = some c)) = true then (st.1.push i,i + 1) else st
noncomputable def hits (z:PySem.Str)(c k:Nat):List Nat:=(List.range k).filter fun i=>decide ((tl z)[i]? = some c)
theorem occ_inv {z:PySem.Str}{c lim:Nat}:∀ k,((List.range k).foldl (fun st i=>occS z c lim i st) (#[],0)).1.toList = (hits z c k).take lim/\((List.range k).foldl (fun st i=>occS z c lim i st) (#[],0)).2 <= k
 | 0=>by simp [hits]
 | k + 1=>by
  obtain ⟨h1,h2⟩:=occ_inv (z:=z) (c:=c) (lim:=lim) k
  rw [List.range_succ,List.foldl_append,List.foldl_cons,List.foldl_nil]
  generalize (List.range k).foldl (fun st i=>occS z c lim i st) (#[],0) = st at h1 h2
  have hs:st.1.size = min lim (hits z c k).length:=by rw [<- Array.length_toList,h1,List.length_take]
  have eh:hits z c (k + 1) = hits z c k ++ if (tl z)[k]? = some c then [k] else []:=by
   unfold hits
   rw [List.range_succ,List.filter_append]
   by_cases e:(tl z)[k]? = some c
   ·rw [if_pos e,List.filter_cons,decide_eq_true e,if_pos rfl,List.filter_nil]
   ·rw [if_neg e,List.filter_cons,decide_eq_false e,if_neg Bool.false_ne_true,List.filter_nil]
  unfold occS
  by_cases e:(tl z)[k]? = some c
  ·have hk:k + 1 <= z.length:=by rw [len_tl];exact (List.getElem?_eq_some_iff.mp e).1
   rw [eh,if_pos e,decide_eq_true h2,decide_eq_true hk,decide_eq_true e]
   by_cases hl:st.1.size < lim
   ·rw [decide_eq_true hl,if_pos (show (true && true && true && true) = true from rfl)]
    refine ⟨?_,Nat.le_refl _⟩
    rw [Array.toList_push,h1,List.take_of_length_le (by omega),List.take_of_length_le (by rw [List.length_append];simp;omega)]
   ·rw [decide_eq_false hl,if_neg (by simp)]
    refine ⟨?_,by omega⟩
    rw [h1,List.take_append_of_le_length (by omega)]
  ·rw [eh,if_neg e,decide_eq_false e,if_neg (by simp),List.append_nil]
   exact ⟨h1,by omega⟩
theorem occ1 {z:PySem.Str}{c lim:Nat}:Builtin.Str.occurrences z (mkS [c]) 0 z.length lim = (hits z c (z.length + 1)).take lim:=by
 have:=(occ_inv (z:=z) (c:=c) (lim:=lim) (z.length + 1)).1
 rw [<- this]
 unfold Builtin.Str.occurrences
 dsimp only
 rw [Std.Legacy.Range.forIn_eq_forIn_range']
 have e:(⟨0,z.length + 1,1,by decide⟩:Std.Legacy.Range).size = z.length + 1:=by simp [Std.Legacy.Range.size]
 rw [e]
 have e2:∀ (f:Nat->Array Nat × Nat->Id (ForInStep (Array Nat × Nat))),(∀ i st,f i st = pure (ForInStep.yield (occS z c lim i st)))->forIn (m:=Id) (List.range' 0 (z.length + 1) 1) (#[],0) f = pure ((List.range (z.length + 1)).foldl (fun st i=>occS z c lim i st) (#[],0)):=fun f hf=>by
  rw [show f = fun i st=>pure (ForInStep.yield (occS z c lim i st)) from funext fun i=>funext fun st=>hf i st,forId,List.range_eq_range']
 rw [e2 _ fun i st=>?_]
 ·rfl
 ·unfold occS
  rw [sub1]
  show (if _ then pure (ForInStep.yield (st.1.push i,i + 1)) else pure (ForInStep.yield (st.1,st.2))) = pure (ForInStep.yield (if _ then _ else _))
  split
  ·rename_i hc
   exact congrArg (fun x=>(pure (ForInStep.yield x):Id _)) (if_pos hc).symm
  ·rename_i hc
   exact congrArg (fun x=>(pure (ForInStep.yield x):Id _)) (if_neg hc).symm
noncomputable def splL (c:Nat):List Nat->List (List Nat)
 | []=>[[]]
 | x :: l=>if x = c then [] :: splL c l else match splL c l with
  | []=>[[x]]
  | w :: ws=>(x :: w) :: ws
theorem splL_ne {c:Nat}:∀ l,splL c l ≠ []
 | []=>by simp [splL]
 | x :: l=>by
  unfold splL
  split
  ·simp
  ·split <;> simp
theorem splL_no {c:Nat}:∀ {l:List Nat},c ∉ l->splL c l = [l]
 | [],_=>rfl
 | x :: l,h=>by
  unfold splL
  rw [if_neg (fun e=>h (by rw [e];exact List.mem_cons_self ..)),splL_no (fun e=>h (List.mem_cons_of_mem _ e))]
theorem splL_app {c:Nat}{m:List Nat}:∀ {l:List Nat},c ∉ l->splL c (l ++ c :: m) = l :: splL c m
 | [],_=>by rw [List.nil_append,splL,if_pos rfl]
 | x :: l,h=>by
  rw [List.cons_append,splL,if_neg (fun e=>h (by rw [e];exact List.mem_cons_self ..)),splL_app (fun e=>h (List.mem_cons_of_mem _ e))]
noncomputable def joinL (c:Nat):List (List Nat)->List Nat
 | []=>[]
 | [w]=>w
 | w :: u :: ws=>w ++ c :: joinL c (u :: ws)
theorem spl_join {c:Nat}:∀ {ws:List (List Nat)},ws ≠ []->(∀ w ∈ ws,c ∉ w)->splL c (joinL c ws) = ws
 | [],h,_=>absurd rfl h
 | [w],_,h=>splL_no (h w (List.mem_cons_self ..))
 | w :: u :: ws,_,h=>by
  rw [joinL,splL_app (h w (List.mem_cons_self ..)),spl_join (by simp) fun v hv=>h v (List.mem_cons_of_mem _ hv)]
noncomputable def posR (c:Nat):List Nat->List Nat
 | []=>[]
 | x :: l=>(if x = c then [0] else []) ++ (posR c l).map (· + 1)
theorem hits_cons {c x:Nat}{l:List Nat}:∀ k,(List.range (k + 1)).filter (fun i=>decide ((x :: l)[i]? = some c)) = (if x = c then [0] else []) ++ ((List.range k).filter fun i=>decide (l[i]? = some c)).map (· + 1):=by
 intro k
 rw [List.range_succ_eq_map,List.filter_cons,List.filter_map]
 have e:((fun i=>decide ((x :: l)[i]? = some c)) ∘ Nat.succ) = fun i=>decide (l[i]? = some c):=by
  funext i
  show decide ((x :: l)[i + 1]? = some c) = _
  rw [List.getElem?_cons_succ]
 rw [e]
 by_cases h:x = c
 ·rw [if_pos h,if_pos (by simp [h])];rfl
 ·rw [if_neg h,if_neg (by simp [h])];rfl
theorem hits_posR {c:Nat}:∀ {l:List Nat} {k:Nat},l.length <= k->(List.range k).filter (fun i=>decide (l[i]? = some c)) = posR c l
 | [],k,_=>by simp [posR]
 | x :: l,0,h=>by simp at h
 | x :: l,k + 1,h=>by rw [hits_cons,hits_posR (by simpa using h)];rfl
noncomputable def partL (l:List Nat)(p:Nat × Nat):List Nat:=(l.take p.2).drop p.1
noncomputable def partsL (l cuts:List Nat):List (List Nat):=((0 :: cuts.map (· + 1)).zip (cuts ++ [l.length])).map (partL l)
theorem zip_sh {xs ys:List Nat}{x:Nat}{l:List Nat}:((xs.map (· + 1)).zip (ys.map (· + 1))).map (partL (x :: l)) = (xs.zip ys).map (partL l):=by
 rw [List.zip_map,List.map_map]
 congr 1
theorem parts_pos {c:Nat}:∀ {l:List Nat},partsL l (posR c l) = splL c l
 | []=>rfl
 | x :: l=>by
  have ih:=parts_pos (c:=c) (l:=l)
  unfold posR splL
  by_cases h:x = c
  ·rw [if_pos h,if_pos h,<- ih]
   show ((0 :: ([0] ++ (posR c l).map (· + 1)).map (· + 1)).zip (([0] ++ (posR c l).map (· + 1)) ++ [l.length + 1])).map (partL (x :: l)) = _
   have e1:([0] ++ (posR c l).map (· + 1)).map (· + 1) = (0 :: (posR c l).map (· + 1)).map (· + 1):=rfl
   have e2:([0] ++ (posR c l).map (· + 1)) ++ [l.length + 1] = 0 :: (posR c l ++ [l.length]).map (· + 1):=by simp
   rw [e1,e2,List.zip_cons_cons,List.map_cons,zip_sh]
   rfl
  ·rw [if_neg h,if_neg h,<- ih]
   show ((0 :: ([] ++ (posR c l).map (· + 1)).map (· + 1)).zip (([] ++ (posR c l).map (· + 1)) ++ [l.length + 1])).map (partL (x :: l)) = _
   rw [List.nil_append]
   have e2:(posR c l).map (· + 1) ++ [l.length + 1] = (posR c l ++ [l.length]).map (· + 1):=by simp
   rw [e2]
   unfold partsL
   cases hp:posR c l ++ [l.length] with
   | nil=>simp at hp
   | cons s ss =>
    rw [List.map_cons,List.zip_cons_cons,List.map_cons,zip_sh,List.zip_cons_cons,List.map_cons]
    rfl
theorem tl_sub {z:PySem.Str}{i j:Nat}:Builtin.Str.strSub z i j = mkS (((tl z).take j).drop i):=by
 apply str_ext
 show (z.cps.extract i j).toList = _
 rw [Array.toList_extract,List.extract_eq_drop_take']
theorem split1 {z:PySem.Str}{c:Nat}(hc:c < 256):Txt.split z (mkS [c]) = (splL c (tl z)).map mkS:=by
 unfold Txt.split
 have hk:Builtin.Str.strKind (mkS [c]) = 1:=by
  unfold Builtin.Str.strKind
  rw [if_pos (by simp [hc])]
 have hk2:¬ Builtin.Str.strKind z < 1:=by
  unfold Builtin.Str.strKind
  split
  ·decide
  ·split <;> decide
 have ho:Builtin.Str.occurrences z (mkS [c]) 0 z.length (z.length + 1) = posR c (tl z):=by
  rw [occ1]
  have e:hits z c (z.length + 1) = posR c (tl z):=hits_posR (by rw [len_tl];omega)
  rw [List.take_of_length_le,e]
  unfold hits
  exact Nat.le_trans (List.length_filter_le ..) (by simp)
 rw [hk,ho]
 have e1:(mkS [c]).length = 1:=rfl
 rw [e1,decide_eq_false hk2,Bool.or_false,len_tl]
 by_cases h0:(tl z).length < 1
 ·rw [decide_eq_true h0,if_pos rfl]
  have:tl z = []:=List.eq_nil_of_length_eq_zero (by omega)
  rw [this]
  show [z] = [mkS []]
  rw [<- this,mk_tl]
 ·rw [decide_eq_false h0,if_neg Bool.false_ne_true]
  have hp:Builtin.Str.partsBetween z (posR c (tl z)) 1 = (splL c (tl z)).map mkS:=by
   rw [<- parts_pos]
   unfold Builtin.Str.partsBetween partsL
   dsimp only
   rw [List.map_map,len_tl]
   refine congrFun (congrArg List.map (funext fun p=>?_)) _
   exact tl_sub
  by_cases he:(posR c (tl z)).isEmpty = true
  ·rw [if_pos he,<- hp]
   have e:posR c (tl z) = []:=List.isEmpty_iff.mp he
   rw [e]
   show [z] = [Builtin.Str.strSub z 0 z.length]
   rw [tl_sub,len_tl,List.take_length,List.drop_zero,mk_tl]
  ·rw [if_neg he,hp]
theorem pos1 {c:Nat}:∀ {l:List Nat},(posR c l).take 1 = if c ∈ l then [(l.takeWhile fun x=>x != c).length] else []
 | []=>by simp [posR]
 | x :: l=>by
  have ih:=pos1 (c:=c) (l:=l)
  unfold posR
  by_cases h:x = c
  ·rw [if_pos h,h,if_pos (List.mem_cons_self ..)]
   simp
  ·rw [if_neg h,List.nil_append,<- List.map_take,ih]
   by_cases hm:c ∈ l
   ·rw [if_pos hm,if_pos (List.mem_cons_of_mem _ hm),List.takeWhile_cons]
    simp [h]
   ·rw [if_neg hm,if_neg (fun e=>by
     rcases List.mem_cons.mp e with e | e
     ·exact h e.symm
     ·exact hm e)]
    rfl
theorem occ_1 {z:PySem.Str}{c:Nat}:Builtin.Str.occurrences z (mkS [c]) 0 z.length 1 = if c ∈ tl z then [((tl z).takeWhile fun x=>x != c).length] else []:=by
 rw [occ1,<- pos1]
 have e:hits z c (z.length + 1) = posR c (tl z):=hits_posR (by rw [len_tl];omega)
 rw [e]
theorem tw_all {c:Nat}:∀ {l:List Nat},c ∉ l->l.takeWhile (fun x=>x != c) = l
 | [],_=>rfl
 | x :: l,h=>by
  rw [List.takeWhile_cons,tw_all (fun e=>h (List.mem_cons_of_mem _ e))]
  have:x ≠ c:=fun e=>h (by rw [e];exact List.mem_cons_self ..)
  simp [this]
theorem tw_app {c:Nat}{m:List Nat}:∀ {l:List Nat},c ∉ l->(l ++ c :: m).takeWhile (fun x=>x != c) = l
 | [],_=>by simp
 | x :: l,h=>by
  rw [List.cons_append,List.takeWhile_cons,tw_app (fun e=>h (List.mem_cons_of_mem _ e))]
  have:x ≠ c:=fun e=>h (by rw [e];exact List.mem_cons_self ..)
  simp [this]
theorem take_tw {c:Nat}:∀ {l:List Nat},l.take (l.takeWhile fun x=>x != c).length = l.takeWhile fun x=>x != c
 | []=>rfl
 | x :: l=>by
  rw [List.takeWhile_cons]
  by_cases h:x = c
  ·simp [h]
  ·have:(x != c) = true:=by simp [h]
   rw [if_pos this,List.length_cons,List.take_succ_cons,take_tw]
theorem part_hd {z:PySem.Str}{c:Nat}:∃ a b,partT z (mkS [c]) = [mkS ((tl z).takeWhile fun x=>x != c),a,b]:=by
 unfold partT
 rw [occ_1]
 by_cases h:c ∈ tl z
 ·rw [if_pos h]
  refine ⟨mkS [c],Builtin.Str.strSub z (((tl z).takeWhile fun x=>x != c).length + (mkS [c]).length) z.length,?_⟩
  show [Builtin.Str.strSub z 0 _,_,_] = _
  rw [tl_sub,take_tw,List.drop_zero]
 ·rw [if_neg h,tw_all h,mk_tl]
  exact ⟨Str.empty,Str.empty,rfl⟩
theorem in1 {b:PySem.Str}{c:Nat}:inT (mkS [c]) b = decide (c ∈ tl b):=by
 unfold inT
 rw [occ_1]
 by_cases h:c ∈ tl b
 ·rw [if_pos h,decide_eq_true h];rfl
 ·rw [if_neg h,decide_eq_false h];rfl
theorem starts1 {z:PySem.Str}{c:Nat}:Txt.startswith z (mkS [c]) = decide ((tl z).head? = some c):=by
 unfold Txt.startswith
 rw [sub1,len_tl (z:=z),<- List.head?_eq_getElem?,show (mkS [c]).length = 1 from rfl]
 cases h:tl z with
 | nil=>simp
 | cons x l=>simp
theorem ends1 {z:PySem.Str}{c:Nat}:Txt.endswith z (mkS [c]) = decide ((tl z).getLast? = some c):=by
 unfold Txt.endswith
 rw [sub1,len_tl (z:=z),List.getLast?_eq_getElem?,show (mkS [c]).length = 1 from rfl]
 cases h:tl z with
 | nil=>simp
 | cons x l=>simp
noncomputable def strp (c:Nat)(l:List Nat):List Nat:=((l.dropWhile fun x=>x == c).reverse.dropWhile fun x=>x == c).reverse
theorem drop_tw {p:Nat->Bool}:∀ {l:List Nat},l.drop (l.takeWhile p).length = l.dropWhile p
 | []=>rfl
 | x :: l=>by
  rw [List.takeWhile_cons,List.dropWhile_cons]
  by_cases h:p x = true
  ·rw [if_pos h,if_pos h,List.length_cons,List.drop_succ_cons,drop_tw]
  ·rw [if_neg h,if_neg h];rfl
theorem strip1 {z:PySem.Str}{c:Nat}:Txt.stripChars z (mkS [c]) = mkS (strp c (tl z)):=by
 have hg:(mkS [c]).cps.contains = fun x=>x == c:=by
  funext x
  show Array.contains #[c] x = (x == c)
  by_cases e:x = c
  ·subst e;simp
  ·have e':¬ c = x:=fun h=>e h.symm
   simp [e,e']
 have e:stripped (fun x=>x == c) true true z = mkS (strp c (tl z)):=by
  unfold stripped stripHi stripLo
  rw [if_pos rfl,if_pos rfl,tl_sub,len_tl]
  show mkS (((tl z).take ((tl z).length - (List.takeWhile (fun x=>x == c) (List.drop (List.takeWhile (fun x=>x == c) (tl z)).length (tl z)).reverse).length)).drop (List.takeWhile (fun x=>x == c) (tl z)).length) = _
  congr 1
  rw [drop_tw]
  unfold strp
  generalize hk:(List.takeWhile (fun x=>x == c) (tl z)).length = k
  have hd:(tl z).drop k = (tl z).dropWhile fun x=>x == c:=by rw [<- hk,drop_tw]
  generalize hm:((tl z).dropWhile fun x=>x == c) = m at hd
  rw [List.drop_take,hd]
  have hl:(tl z).length - k = m.length:=by rw [<- hd,List.length_drop]
  rw [<- drop_tw (l:=m.reverse),List.reverse_drop,List.reverse_reverse,List.length_reverse]
  congr 1
  omega
 unfold Txt.stripChars Txt.stripBy
 rw [hg]
 split
 ·rename_i h
  rw [<- e]
  unfold stripSame at h
  rw [Bool.and_eq_true,beq_iff_eq,beq_iff_eq] at h
  unfold stripped
  rw [h.2,h.1,tl_sub,List.drop_zero,len_tl,List.take_length,mk_tl]
 ·exact e
theorem pick_at {l:List Nat}:∀ {n a:Nat},a + n <= l.length->((List.range n).map fun k=>a + k).filterMap (fun i=>l[i]?) = (l.drop a).take n
 | 0,a,_=>by simp
 | n + 1,a,h=>by
  rw [List.range_succ,List.map_append,List.filterMap_append,pick_at (by omega),List.take_add_one,List.getElem?_drop]
  obtain ⟨x,hx⟩:∃ x,l[a + n]? = some x:=⟨_,List.getElem?_eq_getElem (by omega)⟩
  simp [hx]
noncomputable def cEnd (n:Nat)(d:Int):Option Int->Int
 | none=>d
 | some i=>max 0 (min (if i < 0 then i + (n:Int) else i) n)
theorem sl_ix {lo hi:Option Int}{a b n:Nat}(ha:cEnd n 0 lo = (a:Int))(hb:cEnd n n hi = (b:Int))(h:a <= b):Builtin.Str.strSliceIndices lo hi 1 n = (List.range (b - a)).map fun k=>a + k:=by
 have e:Builtin.Str.strSliceIndices lo hi 1 n = sliceRange (cEnd n 0 lo) (cEnd n n hi) 1:=by
  cases lo <;> cases hi <;> rfl
 rw [e,ha,hb]
 unfold sliceRange
 dsimp only
 rw [if_pos (by decide)]
 have ec:(if (a:Int) < b then ((b:Int) - a + 1 - 1) / 1 else 0).toNat = b - a:=by split <;> omega
 rw [ec]
 refine List.map_congr_left fun k _=>?_
 omega
theorem slice_at {z:PySem.Str}{lo hi:Option Int}{a b:Nat}(ha:cEnd z.length 0 lo = (a:Int))(hb:cEnd z.length z.length hi = (b:Int))(h:a <= b)(hl:b <= z.length):Txt.slice z lo hi = mkS (((tl z).drop a).take (b - a)):=by
 unfold Txt.slice
 rw [sl_ix ha hb h]
 have e:((List.range (b - a)).map fun k=>a + k).filterMap (fun i=>z.cps[i]?) = ((tl z).drop a).take (b - a):=by
  rw [<- pick_at (l:=tl z) (by rw [<- len_tl];omega)]
  rw [show (fun i=>z.cps[i]?) = fun i=>(tl z)[i]? from funext fun i=>(Array.getElem?_toList).symm]
 rw [e]
 split
 ·rename_i hc
  simp only [List.length_map,List.length_range,Bool.and_eq_true,beq_iff_eq] at hc
  have h1:=hc.2
  have h0:a = 0:=by omega
  rw [h0,List.drop_zero,Nat.sub_zero,List.take_of_length_le (by rw [<- len_tl];omega),mk_tl]
 ·rfl
theorem slice_1 {z:PySem.Str}(h:1 <= z.length):Txt.slice z (some 1) none = mkS ((tl z).drop 1):=by
 rw [slice_at (a:=1) (b:=z.length) (by show max (0:Int) (min (if (1:Int) < 0 then _ else 1) _) = _;rw [if_neg (by decide)];omega) rfl h (Nat.le_refl _),List.take_of_length_le (by rw [List.length_drop,<- len_tl];omega)]
theorem slice_m1 {z:PySem.Str}(h:1 <= z.length):Txt.slice z none (some (-1)) = mkS ((tl z).take (z.length - 1)):=by
 rw [slice_at (a:=0) (b:=z.length - 1) rfl (by show max (0:Int) (min (if (-1:Int) < 0 then -1 + (z.length:Int) else -1) _) = _;rw [if_pos (by decide)];omega) (Nat.zero_le _) (by omega),List.drop_zero,Nat.sub_zero]
theorem mul1 {c:Nat}{n:Int}(h:0 <= n):Txt.mul (mkS [c]) n = mkS (List.replicate n.toNat c):=by
 unfold Txt.mul
 have hf:∀ (k:Nat) (acc:Array Nat),(List.replicate k #[c]).foldl (fun x1 x2=>x1 ++ x2) acc = acc ++ (List.replicate k c).toArray:=fun k=>by
  induction k with
  | zero=>intro acc;simp
  | succ k ih =>
   intro acc
   rw [List.replicate_succ,List.foldl_cons,ih,List.replicate_succ]
   apply Array.ext'
   simp
 by_cases h1:n < 1
 ·rw [if_pos h1]
  have:n.toNat = 0:=by omega
  rw [this];rfl
 ·rw [if_neg h1]
  by_cases h2:n = 1
  ·subst h2;rfl
  ·have:(n == 1 || (mkS [c]).length == 0) = false:=by
    rw [show ((mkS [c]).length == 0) = false from rfl,Bool.or_false]
    simpa using h2
   rw [this,if_neg Bool.false_ne_true]
   show (⟨_⟩:PySem.Str) = ⟨_⟩
   rw [hf]
   simp
noncomputable def dg (m:Nat):List Nat:=(Nat.toDigits 10 m).map Char.toNat
theorem tl_num {m:Nat}:tl (PySem.Str.ofString (toString (m:Int))) = dg m:=PySem.W.KIN.signs_num m
theorem dg_ne {m:Nat}:dg m ≠ []:=fun h=>Nat.toDigits_ne_nil (List.map_eq_nil_iff.mp h)
theorem dg_all {m:Nat}:NumText.AllDigits (dg m):=fun c hc=>by
 obtain ⟨d,hd,rfl⟩:=List.mem_map.mp hc
 have:=Nat.isDigit_of_mem_toDigits (by decide) (by decide) hd
 unfold Char.isDigit at this
 rw [Bool.and_eq_true,decide_eq_true_eq,decide_eq_true_eq] at this
 obtain ⟨h1,h2⟩:=this
 exact ⟨h1,h2⟩
theorem dg_len {m k:Nat}(hk:0 < k):(dg m).length <= k ↔ m < 10 ^ k:=by
 unfold dg
 rw [List.length_map]
 exact Nat.length_toDigits_le_iff (by decide) hk
theorem dg_val {m:Nat}(h:m < 18446744073709551616):intText? (PySem.Str.ofString (toString (m:Int))) = some (m:Int):=by
 have hl:(dg m).length <= 20:=(dg_len (by decide)).mpr (Nat.lt_of_lt_of_le h (by decide))
 have:=intText_digits (x:=PySem.Str.ofString (toString (m:Int))) (by rw [show (PySem.Str.ofString (toString (m:Int))).cps.toList = dg m from tl_num];exact dg_all) (by rw [show (PySem.Str.ofString (toString (m:Int))).cps.toList = dg m from tl_num];exact dg_ne) (by rw [len_tl,tl_num];omega)
 rw [this,show (PySem.Str.ofString (toString (m:Int))).cps.toList = dg m from tl_num]
 rw [show NumText.digitsVal (dg m) = m from PySem.W.KIN.val_back m]
theorem dg_head:∀ {m:Nat},(dg m).head? = some 48->m = 0
 | m,h=>by
  induction m using Nat.strongRecOn with
  | _ m ih =>
   by_cases hm:m < 10
   ·unfold dg at h
    rw [Nat.toDigits_of_lt_base hm] at h
    have:m = 0\/m = 1\/m = 2\/m = 3\/m = 4\/m = 5\/m = 6\/m = 7\/m = 8\/m = 9:=by omega
    rcases this with rfl | rfl | rfl | rfl | rfl | rfl | rfl | rfl | rfl | rfl
    ·rfl
    all_goals exact absurd h (by decide)
   ·have e:dg m = dg (m / 10) ++ [((m % 10).digitChar).toNat]:=by
     unfold dg
     rw [Nat.toDigits_of_base_le (by decide) (by omega),List.map_append]
     rfl
    rw [e,List.head?_append] at h
    cases hd:dg (m / 10) with
    | nil=>exact absurd hd dg_ne
    | cons x l =>
     rw [hd] at h
     have:=ih (m / 10) (by omega) (by rw [hd];exact h)
     omega
theorem dg_0:dg 0 = [48]:=by decide
theorem num_ext {a b:Nat}(h:dg a = dg b):a = b:=by
 have h1:=PySem.W.KIN.val_back a
 have h2:=PySem.W.KIN.val_back b
 have h:(Nat.toDigits 10 a).map Char.toNat = (Nat.toDigits 10 b).map Char.toNat:=h
 rw [<- h1,<- h2,h]
theorem sgs_map {z:PySem.Str}:(sgs z).map AV.str = (tl z).map fun c=>AV.str (mkS [c]):=by
 unfold sgs
 rw [List.map_map]
 rfl
section
variable {Xc:Nat->AH->Prop}{F:AM.Run}{σ:ASt}{h:AH}{V1:AV->AH->Prop}{B1:Bool->AH->Prop}
theorem wp_tm {k:Tk}{o a:Ex}(w:We Xc (den F o σ) h fun x h1=>∃ z,x = .str z/\We Xc (den F a σ) h1 fun y h2=>We Xc (gTm k (.str z) y) h2 V1):We Xc (den F (.tm k o a) σ) h V1:=wp_bind (w.mono fun x h1 ⟨z,e,q⟩=>by
 subst e
 exact wp_bind q)
theorem wt_tm {k:Tk}{o a:Ex}(w:We Xc (den F (.tm k o a) σ) h fun x h1=>We Xc (gTruth x) h1 B1):We Xc (denT F (.tm k o a) σ) h B1:=wp_bind w
theorem wp_tdx {ts:List PySem.Str}{a:Ex}(w:We Xc (den F a σ) h fun x h1=>We Xc (gTdx ts x) h1 V1):We Xc (den F (.tdx ts a) σ) h V1:=wp_bind w
theorem wp_tin {neg:Bool}{kvs:List (PySem.Str × AV)}{a:Ex}(w:We Xc (den F a σ) h fun x h1=>We Xc (gTin neg kvs x) h1 V1):We Xc (den F (.tin neg kvs a) σ) h V1:=wp_bind w
theorem wt_tin {neg:Bool}{kvs:List (PySem.Str × AV)}{a:Ex}(w:We Xc (den F a σ) h fun x h1=>We Xc (gTin neg kvs x) h1 fun z h3=>∃ t,z = .bl t/\B1 t h3):We Xc (denT F (.tin neg kvs a) σ) h B1:=wp_bind (wp_bind w |>.mono fun x h1 ⟨t,e,q⟩=>by
 subst e
 exact q)
theorem ex_str {z:PySem.Str}{P:PySem.Str->Prop}(q:P z):∃ z',AV.str z = .str z'/\P z':=⟨z,rfl,q⟩
theorem wg_sw {z:PySem.Str}{c:Nat}(q:V1 (.bl (decide ((tl z).head? = some c))) h):We Xc (gTm .sw (.str z) (.str (mkS [c]))) h V1:=by
 unfold We gTm;simp only [starts1];exact q
theorem wg_ew {z:PySem.Str}{c:Nat}(q:V1 (.bl (decide ((tl z).getLast? = some c))) h):We Xc (gTm .ew (.str z) (.str (mkS [c]))) h V1:=by
 unfold We gTm;simp only [ends1];exact q
theorem wg_st {z:PySem.Str}{c:Nat}(hz:z.length <= sizeLine)(q:V1 (.str (mkS (strp c (tl z)))) h):We Xc (gTm .st (.str z) (.str (mkS [c]))) h V1:=by
 unfold We gTm;simp only [if_pos hz,strip1];exact q
theorem splL_len {c:Nat}:∀ {l:List Nat},(splL c l).length <= l.length + 1
 | []=>Nat.le_refl _
 | x :: l=>by
  have ih:=splL_len (c:=c) (l:=l)
  unfold splL
  split
  ·simpa using ih
  ·split
   ·simp
   ·rename_i w ws e
    rw [e] at ih
    simp at ih ⊢
    omega
theorem parts_len {z:PySem.Str}{c:Nat}(hc:c < 256):(Builtin.Str.partsBetween z (Builtin.Str.occurrences z (mkS [c]) 0 z.length (z.length + 1)) (mkS [c]).length).length <= z.length + 2:=by
 unfold Builtin.Str.partsBetween
 dsimp only
 rw [List.length_map,List.length_zip,List.length_cons,List.length_map,occ1]
 have:(hits z c (z.length + 1)).length <= z.length + 1:=by
  unfold hits
  exact Nat.le_trans (List.length_filter_le ..) (by simp)
 rw [List.length_take]
 omega
theorem wg_sp {z:PySem.Str}{c:Nat}(hc:c < 256)(hz:z.length + 2 <= sizeLine)(q:V1 (.ref h.nx) (h.new (.lst true ((splL c (tl z)).map fun w=>.str (mkS w))))):We Xc (gTm .sp (.str z) (.str (mkS [c]))) h V1:=by
 have ok:spOk z (mkS [c]) = true:=by
  unfold spOk
  rw [show (mkS [c]).length = 1 from rfl]
  have h1:=parts_len (z:=z) hc
  rw [show (mkS [c]).length = 1 from rfl] at h1
  have h2:(Txt.split z (mkS [c])).length <= sizeLine:=by
   rw [split1 hc,List.length_map]
   have:=splL_len (c:=c) (l:=tl z)
   rw [<- len_tl] at this
   omega
  rw [decide_eq_true (show z.length <= sizeLine by omega),decide_eq_true h2,decide_eq_true (Nat.le_trans h1 hz)]
  rfl
 unfold We gTm
 simp only [if_pos ok,split1 hc]
 rw [List.map_map]
 exact q
theorem wg_pa {z:PySem.Str}{c:Nat}(hz:z.length <= sizeLine)(q:∀ a b,V1 (.tup [.str (mkS ((tl z).takeWhile fun x=>x != c)),.str a,.str b]) h):We Xc (gTm .pa (.str z) (.str (mkS [c]))) h V1:=by
 obtain ⟨a,b,e⟩:=part_hd (z:=z) (c:=c)
 unfold We gTm
 simp only [if_pos (show ((mkS [c]).length == 0) = false/\z.length <= sizeLine from ⟨rfl,hz⟩),e]
 exact q a b
theorem wg_inS {c:Nat}{b:PySem.Str}(q:V1 (.bl (decide (c ∈ tl b))) h):We Xc (Cp.g .in_ (.str (mkS [c])) (.str b)) h V1:=by
 show We Xc (AM.gIn false (.str (mkS [c])) (.str b)) h V1
 unfold We gIn gIn0 inTx
 simp only [dctOf,seqOf,Bool.false_eq_true,if_false,in1]
 exact q
theorem wg_intS {m:Nat}(hm:m < 18446744073709551616)(q:V1 (.int (m:Int)) h):We Xc (Bi.g .int [.str (PySem.Str.ofString (toString (m:Int)))]) h V1:=by
 have hl:(PySem.Str.ofString (toString (m:Int))).length <= 640:=by
  rw [len_tl,tl_num]
  exact Nat.le_trans ((dg_len (k:=20) (by decide)).mpr (Nat.lt_of_lt_of_le hm (by decide))) (by decide)
 show We Xc (AM.gIntC [.str (PySem.Str.ofString (toString (m:Int)))]) h V1
 unfold We gIntC
 simp only [if_pos hl,dg_val hm]
 exact q
theorem wg_slS {z:PySem.Str}{lo hi:Option Int}(hz:z.length <= sizeLine)(q:V1 (.str (Txt.slice z lo hi)) h):We Xc (gSl (.str z) lo hi) h V1:=by
 unfold We gSl;simp only [if_pos hz];exact q
theorem wg_mulS {c:Nat}{n:Int}(h0:0 <= n)(h1:n <= 1000)(q:V1 (.str (mkS (List.replicate n.toNat c))) h):We Xc (Op.g .mul (.str (mkS [c])) (.int n)) h V1:=by
 have e:=mul1 (c:=c) h0
 have hl:(Txt.mul (mkS [c]) n).length <= sizeLine:=by
  rw [e,len_tl,tl_mk,List.length_replicate]
  have:=size_big
  omega
 show We Xc (AM.gMul (.str (mkS [c])) (.int n)) h V1
 have ok:(mkS [c]).length <= 1000/\0 <= n/\n <= 1000/\(Txt.mul (mkS [c]) n).length <= sizeLine:=⟨show 1 <= 1000 by decide,h0,h1,hl⟩
 unfold We gMul
 dsimp only
 rw [if_pos ok,e]
 exact q
theorem wg_tdx {ts:List PySem.Str}{u:PySem.Str}{i:Nat}(e:ts.idxOf? u = some i)(q:V1 (.int (i:Int)) h):We Xc (gTdx ts (.str u)) h V1:=by
 unfold We gTdx;simp only [e];exact q
theorem wg_tin {neg:Bool}{kvs:List (PySem.Str × AV)}{k:PySem.Str}{v:AV}(e:kvs.lookup k = some v)(q:V1 (.bl (!neg)) h):We Xc (gTin neg kvs (.str k)) h V1:=by
 unfold We gTin;simp only [e];exact q
end
local macro_rules | `(tactic| walk_at "am1")=>`(tactic| with_reducible first
 | refine wp_tm ?_
 | refine wt_tm ?_
 | refine wp_tdx ?_
 | refine wp_tin ?_
 | refine wt_tin ?_)
local macro_rules | `(tactic| walk_at "user0")=>`(tactic| with_reducible refine ex_str ?_)
noncomputable def bareL (l:List Nat):List Nat:=strp 32 (l.takeWhile fun x=>x != 35)
theorem bare_w {k:Nat}{z:PySem.Str}{h:AH}{R:AV->AH->Prop}(hz:z.length <= 10000)(q:R (.str (mkS (bareL (tl z)))) h):Wp (run pg (k + 1) f_bare [.str z]) h R:=by
 have big:10000 <= sizeLine:=by decide
 refine wp_run rfl rfl ?_
 unfold b_bare
 repeat' walk_at "amb"
 rw [show ("#":PySem.Str) = mkS [35] from rfl]
 refine wg_pa (by omega) fun a b=>?_
 repeat' walk_at "amb"
 rw [show (" ":PySem.Str) = mkS [32] from rfl]
 refine wg_st ?_ q
 rw [len_tl,tl_mk]
 have:((tl z).takeWhile fun x=>x != 35).length <= (tl z).length:=(List.takeWhile_sublist _).length_le
 rw [<- len_tl] at this
 omega
noncomputable def wordsL (l:List Nat):List (List Nat):=(splL 32 (bareL l)).filter fun w=>decide (w ≠ [])
theorem strp_len {c:Nat}{l:List Nat}:(strp c l).length <= l.length:=by
 unfold strp
 rw [List.length_reverse]
 refine Nat.le_trans (List.dropWhile_sublist _).length_le ?_
 rw [List.length_reverse]
 exact (List.dropWhile_sublist _).length_le
theorem bareL_len {l:List Nat}:(bareL l).length <= l.length:=Nat.le_trans strp_len (List.takeWhile_sublist _).length_le
theorem mk_eq {l m:List Nat}:(mkS l = mkS m) ↔ l = m:=⟨fun h=>by have:=congrArg tl h;exact this,fun h=>by rw [h]⟩
theorem words_in_w {k:Nat}{z:PySem.Str}{h:AH}{R:AV->AH->Prop}(hz:z.length <= 9000)(q:∀ h' n,Kp h h'->n < h'.nx->h'.ob n = some (.lst true ((wordsL (tl z)).map fun w=>.str (mkS w)))->R (.ref n) h'):Wp (run pg (k + 2) f_words_in [.str z]) h R:=by
 have big:10000 <= sizeLine:=by decide
 have hl:(mkS (bareL (tl z))).length <= 9000:=by
  rw [len_tl,tl_mk]
  have:=bareL_len (l:=tl z)
  rw [<- len_tl] at this
  omega
 refine wp_run rfl rfl ?_
 unfold b_words_in
 repeat' walk_at "amb"
 refine bare_w (k:=k) (by omega) ?_
 repeat' walk_at "amb"
 rw [show (" ":PySem.Str) = mkS [32] from rfl]
 refine wg_sp (by decide) (by omega) ?_
 rw [tl_mk]
 repeat' walk_at "amb"
 refine wi_ref new_ob ?_
 have kp:Kp h (h.new (.lst true ((splL 32 (bareL (tl z))).map fun w=>.str (mkS w)))):=Kp.refl.new
 have ol:(h.new (.lst true ((splL 32 (bareL (tl z))).map fun w=>.str (mkS w)))).ob h.nx = some (.lst true ((splL 32 (bareL (tl z))).map fun w=>.str (mkS w))):=new_ob
 generalize h.new (.lst true ((splL 32 (bareL (tl z))).map fun w=>.str (mkS w))) = h1 at *
 have sl:=splL_len (c:=32) (l:=bareL (tl z))
 have bl:=bareL_len (l:=tl z)
 rw [<- len_tl] at bl
 refine comp_listc (bb:=true) (xs:=(splL 32 (bareL (tl z))).map fun w=>.str (mkS w)) (fun i ys σ h2=>h2 = h1/\ys = (((splL 32 (bareL (tl z))).take i).filter fun w=>decide (w ≠ [])).map (fun w=>AV.str (mkS w))/\∃ v,σ = [v]) (by rw [List.length_map,FU_eq];omega) ⟨rfl,by simp,_,rfl⟩ (fun i ys σ h2 z=>by rw [z.1];exact ol) ?_ ?_
 ·rintro i y ys σ h2 hy ⟨rfl,rfl,v,rfl⟩
  obtain ⟨w,hw,rfl⟩:=map_at hy
  have hi:=(List.getElem?_eq_some_iff.mp hw).1
  have e:(splL 32 (bareL (tl z))).take (i + 1) = (splL 32 (bareL (tl z))).take i ++ [w]:=by rw [List.take_add_one,hw];rfl
  repeat' walk_at "amb"
  ·rename_i hc
   have hn:w ≠ []:=fun e=>hc (by rw [e];rfl)
   refine ⟨?_,rfl,?_,_,rfl⟩
   ·rw [List.length_map]
    have:=List.length_filter_le (fun w=>decide (w ≠ [])) ((splL 32 (bareL (tl z))).take i)
    rw [List.length_take] at this
    omega
   ·rw [e,List.filter_append,List.map_append]
    simp [hn]
  ·rename_i hc
   have hn:w = []:=mk_eq.mp hc
   refine ⟨rfl,?_,_,rfl⟩
   rw [e,List.filter_append,hn]
   simp
 ·rintro ys σ h2 ⟨rfl,rfl,v,rfl⟩
  rw [List.length_map,List.take_length]
  exact q _ _ kp.new (Nat.lt_succ_self _) new_ob
theorem made_of_w {k:Nat}{z s:PySem.Str}{h:AH}{R:AV->AH->Prop}(hz:z.length <= 9000)(q:∀ h',Kp h h'->R (.bl (decide (tl z ≠ []/\∀ c ∈ tl z,c ∈ tl s))) h'):Wp (run pg (k + 1) f_made_of [.str z,.str s]) h R:=by
 have big:10000 <= sizeLine:=by decide
 refine wp_run rfl rfl ?_
 unfold b_made_of
 have e0:(z = ("":PySem.Str)) ↔ tl z = []:=⟨fun e=>by rw [e];rfl,fun e=>by rw [<- mk_tl (z:=z),e];rfl⟩
 repeat' walk_at "amb"
 ·rename_i hc
  have hn:tl z ≠ []:=fun e=>hc (e0.mpr e)
  refine wi_str ?_
  rw [sgs_map]
  refine comp_vals (fun i ys σ h2=>h2 = h/\ys = ((tl z).take i).map (fun c=>AV.bl (decide (c ∈ tl s)))/\∃ v,σ = [v,some (.str s)]) (by rw [List.length_map,<- len_tl,FU_eq];omega) ⟨rfl,rfl,_,rfl⟩ ?_ ?_
  ·rintro i y ys σ h2 hy ⟨rfl,rfl,v,rfl⟩
   obtain ⟨c,hcc,rfl⟩:=map_at hy
   have e:(tl z).take (i + 1) = (tl z).take i ++ [c]:=by rw [List.take_add_one,hcc];rfl
   repeat' walk_at "amb"
   refine wg_inS ?_
   refine ⟨by rw [List.length_map,List.length_take,<- len_tl];omega,rfl,?_,_,rfl⟩
   rw [e,List.map_append];rfl
  ·rintro ys σ h2 ⟨rfl,rfl,v,rfl⟩
   rw [List.length_map,List.take_length]
   repeat' walk_at "amb"
   refine wg_all (bs:=(tl z).map fun c=>decide (c ∈ tl s)) (by rw [new_ob,List.map_map];rfl) ?_
   have:=q _ (Kp.refl.new (o:=.lst true ((tl z).map fun c=>AV.bl (decide (c ∈ tl s)))))
   rw [show ((tl z).map fun c=>decide (c ∈ tl s)).all id = decide (tl z ≠ []/\∀ c ∈ tl z,c ∈ tl s) from ?_]
   ·exact this
   ·rw [Bool.eq_iff_iff,List.all_eq_true,decide_eq_true_eq]
    constructor
    ·intro hh
     exact ⟨hn,fun c hc=>of_decide_eq_true (hh _ (List.mem_map.mpr ⟨c,hc,rfl⟩))⟩
    ·rintro ⟨_,hh⟩ b hb
     obtain ⟨c,hc,rfl⟩:=List.mem_map.mp hb
     exact decide_eq_true (hh c hc)
 ·rename_i hc
  have:=q h Kp.refl
  rw [decide_eq_false (fun z=>z.1 (e0.mp hc))] at this
  rw [decide_eq_true hc]
  exact this
section
noncomputable def wf (l:List Nat):List (List Nat):=(splL 32 l).filter fun w=>decide (w ≠ [])
theorem wordsL_wf {l:List Nat}:wordsL l = wf (bareL l):=rfl
theorem spl_c {c:Nat}{l:List Nat}:splL c (c :: l) = [] :: splL c l:=by rw [splL,if_pos rfl]
theorem spl_x {c x:Nat}{l w:List Nat}{ws:List (List Nat)}(h:¬ x = c)(e:splL c l = w :: ws):splL c (x :: l) = (x :: w) :: ws:=by rw [splL,if_neg h,e]
theorem spl_cat {c:Nat}{m:List Nat}:∀ {l:List Nat},splL c (l ++ c :: m) = splL c l ++ splL c m
 | []=>spl_c
 | x :: l=>by
  have ih:=spl_cat (c:=c) (m:=m) (l:=l)
  rw [List.cons_append]
  by_cases h:x = c
  ·subst h
   rw [spl_c,spl_c,ih,List.cons_append]
  ·cases hs:splL c l with
   | nil=>exact absurd hs (splL_ne _)
   | cons w ws =>
    rw [hs] at ih
    rw [spl_x h hs,spl_x h ih]
    rfl
theorem wf_cat {l m:List Nat}:wf (l ++ 32 :: m) = wf l ++ wf m:=by
 unfold wf
 rw [spl_cat,List.filter_append]
theorem wf_nil:wf [] = []:=rfl
theorem wf_sps {l:List Nat}:∀ n,wf (List.replicate n 32 ++ l) = wf l
 | 0=>rfl
 | n + 1=>by rw [List.replicate_succ,List.cons_append,show 32 :: (List.replicate n 32 ++ l) = [] ++ 32 :: (List.replicate n 32 ++ l) from rfl,wf_cat,wf_sps n];rfl
theorem wf_end {l:List Nat}:∀ n,wf (l ++ List.replicate n 32) = wf l
 | 0=>by simp
 | n + 1=>by
  have:=wf_sps (l:=[]) n
  rw [List.append_nil] at this
  rw [List.replicate_succ,wf_cat,this,wf_nil,List.append_nil]
theorem wf_one {w:List Nat}(hw:32 ∉ w)(h0:w ≠ []):wf w = [w]:=by
 unfold wf
 rw [splL_no hw,List.filter_cons,if_pos (by simpa using h0)];rfl
theorem wf_gap {l w:List Nat}{n:Nat}(hw:32 ∉ w)(h0:w ≠ []):wf (l ++ List.replicate (n + 1) 32 ++ w) = wf l ++ [w]:=by
 rw [List.replicate_succ,List.append_assoc,List.cons_append,wf_cat,wf_sps,wf_one hw h0]
theorem wf_0:∀ {l:List Nat},wf l = []->∀ c ∈ l,c = 32
 | [],_,c,hc=>by cases hc
 | x :: l,h,c,hc=>by
  by_cases hx:x = 32
  ·subst hx
   have e:wf (32 :: l) = wf l:=wf_sps (l:=l) 1
   rw [e] at h
   rcases List.mem_cons.mp hc with hc | hc
   ·exact hc
   ·exact wf_0 h c hc
  ·unfold wf splL at h
   rw [if_neg hx] at h
   cases hs:splL 32 l with
   | nil=>exact absurd hs (splL_ne _)
   | cons w ws=>rw [hs] at h;simp at h
theorem strp_is {c:Nat}{l:List Nat}:∃ n m,l = List.replicate n c ++ strp c l ++ List.replicate m c:=by
 have rep:∀ k:List Nat,∃ n,k.takeWhile (fun x=>x == c) = List.replicate n c:=fun k=>⟨_,List.eq_replicate_iff.mpr ⟨rfl,fun b hb=>by
  have:=List.all_takeWhile (p:=fun x=>x == c) (l:=k)
  have:=List.all_eq_true.mp this b hb
  simpa using this⟩⟩
 obtain ⟨n,hn⟩:=rep l
 obtain ⟨m,hm⟩:=rep (l.dropWhile fun x=>x == c).reverse
 refine ⟨n,m,?_⟩
 have e1:=List.takeWhile_append_dropWhile (p:=fun x=>x == c) (l:=l)
 have e2:=List.takeWhile_append_dropWhile (p:=fun x=>x == c) (l:=(l.dropWhile fun x=>x == c).reverse)
 rw [hn] at e1
 rw [hm] at e2
 have e3:=congrArg List.reverse e2
 rw [List.reverse_reverse,List.reverse_append,List.reverse_replicate] at e3
 unfold strp
 rw [List.append_assoc,e3,e1]
theorem wf_strp {l:List Nat}:wf (strp 32 l) = wf l:=by
 obtain ⟨n,m,e⟩:=strp_is (c:=32) (l:=l)
 have:wf (List.replicate n 32 ++ strp 32 l ++ List.replicate m 32) = wf (strp 32 l):=by rw [wf_end,wf_sps]
 rw [<- this,<- e]
theorem strp_mem {c x:Nat}{l:List Nat}(h:x ∈ strp c l):x ∈ l:=by
 obtain ⟨n,m,e⟩:=strp_is (c:=c) (l:=l)
 rw [e]
 exact List.mem_append_left _ (List.mem_append_right _ h)
theorem strp_0 {c:Nat}{l:List Nat}(h:∀ x ∈ l,x = c):strp c l = []:=by
 have:l = List.replicate l.length c:=List.eq_replicate_iff.mpr ⟨rfl,h⟩
 rw [this]
 unfold strp
 rw [List.dropWhile_replicate]
 simp
noncomputable def sg (c:Nat):Prop:=c = 45\/(48 <= c/\c <= 57)\/(97 <= c/\c <= 122)
noncomputable def wdOk (w:List Nat):Prop:=w ≠ []/\∀ c ∈ w,sg c
theorem wd_32 {w:List Nat}(h:wdOk w):32 ∉ w:=fun e=>by have:=h.2 _ e;unfold sg at this;omega
noncomputable def coreOk (ws:List (List Nat))(l:List Nat):Prop:=wf l = ws/\∀ c ∈ l,c = 32\/sg c
noncomputable def lineOk (ws:List (List Nat))(l:List Nat):Prop:=wordsL l = ws/\10 ∉ l/\58 ∉ bareL l/\(ws = []->bareL l = [])
theorem core_line {ws:List (List Nat)}{l m:List Nat}(h:coreOk ws l)(hm:m = []\/∃ k,m = 35 :: k/\10 ∉ k):lineOk ws (l ++ m):=by
 obtain ⟨h1,h2⟩:=h
 have n35:35 ∉ l:=fun e=>by have:=h2 _ e;unfold sg at this;omega
 have n10:10 ∉ l:=fun e=>by have:=h2 _ e;unfold sg at this;omega
 have n58:58 ∉ l:=fun e=>by have:=h2 _ e;unfold sg at this;omega
 have eb:bareL (l ++ m) = strp 32 l:=by
  unfold bareL
  rcases hm with rfl | ⟨k,rfl,_⟩
  ·rw [List.append_nil,tw_all n35]
  ·rw [tw_app n35]
 refine ⟨by rw [wordsL_wf,eb,wf_strp,h1],fun e=>?_,fun e=>?_,fun e=>?_⟩
 ·rcases List.mem_append.mp e with e | e
  ·exact n10 e
  ·rcases hm with rfl | ⟨k,rfl,hk⟩
   ·cases e
   ·rcases List.mem_cons.mp e with e | e
    ·cases e
    ·exact hk e
 ·rw [eb] at e
  exact n58 (strp_mem e)
 ·rw [eb]
  exact strp_0 (wf_0 (h1.trans e))
theorem core_join {ws:List (List Nat)}(h:∀ w ∈ ws,wdOk w):coreOk ws (joinL 32 ws):=by
 constructor
 ·cases ws with
  | nil=>rfl
  | cons w ws =>
   unfold wf
   rw [spl_join (by simp) fun v hv=>wd_32 (h v hv)]
   exact List.filter_eq_self.mpr fun v hv=>decide_eq_true (h v hv).1
 ·induction ws with
  | nil=>intro c hc;cases hc
  | cons w ws ih =>
   cases ws with
   | nil=>exact fun c hc=>.inr ((h w (List.mem_cons_self ..)).2 c hc)
   | cons u us =>
    intro c hc
    rw [joinL] at hc
    rcases List.mem_append.mp hc with hc | hc
    ·exact .inr ((h w (List.mem_cons_self ..)).2 c hc)
    ·rcases List.mem_cons.mp hc with hc | hc
     ·exact .inl hc
     ·exact ih (fun v hv=>h v (List.mem_cons_of_mem _ hv)) c hc
theorem tl_app {x y:PySem.Str}:tl (x ++ y) = tl x ++ tl y:=by
 show (x.cps ++ y.cps).toList = _
 simp [tl]
theorem tl_sj {c:Nat}:∀ {ts:List PySem.Str},tl (PySem.Str.join (mkS [c]) ts) = joinL c (ts.map tl)
 | []=>rfl
 | [x]=>rfl
 | x :: y :: l=>by
  have ih:=tl_sj (c:=c) (ts:=y :: l)
  show tl (x ++ mkS [c] ++ PySem.Str.join (mkS [c]) (y :: l)) = _
  rw [tl_app,tl_app,ih,tl_mk]
  show _ = tl x ++ c :: joinL c ((y :: l).map tl)
  rw [List.append_assoc]
  rfl
end
section
local macro_rules | `(tactic| walk_at "am1")=>`(tactic| with_reducible first
 | refine wp_tm ?_
 | refine wt_tm ?_
 | refine wp_tdx ?_
 | refine wp_tin ?_
 | refine wt_tin ?_
 | refine wp_tix ?_)
local macro_rules | `(tactic| walk_at "user0")=>`(tactic| with_reducible refine ex_str ?_)
theorem tl_neg {m:Nat}(h:0 < m):tl (PySem.Str.ofString (toString (-(m:Int)))) = 45 :: dg m:=by
 obtain ⟨k,rfl⟩:∃ k,m = k + 1:=⟨m - 1,by omega⟩
 have e:toString (-((k + 1:Nat):Int)) = "-" ++ toString (k + 1):=rfl
 rw [e]
 have h2:tl (PySem.Str.ofString (toString (k + 1))) = dg (k + 1):=tl_num (m:=k + 1)
 rw [<- h2]
 have s:∀ x:String,tl (PySem.Str.ofString x) = x.toList.map Char.toNat:=fun x=>by rw [PySem.Str.ofString_eq_toList]
 rw [s,s,String.toList_append]
 rfl
theorem figs:tl ("0123456789":PySem.Str) = [48,49,50,51,52,53,54,55,56,57]:=by decide +kernel
theorem lets:tl ("abcdefghijklmnopqrstuvwxyz":PySem.Str) = [97,98,99,100,101,102,103,104,105,106,107,108,109,110,111,112,113,114,115,116,117,118,119,120,121,122]:=by decide +kernel
theorem in_figs {c:Nat}:c ∈ tl ("0123456789":PySem.Str) ↔ 48 <= c/\c <= 57:=by
 rw [figs]
 simp only [List.mem_cons,List.not_mem_nil,or_false]
 omega
theorem in_lets {c:Nat}:c ∈ tl ("abcdefghijklmnopqrstuvwxyz":PySem.Str) ↔ 97 <= c/\c <= 122:=by
 rw [lets]
 simp only [List.mem_cons,List.not_mem_nil,or_false]
 omega
abbrev nS (m:Nat):PySem.Str:=PySem.Str.ofString (toString (m:Int))
theorem nS_len {m:Nat}:(nS m).length = (dg m).length:=by rw [len_tl,tl_num]
theorem dg_20 {m:Nat}(h:m < 18446744073709551616):(dg m).length <= 20:=(dg_len (by decide)).mpr (Nat.lt_of_lt_of_le h (by decide))
theorem dg_mono {m g:Nat}(h:m <= g):(dg m).length <= (dg g).length:=by
 have h0:0 < (dg g).length:=List.length_pos_iff.mpr dg_ne
 exact (dg_len h0).mpr (Nat.lt_of_le_of_lt h ((dg_len h0).mp (Nat.le_refl _)))
theorem dg_c {m c:Nat}(h:c ∈ dg m):48 <= c/\c <= 57:=dg_all c h
theorem number_in_w {k:Nat}{m g:Nat}{h:AH}{R:AV->AH->Prop}(hm:m <= g)(hg:g < 18446744073709551616)(q:∀ h',Kp h h'->R (.int m) h'):Wp (run pg (k + 2) f_number_in [.str (nS m),.int g]) h R:=by
 have big:10000 <= sizeLine:=by decide
 have l1:(nS m).length <= 20:=by rw [nS_len];exact dg_20 (by omega)
 have l2:(nS g).length <= 20:=by rw [nS_len];exact dg_20 hg
 have l3:(nS m).length <= (nS g).length:=by rw [nS_len,nS_len];exact dg_mono hm
 refine wp_run rfl rfl ?_
 unfold b_number_in
 repeat' walk_at "amb"
 refine made_of_w (k:=k) (by omega) fun h1 k1=>?_
 rw [decide_eq_true (show tl (nS m) ≠ []/\∀ c ∈ tl (nS m),c ∈ tl ("0123456789":PySem.Str) from ⟨by rw [tl_num];exact dg_ne,fun c hc=>in_figs.mpr (dg_c (by rw [tl_num] at hc;exact hc))⟩)]
 repeat' walk_at "amb"
 refine wg_lenS (by omega) ?_
 repeat' walk_at "amb"
 refine wg_str (small_log (by omega) (by omega)) ?_
 repeat' walk_at "amb"
 refine wg_lenS (z:=nS g) (by omega) ?_
 have fin:We (fun _ _=>False) (Bi.g .int [.str (nS m)]) h1 fun v h2=>Wt (fun _ _=>False) (exs1 (run pg (k + 1)) (.cons (.ret (.ite (.cmp .le (.var 2) (.var 1)) (.var 2) (.val .non))) .nil) [some (.str (nS m)),some (.int g),some v]) h2 (fun _ h1=>R .non h1) R (fun _ _=>False) (fun _ _=>False):=by
  refine wg_intS (by omega) ?_
  repeat' walk_at "amb"
  exact q _ k1
 repeat' walk_at "amb"
 ·rename_i hc
  repeat' walk_at "amb"
  rw [show ("0":PySem.Str) = mkS [48] from rfl]
  refine wg_sw ?_
  repeat' walk_at "amb"
  ·rename_i hd
   rw [tl_num] at hd
   have:=dg_head hd
   subst this
   exact absurd (str_ext (by rw [tl_num,dg_0];rfl)) hc
  ·exact fin
 ·exact fin
theorem not_label {k:Nat}{m:Nat}{h:AH}{R:AV->AH->Prop}(hm:m < 18446744073709551616)(q:∀ h',Kp h h'->R (.bl false) h'):Wp (run pg (k + 2) f_is_label [.str (nS m)]) h R:=by
 have l1:(nS m).length <= 20:=by rw [nS_len];exact dg_20 (by omega)
 refine wp_run rfl rfl ?_
 unfold b_is_label
 repeat' walk_at "amb"
 refine made_of_w (k:=k) (by omega) fun h1 k1=>?_
 rw [decide_eq_false (show ¬ (tl (nS m) ≠ []/\∀ c ∈ tl (nS m),c ∈ tl ("abcdefghijklmnopqrstuvwxyz":PySem.Str)) from fun ⟨_,e⟩=>by
  rw [tl_num] at e
  cases hd:dg m with
  | nil=>exact dg_ne hd
  | cons c l =>
   have h1:=in_lets.mp (e c (by rw [hd];exact List.mem_cons_self ..))
   have h2:=dg_c (m:=m) (by rw [hd];exact List.mem_cons_self ..)
   omega)]
 repeat' walk_at "amb"
 exact q _ k1
theorem target_in_w {k:Nat}{m:Nat}{h:AH}{R:AV->AH->Prop}(hm:m <= 400)(q:∀ h',Kp h h'->R (.int m) h'):Wp (run pg (k + 3) f_target_in [.str (nS m)]) h R:=by
 refine wp_run rfl rfl ?_
 unfold b_target_in
 repeat' walk_at "amb"
 refine not_label (k:=k) (by omega) fun h1 k1=>?_
 repeat' walk_at "amb"
 exact number_in_w (k:=k) (g:=400) hm (by decide) fun h2 k2=>q _ (k1.trans k2)
theorem step_in_w {k:Nat}{v:Int}{h:AH}{R:AV->AH->Prop}(h0:-999 <= v)(h1:v <= 999)(q:∀ h',Kp h h'->R (.int v) h'):Wp (run pg (k + 3) f_step_in [.str (PySem.Str.ofString (toString v))]) h R:=by
 have big:10000 <= sizeLine:=by decide
 refine wp_run rfl rfl ?_
 unfold b_step_in
 repeat' walk_at "amb"
 rw [show ("-":PySem.Str) = mkS [45] from rfl]
 refine wg_sw ?_
 by_cases hv:0 <= v
 ·obtain ⟨m,rfl⟩:=Int.eq_ofNat_of_zero_le hv
  rw [decide_eq_false (show ¬ (tl (nS m)).head? = some 45 from fun e=>by
   rw [tl_num] at e
   have:=dg_c (m:=m) (List.mem_of_head? e)
   omega)]
  repeat' walk_at "amb"
  exact number_in_w (k:=k + 1) (g:=999) (by omega) (by decide) fun h2 k2=>q _ k2
 ·obtain ⟨m,rfl⟩:∃ m:Nat,v = -(m:Int):=⟨v.natAbs,by omega⟩
  have hm:0 < m:=by omega
  have et:=tl_neg hm
  generalize PySem.Str.ofString (toString (-(m:Int))) = z at et
  rw [et,decide_eq_true (show (45 :: dg m).head? = some 45 from rfl)]
  have hl:z.length = (dg m).length + 1:=by rw [len_tl,et];rfl
  have hl2:=dg_20 (m:=m) (by omega)
  repeat' walk_at "amb"
  refine wg_slS (z:=z) (by omega) ?_
  rw [slice_1 (by omega),et,show mkS (List.drop 1 (45 :: dg m)) = nS m from str_ext (by rw [tl_mk,tl_num];rfl)]
  repeat' walk_at "amb"
  refine number_in_w (k:=k + 1) (g:=999) (by omega) (by decide) fun h2 k2=>?_
  repeat' walk_at "amb"
  exact q _ k2
end
section
local macro_rules | `(tactic| walk_at "am1")=>`(tactic| with_reducible first
 | refine wp_tm ?_
 | refine wt_tm ?_
 | refine wp_tdx ?_
 | refine wp_tin ?_
 | refine wt_tin ?_
 | refine wp_tix ?_)
local macro_rules | `(tactic| walk_at "user0")=>`(tactic| first
 | with_reducible refine ex_str ?_
 | ((with_reducible refine' if_df ?k1 ?_);(case k1=>assumption)))
noncomputable def bxL (x:Int):PySem.Str:=(["a","b","c","d","e","f","g","h"]:List PySem.Str).getD x.toNat ""
noncomputable def bxOk (b:Int):Prop:=0 <= b/\b < 8
theorem bx8 {x:Int}(h:bxOk x):atI ([.str "a",.str "b",.str "c",.str "d",.str "e",.str "f",.str "g",.str "h"]:List AV) x = some (.str (bxL x))/\atI ("abcdefgh":PySem.Str).cps.toList x = some (97 + x.toNat)/\bxL x = mkS [97 + x.toNat] /\
  inA (.str (bxL x)) [.str "a",.str "b",.str "c",.str "d",.str "e",.str "f",.str "g",.str "h"] = true/\(["a","b","c","d","e","f","g","h"]:List PySem.Str).idxOf? (bxL x) = some x.toNat:=by
 obtain ⟨h0,h1⟩:=h
 have:x = 0\/x = 1\/x = 2\/x = 3\/x = 4\/x = 5\/x = 6\/x = 7:=by omega
 rcases this with rfl | rfl | rfl | rfl | rfl | rfl | rfl | rfl <;> exact ⟨rfl,by decide +kernel,by decide +kernel,by decide +kernel,by decide +kernel⟩
structure Pt where
 f:PySem.Str
 v:Int
 t:PySem.Str
 b:Bool
noncomputable def ptB (x:Int):Pt:=⟨"box",x,bxL x,true⟩
noncomputable def ptN (f:PySem.Str)(v:Int):Pt:=⟨f,v,PySem.Str.ofString (toString v),false⟩
inductive PtOk:Pt->Prop
 | box {x:Int} (h:bxOk x):PtOk (ptB x)
 | word {v:Int} (h0:0 <= v) (h1:v < 18446744073709551616):PtOk (ptN "word" v)
 | step {v:Int} (h0:-999 <= v) (h1:v <= 999):PtOk (ptN "step" v)
 | target {v:Int} (h0:0 <= v) (h1:v <= 400):PtOk (ptN "target" v)
noncomputable def nmR:PRow->PySem.Str
 | .way w _ _ _=>w.nm | .set _ _=>"set" | .move _ _=>"move" | .load _ _ _=>"load" | .store _ _ _=>"store" | .jump _ _=>"jump" | .go _=>"go" | .fault _=>"fault"
noncomputable def psR:PRow->List Pt
 | .way _ x y z=>[ptB x,ptB y,ptB z] | .set x v=>[ptB x,ptN "word" v] | .move x y=>[ptB x,ptB y] | .load x y s=>[ptB x,ptB y,ptN "step" s] | .store x y s=>[ptB x,ptB y,ptN "step" s]
 | .jump x t=>[ptB x,ptN "target" t] | .go t=>[ptN "target" t] | .fault v=>[ptN "word" v]
theorem av_is (r:PRow):r.av = .tup (.str (nmR r) :: (psR r).map fun p=>.int p.v):=by cases r <;> rfl
theorem td_is (r:PRow):td_FORMS.lookup (nmR r) = some (.tup ((psR r).map fun p=>.str p.f)):=by
 cases r with
 | way w x y z=>cases w <;> rfl
 | _=>rfl
theorem ps_len (r:PRow):1 <= (psR r).length/\(psR r).length <= 3:=by cases r <;> simp [psR]
noncomputable def txR (r:PRow):List PySem.Str:=nmR r :: (psR r).map (·.t)
noncomputable def rOk (r:PRow):Prop:=∀ p ∈ psR r,PtOk p
theorem wd_num {m:Nat}:wdOk (tl (nS m)):=by
 rw [tl_num]
 exact ⟨dg_ne,fun c hc=>.inr (.inl (dg_c hc))⟩
theorem pt_wd {p:Pt}(h:PtOk p):wdOk (tl p.t)/\p.t.length <= 21:=by
 have num:∀ {v:Int},0 <= v->v < 18446744073709551616->wdOk (tl (PySem.Str.ofString (toString v)))/\(PySem.Str.ofString (toString v)).length <= 21:=fun {v} h0 h1=>by
  obtain ⟨m,rfl⟩:=Int.eq_ofNat_of_zero_le h0
  have:=dg_20 (m:=m) (by omega)
  exact ⟨wd_num,by rw [len_tl,tl_num];omega⟩
 cases h with
 | @box x h =>
  show wdOk (tl (bxL x))/\(bxL x).length <= 21
  have hx:=h.2
  have h0:=h.1
  rw [(bx8 h).2.2.1]
  refine ⟨⟨by simp,fun c hc=>?_⟩,show (1:Nat) <= 21 by decide⟩
  rw [tl_mk,List.mem_singleton] at hc
  unfold sg
  omega
 | word h0 h1=>exact num h0 h1
 | target h0 h1=>exact num h0 (by omega)
 | @step v h0 h1 =>
  by_cases hv:0 <= v
  ·exact num hv (by omega)
  ·obtain ⟨m,rfl⟩:∃ m:Nat,v = -(m:Int):=⟨v.natAbs,by omega⟩
   have:=dg_20 (m:=m) (by omega)
   have e:=tl_neg (m:=m) (by omega)
   refine ⟨?_,by show (PySem.Str.ofString (toString (-(m:Int)))).length <= 21;rw [len_tl,e,List.length_cons];omega⟩
   show wdOk (tl (PySem.Str.ofString (toString (-(m:Int)))))
   rw [e]
   refine ⟨by simp,fun c hc=>?_⟩
   rcases List.mem_cons.mp hc with rfl | hc
   ·exact .inl rfl
   ·exact .inr (.inl (dg_c hc))
noncomputable def chk (z:PySem.Str):Bool:=decide (tl z ≠ []) && (tl z).all (fun c=>decide (97 <= c/\c <= 122)) && decide (z.length <= 21)
theorem chk_wd {z:PySem.Str}(hz:chk z = true):wdOk (tl z)/\z.length <= 21:=by
 unfold chk at hz
 rw [Bool.and_eq_true,Bool.and_eq_true,decide_eq_true_eq,decide_eq_true_eq,List.all_eq_true] at hz
 exact ⟨⟨hz.1.1,fun c hc=>.inr (.inr (of_decide_eq_true (hz.1.2 c hc)))⟩,hz.2⟩
theorem chk_w (w:W12):chk w.nm = true:=by cases w <;> decide +kernel
theorem nm_wd (r:PRow):wdOk (tl (nmR r))/\(nmR r).length <= 21:=by
 apply chk_wd
 cases r with
 | way w x y z=>exact chk_w w
 | set=>exact (by decide +kernel:chk "set" = true)
 | move=>exact (by decide +kernel:chk "move" = true)
 | load=>exact (by decide +kernel:chk "load" = true)
 | store=>exact (by decide +kernel:chk "store" = true)
 | jump=>exact (by decide +kernel:chk "jump" = true)
 | go=>exact (by decide +kernel:chk "go" = true)
 | fault=>exact (by decide +kernel:chk "fault" = true)
theorem tx_wd {r:PRow}(h:rOk r){t:PySem.Str}(ht:t ∈ txR r):wdOk (tl t)/\t.length <= 21:=by
 rcases List.mem_cons.mp ht with rfl | ht
 ·exact nm_wd r
 ·obtain ⟨p,hp,rfl⟩:=List.mem_map.mp ht
  exact pt_wd (h p hp)
theorem at_nm (r:PRow):atI (AV.str (nmR r) :: (psR r).map fun p=>AV.int p.v) 0 = some (.str (nmR r)):=by cases r <;> rfl
theorem at_tx (r:PRow):atI ((txR r).map AV.str) 0 = some (.str (nmR r)):=by cases r <;> rfl
theorem box_in_w {k:Nat}{x:Int}{h:AH}{R:AV->AH->Prop}(hx:bxOk x)(q:R (.int x) h):Wp (run pg (k + 1) f_box_in [.str (bxL x)]) h R:=by
 obtain ⟨_,_,_,h1,h2⟩:=bx8 hx
 refine wp_run rfl rfl ?_
 unfold b_box_in
 repeat' walk_at "am"
 refine ex_bl ?_
 refine if_tru h1 ?_
 repeat' walk_at "amb"
 refine wg_tdx h2 ?_
 rw [Int.toNat_of_nonneg hx.1]
 exact q
theorem part_in_w {k:Nat}{p:Pt}{h:AH}{R:AV->AH->Prop}(hp:PtOk p)(q:∀ h',Kp h h'->R (.int p.v) h'):Wp (run pg (k + 4) f_part_in [.str p.f,.str p.t]) h R:=by
 refine wp_run rfl rfl ?_
 unfold b_part_in
 cases hp with
 | box hx =>
  dsimp only [ptB] at q ⊢
  repeat' walk_at "amb"
  exact box_in_w (k:=k + 2) hx (q _ Kp.refl)
 | word h0 h1 =>
  dsimp only [ptN] at q ⊢
  obtain ⟨m,rfl⟩:=Int.eq_ofNat_of_zero_le h0
  repeat' walk_at "amb"
  exact number_in_w (k:=k + 1) (g:=18446744073709551615) (by omega) (by decide) q
 | step h0 h1 =>
  dsimp only [ptN] at q ⊢
  repeat' walk_at "amb"
  exact step_in_w (k:=k) h0 h1 q
 | target h0 h1 =>
  dsimp only [ptN] at q ⊢
  obtain ⟨m,rfl⟩:=Int.eq_ofNat_of_zero_le h0
  repeat' walk_at "amb"
  exact target_in_w (k:=k) (by omega) q
theorem comp_zipVL {Xc:Nat->AH->Prop}{σ:ASt}{h:AH}{L1:List AV->AH->Prop}{n:Nat}{bb:Bool}{xs ys:List AV}{g:AV->ASt->M ASt}{me:ASt->M AV}(I:Nat->List AV->ASt->AH->Prop)(hl:xs.length = ys.length)(hn:xs.length < FU)(i0:I 0 [] σ h)(il:∀ i zs σ h,I i zs σ h->h.ob n = some (.lst bb ys))
  (turn:∀ (i:Nat) x y zs σ h,xs[i]? = some x->ys[i]? = some y->I i zs σ h->Wp (g (.tup [x,y]) σ) h fun σ1 h1=>Wp (me σ1) h1 fun z h3=>zs.length < sizeLine/\I (i + 1) (zs ++ [z]) σ1 h3)
  (done:∀ zs σ h,I xs.length zs σ h->L1 zs h):We Xc (compM (zipIt (valsIt xs) (listIt n)) g (fun _=>M.ret true) me FU 0 [] σ) h L1:=by
 refine compM_by I xs.length (fun i zs σ h hi hI=>?_) (fun zs σ h hI=>⟨by simp [zipIt,valsIt,list_it (il _ _ _ _ hI)],done zs σ h hI⟩) FU 0 [] σ h (Nat.zero_le _) (by omega) i0
 have e1:=List.getElem?_eq_getElem hi
 have e2:=List.getElem?_eq_getElem (show i < ys.length by omega)
 exact ⟨_,by simp only [zipIt,valsIt,e1,list_it (il _ _ _ _ hI),e2],(turn i _ _ zs σ h e1 e2 hI).mono fun σ1 h1 w=>tt_true w⟩
theorem row_in_w {k:Nat}{r:PRow}{z:PySem.Str}{h:AH}{R:AV->AH->Prop}(hr:rOk r)(hz:z.length <= 9000)(hw:wordsL (tl z) = (txR r).map tl)(q:∀ h',Kp h h'->R r.av h'):Wp (run pg (k + 5) f_row_in [.str z]) h R:=by
 have hl:=ps_len r
 refine wp_run rfl rfl ?_
 unfold b_row_in
 repeat' walk_at "amb"
 refine words_in_w (k:=k + 2) hz fun h1 n k1 hn ob=>?_
 have ew:((wordsL (tl z)).map fun w=>AV.str (mkS w)) = (txR r).map AV.str:=by
  rw [hw,List.map_map]
  exact List.map_congr_left fun t _=>congrArg AV.str mk_tl
 rw [ew] at ob
 have el:((txR r).map AV.str).length = (psR r).length + 1:=by simp [txR]
 repeat' walk_at "amb"
 refine wg_eqD rfl (eqA_emp ((new_old (Nat.ne_of_lt hn)).trans ob) new_ob) ?_
 rw [decide_eq_false (show ¬ (txR r).map AV.str = [] from by simp [txR])]
 have k2:Kp h (h1.new (.lst true [])):=k1.new
 have ob2:(h1.new (.lst true [])).ob n = some (.lst true ((txR r).map AV.str)):=(new_old (Nat.ne_of_lt hn)).trans ob
 have hn2:n < (h1.new (.lst true [])).nx:=Nat.lt_succ_of_lt hn
 generalize h1.new (.lst true []) = h2 at k2 ob2 hn2 ⊢
 clear ob hn k1 ew
 repeat' walk_at "amb"
 refine wg_ix (seq_ref ob2) (at_tx r) ?_
 refine wg_tin (td_is r) ?_
 repeat' walk_at "amb"
 refine wg_ix (seq_ref ob2) (at_tx r) ?_
 refine wg_tix (td_is r) ?_
 repeat' walk_at "amb"
 ·rename_i hc
  exact absurd (by rw [el,List.length_map];omega) hc
 refine wg_slr ob2 ?_
 have k3:Kp h (h2.new (.lst true (cutA ((txR r).map AV.str) (some 1) none))):=k2.new
 have ob3:(h2.new (.lst true (cutA ((txR r).map AV.str) (some 1) none))).ob n = some (.lst true ((txR r).map AV.str)):=(new_old (Nat.ne_of_lt hn2)).trans ob2
 have ob4:(h2.new (.lst true (cutA ((txR r).map AV.str) (some 1) none))).ob h2.nx = some (.lst true ((psR r).map fun p=>AV.str p.t)):=by
  rw [new_ob,show (some 1:Option Int) = some ((1:Nat):Int) from rfl,cut_drop]
  simp only [txR,List.map_cons,List.drop_succ_cons,List.drop_zero,List.map_map]
  rfl
 have hn3:n < (h2.new (.lst true (cutA ((txR r).map AV.str) (some 1) none))).nx:=Nat.lt_succ_of_lt hn2
 have hn4:h2.nx < (h2.new (.lst true (cutA ((txR r).map AV.str) (some 1) none))).nx:=Nat.lt_succ_self _
 generalize h2.nx = m at ob4 hn4 ⊢
 generalize h2.new (.lst true (cutA ((txR r).map AV.str) (some 1) none)) = h3 at k3 ob3 ob4 hn3 hn4 ⊢
 clear ob2 hn2 k2
 repeat' walk_at "amb"
 refine ⟨_,_,_,_,rfl,rfl,gIter_ref ob4,?_⟩
 refine comp_zipVL (n:=m) (xs:=(psR r).map fun p=>AV.str p.f) (ys:=(psR r).map fun p=>AV.str p.t) (fun i zs σ h'=>Kp h3 h'/\zs = ((psR r).take i).map (fun p=>AV.int p.v)/\∃ a b,σ = [a,b]) (by simp) (by rw [List.length_map,FU_eq];omega) ⟨Kp.refl,rfl,_,_,rfl⟩ (fun i zs σ h' y=>y.1.get hn4 ob4) ?_ ?_
 ·rintro i x y zs σ h' e1 e2 ⟨kp,rfl,a,b,rfl⟩
  obtain ⟨p,hp,rfl⟩:=map_at e1
  obtain ⟨p',hp',rfl⟩:=map_at e2
  cases Option.some.inj (hp.symm.trans hp')
  have hi:i < (psR r).length:=(List.getElem?_eq_some_iff.mp hp).1
  repeat' walk_at "amb"
  refine part_in_w (k:=k) (hr p (List.mem_of_getElem? hp)) fun h5 k5=>?_
  refine ⟨?_,kp.trans k5,?_,_,_,rfl⟩
  ·have e:sizeLine = 16777216:=sizeLine_eq
   rw [List.length_map,List.length_take]
   omega
  ·rw [List.take_add_one,hp]
   simp
 ·rintro zs σ h5 ⟨kp,rfl,a,b,rfl⟩
  rw [List.length_map,List.take_length]
  have k6:Kp h3 (h5.new (.lst true ((psR r).map fun p=>AV.int p.v))):=kp.new
  have ob6:(h5.new (.lst true ((psR r).map fun p=>AV.int p.v))).ob h5.nx = some (.lst true ((psR r).map fun p=>AV.int p.v)):=new_ob
  have hn6:h5.nx < (h5.new (.lst true ((psR r).map fun p=>AV.int p.v))).nx:=Nat.lt_succ_self _
  generalize h5.nx = j at ob6 hn6 ⊢
  generalize h5.new (.lst true ((psR r).map fun p=>AV.int p.v)) = h6 at k6 ob6 hn6 ⊢
  repeat' walk_at "amb"
  refine wi_ref ob6 ?_
  refine comp_list (bb:=true) (xs:=(psR r).map fun p=>AV.int p.v) (fun i ys σ h'=>h' = h6/\ys = ((psR r).take i).map (fun _=>AV.bl false)/\∃ a,σ = [a]) (by rw [List.length_map,FU_eq];omega) ⟨rfl,rfl,_,rfl⟩ (fun i zs σ h' y=>by rw [y.1];exact ob6) ?_ ?_
  ·rintro i x ys σ h' hx ⟨rfl,rfl,a,rfl⟩
   obtain ⟨p,hp,rfl⟩:=map_at hx
   have hi:i < (psR r).length:=(List.getElem?_eq_some_iff.mp hp).1
   repeat' walk_at "amb"
   refine ⟨?_,rfl,?_,_,rfl⟩
   ·have e:sizeLine = 16777216:=sizeLine_eq
    rw [List.length_map,List.length_take]
    omega
   ·rw [List.take_add_one,hp,List.map_append]
    rfl
  ·rintro ys σ h' ⟨rfl,rfl,a,rfl⟩
   rw [List.length_map,List.take_length]
   have ka:Kp h' (h'.new (.lst true ((psR r).map fun _=>AV.bl false))):=Kp.refl.new
   repeat' walk_at "amb"
   refine wg_any (bs:=(psR r).map fun _=>false) (by rw [new_ob,List.map_map];rfl) ?_
   rw [show ((psR r).map fun _=>false).any id = false from by simp]
   repeat' walk_at "amb"
   refine wg_ix (seq_ref ((k6.trans ka).get hn3 ob3)) (at_tx r) ?_
   repeat' walk_at "amb"
   refine wg_tuple (seq_ref (ka.get hn6 ob6)) ?_
   refine wg_catT ?_ ?_
   ·have e:sizeLine = 16777216:=sizeLine_eq
    simp only [List.length_cons,List.length_nil,List.length_map]
    omega
   have:=q _ (k3.trans (k6.trans ka))
   rw [av_is] at this
   exact this
end
section
local macro_rules | `(tactic| walk_at "am1")=>`(tactic| with_reducible first
 | refine wp_tm ?_
 | refine wt_tm ?_
 | refine wp_tdx ?_
 | refine wp_tin ?_
 | refine wt_tin ?_
 | refine wp_tix ?_)
theorem nm_jump (w:W12):¬ (w.nm = ("jump":PySem.Str)):=by cases w <;> decide
theorem nm_go (w:W12):¬ (w.nm = ("go":PySem.Str)):=by cases w <;> decide
local macro_rules | `(tactic| walk_at "user0")=>`(tactic| first
 | with_reducible refine ex_str ?_
 | ((with_reducible refine' if_df ?k1 ?_);(case k1=>first | assumption | exact nm_jump _ | exact nm_go _))
 | ((with_reducible refine' if_ndf ?k1 ?_);(case k1=>first | assumption | exact nm_jump _ | exact nm_go _)))
theorem label_in_w {k:Nat}{z:PySem.Str}{h:AH}{R:AV->AH->Prop}(hz:z.length <= 9000)(hc:58 ∉ bareL (tl z))(q:R .non h):Wp (run pg (k + 2) f_label_in [.str z]) h R:=by
 refine wp_run rfl rfl ?_
 unfold b_label_in
 repeat' walk_at "amb"
 refine bare_w (k:=k) (by omega) ?_
 repeat' walk_at "amb"
 rw [show (":":PySem.Str) = mkS [58] from rfl]
 refine wg_ew ?_
 rw [decide_eq_false (show ¬ (tl (mkS (bareL (tl z)))).getLast? = some 58 from fun e=>hc (List.mem_of_getLast? e))]
 repeat' walk_at "amb"
 exact q
noncomputable def LR (l:List Nat)(o:Option PRow):Prop:=l.length <= 1000/\58 ∉ bareL l/\match o with
 | none=>bareL l = []
 | some r=>rOk r/\wordsL l = (txR r).map tl
noncomputable def tdV (p:Int × PRow):AV:=.tup [.int p.1,.non,p.2.av]
theorem non_av (r:PRow):isNon r.av = false:=by cases r <;> rfl
noncomputable def tdI (h:AH)(tx:AV)(os:List (Option PRow))(t n:Nat)(ls:List AV)(i:Nat)(σ:ASt)(h':AH):Prop:=Kp h h'/\t < h'.nx/\n < h'.nx/\h'.ob n = some (.lst true ls)/\(∃ ts:List (Int × PRow),h'.ob t = some (.lst true (ts.map tdV))/\ts.map (·.2) = (os.take i).filterMap id/\ts.length <= i)/\∃ a b c d,σ = [some tx,some (.ref t),a,b,c,d]
theorem told_w {k:Nat}{z:PySem.Str}{os:List (Option PRow)}{h:AH}{R:AV->AH->Prop}(hz:z.length <= 1000000)(hl:(splL 10 (tl z)).length = os.length)(ho:os.length <= 10000)(hr:∀ (i:Nat) l o,(splL 10 (tl z))[i]? = some l->os[i]? = some o->LR l o)
  (q:∀ h' n (ts:List (Int × PRow)),Kp h h'->h.nx <= n->n < h'.nx->h'.ob n = some (.lst true (ts.map tdV))->ts.map (·.2) = os.filterMap id->ts.length <= 10000->R (.ref n) h'):Wp (run pg (k + 6) f_told_lines [.str z]) h R:=by
 have e:sizeLine = 16777216:=sizeLine_eq
 refine wp_run rfl rfl ?_
 unfold b_told_lines
 repeat' walk_at "amb"
 rw [show ("\n":PySem.Str) = mkS [10] from rfl]
 refine wg_sp (by decide) (by omega) ?_
 refine ⟨_,_,_,rfl,new_ob,?_⟩
 refine for_enum (tdI h (.str z) os h.nx (h.new (.lst true [])).nx ((splL 10 (tl z)).map fun w=>.str (mkS w))) (by rw [List.length_map,FU_eq];omega) ⟨Kp.refl.new.new,Nat.lt_succ_of_lt (Nat.lt_succ_self _),Nat.lt_succ_self _,new_ob,⟨[],(new_old (Nat.ne_of_lt (Nat.lt_succ_self _))).trans new_ob,rfl,Nat.le_refl _⟩,_,_,_,_,rfl⟩ (fun i σ h' y=>y.2.2.2.1) ?_ ?_
 ·rintro i x σ h1 hx ⟨kp,ht,hn,obn,⟨ts,obt,ets,htl⟩,a,b,c,d,rfl⟩
  obtain ⟨l,hx',rfl⟩:=map_at hx
  have hi:i < os.length:=by rw [<- hl];exact (List.getElem?_eq_some_iff.mp hx').1
  obtain ⟨o,hoo⟩:∃ o,os[i]? = some o:=⟨_,List.getElem?_eq_getElem hi⟩
  obtain ⟨r1,r2,r3⟩:=hr i l o hx' hoo
  have et:os.take (i + 1) = os.take i ++ [o]:=by rw [List.take_add_one,hoo];rfl
  have hlz:(mkS l).length <= 1000:=by rw [len_tl,tl_mk];exact r1
  have ne:h.nx ≠ (h.new (.lst true [])).nx:=Nat.ne_of_lt (Nat.lt_succ_self _)
  repeat' walk_at "amb"
  refine bare_w (k:=k + 4) (by omega) ?_
  rw [tl_mk]
  cases o with
  | none =>
   dsimp only at r3
   rw [r3]
   repeat' walk_at "amb"
   exact ⟨kp,ht,hn,obn,⟨ts,obt,by rw [ets,et,List.filterMap_append];simp,by omega⟩,_,_,_,_,rfl⟩
  | some r =>
   obtain ⟨r4,r5⟩:=r3
   have nb:¬ mkS (bareL l) = ("":PySem.Str):=fun e=>by
    have e2:bareL l = []:=mk_eq.mp e
    rw [wordsL_wf,e2] at r5
    cases r5
   repeat' walk_at "amb"
   refine label_in_w (k:=k + 3) (by omega) (by rw [tl_mk];exact r2) ?_
   repeat' walk_at "amb"
   refine row_in_w (k:=k) r4 (by omega) (by rw [tl_mk];exact r5) fun h2 k2=>?_
   repeat' walk_at "amb"
   refine if_fls (non_av r) ?_
   have obt2:=k2.get ht obt
   repeat' walk_at "amb"
   refine ⟨by simp only [isL,obt2],?_⟩
   repeat' walk_at "amb"
   refine wg_app obt2 (by rw [List.length_map];omega) ?_
   repeat' walk_at "amb"
   refine ⟨(kp.trans k2).put (Nat.le_refl _),Nat.lt_of_lt_of_le ht k2.nx,Nat.lt_of_lt_of_le hn k2.nx,(put_old ne.symm).trans (k2.get hn obn),⟨ts ++ [((i:Int),r)],?_,?_,?_⟩,_,_,_,_,rfl⟩
   ·rw [put_ob,List.map_append];rfl
   ·rw [List.map_append,ets,et,List.filterMap_append];rfl
   ·rw [List.length_append,List.length_singleton];omega
 ·rintro σ h1 ⟨kp,ht,hn,obn,⟨ts,obt,ets,htl⟩,a,b,c,d,rfl⟩
  rw [List.length_map,hl] at ets htl
  rw [List.take_length] at ets
  repeat' walk_at "amb"
  exact q _ _ ts kp (Nat.le_refl _) ht obt ets (by omega)
noncomputable def lbI (h:AH)(n d:Nat)(i:Nat)(σ:ASt)(h':AH):Prop:=Kp h h'/\d < h'.nx/\h'.ob d = some (.dct [])/\∃ (z:Int) (a b c:Option AV),σ = [some (.ref n),some (.ref d),some (.int z),a,b,c]
theorem labels_w {k n:Nat}{ts:List (Int × PRow)}{h:AH}{R:AV->AH->Prop}(ob:h.ob n = some (.lst true (ts.map tdV)))(hn:n < h.nx)(hl:ts.length <= 10000)(q:∀ h' d,Kp h h'->d < h'.nx->h'.ob d = some (.dct [])->R (.ref d) h'):Wp (run pg (k + 1) f_labels_in [.ref n]) h R:=by
 refine wp_run rfl rfl ?_
 unfold b_labels_in
 repeat' walk_at "amb"
 have ob1:(h.new (.dct [])).ob n = some (.lst true (ts.map tdV)):=(new_old (Nat.ne_of_lt hn)).trans ob
 refine wi_ref ob1 ?_
 refine for_listw (bb:=true) (xs:=ts.map tdV) (lbI h n h.nx) (by rw [List.length_map,FU_eq];omega) ⟨Kp.refl.new,Nat.lt_succ_self _,new_ob,_,_,_,_,rfl⟩ (fun i σ h' y=>y.1.get hn ob) ?_ ?_
 ·rintro i x σ h1 hx ⟨kp,hd,obd,z,a,b,c,rfl⟩
  obtain ⟨p,hp,rfl⟩:=map_at hx
  unfold tdV
  repeat' walk_at "amb"
  exact ⟨kp,hd,obd,_,_,_,_,rfl⟩
 ·rintro σ h1 ⟨kp,hd,obd,z,a,b,c,rfl⟩
  repeat' walk_at "amb"
  exact q _ _ kp hd obd
noncomputable def tgOk (m:Int):PRow->Prop
 | .jump _ t=>t <= m | .go t=>t <= m
 | _=>True
theorem aimed_w {k d:Nat}{r:PRow}{j m:Int}{h:AH}{R:AV->AH->Prop}(hr:tgOk m r)(q:R r.av h):Wp (run pg (k + 1) f_aimed [r.av,.int j,.ref d,.int m]) h R:=by
 refine wp_run rfl rfl ?_
 unfold b_aimed
 cases r <;> dsimp only [PRow.av] at q ⊢ <;> dsimp only [tgOk] at hr <;> repeat' walk_at "amb"
 all_goals exact q
noncomputable def rdI (h:AH)(f:(Int × PRow)->AV)(k:Nat)(ts:List (Int × PRow))(i:Nat)(ys:List AV)(σ:ASt)(h':AH):Prop:=Kp h h'/\ys = (ts.take i).map f/\σ.length = k
theorem read_w {k:Nat}{z:PySem.Str}{os:List (Option PRow)}{h:AH}{R:AV->AH->Prop}(hz:z.length <= 1000000)(hl:(splL 10 (tl z)).length = os.length)(ho:os.length <= 10000)(hr:∀ (i:Nat) l o,(splL 10 (tl z))[i]? = some l->os[i]? = some o->LR l o)(ht:∀ r ∈ os.filterMap id,tgOk (os.filterMap id).length r)
  (q:∀ h' n,Kp h h'->h.nx <= n->n < h'.nx->h'.ob n = some (.lst true ((os.filterMap id).map PRow.av))->R (.ref n) h'):Wp (run pg (k + 7) f_read [.str z]) h R:=by
 have e:sizeLine = 16777216:=sizeLine_eq
 refine wp_run rfl rfl ?_
 unfold b_read
 repeat' walk_at "amb"
 refine told_w (k:=k) hz hl ho hr fun h1 n ts k1 hn0 hn ob ets htl=>?_
 repeat' walk_at "amb"
 refine labels_w (k:=k + 5) ob hn htl fun h2 d k2 hd obd=>?_
 have ob2:=k2.get hn ob
 have hn2:=Nat.lt_of_lt_of_le hn k2.nx
 repeat' walk_at "amb"
 refine wi_ref ob2 ?_
 refine comp_listc (bb:=true) (xs:=ts.map tdV) (fun i ys σ h'=>h' = h2/\ys = (ts.take i).map (fun p=>AV.tup [.int p.1,p.2.av])/\∃ a b c,σ = [a,b,c]) (by rw [List.length_map,FU_eq];omega) ⟨rfl,rfl,_,_,_,rfl⟩ (fun i ys σ h' y=>by rw [y.1];exact ob2) ?_ ?_
 ·rintro i x ys σ h3 hx ⟨rfl,rfl,a,b,c,rfl⟩
  obtain ⟨p,hp,rfl⟩:=map_at hx
  have hi:i < ts.length:=(List.getElem?_eq_some_iff.mp hp).1
  refine (show Wp (M.ret [some (.int p.1),some .non,some p.2.av]) h3 _ from ?_)
  refine wp_ret ?_
  repeat' walk_at "amb"
  refine ⟨by rw [List.length_map,List.length_take];omega,rfl,?_,_,_,_,rfl⟩
  rw [List.take_add_one,hp,List.map_append];rfl
 ·rintro ys σ h3 ⟨rfl,rfl,a,b,c,rfl⟩
  rw [List.length_map,List.take_length]
  have k3:Kp h3 (h3.new (.lst true (ts.map fun p=>AV.tup [.int p.1,p.2.av]))):=Kp.refl.new
  have ob3:(h3.new (.lst true (ts.map fun p=>AV.tup [.int p.1,p.2.av]))).ob h3.nx = some (.lst true (ts.map fun p=>AV.tup [.int p.1,p.2.av])):=new_ob
  have hn3:h3.nx < (h3.new (.lst true (ts.map fun p=>AV.tup [.int p.1,p.2.av]))).nx:=Nat.lt_succ_self _
  generalize h3.nx = m at ob3 hn3 ⊢
  generalize h3.new (.lst true (ts.map fun p=>AV.tup [.int p.1,p.2.av])) = h4 at k3 ob3 hn3 ⊢
  have elen:ts.length = (os.filterMap id).length:=by rw [<- ets,List.length_map]
  repeat' walk_at "amb"
  refine wi_ref ob3 ?_
  refine comp_list (bb:=true) (xs:=ts.map fun p=>AV.tup [.int p.1,p.2.av]) (fun i ys σ h'=>h' = h4/\ys = (ts.take i).map (fun p=>p.2.av)/\∃ a b,σ = [a,b,some (.ref d),some (.ref m)]) (by rw [List.length_map,FU_eq];omega) ⟨rfl,rfl,_,_,rfl⟩ (fun i ys σ h' y=>by rw [y.1];exact ob3) ?_ ?_
  ·rintro i x ys σ h5 hx ⟨rfl,rfl,a,b,rfl⟩
   obtain ⟨p,hp,rfl⟩:=map_at hx
   have hi:i < ts.length:=(List.getElem?_eq_some_iff.mp hp).1
   have hm:p.2 ∈ os.filterMap id:=by rw [<- ets];exact List.mem_map.mpr ⟨p,List.mem_of_getElem? hp,rfl⟩
   repeat' walk_at "amb"
   refine aimed_w (k:=k + 5) (by rw [List.length_map,elen];exact ht _ hm) ?_
   refine ⟨by rw [List.length_map,List.length_take];omega,rfl,?_,_,_,rfl⟩
   rw [List.take_add_one,hp,List.map_append];rfl
  ·rintro ys σ h5 ⟨rfl,rfl,a,b,rfl⟩
   rw [List.length_map,List.take_length]
   have e2:ts.map (fun p=>p.2.av) = (os.filterMap id).map PRow.av:=by rw [<- ets,List.map_map];rfl
   rw [e2]
   have kk:=k1.trans (k2.trans k3)
   exact q _ _ kk.new kk.nx (Nat.lt_succ_self _) new_ob
end
section
local macro_rules | `(tactic| walk_at "am1")=>`(tactic| with_reducible first
 | refine wp_tm ?_
 | refine wt_tm ?_
 | refine wp_tix ?_)
local macro_rules | `(tactic| walk_at "user0")=>`(tactic| first
 | with_reducible refine ex_str ?_
 | ((with_reducible refine' if_df ?k1 ?_);(case k1=>assumption)))
theorem tl_join {c:Nat}{ts:List PySem.Str}:tl (Txt.join (mkS [c]) ts) = joinL c (ts.map tl):=by
 show tl (Builtin.Str.glued (mkS [c]) ts) = _
 rw [StrLaws.glued_eq_join,tl_sj]
theorem sum_le {L:Nat}:∀ {ts:List PySem.Str},(∀ t ∈ ts,t.length <= L)->(ts.map (·.length)).sum <= ts.length * L
 | [],_=>by simp
 | t :: ts,h=>by
  have h1:=h t (List.mem_cons_self ..)
  have h2:=sum_le fun x hx=>h x (List.mem_cons_of_mem _ hx)
  rw [List.map_cons,List.sum_cons,List.length_cons,Nat.succ_mul]
  omega
theorem join_ok {z:PySem.Str}{ts:List PySem.Str}{L M:Nat}(h:∀ t ∈ ts,t.length <= L)(hl:ts.length <= M)(hm:M * (L + 1) <= 1048576)(hz:z.length <= 16):JoinOk z ts = true:=by
 refine joinOk_of_weight ?_ hz
 have h1:=sum_le h
 have h2:ts.length * (L + 1) <= M * (L + 1):=Nat.mul_le_mul_right _ hl
 rw [Nat.mul_succ] at h2
 omega
theorem tx_len (r:PRow):(txR r).length <= 4:=by
 have:=ps_len r
 simp only [txR,List.length_cons,List.length_map]
 omega
theorem tx_join {r:PRow}(h:rOk r):JoinOk " " (txR r) = true:=join_ok (L:=21) (M:=4) (fun t ht=>(tx_wd h ht).2) (tx_len r) (by decide) (by decide)
noncomputable def lnR (r:PRow):PySem.Str:=Txt.join " " (txR r)
theorem joinL_len {c:Nat}:∀ {ws:List (List Nat)},(joinL c ws).length <= (ws.map (·.length)).sum + ws.length
 | []=>by simp [joinL]
 | [w]=>by simp [joinL]
 | w :: u :: ws=>by
  have:=joinL_len (c:=c) (ws:=u :: ws)
  rw [joinL,List.length_append,List.length_cons,List.map_cons,List.sum_cons,List.length_cons]
  omega
theorem ln_len {r:PRow}(h:rOk r):(lnR r).length <= 88:=by
 unfold lnR
 rw [show (" ":PySem.Str) = mkS [32] from rfl,len_tl,tl_join]
 have h1:=joinL_len (c:=32) (ws:=(txR r).map tl)
 have h2:=tx_len r
 have h3:=sum_le (L:=21) (ts:=txR r) fun t ht=>(tx_wd h ht).2
 have e:((txR r).map tl).map (·.length) = (txR r).map (·.length):=by
  rw [List.map_map]
  exact List.map_congr_left fun t _=>len_tl.symm
 rw [e,List.length_map] at h1
 have h4:(txR r).length * 21 <= 4 * 21:=Nat.mul_le_mul_right _ h2
 omega
theorem LR_of {r:PRow}{l:List Nat}(hr:rOk r)(hl:l.length <= 1000)(h:lineOk ((txR r).map tl) l):LR l (some r):=⟨hl,h.2.2.1,hr,h.1⟩
theorem LR_no {l:List Nat}(hl:l.length <= 1000)(h:lineOk [] l):LR l none:=⟨hl,h.2.2.1,h.2.2.2 rfl⟩
theorem tx_wds {r:PRow}(h:rOk r):∀ w ∈ (txR r).map tl,wdOk w:=fun w hw=>by
 obtain ⟨t,ht,rfl⟩:=List.mem_map.mp hw
 exact (tx_wd h ht).1
theorem ln_ok {r:PRow}(h:rOk r):lineOk ((txR r).map tl) (tl (lnR r)):=by
 have:=core_line (m:=[]) (core_join (tx_wds h)) (.inl rfl)
 rw [List.append_nil] at this
 unfold lnR
 rw [show (" ":PySem.Str) = mkS [32] from rfl,tl_join]
 exact this
theorem part_shown_w {k:Nat}{p:Pt}{h:AH}{R:AV->AH->Prop}(hp:PtOk p)(q:R (.str p.t) h):Wp (run pg (k + 1) f_part_shown [.str p.f,.int p.v]) h R:=by
 refine wp_run rfl rfl ?_
 unfold b_part_shown
 cases hp with
 | box hx =>
  dsimp only [ptB] at q ⊢
  repeat' walk_at "amb"
  exact wg_ix rfl (bx8 hx).1 q
 | word h0 h1 =>
  dsimp only [ptN] at q ⊢
  repeat' walk_at "amb"
  exact wg_str (small_log (by omega) (by omega)) q
 | step h0 h1 =>
  dsimp only [ptN] at q ⊢
  repeat' walk_at "amb"
  exact wg_str (small_log (by omega) (by omega)) q
 | target h0 h1 =>
  dsimp only [ptN] at q ⊢
  repeat' walk_at "amb"
  exact wg_str (small_log (by omega) (by omega)) q
theorem cut_ps (r:PRow):cutA (AV.str (nmR r) :: (psR r).map fun p=>AV.int p.v) (some 1) none = (psR r).map fun p=>AV.int p.v:=by cases r <;> rfl
theorem show_row_w {k:Nat}{r:PRow}{h:AH}{R:AV->AH->Prop}(hr:rOk r)(q:∀ h',Kp h h'->R (.str (lnR r)) h'):Wp (run pg (k + 2) f_show_row [r.av]) h R:=by
 refine wp_run rfl rfl ?_
 unfold b_show_row
 rw [av_is]
 repeat' walk_at "amb"
 refine wg_ix rfl (at_nm r) ?_
 refine wg_tix (td_is r) ?_
 repeat' walk_at "amb"
 have hl:=ps_len r
 refine wg_slt ?_ ?_
 ·have hn:(AV.str (nmR r) :: (psR r).map fun p=>AV.int p.v).length = (psR r).length + 1:=by simp
  rw [hn]
  rcases (show (psR r).length = 1\/(psR r).length = 2\/(psR r).length = 3 by omega) with e | e | e <;> rw [e] <;> decide
 rw [cut_ps]
 repeat' walk_at "amb"
 refine ⟨_,_,_,_,rfl,rfl,rfl,?_⟩
 refine comp_zip (xs:=(psR r).map fun p=>AV.str p.f) (ys:=(psR r).map fun p=>AV.int p.v) (fun i zs σ h'=>h' = h/\zs = ((psR r).take i).map (fun p=>AV.str p.t)/\∃ a b,σ = [a,b]) (by simp) (by rw [List.length_map,FU_eq];omega) ⟨rfl,rfl,_,_,rfl⟩ ?_ ?_
 ·rintro i x y zs σ h' e1 e2 ⟨rfl,rfl,a,b,rfl⟩
  obtain ⟨p,hp,rfl⟩:=map_at e1
  obtain ⟨p',hp',rfl⟩:=map_at e2
  cases Option.some.inj (hp.symm.trans hp')
  have hi:i < (psR r).length:=(List.getElem?_eq_some_iff.mp hp).1
  repeat' walk_at "amb"
  refine part_shown_w (k:=k) (hr p (List.mem_of_getElem? hp)) ?_
  refine ⟨?_,rfl,?_,_,_,rfl⟩
  ·have e:sizeLine = 16777216:=sizeLine_eq
   rw [List.length_map,List.length_take]
   omega
  ·rw [List.take_add_one,hp]
   simp
 ·rintro zs σ h' ⟨rfl,rfl,a,b,rfl⟩
  rw [List.length_map,List.take_length]
  repeat' walk_at "amb"
  refine wg_ix rfl (at_nm r) ?_
  repeat' walk_at "amb"
  refine wg_cat (xs:=[AV.str (nmR r)]) (ys:=(psR r).map fun p=>AV.str p.t) new_ob ((new_old (Nat.ne_of_lt (Nat.lt_succ_self _))).trans new_ob) ?_ ?_
  ·have e:sizeLine = 16777216:=sizeLine_eq
   simp only [List.length_cons,List.length_nil,List.length_map]
   omega
  refine wg_join (ts:=txR r) (b:=true) ?_ (tx_join hr) (q _ Kp.refl.new.new.new)
  rw [new_ob]
  simp [txR]
noncomputable def txP (rs:List PRow):PySem.Str:=Txt.join "\n" (rs.map lnR)
theorem shown_w {k n:Nat}{b:Bool}{rs:List PRow}{h:AH}{R:AV->AH->Prop}(ob:h.ob n = some (.lst b (rs.map PRow.av)))(hn:n < h.nx)(hl:rs.length <= 200)(hr:∀ r ∈ rs,rOk r)(q:∀ h',Kp h h'->R (.str (txP rs)) h'):Wp (run pg (k + 3) f_shown [.ref n]) h R:=by
 have e:sizeLine = 16777216:=sizeLine_eq
 refine wp_run rfl rfl ?_
 unfold b_shown
 repeat' walk_at "amb"
 refine wi_ref ob ?_
 refine comp_list (bb:=b) (xs:=rs.map PRow.av) (fun i zs σ h'=>Kp h h'/\zs = (rs.take i).map (fun r=>AV.str (lnR r))/\∃ a,σ = [a]) (by rw [List.length_map,FU_eq];omega) ⟨Kp.refl,rfl,_,rfl⟩ (fun i ys σ h' y=>y.1.get hn ob) ?_ ?_
 ·rintro i x zs σ h1 hx ⟨kp,rfl,a,rfl⟩
  obtain ⟨r,hrr,rfl⟩:=map_at hx
  have hi:i < rs.length:=(List.getElem?_eq_some_iff.mp hrr).1
  repeat' walk_at "amb"
  refine show_row_w (k:=k) (hr r (List.mem_of_getElem? hrr)) fun h2 k2=>?_
  refine ⟨by rw [List.length_map,List.length_take];omega,kp.trans k2,?_,_,rfl⟩
  rw [List.take_add_one,hrr,List.map_append];rfl
 ·rintro zs σ h1 ⟨kp,rfl,a,rfl⟩
  rw [List.length_map,List.take_length]
  refine wg_join (ts:=rs.map lnR) (b:=true) (by rw [new_ob,List.map_map];rfl) (join_ok (L:=88) (M:=200) (fun t ht=>?_) (by rw [List.length_map];exact hl) (by decide) (by decide)) (q _ kp.new)
  obtain ⟨r,hrr,rfl⟩:=List.mem_map.mp ht
  exact ln_len (hr r hrr)
theorem at_ps {r:PRow}{i:Nat}{p:Pt}(hp:(psR r)[i]? = some p):atI (AV.str (nmR r) :: (psR r).map fun p=>AV.int p.v) (1 + i) = some (.int p.v):=by
 have hl:=(ps_len r).2
 have hi:i < (psR r).length:=(List.getElem?_eq_some_iff.mp hp).1
 have h3:i = 0\/i = 1\/i = 2:=by omega
 rcases h3 with rfl | rfl | rfl <;> cases r <;> first | (cases hp;rfl) | cases hp
end
section
local macro_rules | `(tactic| walk_at "am1")=>`(tactic| with_reducible first
 | refine wp_tm ?_
 | refine wt_tm ?_
 | refine wp_tix ?_)
local macro_rules | `(tactic| walk_at "user0")=>`(tactic| first
 | with_reducible refine ex_str ?_
 | ((with_reducible refine' if_df ?k1 ?_);(case k1=>assumption)))
theorem boxed_w {k:Nat}{r:PRow}{i:Nat}{p:Pt}{h:AH}{R:AV->AH->Prop}(hp:(psR r)[i]? = some p)(q:R (.bl p.b) h):Wp (run pg (k + 1) f_law_boxed [.str (nmR r),.int (1 + i)]) h R:=by
 have hl:=(ps_len r).2
 have hi:i < (psR r).length:=(List.getElem?_eq_some_iff.mp hp).1
 have h3:i = 0\/i = 1\/i = 2:=by omega
 clear hl hi
 refine wp_run rfl rfl ?_
 unfold b_law_boxed
 cases r with
 | way w x y z =>
  have q:R (.bl true) h:=by rcases h3 with rfl | rfl | rfl <;> cases hp <;> exact q
  cases w <;> dsimp only [nmR,W12.nm] <;> (repeat' walk_at "amb") <;> exact q
 | _ =>
  rcases h3 with rfl | rfl | rfl <;> cases hp <;> dsimp only [nmR] <;> (repeat' walk_at "amb") <;> exact q
theorem pt_b {p:Pt}(h:PtOk p):(∃ x,bxOk x/\p = ptB x)\/∃ (f:PySem.Str) (v:Int),v.natAbs.log2 < 1920/\p = ptN f v:=by
 cases h with
 | box hx=>exact .inl ⟨_,hx,rfl⟩
 | word h0 h1=>exact .inr ⟨_,_,small_log (by omega) (by omega),rfl⟩
 | step h0 h1=>exact .inr ⟨_,_,small_log (by omega) (by omega),rfl⟩
 | target h0 h1=>exact .inr ⟨_,_,small_log (by omega) (by omega),rfl⟩
theorem words_w {k:Nat}{r:PRow}{h:AH}{R:AV->AH->Prop}(hr:rOk r)(q:∀ h' n,Kp h h'->n < h'.nx->h'.ob n = some (.lst true ((txR r).map AV.str))->R (.ref n) h'):Wp (run pg (k + 2) f_law_words [r.av]) h R:=by
 refine wp_run rfl rfl ?_
 unfold b_law_words
 rw [av_is]
 have hl:=ps_len r
 repeat' walk_at "amb"
 refine wg_ix rfl (at_nm r) ?_
 repeat' walk_at "amb"
 refine ex_rng2 ?_ ?_
 ·have e:(AV.str (nmR r) :: (psR r).map fun p=>AV.int p.v).length = (psR r).length + 1:=by simp
  rw [e]
  rcases (show (psR r).length = 1\/(psR r).length = 2\/(psR r).length = 3 by omega) with e | e | e <;> rw [e] <;> decide
 have e:(((AV.str (nmR r) :: (psR r).map fun p=>AV.int p.v).length:Int) - 1).toNat = (psR r).length:=by
  simp
 rw [e]
 refine for_rng (fun i σ h'=>(Kp h h'/\h.nx < h'.nx)/\h'.ob h.nx = some (.lst true ((nmR r :: ((psR r).take i).map (·.t)).map AV.str))/\∃ a,σ = [some (AV.tup (AV.str (nmR r) :: (psR r).map fun p=>AV.int p.v)),some (AV.ref h.nx),a]) (by rw [FU_eq];omega) ⟨⟨Kp.refl.new,Nat.lt_succ_self _⟩,new_ob,_,rfl⟩ ?_ ?_
 ·rintro i σ h' hi ⟨⟨kp,hx⟩,ho,a,rfl⟩
  have hp:(psR r)[i]? = some (psR r)[i]:=List.getElem?_eq_getElem hi
  have hk:=hr _ (List.getElem_mem hi)
  generalize (psR r)[i] = p at hp hk
  have hz:((nmR r :: ((psR r).take i).map (·.t)).map AV.str).length < sizeLine:=by
   have e:sizeLine = 16777216:=sizeLine_eq
   simp only [List.length_map,List.length_cons,List.length_take]
   omega
  have fin:∀ t,t = p.t->∀ a,((Kp h (h'.put h.nx (.lst true ((nmR r :: ((psR r).take i).map (·.t)).map AV.str ++ [AV.str t])))/\h.nx < (h'.put h.nx (.lst true ((nmR r :: ((psR r).take i).map (·.t)).map AV.str ++ [AV.str t]))).nx) /\
    (h'.put h.nx (.lst true ((nmR r :: ((psR r).take i).map (·.t)).map AV.str ++ [AV.str t]))).ob h.nx = some (.lst true ((nmR r :: ((psR r).take (i + 1)).map (·.t)).map AV.str))/\∃ b,[some (AV.tup (AV.str (nmR r) :: (psR r).map fun p=>AV.int p.v)),some (AV.ref h.nx),a] = [some (AV.tup (AV.str (nmR r) :: (psR r).map fun p=>AV.int p.v)),some (AV.ref h.nx),b]):=fun t ht a=>by
   subst ht
   refine ⟨⟨kp.put (Nat.le_refl _),hx⟩,?_,_,rfl⟩
   rw [put_ob,List.take_add_one,hp]
   simp
  repeat' walk_at "amb"
  refine wg_ix rfl (at_nm r) ?_
  repeat' walk_at "amb"
  refine boxed_w (k:=k) hp ?_
  rcases pt_b hk with ⟨x,hb,rfl⟩ | ⟨f,v,hv,rfl⟩
  ·obtain ⟨_,hc,ec,_⟩:=bx8 hb
   show We _ (gTruth (AV.bl true)) h' _
   repeat' walk_at "amb"
   refine ⟨by simp only [isL,ho],?_⟩
   repeat' walk_at "amb"
   refine wg_ix rfl (at_ps hp) ?_
   refine wg_ixs (by decide) hc ?_
   refine wg_app ho hz ?_
   repeat' walk_at "amb"
   exact fin _ ec.symm _
  ·show We _ (gTruth (AV.bl false)) h' _
   repeat' walk_at "amb"
   refine ⟨by simp only [isL,ho],?_⟩
   repeat' walk_at "amb"
   refine wg_ix rfl (at_ps hp) ?_
   repeat' walk_at "amb"
   refine wg_str hv ?_
   refine wg_app ho hz ?_
   repeat' walk_at "amb"
   exact fin _ rfl _
 ·rintro σ h' ⟨⟨kp,hx⟩,ho,a,rfl⟩
  rw [List.take_length] at ho
  repeat' walk_at "amb"
  exact q _ _ kp hx ho
theorem number_w {k:Nat}{c i:Int}{h:AH}{R:AV->AH->Prop}(h0:0 <= i)(h1:i < 1000)(q:∀ z,0 <= z->z < 2147483647->R (.int z) h):Wp (run pg (k + 1) f_law_number [.int c,.int i]) h R:=by
 refine wp_run rfl rfl ?_
 unfold b_law_number
 repeat' walk_at "amb"
 exact q _ (Int.emod_nonneg _ (by decide)) (Int.emod_lt_of_pos _ (by decide))
theorem word_w {k:Nat}{c p:Int}{h:AH}{R:AV->AH->Prop}(q:∀ w,0 <= w->w < 18446744073709551616->R (.int w) h):Wp (run pg (k + 1) f_law_word [.int c,.int p]) h R:=by
 refine wp_run rfl rfl ?_
 unfold b_law_word
 repeat' walk_at "amb"
 all_goals (refine q _ ?_ ?_ <;> (try dsimp only) <;> omega)
theorem at8 {i:Int}(h0:0 <= i)(h1:i < 8):∃ s,(-999 <= s/\s <= 999)/\atI ([.int 0,.int (-1),.int 1,.int (-999),.int 999,.int 10,.int (-10),.int 100]:List AV) i = some (.int s):=by
 have:i = 0\/i = 1\/i = 2\/i = 3\/i = 4\/i = 5\/i = 6\/i = 7:=by omega
 rcases this with rfl | rfl | rfl | rfl | rfl | rfl | rfl | rfl <;> exact ⟨_,⟨by decide,by decide⟩,rfl⟩
theorem step_w {k:Nat}{p:Int}{h:AH}{R:AV->AH->Prop}(q:∀ s h',Kp h h'->-999 <= s->s <= 999->R (.int s) h'):Wp (run pg (k + 1) f_law_step [.int p]) h R:=by
 refine wp_run rfl rfl ?_
 unfold b_law_step
 repeat' walk_at "amb"
 ·obtain ⟨s,hs,e⟩:=at8 (i:=p / 3 % 8) (by omega) (by omega)
  exact wg_ix (seq_ref new_ob) e (q _ _ Kp.refl.new hs.1 hs.2)
 ·refine q _ _ Kp.refl ?_ ?_ <;> omega
theorem way12d {i:Int}(h0:0 <= i)(h1:i < 12):∃ w:W12,atI ([.str "sum",.str "less",.str "times",.str "share",.str "rest",.str "both",.str "some",.str "odd",.str "up",.str "down",.str "below",.str "same"]:List AV) i = some (.str w.nm):=by
 have:i = 0\/i = 1\/i = 2\/i = 3\/i = 4\/i = 5\/i = 6\/i = 7\/i = 8\/i = 9\/i = 10\/i = 11:=by omega
 rcases this with rfl | rfl | rfl | rfl | rfl | rfl | rfl | rfl | rfl | rfl | rfl | rfl
 ·exact ⟨.sum,rfl⟩
 ·exact ⟨.less,rfl⟩
 ·exact ⟨.times,rfl⟩
 ·exact ⟨.share,rfl⟩
 ·exact ⟨.rest,rfl⟩
 ·exact ⟨.both,rfl⟩
 ·exact ⟨.some_,rfl⟩
 ·exact ⟨.odd,rfl⟩
 ·exact ⟨.up,rfl⟩
 ·exact ⟨.down,rfl⟩
 ·exact ⟨.below,rfl⟩
 ·exact ⟨.same,rfl⟩
theorem ok1 {a:Pt}(h:PtOk a):∀ p ∈ [a],PtOk p:=fun p hp=>by rcases List.mem_singleton.mp hp with rfl;exact h
theorem ok2 {a b:Pt}(h:PtOk a)(g:PtOk b):∀ p ∈ [a,b],PtOk p:=fun p hp=>by
 rcases List.mem_cons.mp hp with rfl | hp
 ·exact h
 ·exact ok1 g p hp
theorem ok3 {a b c:Pt}(h:PtOk a)(g:PtOk b)(f:PtOk c):∀ p ∈ [a,b,c],PtOk p:=fun p hp=>by
 rcases List.mem_cons.mp hp with rfl | hp
 ·exact h
 ·exact ok2 g f p hp
theorem row_w {k:Nat}{c i:Int}{m:Nat}{h:AH}{R:AV->AH->Prop}(h0:0 <= i)(h1:i < 1000)(hm:m <= 400)(q:∀ r h',Kp h h'->rOk r->tgOk m r->R r.av h'):Wp (run pg (k + 2) f_law_row [.int c,.int i,.int m]) h R:=by
 refine wp_run rfl rfl ?_
 unfold b_law_row
 repeat' walk_at "amb"
 refine number_w (k:=k) h0 h1 fun z z0 z1=>?_
 have hx:bxOk (z / 20 % 8):=⟨by omega,by omega⟩
 have hy:bxOk (z / 160 % 8):=⟨by omega,by omega⟩
 have hz:bxOk (z / 1280 % 8):=⟨by omega,by omega⟩
 have t0:0 <= z / 10240 % ((m:Int) + 1):=Int.emod_nonneg _ (by omega)
 have t1:z / 10240 % ((m:Int) + 1) < (m:Int) + 1:=Int.emod_lt_of_pos _ (by omega)
 have tm:PtOk (ptN "target" (z / 10240 % ((m:Int) + 1))):=.target t0 (by omega)
 repeat' walk_at "amb"
 refine ⟨rfl,?_⟩
 repeat' walk_at "amb"
 ·obtain ⟨w,hw⟩:=way12d (i:=z / 10240 % 12) (by omega) (by omega)
  refine wg_ix (seq_ref new_ob) hw ?_
  repeat' walk_at "amb"
  exact q (.way w _ _ _) _ Kp.refl.new (ok3 (.box hx) (.box hy) (.box hz)) trivial
 ·refine word_w (k:=k) fun w w0 w1=>?_
  repeat' walk_at "amb"
  exact q (.set _ w) _ Kp.refl.new (ok2 (.box hx) (.word w0 w1)) trivial
 ·exact q (.move _ _) _ Kp.refl.new (ok2 (.box hx) (.box hy)) trivial
 ·have hd:z % 20 % 2 = 0\/z % 20 % 2 = 1:=by omega
  rcases hd with hd | hd <;> rw [hd]
  ·refine wg_ix (seq_ref new_ob) (v:=.str "load") rfl ?_
   repeat' walk_at "amb"
   refine step_w (k:=k) fun s h2 kp s0 s1=>?_
   repeat' walk_at "amb"
   exact q (.load _ _ s) _ (Kp.refl.new.new.trans kp) (ok3 (.box hx) (.box hy) (.step s0 s1)) trivial
  ·refine wg_ix (seq_ref new_ob) (v:=.str "store") rfl ?_
   repeat' walk_at "amb"
   refine step_w (k:=k) fun s h2 kp s0 s1=>?_
   repeat' walk_at "amb"
   exact q (.store _ _ s) _ (Kp.refl.new.new.trans kp) (ok3 (.box hx) (.box hy) (.step s0 s1)) trivial
 ·exact q (.jump _ _) _ Kp.refl.new (ok2 (.box hx) tm) (show _ <= (m:Int) by omega)
 ·exact q (.go _) _ Kp.refl.new (ok1 tm) (show _ <= (m:Int) by omega)
 ·refine word_w (k:=k) fun w w0 w1=>?_
  repeat' walk_at "amb"
  exact q (.fault w) _ Kp.refl.new (ok1 (.word w0 w1)) trivial
end
section
local macro_rules | `(tactic| walk_at "am1")=>`(tactic| with_reducible first
 | refine wp_tm ?_
 | refine wt_tm ?_
 | refine wp_tix ?_)
local macro_rules | `(tactic| walk_at "user0")=>`(tactic| first
 | with_reducible refine ex_str ?_
 | ((with_reducible refine' if_df ?k1 ?_);(case k1=>assumption)))
noncomputable def someS:PySem.Str:=" !#$&'()*+,-./0123456789:;<=>?@ABCXYZ[]^_abcxyz{|}~"
theorem some_len:someS.length = 51:=by decide +kernel
theorem some_all:(tl someS).all (fun c=>decide (c ≠ 10)) = true:=by decide +kernel
theorem some_at {i:Int}(h0:0 <= i)(h1:i < 51):∃ c,c ≠ 10/\atI someS.cps.toList i = some c:=by
 obtain ⟨n,rfl⟩:=Int.eq_ofNat_of_zero_le h0
 have hn:n < (tl someS).length:=by rw [<- len_tl,some_len];omega
 have e:=List.getElem?_eq_getElem hn
 exact ⟨_,of_decide_eq_true (List.all_eq_true.mp some_all _ (List.getElem_mem hn)),atI_nat e⟩
theorem remark_w {k:Nat}{n:Int}{h:AH}{R:AV->AH->Prop}(h0:0 <= n)(h1:n < 2147483647)(q:∀ z m,tl z = 35 :: m->10 ∉ m->z.length <= 9->R (.str z) h):Wp (run pg (k + 1) f_law_remark [.int n]) h R:=by
 have e:sizeLine = 16777216:=sizeLine_eq
 refine wp_run rfl rfl ?_
 unfold b_law_remark
 rw [show (" !#$&'()*+,-./0123456789:;<=>?@ABCXYZ[]^_abcxyz{|}~":PySem.Str) = someS from rfl]
 repeat' walk_at "amb"
 refine for_rng (fun i σ h'=>h' = h/\∃ z m a b,σ = [some (.int n),some (.str someS),some (.str z),a,b]/\tl z = 35 :: m/\10 ∉ m/\z.length <= i + 1) (by rw [FU_eq];omega) ⟨rfl,_,[],_,_,rfl,by decide +kernel,by simp,by decide +kernel⟩ ?_ ?_
 ·rintro i σ h' hi ⟨rfl,z,m,a,b,rfl,ez,hm,hz⟩
  repeat' walk_at "amb"
  refine wg_fdiv (div_ok (by omega) (by omega)) ?_
  have h2:0 <= n / (0 + (i:Int) + 13):=Int.ediv_nonneg h0 (by omega)
  have h3:n / (0 + (i:Int) + 13) <= n:=Int.ediv_le_self _ h0
  repeat' walk_at "amb"
  refine wg_lenS (by rw [some_len];omega) ?_
  rw [some_len]
  repeat' walk_at "amb"
  obtain ⟨c,hc,ec⟩:=some_at (i:=(n / 9 + n / (0 + (i:Int) + 13) * (0 + (i:Int))) % ((51:Nat):Int)) (Int.emod_nonneg _ (by decide)) (Int.emod_lt_of_pos _ (by decide))
  refine wg_ixs (by rw [some_len];omega) ec ?_
  refine wg_addS (by show z.length + 1 <= _;omega) ?_
  repeat' walk_at "amb"
  refine ⟨rfl,_,m ++ [c],_,_,rfl,by rw [tl_app,ez];rfl,?_,?_⟩
  ·intro hh
   rcases List.mem_append.mp hh with hh | hh
   ·exact hm hh
   ·exact hc (List.mem_singleton.mp hh).symm
  ·rw [len_tl,tl_app,List.length_append,<- len_tl]
   show z.length + 1 <= _
   omega
 ·rintro σ h' ⟨rfl,z,m,a,b,rfl,ez,hm,hz⟩
  repeat' walk_at "amb"
  exact q z m ez hm (by omega)
theorem core_0 {n:Nat}:coreOk [] (List.replicate n 32):=by
 refine ⟨?_,fun c hc=>.inl (List.eq_of_mem_replicate hc)⟩
 have:=wf_sps (l:=[]) n
 rw [List.append_nil] at this
 exact this
theorem mem3 {l m:List Nat}{c:Nat}(h:∀ c ∈ l,c = 32\/sg c)(g:∀ c ∈ m,c = 32\/sg c)(hc:c ∈ l ++ m):c = 32\/sg c:=by
 rcases List.mem_append.mp hc with hc | hc
 ·exact h c hc
 ·exact g c hc
theorem core_first {l w:List Nat}(h:coreOk [] l)(hw:wdOk w):coreOk [w] (l ++ w):=by
 refine ⟨?_,fun c hc=>mem3 h.2 (fun c hc=>.inr (hw.2 c hc)) hc⟩
 have:l = List.replicate l.length 32:=List.eq_replicate_iff.mpr ⟨rfl,wf_0 h.1⟩
 rw [this,wf_sps,wf_one (wd_32 hw) hw.1]
theorem core_end {ws:List (List Nat)}{l:List Nat}{n:Nat}(h:coreOk ws l):coreOk ws (l ++ List.replicate n 32) :=
 ⟨by rw [wf_end];exact h.1,fun c hc=>mem3 h.2 (fun c hc=>.inl (List.eq_of_mem_replicate hc)) hc⟩
theorem core_gap {ws:List (List Nat)}{l w:List Nat}{n:Nat}(h:coreOk ws l)(hw:wdOk w):coreOk (ws ++ [w]) (l ++ List.replicate (n + 1) 32 ++ w) :=
 ⟨by rw [wf_gap (wd_32 hw) hw.1,h.1],fun c hc=>mem3 (core_end h).2 (fun c hc=>.inr (hw.2 c hc)) hc⟩
theorem line_w {k nw:Nat}{b:Bool}{n:Int}{ts:List PySem.Str}{h:AH}{R:AV->AH->Prop}(ob:h.ob nw = some (.lst b (ts.map AV.str)))(hl:ts.length <= 4)(hw:∀ t ∈ ts,wdOk (tl t)/\t.length <= 21)(h0:0 <= n)(h1:n < 2147483647)
  (q:∀ z,lineOk (ts.map tl) (tl z)->z.length <= 1000->R (.str z) h):Wp (run pg (k + 2) f_law_line [.ref nw,.int n]) h R:=by
 have e:sizeLine = 16777216:=sizeLine_eq
 refine wp_run rfl rfl ?_
 unfold b_law_line
 rw [show (" ":PySem.Str) = mkS [32] from rfl]
 repeat' walk_at "amb"
 refine wg_mulS (by omega) (by omega) ?_
 repeat' walk_at "amb"
 refine ⟨_,_,_,rfl,ob,?_⟩
 refine for_enum (xs:=ts.map AV.str) (fun i σ h'=>h' = h/\∃ z a b,σ = [some (.ref nw),some (.int n),some (.str z),a,b]/\coreOk ((ts.take i).map tl) (tl z)/\z.length <= 2 + 24 * i) (by rw [List.length_map,FU_eq];omega) ⟨rfl,_,_,_,rfl,core_0,?_⟩ (fun i σ h' y=>by rw [y.1];exact ob) ?_ ?_
 ·rw [len_tl,tl_mk,List.length_replicate];omega
 ·rintro i x σ h' hx ⟨rfl,z,a,b,rfl,hc,hz⟩
  obtain ⟨t,ht,rfl⟩:=map_at hx
  have hi:i < ts.length:=(List.getElem?_eq_some_iff.mp ht).1
  obtain ⟨wt,lt⟩:=hw t (List.mem_of_getElem? ht)
  have et:(ts.take (i + 1)).map tl = (ts.take i).map tl ++ [tl t]:=by rw [List.take_add_one,ht,List.map_append];rfl
  repeat' walk_at "amb"
  ·rename_i hk
   refine wg_fdiv (div_ok (by omega) (by omega)) ?_
   repeat' walk_at "amb"
   have hg:0 <= n / ((i:Int) + 3) % 3:=by omega
   have hg2:n / ((i:Int) + 3) % 3 < 3:=by omega
   generalize n / ((i:Int) + 3) % 3 = g at hg hg2 ⊢
   obtain ⟨g,rfl⟩:=Int.eq_ofNat_of_zero_le hg
   refine wg_mulS (by omega) (by omega) ?_
   have eg:(1 + (g:Int)).toNat = g + 1:=by omega
   rw [eg]
   have lg:(mkS (List.replicate (g + 1) 32)).length = g + 1:=by rw [len_tl,tl_mk,List.length_replicate]
   refine wg_addS (by omega) ?_
   have lz:(z ++ mkS (List.replicate (g + 1) 32)).length = z.length + (g + 1):=by rw [len_tl,tl_app,List.length_append,<- len_tl,<- len_tl,lg]
   repeat' walk_at "amb"
   refine wg_addS (by rw [lz];omega) ?_
   repeat' walk_at "amb"
   refine ⟨rfl,_,_,_,rfl,?_,?_⟩
   ·rw [et,tl_app,tl_app]
    exact core_gap hc wt
   ·rw [len_tl,tl_app,List.length_append,<- len_tl,<- len_tl,lz]
    omega
  ·rename_i hk
   have:i = 0:=by omega
   subst this
   refine wg_addS (by omega) ?_
   repeat' walk_at "amb"
   refine ⟨rfl,_,_,_,rfl,?_,?_⟩
   ·rw [et,tl_app]
    exact core_first hc wt
   ·rw [len_tl,tl_app,List.length_append,<- len_tl,<- len_tl]
    omega
 ·rintro σ h' ⟨rfl,z,a,b,rfl,hc,hz⟩
  rw [List.length_map] at hc hz
  rw [List.take_length] at hc
  repeat' walk_at "amb"
  have hg:0 <= n / 9 % 3:=by omega
  have hg2:n / 9 % 3 < 3:=by omega
  generalize n / 9 % 3 = g at hg hg2 ⊢
  obtain ⟨g,rfl⟩:=Int.eq_ofNat_of_zero_le hg
  refine wg_mulS (by omega) (by omega) ?_
  have lg:(mkS (List.replicate g 32)).length = g:=by rw [len_tl,tl_mk,List.length_replicate]
  rw [Int.toNat_natCast]
  refine wg_addS (by omega) ?_
  have lz:(z ++ mkS (List.replicate g 32)).length = z.length + g:=by rw [len_tl,tl_app,List.length_append,<- len_tl,<- len_tl,lg]
  have hc2:coreOk (ts.map tl) (tl (z ++ mkS (List.replicate g 32))):=by rw [tl_app];exact core_end hc
  repeat' walk_at "amb"
  ·refine remark_w (k:=k) (by omega) (by omega) fun y m ey hm ly=>?_
   refine wg_addS (by omega) ?_
   repeat' walk_at "amb"
   refine q _ ?_ ?_
   ·rw [tl_app,ey]
    exact core_line hc2 (.inr ⟨m,rfl,hm⟩)
   ·rw [len_tl,tl_app,List.length_append,<- len_tl,<- len_tl,lz]
    omega
  ·refine q _ ?_ (by omega)
   have:=core_line hc2 (m:=[]) (.inl rfl)
   rw [List.append_nil] at this
   exact this
end
section
local macro_rules | `(tactic| walk_at "user0")=>`(tactic| first
 | with_reducible refine ex_str ?_
 | ((with_reducible refine' if_df ?k1 ?_);(case k1=>assumption)))
noncomputable def Lns (ps:List (PySem.Str × Option PRow)):Prop:=∀ p ∈ ps,LR (tl p.1) p.2/\10 ∉ tl p.1
theorem Lns.add {ps:List (PySem.Str × Option PRow)}{p:PySem.Str × Option PRow}(h:Lns ps)(g:LR (tl p.1) p.2/\10 ∉ tl p.1):Lns (ps ++ [p]):=fun x hx=>by
 rcases List.mem_append.mp hx with hx | hx
 ·exact h x hx
 ·rw [List.mem_singleton.mp hx];exact g
theorem lns_len {ps:List (PySem.Str × Option PRow)}(h:Lns ps):∀ t ∈ ps.map (·.1),t.length <= 1000:=fun t ht=>by
 obtain ⟨p,hp,rfl⟩:=List.mem_map.mp ht
 rw [len_tl]
 exact (h p hp).1.1
theorem read_ps_w {k:Nat}{ps:List (PySem.Str × Option PRow)}{h:AH}{R:AV->AH->Prop}(hp:Lns ps)(hl:ps.length <= 500)(ht:∀ r ∈ ps.filterMap (·.2),tgOk (ps.filterMap (·.2)).length r)
  (q:∀ h' n,Kp h h'->h.nx <= n->n < h'.nx->h'.ob n = some (.lst true ((ps.filterMap (·.2)).map PRow.av))->R (.ref n) h'):Wp (run pg (k + 7) f_read [.str (Txt.join "\n" (ps.map (·.1)))]) h R:=by
 rw [show ("\n":PySem.Str) = mkS [10] from rfl]
 have hz:(Txt.join (mkS [10]) (ps.map (·.1))).length <= 1000000:=by
  rw [len_tl,tl_join]
  have h1:=joinL_len (c:=10) (ws:=(ps.map (·.1)).map tl)
  have h3:=sum_le (L:=1000) (lns_len hp)
  have e:((ps.map (·.1)).map tl).map (·.length) = (ps.map (·.1)).map (·.length):=by
   rw [List.map_map]
   exact List.map_congr_left fun t _=>len_tl.symm
  rw [e,List.length_map,List.length_map] at h1
  rw [List.length_map] at h3
  have h4:ps.length * 1000 <= 500 * 1000:=Nat.mul_le_mul_right _ hl
  omega
 cases hps:ps with
 | nil =>
  subst hps
  refine read_w (k:=k) (os:=[none]) hz rfl (by decide) (fun i l o e1 e2=>?_) (fun r hr=>by cases hr) q
  cases i with
  | zero=>cases e1;cases e2;exact ⟨Nat.zero_le _,by decide,rfl⟩
  | succ i=>cases e1
 | cons p0 ps0 =>
  rw [<- hps]
  have hne:ps ≠ []:=by rw [hps];simp
  have es:splL 10 (tl (Txt.join (mkS [10]) (ps.map (·.1)))) = (ps.map (·.1)).map tl:=by
   rw [tl_join,spl_join (by simpa using hne)]
   intro w hw
   obtain ⟨t,ht,rfl⟩:=List.mem_map.mp hw
   obtain ⟨p,hp',rfl⟩:=List.mem_map.mp ht
   exact (hp p hp').2
  have ef:(ps.map (·.2)).filterMap id = ps.filterMap (·.2):=by rw [List.filterMap_map];rfl
  refine read_w (k:=k) (os:=ps.map (·.2)) hz (by rw [es];simp) (by rw [List.length_map];omega) (fun i l o e1 e2=>?_) (by rw [ef];exact ht) (by rw [ef];exact q)
  rw [es,List.map_map,List.getElem?_map] at e1
  rw [List.getElem?_map] at e2
  cases hx:ps[i]? with
  | none=>rw [hx] at e1;cases e1
  | some p =>
   rw [hx] at e1 e2
   cases e1
   cases e2
   exact (hp p (List.mem_of_getElem? hx)).1
noncomputable def drI (h:AH)(np:Nat)(c:AV)(m:Nat)(rs:List PRow)(σ:ASt)(h':AH):Prop:=Kp h h'/\h.nx < h'.nx/\(∃ ps,h'.ob h.nx = some (.lst true (ps.map fun p=>.str p.1))/\Lns ps/\ps.filterMap (·.2) = rs/\ps.length <= m)/\∃ a b d e,σ = [some (.ref np),some c,some (.ref h.nx),a,b,d,e]
theorem drI.app {h h2:AH}{np m:Nat}{c:AV}{rs:List PRow}{ps:List (PySem.Str × Option PRow)}{z:PySem.Str}{o:Option PRow}{a b d e:Option AV}(kp:Kp h h2)(hx:h.nx < h2.nx)(ob:h2.ob h.nx = some (.lst true (ps.map fun p=>.str p.1)))(hp:Lns ps)(er:ps.filterMap (·.2) = rs)(hl:ps.length <= m)(g:LR (tl z) o/\10 ∉ tl z) :
  drI h np c (m + 1) (rs ++ o.toList) [some (.ref np),some c,some (.ref h.nx),a,b,d,e] (h2.put h.nx (.lst true (ps.map (fun p=>AV.str p.1) ++ [.str z]))):=by
 refine ⟨kp.put (Nat.le_refl _),hx,⟨ps ++ [(z,o)],by rw [put_ob,List.map_append];rfl,hp.add g,?_,by rw [List.length_append,List.length_singleton];omega⟩,_,_,_,_,rfl⟩
 rw [List.filterMap_append,er]
 cases o <;> rfl
theorem dressed_w {k np:Nat}{b:Bool}{c:Int}{rs:List PRow}{h:AH}{R:AV->AH->Prop}(ob:h.ob np = some (.lst b (rs.map PRow.av)))(hn:np < h.nx)(hl:rs.length <= 40)(hr:∀ r ∈ rs,rOk r)
  (q:∀ h' ps,Kp h h'->Lns ps->ps.filterMap (·.2) = rs->ps.length <= 200->R (.str (Txt.join "\n" (ps.map (·.1)))) h'):Wp (run pg (k + 3) f_law_dressed [.ref np,.int c]) h R:=by
 have e:sizeLine = 16777216:=sizeLine_eq
 refine wp_run rfl rfl ?_
 unfold b_law_dressed
 repeat' walk_at "amb"
 refine ⟨_,_,_,rfl,(new_old (Nat.ne_of_lt hn)).trans ob,?_⟩
 refine for_enum (xs:=rs.map PRow.av) (fun i σ h'=>drI h np (.int c) (3 * i) (rs.take i) σ h') (by rw [List.length_map,FU_eq];omega) ⟨Kp.refl.new,Nat.lt_succ_self _,⟨[],new_ob,(fun _ h=>by cases h),rfl,Nat.le_refl _⟩,_,_,_,_,rfl⟩ (fun i σ h' y=>y.1.get hn ob) ?_ ?_
 ·rintro i x σ h1 hx ⟨kp,hx1,⟨ps,obl,hp,er,hpl⟩,a,b,d,f,rfl⟩
  obtain ⟨r,hrr,rfl⟩:=map_at hx
  have hi:i < rs.length:=(List.getElem?_eq_some_iff.mp hrr).1
  have ok:=hr r (List.mem_of_getElem? hrr)
  have et:rs.take (i + 1) = rs.take i ++ (some r).toList:=by rw [List.take_add_one,hrr]
  repeat' walk_at "amb"
  refine number_w (k:=k + 1) (by omega) (by omega) fun z z0 z1=>?_
  repeat' walk_at "amb"
  refine for_rng (fun j σ h'=>drI h np (.int c) (3 * i + j) (rs.take i) σ h'/\σ[4]? = some (some r.av)/\σ[5]? = some (some (.int z))) (by rw [FU_eq];omega) ⟨⟨kp,hx1,⟨ps,obl,hp,er,hpl⟩,_,_,_,_,rfl⟩,rfl,rfl⟩ ?_ ?_
  ·rintro j σ h2 hj ⟨⟨kp2,hx2,⟨ps2,obl2,hp2,er2,hpl2⟩,a2,b2,d2,f2,rfl⟩,s4,s5⟩
   cases s4
   cases s5
   repeat' walk_at "amb"
   refine ⟨by simp only [isL,obl2],?_⟩
   repeat' walk_at "amb"
   refine wg_fdiv (div_ok (by omega) (by omega)) ?_
   have g0:0 <= z / (5 + (0 + (j:Int))):=Int.ediv_nonneg z0 (by omega)
   have g1:z / (5 + (0 + (j:Int))) <= z:=Int.ediv_le_self _ z0
   repeat' walk_at "amb"
   refine line_w (k:=k) (ts:=[]) new_ob (by decide) (fun t ht=>by cases ht) g0 (by omega) fun y hy hyl=>?_
   refine wg_app ((new_old (Nat.ne_of_lt hx2)).trans obl2) (by rw [List.length_map];omega) ?_
   repeat' walk_at "amb"
   refine ⟨?_,rfl,rfl⟩
   have:=drI.app (np:=np) (c:=.int c) (o:=none) (a:=a2) (b:=some r.av) (d:=some (.int z)) (e:=some (.int (0 + (j:Int)))) kp2.new (Nat.lt_succ_of_lt hx2) ((new_old (o:=.lst true []) (Nat.ne_of_lt hx2)).trans obl2) hp2 er2 hpl2 ⟨LR_no (by rw [<- len_tl];exact hyl) hy,hy.2.1⟩
   rw [show rs.take i ++ (none:Option PRow).toList = rs.take i from List.append_nil _] at this
   exact this
  ·rintro σ h2 ⟨⟨kp2,hx2,⟨ps2,obl2,hp2,er2,hpl2⟩,a2,b2,d2,f2,rfl⟩,s4,s5⟩
   cases s4
   cases s5
   repeat' walk_at "amb"
   refine ⟨by simp only [isL,obl2],?_⟩
   repeat' walk_at "amb"
   refine words_w (k:=k) ok fun h3 nw k3 hnw obw=>?_
   repeat' walk_at "amb"
   refine line_w (k:=k) (ts:=txR r) obw (tx_len r) (fun t ht=>tx_wd ok ht) (by omega) (by omega) fun y hy hyl=>?_
   refine wg_app (k3.get hx2 obl2) (by rw [List.length_map];omega) ?_
   repeat' walk_at "amb"
   obtain ⟨g1,g2,⟨ps4,g3,g4,g5,g6⟩,g7⟩:=drI.app (np:=np) (c:=.int c) (o:=some r) (a:=a2) (b:=some r.av) (d:=some (.int z)) (e:=f2) (kp2.trans k3) (Nat.lt_of_lt_of_le hx2 k3.nx) (k3.get hx2 obl2) hp2 er2 hpl2 ⟨LR_of ok (by rw [<- len_tl];exact hyl) hy,hy.2.1⟩
   exact ⟨g1,g2,⟨ps4,g3,g4,by rw [et];exact g5,by omega⟩,g7⟩
 ·rintro σ h1 ⟨kp,hx1,⟨ps,obl,hp,er,hpl⟩,a,b,d,f,rfl⟩
  rw [List.length_map] at er hpl
  rw [List.take_length] at er
  repeat' walk_at "amb"
  refine for_rng (fun j σ h'=>drI h np (.int c) (3 * rs.length + j) rs σ h') (by rw [FU_eq];omega) ⟨kp,hx1,⟨ps,obl,hp,er,hpl⟩,_,_,_,_,rfl⟩ ?_ ?_
  ·rintro j σ h2 hj ⟨kp2,hx2,⟨ps2,obl2,hp2,er2,hpl2⟩,a2,b2,d2,f2,rfl⟩
   repeat' walk_at "amb"
   refine ⟨by simp only [isL,obl2],?_⟩
   repeat' walk_at "amb"
   refine number_w (k:=k + 1) (by omega) (by omega) fun z z0 z1=>?_
   repeat' walk_at "amb"
   refine line_w (k:=k) (ts:=[]) new_ob (by decide) (fun t ht=>by cases ht) z0 z1 fun y hy hyl=>?_
   refine wg_app ((new_old (Nat.ne_of_lt hx2)).trans obl2) (by rw [List.length_map];omega) ?_
   repeat' walk_at "amb"
   have:=drI.app (np:=np) (c:=.int c) (o:=none) (a:=a2) (b:=b2) (d:=d2) (e:=some (.int (0 + (j:Int)))) kp2.new (Nat.lt_succ_of_lt hx2) ((new_old (o:=.lst true []) (Nat.ne_of_lt hx2)).trans obl2) hp2 er2 hpl2 ⟨LR_no (by rw [<- len_tl];exact hyl) hy,hy.2.1⟩
   rw [show rs ++ (none:Option PRow).toList = rs from List.append_nil _] at this
   exact this
  ·rintro σ h2 ⟨kp2,hx2,⟨ps2,obl2,hp2,er2,hpl2⟩,a2,b2,d2,f2,rfl⟩
   repeat' walk_at "amb"
   refine wg_join (ts:=ps2.map (·.1)) (b:=true) (by rw [obl2,List.map_map];rfl) (join_ok (L:=1000) (M:=200) (lns_len hp2) (by rw [List.length_map];omega) (by decide) (by decide)) ?_
   exact q _ ps2 kp2 hp2 er2 (by omega)
end
section
local macro_rules | `(tactic| walk_at "user0")=>`(tactic| first
 | with_reducible refine ex_str ?_
 | ((with_reducible refine' if_df ?k1 ?_);(case k1=>assumption)))
theorem eqA_i1 {h:AH}{n:Nat}{a:Int}:eqA h (n + 1) (.int a) (.int a) = some true:=by simp [eqA,flatA,eqFl]
theorem eqA_s1 {h:AH}{n:Nat}{a:PySem.Str}:eqA h (n + 1) (.str a) (.str a) = some true:=by simp [eqA,flatA,eqFl]
theorem eqA_same {h:AH}{n:Nat}{vs:List AV}(H:∀ v ∈ vs,eqA h n v v = some true):eqA h (n + 1) (.tup vs) (.tup vs) = some true:=by
 have e:eqAll (eqA h n) vs vs = some true:=eqAll_same rfl fun i x y e1 e2=>by
  cases Option.some.inj (e1.symm.trans e2)
  exact H x (List.mem_of_getElem? e1)
 show (if false = false then if false = true/\vs.length ≠ vs.length then some false else (eqAll (eqA h n) vs vs).map fun b=>b && decide (vs.length = vs.length) else some false) = _
 rw [e]
 simp
theorem eqA_row {h:AH}{n:Nat}{r:PRow}:eqA h (n + 2) r.av r.av = some true:=by
 rw [av_is]
 refine eqA_same fun v hv=>?_
 rcases List.mem_cons.mp hv with rfl | hv
 ·exact eqA_s1
 ·obtain ⟨p,_,rfl⟩:=List.mem_map.mp hv
  exact eqA_i1
theorem eqT_row {h:AH}{r:PRow}:eqT h r.av r.av = some true:=by
 have:=eqA_row (h:=h) (n:=10) (r:=r)
 rw [av_is] at this ⊢
 exact this
theorem eqL_row {h:AH}{n m:Nat}{b1 b2:Bool}{xs:List PRow}(e1:h.ob n = some (.lst b1 (xs.map PRow.av)))(e2:h.ob m = some (.lst b2 (xs.map PRow.av))):eqT h (.ref n) (.ref m) = some true :=
 eqT_lst e1 e2 (eqA_lst e1 e2 rfl (eqAll_same rfl fun i x y a b=>by
  cases Option.some.inj (a.symm.trans b)
  obtain ⟨r,_,rfl⟩:=map_at a
  exact eqA_row))
theorem cut_row {r:PRow}{h:AH}{V1:AV->AH->Prop}{Xc:Nat->AH->Prop}(q:V1 (.tup ((psR r).map fun p=>.int p.v)) h):We Xc (gSl r.av (some 1) none) h V1:=by
 have hl:=ps_len r
 rw [av_is]
 refine wg_slt ?_ ?_
 ·have hn:(AV.str (nmR r) :: (psR r).map fun p=>AV.int p.v).length = (psR r).length + 1:=by simp
  rw [hn]
  rcases (show (psR r).length = 1\/(psR r).length = 2\/(psR r).length = 3 by omega) with e | e | e <;> rw [e] <;> decide
 rw [cut_ps]
 exact q
theorem seq_av (r:PRow)(h:AH):seqOf h r.av = some (AV.str (nmR r) :: (psR r).map fun p=>.int p.v):=by rw [av_is];rfl
theorem bt_av (r:PRow)(h:AH):btOf h r.av = some .tup:=by rw [av_is];rfl
theorem sc_av (r:PRow):eqSc r.av r.av = none:=by rw [av_is];rfl
theorem alike_w {k nf nd:Nat}{b1 b2:Bool}{rs:List PRow}{h:AH}{R:AV->AH->Prop}(e1:h.ob nf = some (.lst b1 (rs.map PRow.av)))(e2:h.ob nd = some (.lst b2 (rs.map PRow.av)))(hl:rs.length <= 1000)(q:R (.bl true) h):Wp (run pg (k + 1) f_law_alike [.ref nf,.ref nd]) h R:=by
 have bt:btOf h (.ref nf) = some .lst:=by simp only [btOf,e1]
 refine wp_run rfl rfl ?_
 unfold b_law_alike
 repeat' walk_at "amb"
 refine wg_isa bt ?_
 repeat' walk_at "amb"
 refine ⟨_,_,_,_,rfl,gIter_ref e1,gIter_ref e2,?_⟩
 refine for_zipl (xs:=rs.map PRow.av) (ys:=rs.map PRow.av) (b1:=b1) (b2:=b2) (fun i σ h'=>h' = h/\∃ a b c,σ = [some (.ref nf),some (.ref nd),a,b,c]) rfl (by rw [List.length_map,FU_eq];omega) ⟨rfl,_,_,_,rfl⟩ (fun i σ h' y=>by rw [y.1];exact ⟨e1,e2⟩) ?_ ?_
 ·rintro i x y σ h' hx hy ⟨rfl,a,b,c,rfl⟩
  cases Option.some.inj (hx.symm.trans hy)
  obtain ⟨r,hr,rfl⟩:=map_at hx
  have hl:=ps_len r
  repeat' walk_at "amb"
  refine wg_isa (bt_av r _) ?_
  repeat' walk_at "amb"
  refine wg_len (seq_av r _) ?_
  repeat' walk_at "amb"
  refine wg_len (seq_av r _) ?_
  repeat' walk_at "amb"
  refine wg_ix (seq_av r _) (at_nm r) ?_
  repeat' walk_at "amb"
  refine wg_neD (sc_av r) eqT_row ?_
  repeat' walk_at "amb"
  refine cut_row ?_
  repeat' walk_at "amb"
  refine for_vals (xs:=(psR r).map fun p=>.int p.v) (fun i σ h''=>h'' = h'/\∃ c,σ = [some (.ref nf),some (.ref nd),some r.av,some r.av,c]) (by rw [List.length_map,FU_eq];omega) ⟨rfl,_,rfl⟩ ?_ ?_
  ·rintro j v σ h'' hv ⟨rfl,c,rfl⟩
   obtain ⟨p,_,rfl⟩:=map_at hv
   repeat' walk_at "amb"
   exact ⟨rfl,_,rfl⟩
  ·rintro σ h'' ⟨rfl,c,rfl⟩
   repeat' walk_at "amb"
   exact ⟨rfl,_,_,_,rfl⟩
 ·rintro σ h' ⟨rfl,a,b,c,rfl⟩
  repeat' walk_at "amb"
  exact q
theorem cell_w {k n i:Nat}{b:Bool}{ns:List Int}{h:AH}{R:AV->AH->Prop}(ob:h.ob n = some (.lst b (ns.map AV.int)))(q:∀ z,R (.int z) h):Wp (run pg (k + 1) f_law_cell_at [.ref n,.int i]) h R:=by
 refine wp_run rfl rfl ?_
 unfold b_law_cell_at
 repeat' walk_at "amb"
 ·rename_i hc
  exact wg_ix (seq_ref ob) (atI_ints (by omega) hc) (q _)
 ·exact q _
theorem program_w {k n:Nat}{b:Bool}{ns:List Int}{h:AH}{R:AV->AH->Prop}(ob:h.ob n = some (.lst b (ns.map AV.int)))(hn:n < h.nx)(hl:ns.length <= 63)
  (q:∀ (h':AH) (m:Nat) (rs:List PRow),Kp h h'->m < h'.nx->h'.ob m = some (.lst true (rs.map PRow.av))->rs.length <= 200->(∀ r ∈ rs,rOk r/\tgOk rs.length r)->R (.ref m) h'):Wp (run pg (k + 3) f_law_program [.ref n]) h R:=by
 have e:sizeLine = 16777216:=sizeLine_eq
 refine wp_run rfl rfl ?_
 unfold b_law_program
 repeat' walk_at "amb"
 refine wg_slr ob ?_
 rw [cut_map]
 have hcl:=cut_len ns (some 2) (some 42)
 generalize cutI ns (some 2) (some 42) = cs at hcl ⊢
 repeat' walk_at "amb"
 refine cell_w (k:=k + 1) ((new_old (Nat.ne_of_lt hn)).trans ob) fun z=>?_
 have k1:Kp h (h.new (.lst true (cs.map AV.int))):=Kp.refl.new
 have ob1:(h.new (.lst true (cs.map AV.int))).ob h.nx = some (.lst true (cs.map AV.int)):=new_ob
 have hn1:h.nx < (h.new (.lst true (cs.map AV.int))).nx:=Nat.lt_succ_self _
 generalize h.nx = c at ob1 hn1 ⊢
 generalize h.new (.lst true (cs.map AV.int)) = h1 at k1 ob1 hn1 ⊢
 repeat' walk_at "amb"
 ·have hm:∃ m:Nat,41 + z / 8 % 120 = (m:Int)/\m <= 160:=⟨(41 + z / 8 % 120).toNat,by omega,by omega⟩
  obtain ⟨m,em,hm⟩:=hm
  rw [em,Int.toNat_natCast]
  refine comp_rng (fun i ys σ h'=>h' = h1/\(∃ rs:List PRow,ys = rs.map PRow.av/\rs.length = i/\∀ r ∈ rs,rOk r/\tgOk m r)/\∃ a,σ = [a,some (.int z),some (.int m)]) (by rw [FU_eq];omega) ⟨rfl,⟨[],rfl,rfl,fun r hr=>by cases hr⟩,_,rfl⟩ ?_ ?_
  ·rintro i ys σ h' hi ⟨rfl,⟨rs,rfl,hrl,hr⟩,a,rfl⟩
   repeat' walk_at "amb"
   have t0:0 <= (z / 8 + (0 + (i:Int)) * (0 + (i:Int))) % ((m:Int) + 1):=Int.emod_nonneg _ (by omega)
   have t1:(z / 8 + (0 + (i:Int)) * (0 + (i:Int))) % ((m:Int) + 1) < (m:Int) + 1:=Int.emod_lt_of_pos _ (by omega)
   generalize (z / 8 + (0 + (i:Int)) * (0 + (i:Int))) % ((m:Int) + 1) = t at t0 t1 ⊢
   refine ⟨by rw [List.length_map];omega,rfl,⟨rs ++ [.go t],by rw [List.map_append];rfl,by rw [List.length_append,List.length_singleton];omega,fun r h=>?_⟩,_,rfl⟩
   rcases List.mem_append.mp h with h | h
   ·exact hr r h
   ·rw [List.mem_singleton.mp h]
    exact ⟨ok1 (.target t0 (by omega)),(show t <= (m:Int) by omega)⟩
  ·rintro ys σ h' ⟨rfl,⟨rs,rfl,hrl,hr⟩,a,rfl⟩
   exact q _ _ rs k1.new (Nat.lt_succ_self _) new_ob (by omega) (by rw [hrl];exact hr)
 ·refine ⟨_,_,_,rfl,ob1,?_⟩
  refine comp_enum (xs:=cs.map AV.int) (fun i ys σ h'=>Kp h1 h'/\(∃ rs:List PRow,ys = rs.map PRow.av/\rs.length = i/\∀ r ∈ rs,rOk r/\tgOk cs.length r)/\∃ a b,σ = [a,b,some (.ref c)]) (by rw [List.length_map,FU_eq];omega) ⟨Kp.refl,⟨[],rfl,rfl,fun r hr=>by cases hr⟩,_,_,rfl⟩ (fun i ys σ h' y=>y.1.get hn1 ob1) ?_ ?_
  ·rintro i x ys σ h' hx ⟨kp,⟨rs,rfl,hrl,hr⟩,a,b,rfl⟩
   obtain ⟨cc,hcc,rfl⟩:=map_at hx
   have hi:i < cs.length:=(List.getElem?_eq_some_iff.mp hcc).1
   repeat' walk_at "amb"
   refine wg_len (seq_ref (kp.get hn1 ob1)) ?_
   rw [List.length_map]
   repeat' walk_at "amb"
   refine row_w (k:=k) (by omega) (by omega) (by omega) fun r h2 k2 ok tg=>?_
   refine ⟨by rw [List.length_map];omega,kp.trans k2,⟨rs ++ [r],by rw [List.map_append];rfl,by rw [List.length_append,List.length_singleton];omega,fun r' h=>?_⟩,_,_,rfl⟩
   rcases List.mem_append.mp h with h | h
   ·exact hr r' h
   ·rw [List.mem_singleton.mp h]
    exact ⟨ok,tg⟩
  ·rintro ys σ h' ⟨kp,⟨rs,rfl,hrl,hr⟩,a,b,rfl⟩
   rw [List.length_map] at hrl
   exact q _ _ rs (k1.trans kp.new) (Nat.lt_succ_self _) new_ob (by omega) (by rw [hrl];exact hr)
end
section
local macro_rules | `(tactic| walk_at "user0")=>`(tactic| first
 | with_reducible refine ex_str ?_
 | ((with_reducible refine' if_df ?k1 ?_);(case k1=>assumption)))
noncomputable def psP (rs:List PRow):List (PySem.Str × Option PRow):=rs.map fun r=>(lnR r,some r)
theorem ps_is {rs:List PRow}:txP rs = Txt.join "\n" ((psP rs).map (·.1)):=by
 unfold txP psP
 rw [List.map_map];rfl
theorem ps_rs {rs:List PRow}:(psP rs).filterMap (·.2) = rs:=by
 unfold psP
 rw [List.filterMap_map]
 show rs.filterMap (fun r=>some r) = rs
 exact List.filterMap_some
theorem ps_ok {rs:List PRow}(h:∀ r ∈ rs,rOk r):Lns (psP rs):=fun p hp=>by
 obtain ⟨r,hr,rfl⟩:=List.mem_map.mp hp
 have ok:=h r hr
 have lo:=ln_ok ok
 exact ⟨LR_of ok (by rw [<- len_tl];exact Nat.le_trans (ln_len ok) (by decide)) lo,lo.2.1⟩
theorem read_tx_w {k:Nat}{rs:List PRow}{h:AH}{R:AV->AH->Prop}(hr:∀ r ∈ rs,rOk r/\tgOk rs.length r)(hl:rs.length <= 200)
  (q:∀ h' n,Kp h h'->h.nx <= n->n < h'.nx->h'.ob n = some (.lst true (rs.map PRow.av))->R (.ref n) h'):Wp (run pg (k + 7) f_read [.str (txP rs)]) h R:=by
 rw [ps_is]
 refine read_ps_w (k:=k) (ps_ok fun r h=>(hr r h).1) (by unfold psP;rw [List.length_map];omega) ?_ ?_
 ·rw [ps_rs];exact fun r h=>(hr r h).2
 ·rw [ps_rs];exact q
theorem isL_of {h:AH}{n:Nat}{xs:List AV}(e:h.ob n = some (.lst true xs)):isL h (.ref n) = true:=by simp only [isL,e]
theorem two_is:("go 0\nset a 7":PySem.Str) = txP [.go 0,.set 0 7]:=by decide +kernel
theorem two_ok:∀ r ∈ ([.go 0,.set 0 7]:List PRow),rOk r/\tgOk ([.go 0,.set 0 7]:List PRow).length r:=fun r h=>by
 rcases List.mem_cons.mp h with rfl | h
 ·exact ⟨ok1 (.target (by decide) (by decide)),show (0:Int) <= 2 by decide⟩
 ·rw [List.mem_singleton.mp h]
  exact ⟨ok2 (.box ⟨by decide,by decide⟩) (.word (by decide) (by decide)),trivial⟩
theorem keeps:Keeps pg 12 f_law:=Keeps.of fun ns hl=>by
 have e:sizeLine = 16777216:=sizeLine_eq
 refine wp_run rfl rfl ?_
 unfold b_law
 repeat' walk_at "amb"
 refine program_w (k:=8) (b:=false) (ns:=ns) rfl (show (0:Nat) < 1 by decide) hl fun h1 np rs k1 hnp obp hrl hrs=>?_
 have hr:∀ r ∈ rs,rOk r:=fun r h=>(hrs r h).1
 have hz:(0:Nat) < h1.nx:=Nat.lt_of_lt_of_le (show (0:Nat) < 1 by decide) k1.nx
 have ob0:h1.ob 0 = some (.lst false (ns.map AV.int)):=k1.get (show (0:Nat) < 1 by decide) rfl
 repeat' walk_at "amb"
 refine wg_list (seq_ref obp) ?_
 have k2:Kp h1 (h1.new (.lst true (rs.map PRow.av))):=Kp.refl.new
 have obh:(h1.new (.lst true (rs.map PRow.av))).ob h1.nx = some (.lst true (rs.map PRow.av)):=new_ob
 have hnh:h1.nx < (h1.new (.lst true (rs.map PRow.av))).nx:=Nat.lt_succ_self _
 generalize h1.nx = nh at obh hnh ⊢
 generalize h1.new (.lst true (rs.map PRow.av)) = h2 at k2 obh hnh ⊢
 have obp2:=k2.get hnp obp
 have hnp2:=Nat.lt_of_lt_of_le hnp k2.nx
 have ob02:=k2.get hz ob0
 have hz2:=Nat.lt_of_lt_of_le hz k2.nx
 clear obp hnp ob0 hz k1 k2
 repeat' walk_at "amb"
 refine shown_w (k:=8) obh hnh hrl hr fun h3 k3=>?_
 repeat' walk_at "amb"
 refine wi_ref (k3.get hnp2 obp2) ?_
 refine comp_list (bb:=true) (xs:=rs.map PRow.av) (fun i zs σ h'=>Kp h2 h'/\zs = (rs.take i).map (fun r=>AV.str (lnR r))/\∃ a,σ = [a]) (by rw [List.length_map,FU_eq];omega) ⟨k3,rfl,_,rfl⟩ (fun i ys σ h' y=>y.1.get hnp2 obp2) ?_ ?_
 ·rintro i x zs σ h4 hx ⟨kp,rfl,a,rfl⟩
  obtain ⟨r,hrr,rfl⟩:=map_at hx
  have ok:=hr r (List.mem_of_getElem? hrr)
  have hi:i < rs.length:=(List.getElem?_eq_some_iff.mp hrr).1
  repeat' walk_at "amb"
  refine words_w (k:=9) ok fun h5 nw k5 hnw obw=>?_
  refine wg_join obw (tx_join ok) ?_
  refine ⟨by rw [List.length_map,List.length_take];omega,kp.trans k5,?_,_,rfl⟩
  rw [List.take_add_one,hrr,List.map_append];rfl
 rintro zs σ h4 ⟨k4,rfl,a,rfl⟩
 rw [List.length_map,List.take_length]
 refine wg_join (ts:=rs.map lnR) (b:=true) (by rw [new_ob,List.map_map];rfl) (join_ok (L:=88) (M:=200) (fun t ht=>?_) (by rw [List.length_map];exact hrl) (by decide) (by decide)) ?_
 ·obtain ⟨r,hrr,rfl⟩:=List.mem_map.mp ht
  exact ln_len (hr r hrr)
 rw [show Txt.join "\n" (rs.map lnR) = txP rs from rfl]
 have k5:Kp h2 (h4.new (.lst true (rs.map fun r=>AV.str (lnR r)))):=k4.new
 generalize h4.new (.lst true (rs.map fun r=>AV.str (lnR r))) = h5 at k5 ⊢
 have obp5:=k5.get hnp2 obp2
 have hnp5:=Nat.lt_of_lt_of_le hnp2 k5.nx
 have ob05:=k5.get hz2 ob02
 have hz5:=Nat.lt_of_lt_of_le hz2 k5.nx
 have obh5:=k5.get hnh obh
 repeat' walk_at "amb"
 refine wg_neD rfl (eqL_row obh5 obp5) ?_
 repeat' walk_at "amb"
 refine read_tx_w (k:=4) hrs hrl fun h6 nf k6 hnf0 hnf obf=>?_
 have obp6:=k6.get hnp5 obp5
 have hnp6:=Nat.lt_of_lt_of_le hnp5 k6.nx
 have ob06:=k6.get hz5 ob05
 have hz6:=Nat.lt_of_lt_of_le hz5 k6.nx
 have hne:np ≠ nf:=Nat.ne_of_lt (Nat.lt_of_lt_of_le hnp5 hnf0)
 clear obp5 ob05 obh5 k5 k6 k4 k3 obh hnh obp2 ob02
 repeat' walk_at "amb"
 refine alike_w (k:=10) obf obp6 (by omega) ?_
 repeat' walk_at "amb"
 ·rfl
 have hl40:rs.length <= 40:=by
  have e1:(rs.map PRow.av).length = rs.length:=List.length_map _
  omega
 refine cell_w (k:=10) (i:=1) ob06 fun z=>?_
 repeat' walk_at "amb"
 refine dressed_w (k:=8) obp6 hnp6 hl40 hr fun h7 ps k7 hps er hpl=>?_
 repeat' walk_at "amb"
 refine read_ps_w (k:=4) hps (by omega) (by rw [er];exact fun r h=>(hrs r h).2) fun h8 nr k8 hnr0 hnr obr=>?_
 rw [er] at obr
 have k78:=k7.trans k8
 repeat' walk_at "amb"
 refine alike_w (k:=10) obr (k78.get hnp6 obp6) (by omega) ?_
 repeat' walk_at "amb"
 rw [two_is]
 refine read_tx_w (k:=4) two_ok (by decide) fun h9 nt k9 hnt0 hnt obt=>?_
 have k79:=k78.trans k9
 repeat' walk_at "amb"
 refine alike_w (k:=10) (rs:=[.go 0,.set 0 7]) ((new_old (Nat.ne_of_lt hnt)).trans obt) new_ob (by decide) ?_
 have ka:=k79.new (o:=.lst true ([.go 0,.set 0 7].map PRow.av))
 repeat' walk_at "amb"
 refine alike_w (k:=10) (ka.get hnf obf) (ka.get hnp6 obp6) (by omega) ?_
 repeat' walk_at "amb"
 refine ⟨isL_of (ka.get hnf obf),?_⟩
 repeat' walk_at "amb"
 refine wg_app (ka.get hnf obf) (by rw [List.length_map];omega) ?_
 repeat' walk_at "amb"
 refine read_tx_w (k:=4) hrs hrl fun hb nb kb hnb0 hnb obb=>?_
 repeat' walk_at "amb"
 refine alike_w (k:=10) obb (kb.get (Nat.lt_of_lt_of_le hnp6 ka.nx) ((put_old hne).trans (ka.get hnp6 obp6))) (by omega) ?_
 rfl
end
noncomputable def pr:Pr:=⟨[d_0,d_1,d_2,d_3,d_4,d_5,d_6,d_7,d_8,d_9,d_10,d_11,d_12,d_13,d_14,d_15,d_16,d_17,d_18,d_19,d_20,d_21,d_22,d_23,d_24,d_25,d_26,d_27,d_28,d_29,d_30],31,[("LETTERS",.str "abcdefghijklmnopqrstuvwxyz"),("FIGURES",.str "0123456789"),("BOXES",.tup [.str "a",.str "b",.str "c",.str "d",.str "e",.str "f",.str "g",.str "h"]),("LONGEST_LABEL",.int 8),("GREATEST_WORD",.int 18446744073709551615),("GREATEST_STEP",.int 999),("GREATEST_TARGET",.int 400)],["len","int","tuple","list","str","any","all","isinstance","bool","range","enumerate","zip"],[],[],[],[("FORMS",td_FORMS)],[("BOXES",["a","b","c","d","e","f","g","h"])]⟩
theorem e_0:pr.bodyOf d_0 = irL.getD 0 (0,0,.nil):=by kernel_rfl
theorem e_1:pr.bodyOf d_1 = irL.getD 1 (0,0,.nil):=by kernel_rfl
theorem e_2:pr.bodyOf d_2 = irL.getD 2 (0,0,.nil):=by kernel_rfl
theorem e_3:pr.bodyOf d_3 = irL.getD 3 (0,0,.nil):=by kernel_rfl
theorem e_4:pr.bodyOf d_4 = irL.getD 4 (0,0,.nil):=by kernel_rfl
theorem e_5:pr.bodyOf d_5 = irL.getD 5 (0,0,.nil):=by kernel_rfl
theorem e_6:pr.bodyOf d_6 = irL.getD 6 (0,0,.nil):=by kernel_rfl
theorem e_7:pr.bodyOf d_7 = irL.getD 7 (0,0,.nil):=by kernel_rfl
theorem e_8:pr.bodyOf d_8 = irL.getD 8 (0,0,.nil):=by kernel_rfl
theorem e_9:pr.bodyOf d_9 = irL.getD 9 (0,0,.nil):=by kernel_rfl
theorem e_10:pr.bodyOf d_10 = irL.getD 10 (0,0,.nil):=by kernel_rfl
theorem e_11:pr.bodyOf d_11 = irL.getD 11 (0,0,.nil):=by kernel_rfl
theorem e_12:pr.bodyOf d_12 = irL.getD 12 (0,0,.nil):=by kernel_rfl
theorem e_13:pr.bodyOf d_13 = irL.getD 13 (0,0,.nil):=by kernel_rfl
theorem e_14:pr.bodyOf d_14 = irL.getD 14 (0,0,.nil):=by kernel_rfl
theorem e_15:pr.bodyOf d_15 = irL.getD 15 (0,0,.nil):=by kernel_rfl
theorem e_16:pr.bodyOf d_16 = irL.getD 16 (0,0,.nil):=by kernel_rfl
theorem e_17:pr.bodyOf d_17 = irL.getD 17 (0,0,.nil):=by kernel_rfl
theorem e_18:pr.bodyOf d_18 = irL.getD 18 (0,0,.nil):=by kernel_rfl
theorem e_19:pr.bodyOf d_19 = irL.getD 19 (0,0,.nil):=by kernel_rfl
theorem e_20:pr.bodyOf d_20 = irL.getD 20 (0,0,.nil):=by kernel_rfl
theorem e_21:pr.bodyOf d_21 = irL.getD 21 (0,0,.nil):=by kernel_rfl
theorem e_22:pr.bodyOf d_22 = irL.getD 22 (0,0,.nil):=by kernel_rfl
theorem e_23:pr.bodyOf d_23 = irL.getD 23 (0,0,.nil):=by kernel_rfl
theorem e_24:pr.bodyOf d_24 = irL.getD 24 (0,0,.nil):=by kernel_rfl
theorem e_25:pr.bodyOf d_25 = irL.getD 25 (0,0,.nil):=by kernel_rfl
theorem e_26:pr.bodyOf d_26 = irL.getD 26 (0,0,.nil):=by kernel_rfl
theorem e_27:pr.bodyOf d_27 = irL.getD 27 (0,0,.nil):=by kernel_rfl
theorem e_28:pr.bodyOf d_28 = irL.getD 28 (0,0,.nil):=by kernel_rfl
theorem e_29:pr.bodyOf d_29 = irL.getD 29 (0,0,.nil):=by kernel_rfl
theorem e_30:pr.bodyOf d_30 = irL.getD 30 (0,0,.nil):=by kernel_rfl
theorem ir_eq:pr.ir = pg:=by
 have e:pr.defs.map pr.bodyOf = irL:=by
  show [pr.bodyOf d_0,pr.bodyOf d_1,pr.bodyOf d_2,pr.bodyOf d_3,pr.bodyOf d_4,pr.bodyOf d_5,pr.bodyOf d_6,pr.bodyOf d_7,pr.bodyOf d_8,pr.bodyOf d_9,pr.bodyOf d_10,pr.bodyOf d_11,pr.bodyOf d_12,pr.bodyOf d_13,pr.bodyOf d_14,pr.bodyOf d_15,pr.bodyOf d_16,pr.bodyOf d_17,pr.bodyOf d_18,pr.bodyOf d_19,pr.bodyOf d_20,pr.bodyOf d_21,pr.bodyOf d_22,pr.bodyOf d_23,pr.bodyOf d_24,pr.bodyOf d_25,pr.bodyOf d_26,pr.bodyOf d_27,pr.bodyOf d_28,pr.bodyOf d_29,pr.bodyOf d_30] = irL
  rw [e_0,e_1,e_2,e_3,e_4,e_5,e_6,e_7,e_8,e_9,e_10,e_11,e_12,e_13,e_14,e_15,e_16,e_17,e_18,e_19,e_20,e_21,e_22,e_23,e_24,e_25,e_26,e_27,e_28,e_29,e_30]
  rfl
 funext i
 show (pr.defs[i]?).map pr.bodyOf = irL[i]?
 rw [<- e,List.getElem?_map]
theorem sc_0:FnScope d_0.N d_0.ps (defScope d_0.st):=⟨by kernel_rfl,by kernel_rfl,by kernel_rfl,by decide +kernel,by kernel_rfl,by decide +kernel,by decide +kernel⟩
theorem sc_1:FnScope d_1.N d_1.ps (defScope d_1.st):=⟨by kernel_rfl,by kernel_rfl,by kernel_rfl,by decide +kernel,by kernel_rfl,by decide +kernel,by decide +kernel⟩
theorem sc_2:FnScope d_2.N d_2.ps (defScope d_2.st):=⟨by kernel_rfl,by kernel_rfl,by kernel_rfl,by decide +kernel,by kernel_rfl,by decide +kernel,by decide +kernel⟩
theorem sc_3:FnScope d_3.N d_3.ps (defScope d_3.st):=⟨by kernel_rfl,by kernel_rfl,by kernel_rfl,by decide +kernel,by kernel_rfl,by decide +kernel,by decide +kernel⟩
theorem sc_4:FnScope d_4.N d_4.ps (defScope d_4.st):=⟨by kernel_rfl,by kernel_rfl,by kernel_rfl,by decide +kernel,by kernel_rfl,by decide +kernel,by decide +kernel⟩
theorem sc_5:FnScope d_5.N d_5.ps (defScope d_5.st):=⟨by kernel_rfl,by kernel_rfl,by kernel_rfl,by decide +kernel,by kernel_rfl,by decide +kernel,by decide +kernel⟩
theorem sc_6:FnScope d_6.N d_6.ps (defScope d_6.st):=⟨by kernel_rfl,by kernel_rfl,by kernel_rfl,by decide +kernel,by kernel_rfl,by decide +kernel,by decide +kernel⟩
theorem sc_7:FnScope d_7.N d_7.ps (defScope d_7.st):=⟨by kernel_rfl,by kernel_rfl,by kernel_rfl,by decide +kernel,by kernel_rfl,by decide +kernel,by decide +kernel⟩
theorem sc_8:FnScope d_8.N d_8.ps (defScope d_8.st):=⟨by kernel_rfl,by kernel_rfl,by kernel_rfl,by decide +kernel,by kernel_rfl,by decide +kernel,by decide +kernel⟩
theorem sc_9:FnScope d_9.N d_9.ps (defScope d_9.st):=⟨by kernel_rfl,by kernel_rfl,by kernel_rfl,by decide +kernel,by kernel_rfl,by decide +kernel,by decide +kernel⟩
theorem sc_10:FnScope d_10.N d_10.ps (defScope d_10.st):=⟨by kernel_rfl,by kernel_rfl,by kernel_rfl,by decide +kernel,by kernel_rfl,by decide +kernel,by decide +kernel⟩
theorem sc_11:FnScope d_11.N d_11.ps (defScope d_11.st):=⟨by kernel_rfl,by kernel_rfl,by kernel_rfl,by decide +kernel,by kernel_rfl,by decide +kernel,by decide +kernel⟩
theorem sc_12:FnScope d_12.N d_12.ps (defScope d_12.st):=⟨by kernel_rfl,by kernel_rfl,by kernel_rfl,by decide +kernel,by kernel_rfl,by decide +kernel,by decide +kernel⟩
theorem sc_13:FnScope d_13.N d_13.ps (defScope d_13.st):=⟨by kernel_rfl,by kernel_rfl,by kernel_rfl,by decide +kernel,by kernel_rfl,by decide +kernel,by decide +kernel⟩
theorem sc_14:FnScope d_14.N d_14.ps (defScope d_14.st):=⟨by kernel_rfl,by kernel_rfl,by kernel_rfl,by decide +kernel,by kernel_rfl,by decide +kernel,by decide +kernel⟩
theorem sc_15:FnScope d_15.N d_15.ps (defScope d_15.st):=⟨by kernel_rfl,by kernel_rfl,by kernel_rfl,by decide +kernel,by kernel_rfl,by decide +kernel,by decide +kernel⟩
theorem sc_16:FnScope d_16.N d_16.ps (defScope d_16.st):=⟨by kernel_rfl,by kernel_rfl,by kernel_rfl,by decide +kernel,by kernel_rfl,by decide +kernel,by decide +kernel⟩
theorem sc_17:FnScope d_17.N d_17.ps (defScope d_17.st):=⟨by kernel_rfl,by kernel_rfl,by kernel_rfl,by decide +kernel,by kernel_rfl,by decide +kernel,by decide +kernel⟩
theorem sc_18:FnScope d_18.N d_18.ps (defScope d_18.st):=⟨by kernel_rfl,by kernel_rfl,by kernel_rfl,by decide +kernel,by kernel_rfl,by decide +kernel,by decide +kernel⟩
theorem sc_19:FnScope d_19.N d_19.ps (defScope d_19.st):=⟨by kernel_rfl,by kernel_rfl,by kernel_rfl,by decide +kernel,by kernel_rfl,by decide +kernel,by decide +kernel⟩
theorem sc_20:FnScope d_20.N d_20.ps (defScope d_20.st):=⟨by kernel_rfl,by kernel_rfl,by kernel_rfl,by decide +kernel,by kernel_rfl,by decide +kernel,by decide +kernel⟩
theorem sc_21:FnScope d_21.N d_21.ps (defScope d_21.st):=⟨by kernel_rfl,by kernel_rfl,by kernel_rfl,by decide +kernel,by kernel_rfl,by decide +kernel,by decide +kernel⟩
theorem sc_22:FnScope d_22.N d_22.ps (defScope d_22.st):=⟨by kernel_rfl,by kernel_rfl,by kernel_rfl,by decide +kernel,by kernel_rfl,by decide +kernel,by decide +kernel⟩
theorem sc_23:FnScope d_23.N d_23.ps (defScope d_23.st):=⟨by kernel_rfl,by kernel_rfl,by kernel_rfl,by decide +kernel,by kernel_rfl,by decide +kernel,by decide +kernel⟩
theorem sc_24:FnScope d_24.N d_24.ps (defScope d_24.st):=⟨by kernel_rfl,by kernel_rfl,by kernel_rfl,by decide +kernel,by kernel_rfl,by decide +kernel,by decide +kernel⟩
theorem sc_25:FnScope d_25.N d_25.ps (defScope d_25.st):=⟨by kernel_rfl,by kernel_rfl,by kernel_rfl,by decide +kernel,by kernel_rfl,by decide +kernel,by decide +kernel⟩
theorem sc_26:FnScope d_26.N d_26.ps (defScope d_26.st):=⟨by kernel_rfl,by kernel_rfl,by kernel_rfl,by decide +kernel,by kernel_rfl,by decide +kernel,by decide +kernel⟩
theorem sc_27:FnScope d_27.N d_27.ps (defScope d_27.st):=⟨by kernel_rfl,by kernel_rfl,by kernel_rfl,by decide +kernel,by kernel_rfl,by decide +kernel,by decide +kernel⟩
theorem sc_28:FnScope d_28.N d_28.ps (defScope d_28.st):=⟨by kernel_rfl,by kernel_rfl,by kernel_rfl,by decide +kernel,by kernel_rfl,by decide +kernel,by decide +kernel⟩
theorem sc_29:FnScope d_29.N d_29.ps (defScope d_29.st):=⟨by kernel_rfl,by kernel_rfl,by kernel_rfl,by decide +kernel,by kernel_rfl,by decide +kernel,by decide +kernel⟩
theorem sc_30:FnScope d_30.N d_30.ps (defScope d_30.st):=⟨by kernel_rfl,by kernel_rfl,by kernel_rfl,by decide +kernel,by kernel_rfl,by decide +kernel,by decide +kernel⟩
theorem lk_nil {α:Type}{x:Str}{v:α}(h:([]:List (Str × α)).lookup x = some v):False:=by cases h
theorem lk_cons {α:Type}{x k:Str}{v u:α}{r:List (Str × α)}(h:((k,u) :: r).lookup x = some v):(x = k/\v = u)\/r.lookup x = some v:=by
 rw [List.lookup_cons] at h
 split at h
 ·rename_i q;exact .inl ⟨eq_of_beq q,(Option.some.inj h).symm⟩
 ·exact .inr h
theorem lkn_nil {α:Type}{x:Nat}{v:α}(h:([]:List (Nat × α)).lookup x = some v):False:=by cases h
theorem lkn_cons {α:Type}{x k:Nat}{v u:α}{r:List (Nat × α)}(h:((k,u) :: r).lookup x = some v):(x = k/\v = u)\/r.lookup x = some v:=by
 rw [List.lookup_cons] at h
 split at h
 ·rename_i q;exact .inl ⟨eq_of_beq q,(Option.some.inj h).symm⟩
 ·exact .inr h
theorem lkm_nil {α:Type}{x:Str × Nat}{v:α}(h:([]:List ((Str × Nat) × α)).lookup x = some v):False:=by cases h
theorem lkm_cons {α:Type}{x y:Str}{m n:Nat}{v u:α}{r:List ((Str × Nat) × α)}(h:(((y,m),u) :: r).lookup (x,n) = some v):(x = y/\n = m/\v = u)\/r.lookup (x,n) = some v:=by
 rw [List.lookup_cons] at h
 split at h
 ·rename_i q;have q:=eq_of_beq q;cases q;exact .inl ⟨rfl,rfl,(Option.some.inj h).symm⟩
 ·exact .inr h
theorem all_mk {l:PySem.W.OpenLaw} {w:World} {K:PySem.W.Frag} {h:Heap} {mg:Str->Option Value} {fa:Addr} (X:K.In h) (G:h.Ns mainGlobals mg) (hfa:mg "law" = some (.ref fa))
  {f_0:Addr} {oc_0 kV_0 dc_0 pm_0 cd_0 ct_0:Value} {od_0 an_0:Option Addr} {sl_0:Array (Option Value)}
  {f_1:Addr} {oc_1 kV_1 dc_1 pm_1 cd_1 ct_1:Value} {od_1 an_1:Option Addr} {sl_1:Array (Option Value)}
  {f_2:Addr} {oc_2 kV_2 dc_2 pm_2 cd_2 ct_2:Value} {od_2 an_2:Option Addr} {sl_2:Array (Option Value)}
  {f_3:Addr} {oc_3 kV_3 dc_3 pm_3 cd_3 ct_3:Value} {od_3 an_3:Option Addr} {sl_3:Array (Option Value)}
  {f_4:Addr} {oc_4 kV_4 dc_4 pm_4 cd_4 ct_4:Value} {od_4 an_4:Option Addr} {sl_4:Array (Option Value)}
  {f_5:Addr} {oc_5 kV_5 dc_5 pm_5 cd_5 ct_5:Value} {od_5 an_5:Option Addr} {sl_5:Array (Option Value)}
  {f_6:Addr} {oc_6 kV_6 dc_6 pm_6 cd_6 ct_6:Value} {od_6 an_6:Option Addr} {sl_6:Array (Option Value)}
  {f_7:Addr} {oc_7 kV_7 dc_7 pm_7 cd_7 ct_7:Value} {od_7 an_7:Option Addr} {sl_7:Array (Option Value)}
  {f_8:Addr} {oc_8 kV_8 dc_8 pm_8 cd_8 ct_8:Value} {od_8 an_8:Option Addr} {sl_8:Array (Option Value)}
  {f_9:Addr} {oc_9 kV_9 dc_9 pm_9 cd_9 ct_9:Value} {od_9 an_9:Option Addr} {sl_9:Array (Option Value)}
  {f_10:Addr} {oc_10 kV_10 dc_10 pm_10 cd_10 ct_10:Value} {od_10 an_10:Option Addr} {sl_10:Array (Option Value)}
  {f_11:Addr} {oc_11 kV_11 dc_11 pm_11 cd_11 ct_11:Value} {od_11 an_11:Option Addr} {sl_11:Array (Option Value)}
  {f_12:Addr} {oc_12 kV_12 dc_12 pm_12 cd_12 ct_12:Value} {od_12 an_12:Option Addr} {sl_12:Array (Option Value)}
  {f_13:Addr} {oc_13 kV_13 dc_13 pm_13 cd_13 ct_13:Value} {od_13 an_13:Option Addr} {sl_13:Array (Option Value)}
  {f_14:Addr} {oc_14 kV_14 dc_14 pm_14 cd_14 ct_14:Value} {od_14 an_14:Option Addr} {sl_14:Array (Option Value)}
  {f_15:Addr} {oc_15 kV_15 dc_15 pm_15 cd_15 ct_15:Value} {od_15 an_15:Option Addr} {sl_15:Array (Option Value)}
  {f_16:Addr} {oc_16 kV_16 dc_16 pm_16 cd_16 ct_16:Value} {od_16 an_16:Option Addr} {sl_16:Array (Option Value)}
  {f_17:Addr} {oc_17 kV_17 dc_17 pm_17 cd_17 ct_17:Value} {od_17 an_17:Option Addr} {sl_17:Array (Option Value)}
  {f_18:Addr} {oc_18 kV_18 dc_18 pm_18 cd_18 ct_18:Value} {od_18 an_18:Option Addr} {sl_18:Array (Option Value)}
  {f_19:Addr} {oc_19 kV_19 dc_19 pm_19 cd_19 ct_19:Value} {od_19 an_19:Option Addr} {sl_19:Array (Option Value)}
  {f_20:Addr} {oc_20 kV_20 dc_20 pm_20 cd_20 ct_20:Value} {od_20 an_20:Option Addr} {sl_20:Array (Option Value)}
  {f_21:Addr} {oc_21 kV_21 dc_21 pm_21 cd_21 ct_21:Value} {od_21 an_21:Option Addr} {sl_21:Array (Option Value)}
  {f_22:Addr} {oc_22 kV_22 dc_22 pm_22 cd_22 ct_22:Value} {od_22 an_22:Option Addr} {sl_22:Array (Option Value)}
  {f_23:Addr} {oc_23 kV_23 dc_23 pm_23 cd_23 ct_23:Value} {od_23 an_23:Option Addr} {sl_23:Array (Option Value)}
  {f_24:Addr} {oc_24 kV_24 dc_24 pm_24 cd_24 ct_24:Value} {od_24 an_24:Option Addr} {sl_24:Array (Option Value)}
  {f_25:Addr} {oc_25 kV_25 dc_25 pm_25 cd_25 ct_25:Value} {od_25 an_25:Option Addr} {sl_25:Array (Option Value)}
  {f_26:Addr} {oc_26 kV_26 dc_26 pm_26 cd_26 ct_26:Value} {od_26 an_26:Option Addr} {sl_26:Array (Option Value)}
  {f_27:Addr} {oc_27 kV_27 dc_27 pm_27 cd_27 ct_27:Value} {od_27 an_27:Option Addr} {sl_27:Array (Option Value)}
  {f_28:Addr} {oc_28 kV_28 dc_28 pm_28 cd_28 ct_28:Value} {od_28 an_28:Option Addr} {sl_28:Array (Option Value)}
  {f_29:Addr} {oc_29 kV_29 dc_29 pm_29 cd_29 ct_29:Value} {od_29 an_29:Option Addr} {sl_29:Array (Option Value)}
  {f_30:Addr} {oc_30 kV_30 dc_30 pm_30 cd_30 ct_30:Value} {od_30 an_30:Option Addr} {sl_30:Array (Option Value)}
  {t_LETTERS:Tok}
  {t_FIGURES:Tok}
  {g_BOXES:Addr} {t0_BOXES t1_BOXES t2_BOXES t3_BOXES t4_BOXES t5_BOXES t6_BOXES t7_BOXES:Tok} {nn_BOXES:Nat} {ss_BOXES:Array (Option Value)}
  {t_LONGEST_LABEL:Tok}
  {t_GREATEST_WORD:Tok}
  {t_GREATEST_STEP:Tok}
  {t_GREATEST_TARGET:Tok}
  {g_FORMS:Addr} {o_FORMS:Obj}
  (x_0:PySem.W.nsIn K mainGlobals "bare" = some (some (.ref f_0)))
  (l_0:K.lookup f_0 = some ⟨oc_0,od_0,.func (PySem.W.fnOf "bare" "bare" (defArgs s_0) (defBody s_0) (defScope s_0) .none kV_0 dc_0 pm_0 an_0 cd_0 ct_0),sl_0⟩)
  (c_0:PySem.W.codeIn K cd_0 "bare" = true)
  (k_0:PySem.W.keepIn K (.ref f_0) = true)
  (x_1:PySem.W.nsIn K mainGlobals "words_in" = some (some (.ref f_1)))
  (l_1:K.lookup f_1 = some ⟨oc_1,od_1,.func (PySem.W.fnOf "words_in" "words_in" (defArgs s_1) (defBody s_1) (defScope s_1) .none kV_1 dc_1 pm_1 an_1 cd_1 ct_1),sl_1⟩)
  (c_1:PySem.W.codeIn K cd_1 "words_in" = true)
  (k_1:PySem.W.keepIn K (.ref f_1) = true)
  (x_2:PySem.W.nsIn K mainGlobals "made_of" = some (some (.ref f_2)))
  (l_2:K.lookup f_2 = some ⟨oc_2,od_2,.func (PySem.W.fnOf "made_of" "made_of" (defArgs s_2) (defBody s_2) (defScope s_2) .none kV_2 dc_2 pm_2 an_2 cd_2 ct_2),sl_2⟩)
  (c_2:PySem.W.codeIn K cd_2 "made_of" = true)
  (k_2:PySem.W.keepIn K (.ref f_2) = true)
  (x_3:PySem.W.nsIn K mainGlobals "is_label" = some (some (.ref f_3)))
  (l_3:K.lookup f_3 = some ⟨oc_3,od_3,.func (PySem.W.fnOf "is_label" "is_label" (defArgs s_3) (defBody s_3) (defScope s_3) .none kV_3 dc_3 pm_3 an_3 cd_3 ct_3),sl_3⟩)
  (c_3:PySem.W.codeIn K cd_3 "is_label" = true)
  (k_3:PySem.W.keepIn K (.ref f_3) = true)
  (x_4:PySem.W.nsIn K mainGlobals "number_in" = some (some (.ref f_4)))
  (l_4:K.lookup f_4 = some ⟨oc_4,od_4,.func (PySem.W.fnOf "number_in" "number_in" (defArgs s_4) (defBody s_4) (defScope s_4) .none kV_4 dc_4 pm_4 an_4 cd_4 ct_4),sl_4⟩)
  (c_4:PySem.W.codeIn K cd_4 "number_in" = true)
  (k_4:PySem.W.keepIn K (.ref f_4) = true)
  (x_5:PySem.W.nsIn K mainGlobals "step_in" = some (some (.ref f_5)))
  (l_5:K.lookup f_5 = some ⟨oc_5,od_5,.func (PySem.W.fnOf "step_in" "step_in" (defArgs s_5) (defBody s_5) (defScope s_5) .none kV_5 dc_5 pm_5 an_5 cd_5 ct_5),sl_5⟩)
  (c_5:PySem.W.codeIn K cd_5 "step_in" = true)
  (k_5:PySem.W.keepIn K (.ref f_5) = true)
  (x_6:PySem.W.nsIn K mainGlobals "target_in" = some (some (.ref f_6)))
  (l_6:K.lookup f_6 = some ⟨oc_6,od_6,.func (PySem.W.fnOf "target_in" "target_in" (defArgs s_6) (defBody s_6) (defScope s_6) .none kV_6 dc_6 pm_6 an_6 cd_6 ct_6),sl_6⟩)
  (c_6:PySem.W.codeIn K cd_6 "target_in" = true)
  (k_6:PySem.W.keepIn K (.ref f_6) = true)
  (x_7:PySem.W.nsIn K mainGlobals "box_in" = some (some (.ref f_7)))
  (l_7:K.lookup f_7 = some ⟨oc_7,od_7,.func (PySem.W.fnOf "box_in" "box_in" (defArgs s_7) (defBody s_7) (defScope s_7) .none kV_7 dc_7 pm_7 an_7 cd_7 ct_7),sl_7⟩)
  (c_7:PySem.W.codeIn K cd_7 "box_in" = true)
  (k_7:PySem.W.keepIn K (.ref f_7) = true)
  (x_8:PySem.W.nsIn K mainGlobals "part_in" = some (some (.ref f_8)))
  (l_8:K.lookup f_8 = some ⟨oc_8,od_8,.func (PySem.W.fnOf "part_in" "part_in" (defArgs s_8) (defBody s_8) (defScope s_8) .none kV_8 dc_8 pm_8 an_8 cd_8 ct_8),sl_8⟩)
  (c_8:PySem.W.codeIn K cd_8 "part_in" = true)
  (k_8:PySem.W.keepIn K (.ref f_8) = true)
  (x_9:PySem.W.nsIn K mainGlobals "part_shown" = some (some (.ref f_9)))
  (l_9:K.lookup f_9 = some ⟨oc_9,od_9,.func (PySem.W.fnOf "part_shown" "part_shown" (defArgs s_9) (defBody s_9) (defScope s_9) .none kV_9 dc_9 pm_9 an_9 cd_9 ct_9),sl_9⟩)
  (c_9:PySem.W.codeIn K cd_9 "part_shown" = true)
  (k_9:PySem.W.keepIn K (.ref f_9) = true)
  (x_10:PySem.W.nsIn K mainGlobals "row_in" = some (some (.ref f_10)))
  (l_10:K.lookup f_10 = some ⟨oc_10,od_10,.func (PySem.W.fnOf "row_in" "row_in" (defArgs s_10) (defBody s_10) (defScope s_10) .none kV_10 dc_10 pm_10 an_10 cd_10 ct_10),sl_10⟩)
  (c_10:PySem.W.codeIn K cd_10 "row_in" = true)
  (k_10:PySem.W.keepIn K (.ref f_10) = true)
  (x_11:PySem.W.nsIn K mainGlobals "label_in" = some (some (.ref f_11)))
  (l_11:K.lookup f_11 = some ⟨oc_11,od_11,.func (PySem.W.fnOf "label_in" "label_in" (defArgs s_11) (defBody s_11) (defScope s_11) .none kV_11 dc_11 pm_11 an_11 cd_11 ct_11),sl_11⟩)
  (c_11:PySem.W.codeIn K cd_11 "label_in" = true)
  (k_11:PySem.W.keepIn K (.ref f_11) = true)
  (x_12:PySem.W.nsIn K mainGlobals "show_row" = some (some (.ref f_12)))
  (l_12:K.lookup f_12 = some ⟨oc_12,od_12,.func (PySem.W.fnOf "show_row" "show_row" (defArgs s_12) (defBody s_12) (defScope s_12) .none kV_12 dc_12 pm_12 an_12 cd_12 ct_12),sl_12⟩)
  (c_12:PySem.W.codeIn K cd_12 "show_row" = true)
  (k_12:PySem.W.keepIn K (.ref f_12) = true)
  (x_13:PySem.W.nsIn K mainGlobals "shown" = some (some (.ref f_13)))
  (l_13:K.lookup f_13 = some ⟨oc_13,od_13,.func (PySem.W.fnOf "shown" "shown" (defArgs s_13) (defBody s_13) (defScope s_13) .none kV_13 dc_13 pm_13 an_13 cd_13 ct_13),sl_13⟩)
  (c_13:PySem.W.codeIn K cd_13 "shown" = true)
  (k_13:PySem.W.keepIn K (.ref f_13) = true)
  (x_14:PySem.W.nsIn K mainGlobals "told_lines" = some (some (.ref f_14)))
  (l_14:K.lookup f_14 = some ⟨oc_14,od_14,.func (PySem.W.fnOf "told_lines" "told_lines" (defArgs s_14) (defBody s_14) (defScope s_14) .none kV_14 dc_14 pm_14 an_14 cd_14 ct_14),sl_14⟩)
  (c_14:PySem.W.codeIn K cd_14 "told_lines" = true)
  (k_14:PySem.W.keepIn K (.ref f_14) = true)
  (x_15:PySem.W.nsIn K mainGlobals "labels_in" = some (some (.ref f_15)))
  (l_15:K.lookup f_15 = some ⟨oc_15,od_15,.func (PySem.W.fnOf "labels_in" "labels_in" (defArgs s_15) (defBody s_15) (defScope s_15) .none kV_15 dc_15 pm_15 an_15 cd_15 ct_15),sl_15⟩)
  (c_15:PySem.W.codeIn K cd_15 "labels_in" = true)
  (k_15:PySem.W.keepIn K (.ref f_15) = true)
  (x_16:PySem.W.nsIn K mainGlobals "aimed" = some (some (.ref f_16)))
  (l_16:K.lookup f_16 = some ⟨oc_16,od_16,.func (PySem.W.fnOf "aimed" "aimed" (defArgs s_16) (defBody s_16) (defScope s_16) .none kV_16 dc_16 pm_16 an_16 cd_16 ct_16),sl_16⟩)
  (c_16:PySem.W.codeIn K cd_16 "aimed" = true)
  (k_16:PySem.W.keepIn K (.ref f_16) = true)
  (x_17:PySem.W.nsIn K mainGlobals "read" = some (some (.ref f_17)))
  (l_17:K.lookup f_17 = some ⟨oc_17,od_17,.func (PySem.W.fnOf "read" "read" (defArgs s_17) (defBody s_17) (defScope s_17) .none kV_17 dc_17 pm_17 an_17 cd_17 ct_17),sl_17⟩)
  (c_17:PySem.W.codeIn K cd_17 "read" = true)
  (k_17:PySem.W.keepIn K (.ref f_17) = true)
  (x_18:PySem.W.nsIn K mainGlobals "_law_cell_at" = some (some (.ref f_18)))
  (l_18:K.lookup f_18 = some ⟨oc_18,od_18,.func (PySem.W.fnOf "_law_cell_at" "_law_cell_at" (defArgs s_18) (defBody s_18) (defScope s_18) .none kV_18 dc_18 pm_18 an_18 cd_18 ct_18),sl_18⟩)
  (c_18:PySem.W.codeIn K cd_18 "_law_cell_at" = true)
  (k_18:PySem.W.keepIn K (.ref f_18) = true)
  (x_19:PySem.W.nsIn K mainGlobals "_law_number" = some (some (.ref f_19)))
  (l_19:K.lookup f_19 = some ⟨oc_19,od_19,.func (PySem.W.fnOf "_law_number" "_law_number" (defArgs s_19) (defBody s_19) (defScope s_19) .none kV_19 dc_19 pm_19 an_19 cd_19 ct_19),sl_19⟩)
  (c_19:PySem.W.codeIn K cd_19 "_law_number" = true)
  (k_19:PySem.W.keepIn K (.ref f_19) = true)
  (x_20:PySem.W.nsIn K mainGlobals "_law_word" = some (some (.ref f_20)))
  (l_20:K.lookup f_20 = some ⟨oc_20,od_20,.func (PySem.W.fnOf "_law_word" "_law_word" (defArgs s_20) (defBody s_20) (defScope s_20) .none kV_20 dc_20 pm_20 an_20 cd_20 ct_20),sl_20⟩)
  (c_20:PySem.W.codeIn K cd_20 "_law_word" = true)
  (k_20:PySem.W.keepIn K (.ref f_20) = true)
  (x_21:PySem.W.nsIn K mainGlobals "_law_step" = some (some (.ref f_21)))
  (l_21:K.lookup f_21 = some ⟨oc_21,od_21,.func (PySem.W.fnOf "_law_step" "_law_step" (defArgs s_21) (defBody s_21) (defScope s_21) .none kV_21 dc_21 pm_21 an_21 cd_21 ct_21),sl_21⟩)
  (c_21:PySem.W.codeIn K cd_21 "_law_step" = true)
  (k_21:PySem.W.keepIn K (.ref f_21) = true)
  (x_22:PySem.W.nsIn K mainGlobals "_law_row" = some (some (.ref f_22)))
  (l_22:K.lookup f_22 = some ⟨oc_22,od_22,.func (PySem.W.fnOf "_law_row" "_law_row" (defArgs s_22) (defBody s_22) (defScope s_22) .none kV_22 dc_22 pm_22 an_22 cd_22 ct_22),sl_22⟩)
  (c_22:PySem.W.codeIn K cd_22 "_law_row" = true)
  (k_22:PySem.W.keepIn K (.ref f_22) = true)
  (x_23:PySem.W.nsIn K mainGlobals "_law_boxed" = some (some (.ref f_23)))
  (l_23:K.lookup f_23 = some ⟨oc_23,od_23,.func (PySem.W.fnOf "_law_boxed" "_law_boxed" (defArgs s_23) (defBody s_23) (defScope s_23) .none kV_23 dc_23 pm_23 an_23 cd_23 ct_23),sl_23⟩)
  (c_23:PySem.W.codeIn K cd_23 "_law_boxed" = true)
  (k_23:PySem.W.keepIn K (.ref f_23) = true)
  (x_24:PySem.W.nsIn K mainGlobals "_law_words" = some (some (.ref f_24)))
  (l_24:K.lookup f_24 = some ⟨oc_24,od_24,.func (PySem.W.fnOf "_law_words" "_law_words" (defArgs s_24) (defBody s_24) (defScope s_24) .none kV_24 dc_24 pm_24 an_24 cd_24 ct_24),sl_24⟩)
  (c_24:PySem.W.codeIn K cd_24 "_law_words" = true)
  (k_24:PySem.W.keepIn K (.ref f_24) = true)
  (x_25:PySem.W.nsIn K mainGlobals "_law_alike" = some (some (.ref f_25)))
  (l_25:K.lookup f_25 = some ⟨oc_25,od_25,.func (PySem.W.fnOf "_law_alike" "_law_alike" (defArgs s_25) (defBody s_25) (defScope s_25) .none kV_25 dc_25 pm_25 an_25 cd_25 ct_25),sl_25⟩)
  (c_25:PySem.W.codeIn K cd_25 "_law_alike" = true)
  (k_25:PySem.W.keepIn K (.ref f_25) = true)
  (x_26:PySem.W.nsIn K mainGlobals "_law_remark" = some (some (.ref f_26)))
  (l_26:K.lookup f_26 = some ⟨oc_26,od_26,.func (PySem.W.fnOf "_law_remark" "_law_remark" (defArgs s_26) (defBody s_26) (defScope s_26) .none kV_26 dc_26 pm_26 an_26 cd_26 ct_26),sl_26⟩)
  (c_26:PySem.W.codeIn K cd_26 "_law_remark" = true)
  (k_26:PySem.W.keepIn K (.ref f_26) = true)
  (x_27:PySem.W.nsIn K mainGlobals "_law_line" = some (some (.ref f_27)))
  (l_27:K.lookup f_27 = some ⟨oc_27,od_27,.func (PySem.W.fnOf "_law_line" "_law_line" (defArgs s_27) (defBody s_27) (defScope s_27) .none kV_27 dc_27 pm_27 an_27 cd_27 ct_27),sl_27⟩)
  (c_27:PySem.W.codeIn K cd_27 "_law_line" = true)
  (k_27:PySem.W.keepIn K (.ref f_27) = true)
  (x_28:PySem.W.nsIn K mainGlobals "_law_dressed" = some (some (.ref f_28)))
  (l_28:K.lookup f_28 = some ⟨oc_28,od_28,.func (PySem.W.fnOf "_law_dressed" "_law_dressed" (defArgs s_28) (defBody s_28) (defScope s_28) .none kV_28 dc_28 pm_28 an_28 cd_28 ct_28),sl_28⟩)
  (c_28:PySem.W.codeIn K cd_28 "_law_dressed" = true)
  (k_28:PySem.W.keepIn K (.ref f_28) = true)
  (x_29:PySem.W.nsIn K mainGlobals "_law_program" = some (some (.ref f_29)))
  (l_29:K.lookup f_29 = some ⟨oc_29,od_29,.func (PySem.W.fnOf "_law_program" "_law_program" (defArgs s_29) (defBody s_29) (defScope s_29) .none kV_29 dc_29 pm_29 an_29 cd_29 ct_29),sl_29⟩)
  (c_29:PySem.W.codeIn K cd_29 "_law_program" = true)
  (k_29:PySem.W.keepIn K (.ref f_29) = true)
  (x_30:PySem.W.nsIn K mainGlobals "law" = some (some (.ref f_30)))
  (l_30:K.lookup f_30 = some ⟨oc_30,od_30,.func (PySem.W.fnOf "law" "law" (defArgs s_30) (defBody s_30) (defScope s_30) .none kV_30 dc_30 pm_30 an_30 cd_30 ct_30),sl_30⟩)
  (c_30:PySem.W.codeIn K cd_30 "law" = true)
  (k_30:PySem.W.keepIn K (.ref f_30) = true)
  (x_LETTERS:PySem.W.nsIn K mainGlobals "LETTERS" = some (some (.str "abcdefghijklmnopqrstuvwxyz" t_LETTERS)))
  (x_FIGURES:PySem.W.nsIn K mainGlobals "FIGURES" = some (some (.str "0123456789" t_FIGURES)))
  (x_BOXES:PySem.W.nsIn K mainGlobals "BOXES" = some (some (.ref g_BOXES)))
  (l_BOXES:K.lookup g_BOXES = some ⟨.type "tuple",none,.seq #[Value.str "a" t0_BOXES,Value.str "b" t1_BOXES,Value.str "c" t2_BOXES,Value.str "d" t3_BOXES,Value.str "e" t4_BOXES,Value.str "f" t5_BOXES,Value.str "g" t6_BOXES,Value.str "h" t7_BOXES] nn_BOXES,ss_BOXES⟩)
  (x_LONGEST_LABEL:PySem.W.nsIn K mainGlobals "LONGEST_LABEL" = some (some (.int 8 t_LONGEST_LABEL)))
  (x_GREATEST_WORD:PySem.W.nsIn K mainGlobals "GREATEST_WORD" = some (some (.int 18446744073709551615 t_GREATEST_WORD)))
  (x_GREATEST_STEP:PySem.W.nsIn K mainGlobals "GREATEST_STEP" = some (some (.int 999 t_GREATEST_STEP)))
  (x_GREATEST_TARGET:PySem.W.nsIn K mainGlobals "GREATEST_TARGET" = some (some (.int 400 t_GREATEST_TARGET)))
  (x_FORMS:PySem.W.nsIn K mainGlobals "FORMS" = some (some (.ref g_FORMS)))
  (l_FORMS:K.lookup g_FORMS = some o_FORMS)
  (e_FORMS:PyProof.Rows.KTD.tabLook refLooks (fun _=>some o_FORMS) g_FORMS (refsOf o_FORMS) = true)
  (q_FORMS:PyProof.Rows.KTD.hashesOf (fun _=>some o_FORMS) g_FORMS = (refsOf o_FORMS).map fun p=>(PySem.strKind l.prog w).hash p.1)
  (t_FORMS:tupsIn K (refsOf o_FORMS) tk_FORMS = true)
  (sm_FORMS:(g_FORMS == sysModules) = false)
  (z_len:PySem.W.nsIn K mainGlobals "len" = some none)
  (z_int:PySem.W.nsIn K mainGlobals "int" = some none)
  (z_tuple:PySem.W.nsIn K mainGlobals "tuple" = some none)
  (z_list:PySem.W.nsIn K mainGlobals "list" = some none)
  (z_str:PySem.W.nsIn K mainGlobals "str" = some none)
  (z_any:PySem.W.nsIn K mainGlobals "any" = some none)
  (z_all:PySem.W.nsIn K mainGlobals "all" = some none)
  (z_isinstance:PySem.W.nsIn K mainGlobals "isinstance" = some none)
  (z_bool:PySem.W.nsIn K mainGlobals "bool" = some none)
  (z_range:PySem.W.nsIn K mainGlobals "range" = some none)
  (z_enumerate:PySem.W.nsIn K mainGlobals "enumerate" = some none)
  (z_zip:PySem.W.nsIn K mainGlobals "zip" = some none) :
  ∃ fd:FuncData,(∀ (s:Shared) (v:Value),BindsTo s fd ⟨[v],[]⟩ [("_law_script",v)])/\∀ base:Heap,K.In base->base.Ns mainGlobals mg->FnOk l.prog w K mg base (CXo l.prog w) (2 * 12) fa fd ["_law_script"] (spLaw K):=by
 have e:=hfa.symm.trans (PySem.W.mg_of X G x_30)
 cases e
 have F_0:FunD K "bare" "bare" s_0 f_0 _:=⟨⟨_,_,_,_,_,_,_,_,_,_,rfl,l_0,c_0⟩,k_0⟩
 have b_0:Binds K (PySem.W.fnOf "bare" "bare" (defArgs s_0) (defBody s_0) (defScope s_0) .none kV_0 dc_0 pm_0 an_0 cd_0 ct_0) ["line"] []:=.all fun us hl=>by obtain ⟨v0,rfl⟩:=AM.vlen1 hl;rfl
 have F_1:FunD K "words_in" "words_in" s_1 f_1 _:=⟨⟨_,_,_,_,_,_,_,_,_,_,rfl,l_1,c_1⟩,k_1⟩
 have b_1:Binds K (PySem.W.fnOf "words_in" "words_in" (defArgs s_1) (defBody s_1) (defScope s_1) .none kV_1 dc_1 pm_1 an_1 cd_1 ct_1) ["line"] []:=.all fun us hl=>by obtain ⟨v0,rfl⟩:=AM.vlen1 hl;rfl
 have F_2:FunD K "made_of" "made_of" s_2 f_2 _:=⟨⟨_,_,_,_,_,_,_,_,_,_,rfl,l_2,c_2⟩,k_2⟩
 have b_2:Binds K (PySem.W.fnOf "made_of" "made_of" (defArgs s_2) (defBody s_2) (defScope s_2) .none kV_2 dc_2 pm_2 an_2 cd_2 ct_2) ["text","signs"] []:=.all fun us hl=>by obtain ⟨v0,v1,rfl⟩:=AM.vlen2 hl;rfl
 have F_3:FunD K "is_label" "is_label" s_3 f_3 _:=⟨⟨_,_,_,_,_,_,_,_,_,_,rfl,l_3,c_3⟩,k_3⟩
 have b_3:Binds K (PySem.W.fnOf "is_label" "is_label" (defArgs s_3) (defBody s_3) (defScope s_3) .none kV_3 dc_3 pm_3 an_3 cd_3 ct_3) ["word"] []:=.all fun us hl=>by obtain ⟨v0,rfl⟩:=AM.vlen1 hl;rfl
 have F_4:FunD K "number_in" "number_in" s_4 f_4 _:=⟨⟨_,_,_,_,_,_,_,_,_,_,rfl,l_4,c_4⟩,k_4⟩
 have b_4:Binds K (PySem.W.fnOf "number_in" "number_in" (defArgs s_4) (defBody s_4) (defScope s_4) .none kV_4 dc_4 pm_4 an_4 cd_4 ct_4) ["figures","greatest"] []:=.all fun us hl=>by obtain ⟨v0,v1,rfl⟩:=AM.vlen2 hl;rfl
 have F_5:FunD K "step_in" "step_in" s_5 f_5 _:=⟨⟨_,_,_,_,_,_,_,_,_,_,rfl,l_5,c_5⟩,k_5⟩
 have b_5:Binds K (PySem.W.fnOf "step_in" "step_in" (defArgs s_5) (defBody s_5) (defScope s_5) .none kV_5 dc_5 pm_5 an_5 cd_5 ct_5) ["word"] []:=.all fun us hl=>by obtain ⟨v0,rfl⟩:=AM.vlen1 hl;rfl
 have F_6:FunD K "target_in" "target_in" s_6 f_6 _:=⟨⟨_,_,_,_,_,_,_,_,_,_,rfl,l_6,c_6⟩,k_6⟩
 have b_6:Binds K (PySem.W.fnOf "target_in" "target_in" (defArgs s_6) (defBody s_6) (defScope s_6) .none kV_6 dc_6 pm_6 an_6 cd_6 ct_6) ["word"] []:=.all fun us hl=>by obtain ⟨v0,rfl⟩:=AM.vlen1 hl;rfl
 have F_7:FunD K "box_in" "box_in" s_7 f_7 _:=⟨⟨_,_,_,_,_,_,_,_,_,_,rfl,l_7,c_7⟩,k_7⟩
 have b_7:Binds K (PySem.W.fnOf "box_in" "box_in" (defArgs s_7) (defBody s_7) (defScope s_7) .none kV_7 dc_7 pm_7 an_7 cd_7 ct_7) ["word"] []:=.all fun us hl=>by obtain ⟨v0,rfl⟩:=AM.vlen1 hl;rfl
 have F_8:FunD K "part_in" "part_in" s_8 f_8 _:=⟨⟨_,_,_,_,_,_,_,_,_,_,rfl,l_8,c_8⟩,k_8⟩
 have b_8:Binds K (PySem.W.fnOf "part_in" "part_in" (defArgs s_8) (defBody s_8) (defScope s_8) .none kV_8 dc_8 pm_8 an_8 cd_8 ct_8) ["form","word"] []:=.all fun us hl=>by obtain ⟨v0,v1,rfl⟩:=AM.vlen2 hl;rfl
 have F_9:FunD K "part_shown" "part_shown" s_9 f_9 _:=⟨⟨_,_,_,_,_,_,_,_,_,_,rfl,l_9,c_9⟩,k_9⟩
 have b_9:Binds K (PySem.W.fnOf "part_shown" "part_shown" (defArgs s_9) (defBody s_9) (defScope s_9) .none kV_9 dc_9 pm_9 an_9 cd_9 ct_9) ["form","part"] []:=.all fun us hl=>by obtain ⟨v0,v1,rfl⟩:=AM.vlen2 hl;rfl
 have F_10:FunD K "row_in" "row_in" s_10 f_10 _:=⟨⟨_,_,_,_,_,_,_,_,_,_,rfl,l_10,c_10⟩,k_10⟩
 have b_10:Binds K (PySem.W.fnOf "row_in" "row_in" (defArgs s_10) (defBody s_10) (defScope s_10) .none kV_10 dc_10 pm_10 an_10 cd_10 ct_10) ["line"] []:=.all fun us hl=>by obtain ⟨v0,rfl⟩:=AM.vlen1 hl;rfl
 have F_11:FunD K "label_in" "label_in" s_11 f_11 _:=⟨⟨_,_,_,_,_,_,_,_,_,_,rfl,l_11,c_11⟩,k_11⟩
 have b_11:Binds K (PySem.W.fnOf "label_in" "label_in" (defArgs s_11) (defBody s_11) (defScope s_11) .none kV_11 dc_11 pm_11 an_11 cd_11 ct_11) ["line"] []:=.all fun us hl=>by obtain ⟨v0,rfl⟩:=AM.vlen1 hl;rfl
 have F_12:FunD K "show_row" "show_row" s_12 f_12 _:=⟨⟨_,_,_,_,_,_,_,_,_,_,rfl,l_12,c_12⟩,k_12⟩
 have b_12:Binds K (PySem.W.fnOf "show_row" "show_row" (defArgs s_12) (defBody s_12) (defScope s_12) .none kV_12 dc_12 pm_12 an_12 cd_12 ct_12) ["row"] []:=.all fun us hl=>by obtain ⟨v0,rfl⟩:=AM.vlen1 hl;rfl
 have F_13:FunD K "shown" "shown" s_13 f_13 _:=⟨⟨_,_,_,_,_,_,_,_,_,_,rfl,l_13,c_13⟩,k_13⟩
 have b_13:Binds K (PySem.W.fnOf "shown" "shown" (defArgs s_13) (defBody s_13) (defScope s_13) .none kV_13 dc_13 pm_13 an_13 cd_13 ct_13) ["program"] []:=.all fun us hl=>by obtain ⟨v0,rfl⟩:=AM.vlen1 hl;rfl
 have F_14:FunD K "told_lines" "told_lines" s_14 f_14 _:=⟨⟨_,_,_,_,_,_,_,_,_,_,rfl,l_14,c_14⟩,k_14⟩
 have b_14:Binds K (PySem.W.fnOf "told_lines" "told_lines" (defArgs s_14) (defBody s_14) (defScope s_14) .none kV_14 dc_14 pm_14 an_14 cd_14 ct_14) ["text"] []:=.all fun us hl=>by obtain ⟨v0,rfl⟩:=AM.vlen1 hl;rfl
 have F_15:FunD K "labels_in" "labels_in" s_15 f_15 _:=⟨⟨_,_,_,_,_,_,_,_,_,_,rfl,l_15,c_15⟩,k_15⟩
 have b_15:Binds K (PySem.W.fnOf "labels_in" "labels_in" (defArgs s_15) (defBody s_15) (defScope s_15) .none kV_15 dc_15 pm_15 an_15 cd_15 ct_15) ["told"] []:=.all fun us hl=>by obtain ⟨v0,rfl⟩:=AM.vlen1 hl;rfl
 have F_16:FunD K "aimed" "aimed" s_16 f_16 _:=⟨⟨_,_,_,_,_,_,_,_,_,_,rfl,l_16,c_16⟩,k_16⟩
 have b_16:Binds K (PySem.W.fnOf "aimed" "aimed" (defArgs s_16) (defBody s_16) (defScope s_16) .none kV_16 dc_16 pm_16 an_16 cd_16 ct_16) ["row","number","labels","many"] []:=.all fun us hl=>by obtain ⟨v0,v1,v2,v3,rfl⟩:=AM.vlen4 hl;rfl
 have F_17:FunD K "read" "read" s_17 f_17 _:=⟨⟨_,_,_,_,_,_,_,_,_,_,rfl,l_17,c_17⟩,k_17⟩
 have b_17:Binds K (PySem.W.fnOf "read" "read" (defArgs s_17) (defBody s_17) (defScope s_17) .none kV_17 dc_17 pm_17 an_17 cd_17 ct_17) ["text"] []:=.all fun us hl=>by obtain ⟨v0,rfl⟩:=AM.vlen1 hl;rfl
 have F_18:FunD K "_law_cell_at" "_law_cell_at" s_18 f_18 _:=⟨⟨_,_,_,_,_,_,_,_,_,_,rfl,l_18,c_18⟩,k_18⟩
 have b_18:Binds K (PySem.W.fnOf "_law_cell_at" "_law_cell_at" (defArgs s_18) (defBody s_18) (defScope s_18) .none kV_18 dc_18 pm_18 an_18 cd_18 ct_18) ["_law_script","_law_k"] []:=.all fun us hl=>by obtain ⟨v0,v1,rfl⟩:=AM.vlen2 hl;rfl
 have F_19:FunD K "_law_number" "_law_number" s_19 f_19 _:=⟨⟨_,_,_,_,_,_,_,_,_,_,rfl,l_19,c_19⟩,k_19⟩
 have b_19:Binds K (PySem.W.fnOf "_law_number" "_law_number" (defArgs s_19) (defBody s_19) (defScope s_19) .none kV_19 dc_19 pm_19 an_19 cd_19 ct_19) ["_law_cell","_law_k"] []:=.all fun us hl=>by obtain ⟨v0,v1,rfl⟩:=AM.vlen2 hl;rfl
 have F_20:FunD K "_law_word" "_law_word" s_20 f_20 _:=⟨⟨_,_,_,_,_,_,_,_,_,_,rfl,l_20,c_20⟩,k_20⟩
 have b_20:Binds K (PySem.W.fnOf "_law_word" "_law_word" (defArgs s_20) (defBody s_20) (defScope s_20) .none kV_20 dc_20 pm_20 an_20 cd_20 ct_20) ["_law_cell","_law_part"] []:=.all fun us hl=>by obtain ⟨v0,v1,rfl⟩:=AM.vlen2 hl;rfl
 have F_21:FunD K "_law_step" "_law_step" s_21 f_21 _:=⟨⟨_,_,_,_,_,_,_,_,_,_,rfl,l_21,c_21⟩,k_21⟩
 have b_21:Binds K (PySem.W.fnOf "_law_step" "_law_step" (defArgs s_21) (defBody s_21) (defScope s_21) .none kV_21 dc_21 pm_21 an_21 cd_21 ct_21) ["_law_part"] []:=.all fun us hl=>by obtain ⟨v0,rfl⟩:=AM.vlen1 hl;rfl
 have F_22:FunD K "_law_row" "_law_row" s_22 f_22 _:=⟨⟨_,_,_,_,_,_,_,_,_,_,rfl,l_22,c_22⟩,k_22⟩
 have b_22:Binds K (PySem.W.fnOf "_law_row" "_law_row" (defArgs s_22) (defBody s_22) (defScope s_22) .none kV_22 dc_22 pm_22 an_22 cd_22 ct_22) ["_law_cell","_law_k","_law_most"] []:=.all fun us hl=>by obtain ⟨v0,v1,v2,rfl⟩:=AM.vlen3 hl;rfl
 have F_23:FunD K "_law_boxed" "_law_boxed" s_23 f_23 _:=⟨⟨_,_,_,_,_,_,_,_,_,_,rfl,l_23,c_23⟩,k_23⟩
 have b_23:Binds K (PySem.W.fnOf "_law_boxed" "_law_boxed" (defArgs s_23) (defBody s_23) (defScope s_23) .none kV_23 dc_23 pm_23 an_23 cd_23 ct_23) ["_law_kind","_law_k"] []:=.all fun us hl=>by obtain ⟨v0,v1,rfl⟩:=AM.vlen2 hl;rfl
 have F_24:FunD K "_law_words" "_law_words" s_24 f_24 _:=⟨⟨_,_,_,_,_,_,_,_,_,_,rfl,l_24,c_24⟩,k_24⟩
 have b_24:Binds K (PySem.W.fnOf "_law_words" "_law_words" (defArgs s_24) (defBody s_24) (defScope s_24) .none kV_24 dc_24 pm_24 an_24 cd_24 ct_24) ["_law_row_here"] []:=.all fun us hl=>by obtain ⟨v0,rfl⟩:=AM.vlen1 hl;rfl
 have F_25:FunD K "_law_alike" "_law_alike" s_25 f_25 _:=⟨⟨_,_,_,_,_,_,_,_,_,_,rfl,l_25,c_25⟩,k_25⟩
 have b_25:Binds K (PySem.W.fnOf "_law_alike" "_law_alike" (defArgs s_25) (defBody s_25) (defScope s_25) .none kV_25 dc_25 pm_25 an_25 cd_25 ct_25) ["_law_found","_law_due"] []:=.all fun us hl=>by obtain ⟨v0,v1,rfl⟩:=AM.vlen2 hl;rfl
 have F_26:FunD K "_law_remark" "_law_remark" s_26 f_26 _:=⟨⟨_,_,_,_,_,_,_,_,_,_,rfl,l_26,c_26⟩,k_26⟩
 have b_26:Binds K (PySem.W.fnOf "_law_remark" "_law_remark" (defArgs s_26) (defBody s_26) (defScope s_26) .none kV_26 dc_26 pm_26 an_26 cd_26 ct_26) ["_law_number_here"] []:=.all fun us hl=>by obtain ⟨v0,rfl⟩:=AM.vlen1 hl;rfl
 have F_27:FunD K "_law_line" "_law_line" s_27 f_27 _:=⟨⟨_,_,_,_,_,_,_,_,_,_,rfl,l_27,c_27⟩,k_27⟩
 have b_27:Binds K (PySem.W.fnOf "_law_line" "_law_line" (defArgs s_27) (defBody s_27) (defScope s_27) .none kV_27 dc_27 pm_27 an_27 cd_27 ct_27) ["_law_words_here","_law_number_here"] []:=.all fun us hl=>by obtain ⟨v0,v1,rfl⟩:=AM.vlen2 hl;rfl
 have F_28:FunD K "_law_dressed" "_law_dressed" s_28 f_28 _:=⟨⟨_,_,_,_,_,_,_,_,_,_,rfl,l_28,c_28⟩,k_28⟩
 have b_28:Binds K (PySem.W.fnOf "_law_dressed" "_law_dressed" (defArgs s_28) (defBody s_28) (defScope s_28) .none kV_28 dc_28 pm_28 an_28 cd_28 ct_28) ["_law_program_here","_law_cell"] []:=.all fun us hl=>by obtain ⟨v0,v1,rfl⟩:=AM.vlen2 hl;rfl
 have F_29:FunD K "_law_program" "_law_program" s_29 f_29 _:=⟨⟨_,_,_,_,_,_,_,_,_,_,rfl,l_29,c_29⟩,k_29⟩
 have b_29:Binds K (PySem.W.fnOf "_law_program" "_law_program" (defArgs s_29) (defBody s_29) (defScope s_29) .none kV_29 dc_29 pm_29 an_29 cd_29 ct_29) ["_law_script"] []:=.all fun us hl=>by obtain ⟨v0,rfl⟩:=AM.vlen1 hl;rfl
 have F_30:FunD K "law" "law" s_30 fa _:=⟨⟨_,_,_,_,_,_,_,_,_,_,rfl,l_30,c_30⟩,k_30⟩
 have b_30:Binds K (PySem.W.fnOf "law" "law" (defArgs s_30) (defBody s_30) (defScope s_30) .none kV_30 dc_30 pm_30 an_30 cd_30 ct_30) ["_law_script"] []:=.all fun us hl=>by obtain ⟨v0,rfl⟩:=AM.vlen1 hl;rfl
 have O:PrOk l.prog w pr ⟨K,fun kvs a=>False,fun _=>none⟩ mg (fun i=>([f_0,f_1,f_2,f_3,f_4,f_5,f_6,f_7,f_8,f_9,f_10,f_11,f_12,f_13,f_14,f_15,f_16,f_17,f_18,f_19,f_20,f_21,f_22,f_23,f_24,f_25,f_26,f_27,f_28,f_29,fa]:List Addr).getD i 0) (fun i=>([PySem.W.fnOf "bare" "bare" (defArgs s_0) (defBody s_0) (defScope s_0) .none kV_0 dc_0 pm_0 an_0 cd_0 ct_0,PySem.W.fnOf "words_in" "words_in" (defArgs s_1) (defBody s_1) (defScope s_1) .none kV_1 dc_1 pm_1 an_1 cd_1 ct_1,PySem.W.fnOf "made_of" "made_of" (defArgs s_2) (defBody s_2) (defScope s_2) .none kV_2 dc_2 pm_2 an_2 cd_2 ct_2,PySem.W.fnOf "is_label" "is_label" (defArgs s_3) (defBody s_3) (defScope s_3) .none kV_3 dc_3 pm_3 an_3 cd_3 ct_3,PySem.W.fnOf "number_in" "number_in" (defArgs s_4) (defBody s_4) (defScope s_4) .none kV_4 dc_4 pm_4 an_4 cd_4 ct_4,PySem.W.fnOf "step_in" "step_in" (defArgs s_5) (defBody s_5) (defScope s_5) .none kV_5 dc_5 pm_5 an_5 cd_5 ct_5,PySem.W.fnOf "target_in" "target_in" (defArgs s_6) (defBody s_6) (defScope s_6) .none kV_6 dc_6 pm_6 an_6 cd_6 ct_6,PySem.W.fnOf "box_in" "box_in" (defArgs s_7) (defBody s_7) (defScope s_7) .none kV_7 dc_7 pm_7 an_7 cd_7 ct_7,PySem.W.fnOf "part_in" "part_in" (defArgs s_8) (defBody s_8) (defScope s_8) .none kV_8 dc_8 pm_8 an_8 cd_8 ct_8,PySem.W.fnOf "part_shown" "part_shown" (defArgs s_9) (defBody s_9) (defScope s_9) .none kV_9 dc_9 pm_9 an_9 cd_9 ct_9,PySem.W.fnOf "row_in" "row_in" (defArgs s_10) (defBody s_10) (defScope s_10) .none kV_10 dc_10 pm_10 an_10 cd_10 ct_10,PySem.W.fnOf "label_in" "label_in" (defArgs s_11) (defBody s_11) (defScope s_11) .none kV_11 dc_11 pm_11 an_11 cd_11 ct_11,PySem.W.fnOf "show_row" "show_row" (defArgs s_12) (defBody s_12) (defScope s_12) .none kV_12 dc_12 pm_12 an_12 cd_12 ct_12,PySem.W.fnOf "shown" "shown" (defArgs s_13) (defBody s_13) (defScope s_13) .none kV_13 dc_13 pm_13 an_13 cd_13 ct_13,PySem.W.fnOf "told_lines" "told_lines" (defArgs s_14) (defBody s_14) (defScope s_14) .none kV_14 dc_14 pm_14 an_14 cd_14 ct_14,PySem.W.fnOf "labels_in" "labels_in" (defArgs s_15) (defBody s_15) (defScope s_15) .none kV_15 dc_15 pm_15 an_15 cd_15 ct_15,PySem.W.fnOf "aimed" "aimed" (defArgs s_16) (defBody s_16) (defScope s_16) .none kV_16 dc_16 pm_16 an_16 cd_16 ct_16,PySem.W.fnOf "read" "read" (defArgs s_17) (defBody s_17) (defScope s_17) .none kV_17 dc_17 pm_17 an_17 cd_17 ct_17,PySem.W.fnOf "_law_cell_at" "_law_cell_at" (defArgs s_18) (defBody s_18) (defScope s_18) .none kV_18 dc_18 pm_18 an_18 cd_18 ct_18,PySem.W.fnOf "_law_number" "_law_number" (defArgs s_19) (defBody s_19) (defScope s_19) .none kV_19 dc_19 pm_19 an_19 cd_19 ct_19,PySem.W.fnOf "_law_word" "_law_word" (defArgs s_20) (defBody s_20) (defScope s_20) .none kV_20 dc_20 pm_20 an_20 cd_20 ct_20,PySem.W.fnOf "_law_step" "_law_step" (defArgs s_21) (defBody s_21) (defScope s_21) .none kV_21 dc_21 pm_21 an_21 cd_21 ct_21,PySem.W.fnOf "_law_row" "_law_row" (defArgs s_22) (defBody s_22) (defScope s_22) .none kV_22 dc_22 pm_22 an_22 cd_22 ct_22,PySem.W.fnOf "_law_boxed" "_law_boxed" (defArgs s_23) (defBody s_23) (defScope s_23) .none kV_23 dc_23 pm_23 an_23 cd_23 ct_23,PySem.W.fnOf "_law_words" "_law_words" (defArgs s_24) (defBody s_24) (defScope s_24) .none kV_24 dc_24 pm_24 an_24 cd_24 ct_24,PySem.W.fnOf "_law_alike" "_law_alike" (defArgs s_25) (defBody s_25) (defScope s_25) .none kV_25 dc_25 pm_25 an_25 cd_25 ct_25,PySem.W.fnOf "_law_remark" "_law_remark" (defArgs s_26) (defBody s_26) (defScope s_26) .none kV_26 dc_26 pm_26 an_26 cd_26 ct_26,PySem.W.fnOf "_law_line" "_law_line" (defArgs s_27) (defBody s_27) (defScope s_27) .none kV_27 dc_27 pm_27 an_27 cd_27 ct_27,PySem.W.fnOf "_law_dressed" "_law_dressed" (defArgs s_28) (defBody s_28) (defScope s_28) .none kV_28 dc_28 pm_28 an_28 cd_28 ct_28,PySem.W.fnOf "_law_program" "_law_program" (defArgs s_29) (defBody s_29) (defScope s_29) .none kV_29 dc_29 pm_29 an_29 cd_29 ct_29,PySem.W.fnOf "law" "law" (defArgs s_30) (defBody s_30) (defScope s_30) .none kV_30 dc_30 pm_30 an_30 cd_30 ct_30]:List FuncData).getD i (PySem.W.fnOf "bare" "bare" (defArgs s_0) (defBody s_0) (defScope s_0) .none kV_0 dc_0 pm_0 an_0 cd_0 ct_0)):=by
  refine ⟨fun i d hd=>?_,fun i d hd=>?_,fun x v hx=>?_,fun x hx=>?_,fun kvs a ht=>?_,fun x kvs hx=>?_,fun x ts hx=>?_⟩
  ·exact DfsOk.get (ds:=[d_0,d_1,d_2,d_3,d_4,d_5,d_6,d_7,d_8,d_9,d_10,d_11,d_12,d_13,d_14,d_15,d_16,d_17,d_18,d_19,d_20,d_21,d_22,d_23,d_24,d_25,d_26,d_27,d_28,d_29,d_30]) (.cons ⟨F_0,b_0,sc_0⟩ (.cons ⟨F_1,b_1,sc_1⟩ (.cons ⟨F_2,b_2,sc_2⟩ (.cons ⟨F_3,b_3,sc_3⟩ (.cons ⟨F_4,b_4,sc_4⟩ (.cons ⟨F_5,b_5,sc_5⟩ (.cons ⟨F_6,b_6,sc_6⟩ (.cons ⟨F_7,b_7,sc_7⟩ (.cons ⟨F_8,b_8,sc_8⟩ (.cons ⟨F_9,b_9,sc_9⟩ (.cons ⟨F_10,b_10,sc_10⟩ (.cons ⟨F_11,b_11,sc_11⟩ (.cons ⟨F_12,b_12,sc_12⟩ (.cons ⟨F_13,b_13,sc_13⟩ (.cons ⟨F_14,b_14,sc_14⟩ (.cons ⟨F_15,b_15,sc_15⟩ (.cons ⟨F_16,b_16,sc_16⟩ (.cons ⟨F_17,b_17,sc_17⟩ (.cons ⟨F_18,b_18,sc_18⟩ (.cons ⟨F_19,b_19,sc_19⟩ (.cons ⟨F_20,b_20,sc_20⟩ (.cons ⟨F_21,b_21,sc_21⟩ (.cons ⟨F_22,b_22,sc_22⟩ (.cons ⟨F_23,b_23,sc_23⟩ (.cons ⟨F_24,b_24,sc_24⟩ (.cons ⟨F_25,b_25,sc_25⟩ (.cons ⟨F_26,b_26,sc_26⟩ (.cons ⟨F_27,b_27,sc_27⟩ (.cons ⟨F_28,b_28,sc_28⟩ (.cons ⟨F_29,b_29,sc_29⟩ (.cons ⟨F_30,b_30,sc_30⟩ .nil))))))))))))))))))))))))))))))) i d hd
  ·exact GnsOk.get (ds:=[d_0,d_1,d_2,d_3,d_4,d_5,d_6,d_7,d_8,d_9,d_10,d_11,d_12,d_13,d_14,d_15,d_16,d_17,d_18,d_19,d_20,d_21,d_22,d_23,d_24,d_25,d_26,d_27,d_28,d_29,d_30]) (as:=[f_0,f_1,f_2,f_3,f_4,f_5,f_6,f_7,f_8,f_9,f_10,f_11,f_12,f_13,f_14,f_15,f_16,f_17,f_18,f_19,f_20,f_21,f_22,f_23,f_24,f_25,f_26,f_27,f_28,f_29,fa]) (.cons (PySem.W.mg_of X G x_0) (.cons (PySem.W.mg_of X G x_1) (.cons (PySem.W.mg_of X G x_2) (.cons (PySem.W.mg_of X G x_3) (.cons (PySem.W.mg_of X G x_4) (.cons (PySem.W.mg_of X G x_5) (.cons (PySem.W.mg_of X G x_6) (.cons (PySem.W.mg_of X G x_7) (.cons (PySem.W.mg_of X G x_8) (.cons (PySem.W.mg_of X G x_9) (.cons (PySem.W.mg_of X G x_10) (.cons (PySem.W.mg_of X G x_11) (.cons (PySem.W.mg_of X G x_12) (.cons (PySem.W.mg_of X G x_13) (.cons (PySem.W.mg_of X G x_14) (.cons (PySem.W.mg_of X G x_15) (.cons (PySem.W.mg_of X G x_16) (.cons (PySem.W.mg_of X G x_17) (.cons (PySem.W.mg_of X G x_18) (.cons (PySem.W.mg_of X G x_19) (.cons (PySem.W.mg_of X G x_20) (.cons (PySem.W.mg_of X G x_21) (.cons (PySem.W.mg_of X G x_22) (.cons (PySem.W.mg_of X G x_23) (.cons (PySem.W.mg_of X G x_24) (.cons (PySem.W.mg_of X G x_25) (.cons (PySem.W.mg_of X G x_26) (.cons (PySem.W.mg_of X G x_27) (.cons (PySem.W.mg_of X G x_28) (.cons (PySem.W.mg_of X G x_29) (.cons (PySem.W.mg_of X G x_30) .nil))))))))))))))))))))))))))))))) i d hd
  ·rcases lk_cons hx with ⟨rfl,rfl⟩ | hx
   ·exact ⟨_,.str "abcdefghijklmnopqrstuvwxyz",PySem.W.mg_of X G x_LETTERS,⟨_,rfl⟩,fun _ _=>.str _⟩
   rcases lk_cons hx with ⟨rfl,rfl⟩ | hx
   ·exact ⟨_,.str "0123456789",PySem.W.mg_of X G x_FIGURES,⟨_,rfl⟩,fun _ _=>.str _⟩
   rcases lk_cons hx with ⟨rfl,rfl⟩ | hx
   ·exact ⟨_,.ref g_BOXES,PySem.W.mg_of X G x_BOXES,rfl,fun _ _=>.tup (ys:=[.str "a",.str "b",.str "c",.str "d",.str "e",.str "f",.str "g",.str "h"]) (.inr ⟨_,_,_,l_BOXES,rfl,rfl,(by decide:8 <= sizeLine),(.cons ⟨_,rfl⟩ (.cons ⟨_,rfl⟩ (.cons ⟨_,rfl⟩ (.cons ⟨_,rfl⟩ (.cons ⟨_,rfl⟩ (.cons ⟨_,rfl⟩ (.cons ⟨_,rfl⟩ (.cons ⟨_,rfl⟩ .nil))))))))⟩) (.cons (.str _) (.cons (.str _) (.cons (.str _) (.cons (.str _) (.cons (.str _) (.cons (.str _) (.cons (.str _) (.cons (.str _) .nil))))))))⟩
   rcases lk_cons hx with ⟨rfl,rfl⟩ | hx
   ·exact ⟨_,.int 8,PySem.W.mg_of X G x_LONGEST_LABEL,⟨_,rfl⟩,fun _ _=>.int _⟩
   rcases lk_cons hx with ⟨rfl,rfl⟩ | hx
   ·exact ⟨_,.int 18446744073709551615,PySem.W.mg_of X G x_GREATEST_WORD,⟨_,rfl⟩,fun _ _=>.int _⟩
   rcases lk_cons hx with ⟨rfl,rfl⟩ | hx
   ·exact ⟨_,.int 999,PySem.W.mg_of X G x_GREATEST_STEP,⟨_,rfl⟩,fun _ _=>.int _⟩
   rcases lk_cons hx with ⟨rfl,rfl⟩ | hx
   ·exact ⟨_,.int 400,PySem.W.mg_of X G x_GREATEST_TARGET,⟨_,rfl⟩,fun _ _=>.int _⟩
   exact (lk_nil hx).elim
  ·have hx:x ∈ (["len","int","tuple","list","str","any","all","isinstance","bool","range","enumerate","zip"]:List Str):=List.contains_iff_mem.mp hx
   simp only [List.mem_cons,List.not_mem_nil,or_false] at hx
   rcases hx with rfl | rfl | rfl | rfl | rfl | rfl | rfl | rfl | rfl | rfl | rfl | rfl
   ·exact PySem.W.mg_none_of X G z_len
   ·exact PySem.W.mg_none_of X G z_int
   ·exact PySem.W.mg_none_of X G z_tuple
   ·exact PySem.W.mg_none_of X G z_list
   ·exact PySem.W.mg_none_of X G z_str
   ·exact PySem.W.mg_none_of X G z_any
   ·exact PySem.W.mg_none_of X G z_all
   ·exact PySem.W.mg_none_of X G z_isinstance
   ·exact PySem.W.mg_none_of X G z_bool
   ·exact PySem.W.mg_none_of X G z_range
   ·exact PySem.W.mg_none_of X G z_enumerate
   ·exact PySem.W.mg_none_of X G z_zip
  ·exact ht.elim
  ·rcases lk_cons hx with ⟨rfl,rfl⟩ | hx
   ·exact AM.tds_mk (PySem.W.mg_of X G x_FORMS) l_FORMS e_FORMS (by decide +kernel) q_FORMS t_FORMS sm_FORMS
   exact (lk_nil hx).elim
  ·rcases lk_cons hx with ⟨rfl,rfl⟩ | hx
   ·exact ⟨g_BOXES,_,_,_,PySem.W.mg_of X G x_BOXES,l_BOXES,rfl,rfl,rfl,(by decide:8 <= sizeLine),(.cons ⟨_,rfl⟩ (.cons ⟨_,rfl⟩ (.cons ⟨_,rfl⟩ (.cons ⟨_,rfl⟩ (.cons ⟨_,rfl⟩ (.cons ⟨_,rfl⟩ (.cons ⟨_,rfl⟩ (.cons ⟨_,rfl⟩ .nil))))))))⟩
   exact (lk_nil hx).elim
 have hk:Keeps pr.ir 12 30:=by rw [ir_eq];exact keeps
 exact ⟨_,fun s v=>.of_eq rfl,fun base _ _=>law_ok (T:=⟨K,fun kvs a=>False,fun _=>none⟩) (d:=d_30) O rfl hk⟩
end AMx
open PySem PySem.W PyProof.Rows
namespace PySem.W.Fast
noncomputable def qat:List Stmt->Nat->Stmt | a :: _,0=>a | _ :: l,n + 1=>qat l n | [],_=>.Pass (.mk 0 0 0 0)
noncomputable def qbo:Stmt->List Stmt | .FunctionDef _ _ b _ _ _ _ _ _ _=>b | .ClassDef _ _ _ b _ _ _ _ _ _ _=>b | _=>[]
noncomputable def qpa:Stmt->Arguments | .FunctionDef _ p _ _ _ _ _ _ _ _=>p | _=>default
noncomputable def qsc:Stmt->Scope | .FunctionDef _ _ _ _ _ _ s _ _ _=>s | .ClassDef _ _ _ _ _ _ s _ _ _ _=>s | _=>default
noncomputable def qf (o:Obj):BT:=.node o .nil .nil
noncomputable def qb (s:String)(x:Data):Obj:=⟨.type s,.none,x,#[]⟩
noncomputable def qd (P:Params)(n:Str)(i:Nat)(v:Value):DictEntry:=⟨PySem.PyData.keyHash P n,.str n i,v⟩
noncomputable def qz0:String:=PySem.W.SL.s2766695959194262286x5
noncomputable def qz1:String:=PySem.W.SL.s5856160107412720595x4
noncomputable def qz2:String:=PySem.W.SL.s658472552662922059x5
noncomputable def qz3:String:=PySem.W.SL.s14018661285674007319x4
noncomputable def qz4:String:=PySem.W.SL.s7097527257260152453x26
noncomputable def qz5:String:=PySem.W.SL.s6070975301684473832x10
noncomputable def qz6:String:=PySem.W.SL.s11030030927630378310x26
noncomputable def qz7:String:=PySem.W.SL.s10062305145149207511x16
noncomputable def qz8:String:=PySem.W.SL.s17162191345867700912x4
noncomputable def qz9:String:=PySem.W.SL.s5946037652744460706x9
noncomputable def qz10:String:=PySem.W.SL.s4278001404047624695x13
noncomputable def qz11:String:=PySem.W.SL.s2742458400755230247x6
noncomputable def qz12:String:=PySem.W.SL.s4209523147560561109x18
noncomputable def qz13:String:=PySem.W.SL.s14755015743595814543x17
noncomputable def qz14:String:=PySem.W.SL.s10220274742760427390x26
noncomputable def qz15:String:=PySem.W.SL.s4290257624100764138x5
noncomputable def qz16:String:=PySem.W.SL.s4860613602091757760x24
noncomputable def qz17:String:=PySem.W.SL.s7174869446012820540x8
noncomputable def qs0:Stmt:=qat PySem.Challenge.pw_aheadmill_k11_programs_read_back.main.body 0
noncomputable def qs1:Stmt:=qat PySem.Challenge.pw_aheadmill_k11_programs_read_back.main.body 1
noncomputable def qs2:Stmt:=qat PySem.Challenge.pw_aheadmill_k11_programs_read_back.main.body 2
noncomputable def qs2_0:Stmt:=qat (qbo qs2) 0
noncomputable def qs3:Stmt:=qat PySem.Challenge.pw_aheadmill_k11_programs_read_back.main.body 3
noncomputable def qs3_0:Stmt:=qat (qbo qs3) 0
noncomputable def qs4:Stmt:=qat PySem.Challenge.pw_aheadmill_k11_programs_read_back.main.body 4
noncomputable def qs4_0:Stmt:=qat (qbo qs4) 0
noncomputable def qs5:Stmt:=qat PySem.Challenge.pw_aheadmill_k11_programs_read_back.main.body 5
noncomputable def qs6:Stmt:=qat PySem.Challenge.pw_aheadmill_k11_programs_read_back.main.body 6
noncomputable def qs7:Stmt:=qat PySem.Challenge.pw_aheadmill_k11_programs_read_back.main.body 7
noncomputable def qs8:Stmt:=qat PySem.Challenge.pw_aheadmill_k11_programs_read_back.main.body 8
noncomputable def qs9:Stmt:=qat PySem.Challenge.pw_aheadmill_k11_programs_read_back.main.body 9
noncomputable def qs10:Stmt:=qat PySem.Challenge.pw_aheadmill_k11_programs_read_back.main.body 10
noncomputable def qs11:Stmt:=qat PySem.Challenge.pw_aheadmill_k11_programs_read_back.main.body 11
noncomputable def qs12:Stmt:=qat PySem.Challenge.pw_aheadmill_k11_programs_read_back.main.body 12
noncomputable def qs13:Stmt:=qat PySem.Challenge.pw_aheadmill_k11_programs_read_back.main.body 13
noncomputable def qs14:Stmt:=qat PySem.Challenge.pw_aheadmill_k11_programs_read_back.main.body 14
noncomputable def qs15:Stmt:=qat PySem.Challenge.pw_aheadmill_k11_programs_read_back.main.body 15
noncomputable def qs16:Stmt:=qat PySem.Challenge.pw_aheadmill_k11_programs_read_back.main.body 16
noncomputable def qs17:Stmt:=qat PySem.Challenge.pw_aheadmill_k11_programs_read_back.main.body 17
noncomputable def qs18:Stmt:=qat PySem.Challenge.pw_aheadmill_k11_programs_read_back.main.body 18
noncomputable def qs19:Stmt:=qat PySem.Challenge.pw_aheadmill_k11_programs_read_back.main.body 19
noncomputable def qs20:Stmt:=qat PySem.Challenge.pw_aheadmill_k11_programs_read_back.main.body 20
noncomputable def qs21:Stmt:=qat PySem.Challenge.pw_aheadmill_k11_programs_read_back.main.body 21
noncomputable def qs22:Stmt:=qat PySem.Challenge.pw_aheadmill_k11_programs_read_back.main.body 22
noncomputable def qs23:Stmt:=qat PySem.Challenge.pw_aheadmill_k11_programs_read_back.main.body 23
noncomputable def qs24:Stmt:=qat PySem.Challenge.pw_aheadmill_k11_programs_read_back.main.body 24
noncomputable def qs25:Stmt:=qat PySem.Challenge.pw_aheadmill_k11_programs_read_back.main.body 25
noncomputable def qs26:Stmt:=qat PySem.Challenge.pw_aheadmill_k11_programs_read_back.main.body 26
noncomputable def qs27:Stmt:=qat PySem.Challenge.pw_aheadmill_k11_programs_read_back.main.body 27
noncomputable def qs28:Stmt:=qat PySem.Challenge.pw_aheadmill_k11_programs_read_back.main.body 28
noncomputable def qs29:Stmt:=qat PySem.Challenge.pw_aheadmill_k11_programs_read_back.main.body 29
noncomputable def qs30:Stmt:=qat PySem.Challenge.pw_aheadmill_k11_programs_read_back.main.body 30
noncomputable def qs31:Stmt:=qat PySem.Challenge.pw_aheadmill_k11_programs_read_back.main.body 31
noncomputable def qs32:Stmt:=qat PySem.Challenge.pw_aheadmill_k11_programs_read_back.main.body 32
noncomputable def qs33:Stmt:=qat PySem.Challenge.pw_aheadmill_k11_programs_read_back.main.body 33
noncomputable def qs34:Stmt:=qat PySem.Challenge.pw_aheadmill_k11_programs_read_back.main.body 34
noncomputable def qs35:Stmt:=qat PySem.Challenge.pw_aheadmill_k11_programs_read_back.main.body 35
noncomputable def qs36:Stmt:=qat PySem.Challenge.pw_aheadmill_k11_programs_read_back.main.body 36
noncomputable def qs37:Stmt:=qat PySem.Challenge.pw_aheadmill_k11_programs_read_back.main.body 37
noncomputable def qs38:Stmt:=qat PySem.Challenge.pw_aheadmill_k11_programs_read_back.main.body 38
noncomputable def qs39:Stmt:=qat PySem.Challenge.pw_aheadmill_k11_programs_read_back.main.body 39
noncomputable def qs40:Stmt:=qat PySem.Challenge.pw_aheadmill_k11_programs_read_back.main.body 40
noncomputable def qs41:Stmt:=qat PySem.Challenge.pw_aheadmill_k11_programs_read_back.main.body 41
noncomputable def qs42:Stmt:=qat PySem.Challenge.pw_aheadmill_k11_programs_read_back.main.body 42
noncomputable def qs43:Stmt:=qat PySem.Challenge.pw_aheadmill_k11_programs_read_back.main.body 43
noncomputable def qs44:Stmt:=qat PySem.Challenge.pw_aheadmill_k11_programs_read_back.main.body 44
noncomputable def qs45:Stmt:=qat PySem.Challenge.pw_aheadmill_k11_programs_read_back.main.body 45
noncomputable def qs46:Stmt:=qat PySem.Challenge.pw_aheadmill_k11_programs_read_back.main.body 46
noncomputable def qn0:Str:=.mk #[60,109,111,100,117,108,101,62]
noncomputable def qn1:Str:=.mk #[47,99,108,97,105,109,47,99,117,116,46,112,121]
noncomputable def qn2:Str:=.mk #[95,95,109,97,105,110,95,95]
noncomputable def qn3:Str:=.mk #[95,95,110,97,109,101,95,95]
noncomputable def qn4:Str:=.mk #[97,104,101,97,100,109,105,108,108,46,101,114,114,111,114,115]
noncomputable def qn5:Str:=.mk #[95,95,100,111,99,95,95]
noncomputable def qn6:Str:=.mk #[95,95,112,97,99,107,97,103,101,95,95]
noncomputable def qn7:Str:=.mk #[95,95,108,111,97,100,101,114,95,95]
noncomputable def qn8:Str:=.mk #[95,95,115,112,101,99,95,95]
noncomputable def qn9:Str:=.mk #[95,95,97,110,110,111,116,97,116,105,111,110,115,95,95]
noncomputable def qn10:Str:=.mk #[95,95,98,117,105,108,116,105,110,115,95,95]
noncomputable def qn11:Str:=.mk #[95,95,102,105,108,101,95,95]
noncomputable def qn12:Str:=.mk #[95,95,99,97,99,104,101,100,95,95]
noncomputable def qn13:Str:=.mk #[77,105,108,108,69,114,114,111,114]
noncomputable def qn14:Str:=.mk #[95,95,109,111,100,117,108,101,95,95]
noncomputable def qn15:Str:=.mk #[95,95,113,117,97,108,110,97,109,101,95,95]
noncomputable def qn16:Str:=.mk #[95,95,102,105,114,115,116,108,105,110,101,110,111,95,95]
noncomputable def qn17:Str:=.mk #[95,95,115,116,97,116,105,99,95,97,116,116,114,105,98,117,116,101,115,95,95]
noncomputable def qn18:Str:=.mk #[95,95,119,101,97,107,114,101,102,95,95]
noncomputable def qn19:Str:=.mk #[78,111,82,111,119]
noncomputable def qn20:Str:=.mk #[95,95,105,110,105,116,95,95]
noncomputable def qn21:Str:=.mk #[115,101,108,102]
noncomputable def qn22:Str:=.mk #[108,105,110,101]
noncomputable def qn23:Str:=.mk #[78,111,82,111,119,46,95,95,105,110,105,116,95,95]
noncomputable def qn24:Str:=.mk #[84,119,105,99,101]
noncomputable def qn25:Str:=.mk #[84,119,105,99,101,46,95,95,105,110,105,116,95,95]
noncomputable def qn26:Str:=.mk #[97,104,101,97,100,109,105,108,108,46,108,105,110,101,115]
noncomputable def qn27:Str:=.mk #[78,111,76,97,98,101,108]
noncomputable def qn28:Str:=.mk #[76,69,84,84,69,82,83]
noncomputable def qn29:Str:=.mk #[97,98,99,100,101,102,103,104,105,106,107,108,109,110,111,112,113,114,115,116,117,118,119,120,121,122]
noncomputable def qn30:Str:=.mk #[70,73,71,85,82,69,83]
noncomputable def qn31:Str:=.mk #[48,49,50,51,52,53,54,55,56,57]
noncomputable def qn32:Str:=.mk #[66,79,88,69,83]
noncomputable def qn33:Str:=.mk #[76,79,78,71,69,83,84,95,76,65,66,69,76]
noncomputable def qn34:Str:=.mk #[71,82,69,65,84,69,83,84,95,87,79,82,68]
noncomputable def qn35:Str:=.mk #[71,82,69,65,84,69,83,84,95,83,84,69,80]
noncomputable def qn36:Str:=.mk #[71,82,69,65,84,69,83,84,95,84,65,82,71,69,84]
noncomputable def qn37:Str:=.mk #[78,111,76,97,98,101,108,46,95,95,105,110,105,116,95,95]
noncomputable def qn38:Str:=.mk #[97]
noncomputable def qn39:Str:=.mk #[98]
noncomputable def qn40:Str:=.mk #[99]
noncomputable def qn41:Str:=.mk #[100]
noncomputable def qn42:Str:=.mk #[101]
noncomputable def qn43:Str:=.mk #[102]
noncomputable def qn44:Str:=.mk #[103]
noncomputable def qn45:Str:=.mk #[104]
noncomputable def qn46:Str:=.mk #[70,79,82,77,83]
noncomputable def qn47:Str:=.mk #[115,101,116]
noncomputable def qn48:Str:=.mk #[109,111,118,101]
noncomputable def qn49:Str:=.mk #[115,117,109]
noncomputable def qn50:Str:=.mk #[108,101,115,115]
noncomputable def qn51:Str:=.mk #[116,105,109,101,115]
noncomputable def qn52:Str:=.mk #[115,104,97,114,101]
noncomputable def qn53:Str:=.mk #[114,101,115,116]
noncomputable def qn54:Str:=.mk #[98,111,116,104]
noncomputable def qn55:Str:=.mk #[115,111,109,101]
noncomputable def qn56:Str:=.mk #[111,100,100]
noncomputable def qn57:Str:=.mk #[117,112]
noncomputable def qn58:Str:=.mk #[100,111,119,110]
noncomputable def qn59:Str:=.mk #[98,101,108,111,119]
noncomputable def qn60:Str:=.mk #[115,97,109,101]
noncomputable def qn61:Str:=.mk #[108,111,97,100]
noncomputable def qn62:Str:=.mk #[115,116,111,114,101]
noncomputable def qn63:Str:=.mk #[106,117,109,112]
noncomputable def qn64:Str:=.mk #[103,111]
noncomputable def qn65:Str:=.mk #[102,97,117,108,116]
noncomputable def qn66:Str:=.mk #[98,111,120]
noncomputable def qn67:Str:=.mk #[119,111,114,100]
noncomputable def qn68:Str:=.mk #[115,116,101,112]
noncomputable def qn69:Str:=.mk #[116,97,114,103,101,116]
noncomputable def qn70:Str:=.mk #[97,104,101,97,100,109,105,108,108,46,116,101,120,116,115]
noncomputable def qn71:Str:=.mk #[98,97,114,101]
noncomputable def qn72:Str:=.mk #[119,111,114,100,115,95,105,110]
noncomputable def qn73:Str:=.mk #[109,97,100,101,95,111,102]
noncomputable def qn74:Str:=.mk #[105,115,95,108,97,98,101,108]
noncomputable def qn75:Str:=.mk #[110,117,109,98,101,114,95,105,110]
noncomputable def qn76:Str:=.mk #[115,116,101,112,95,105,110]
noncomputable def qn77:Str:=.mk #[116,97,114,103,101,116,95,105,110]
noncomputable def qn78:Str:=.mk #[98,111,120,95,105,110]
noncomputable def qn79:Str:=.mk #[112,97,114,116,95,105,110]
noncomputable def qn80:Str:=.mk #[112,97,114,116,95,115,104,111,119,110]
noncomputable def qn81:Str:=.mk #[114,111,119,95,105,110]
noncomputable def qn82:Str:=.mk #[108,97,98,101,108,95,105,110]
noncomputable def qn83:Str:=.mk #[115,104,111,119,95,114,111,119]
noncomputable def qn84:Str:=.mk #[102,105,103,117,114,101,115]
noncomputable def qn85:Str:=.mk #[103,114,101,97,116,101,115,116]
noncomputable def qn86:Str:=.mk #[110,117,109,98,101,114]
noncomputable def qn87:Str:=.mk #[102,111,114,109]
noncomputable def qn88:Str:=.mk #[112,97,114,116]
noncomputable def qn89:Str:=.mk #[108,101,102,116]
noncomputable def qn90:Str:=.mk #[108,97,119,95,97,104,101,97,100,109,105,108,108,95,107,49,49,95,112,114,111,103,114,97,109,115,95,114,101,97,100,95,98,97,99,107]
noncomputable def qn91:Str:=.mk #[115,104,111,119,110]
noncomputable def qn92:Str:=.mk #[116,111,108,100,95,108,105,110,101,115]
noncomputable def qn93:Str:=.mk #[108,97,98,101,108,115,95,105,110]
noncomputable def qn94:Str:=.mk #[97,105,109,101,100]
noncomputable def qn95:Str:=.mk #[114,101,97,100]
noncomputable def qn96:Str:=.mk #[95,108,97,119,95,99,101,108,108,95,97,116]
noncomputable def qn97:Str:=.mk #[95,108,97,119,95,110,117,109,98,101,114]
noncomputable def qn98:Str:=.mk #[95,108,97,119,95,119,111,114,100]
noncomputable def qn99:Str:=.mk #[95,108,97,119,95,115,116,101,112]
noncomputable def qn100:Str:=.mk #[95,108,97,119,95,114,111,119]
noncomputable def qn101:Str:=.mk #[95,108,97,119,95,98,111,120,101,100]
noncomputable def qn102:Str:=.mk #[95,108,97,119,95,119,111,114,100,115]
noncomputable def qn103:Str:=.mk #[116,101,120,116]
noncomputable def qn104:Str:=.mk #[116,111,108,100]
noncomputable def qn105:Str:=.mk #[108,97,98,101,108]
noncomputable def qn106:Str:=.mk #[114,111,119]
noncomputable def qn107:Str:=.mk #[108,97,98,101,108,115]
noncomputable def qn108:Str:=.mk #[97,98,111,118,101]
noncomputable def qn109:Str:=.mk #[109,97,110,121]
noncomputable def qn110:Str:=.mk #[95,108,97,119,95,115,99,114,105,112,116]
noncomputable def qn111:Str:=.mk #[95,108,97,119,95,107]
noncomputable def qn112:Str:=.mk #[95,108,97,119,95,99,101,108,108]
noncomputable def qn113:Str:=.mk #[95,108,97,119,95,112,97,114,116]
noncomputable def qn114:Str:=.mk #[95,108,97,119,95,109,111,115,116]
noncomputable def qn115:Str:=.mk #[95,108,97,119,95,110,117,109,98,101,114,95,104,101,114,101]
noncomputable def qn116:Str:=.mk #[95,108,97,119,95,120]
noncomputable def qn117:Str:=.mk #[95,108,97,119,95,121]
noncomputable def qn118:Str:=.mk #[95,108,97,119,95,122]
noncomputable def qn119:Str:=.mk #[95,108,97,119,95,107,105,110,100]
noncomputable def qn120:Str:=.mk #[95,108,97,119,95,119,97,121,115]
noncomputable def qn121:Str:=.mk #[95,108,97,119,95,114,111,119,95,104,101,114,101]
noncomputable def qn122:Str:=.mk #[95,108,97,119,95,119,111,114,100,115,95,104,101,114,101]
noncomputable def qn123:Str:=.mk #[95,108,97,119,95,97,108,105,107,101]
noncomputable def qn124:Str:=.mk #[95,108,97,119,95,114,101,109,97,114,107]
noncomputable def qn125:Str:=.mk #[95,108,97,119,95,108,105,110,101]
noncomputable def qn126:Str:=.mk #[95,108,97,119,95,100,114,101,115,115,101,100]
noncomputable def qn127:Str:=.mk #[95,108,97,119,95,112,114,111,103,114,97,109]
noncomputable def qn128:Str:=.mk #[108,97,119]
noncomputable def qn129:Str:=.mk #[95,108,97,119,95,102,111,117,110,100]
noncomputable def qn130:Str:=.mk #[95,108,97,119,95,100,117,101]
noncomputable def qn131:Str:=.mk #[95,108,97,119,95,111,116,104,101,114]
noncomputable def qn132:Str:=.mk #[95,108,97,119,95,115,111,109,101]
noncomputable def qn133:Str:=.mk #[95,108,97,119,95,115,105,103,110,115]
noncomputable def qn134:Str:=.mk #[95,108,97,119,95,97,116]
noncomputable def qn135:Str:=.mk #[95,108,97,119,95,108,105,110,101,95,104,101,114,101]
noncomputable def qn136:Str:=.mk #[95,108,97,119,95,119,111,114,100,95,104,101,114,101]
noncomputable def qn137:Str:=.mk #[95,108,97,119,95,112,114,111,103,114,97,109,95,104,101,114,101]
noncomputable def qn138:Str:=.mk #[95,108,97,119,95,108,105,110,101,115]
noncomputable def qn139:Str:=.mk #[95,108,97,119,95,106]
variable (P:Params)
noncomputable def tw7111552045404292505:Program:={ PySem.Challenge.rw_aheadmill_k11_programs_read_back.row.toRowW.1 with main:={ PySem.Challenge.rw_aheadmill_k11_programs_read_back.row.toRowW.1.main with body:=[qs1,qs2,qs3,qs4,qs6,qs7,qs8,qs9,qs10,qs11,qs12,qs13,qs14,qs15,qs16,qs17,qs18,qs19,qs20,qs21,qs22,qs23,qs24,qs25,qs27,qs28,qs29,qs30,qs31,qs32,qs34,qs35,qs36,qs37,qs38,qs39,qs40,qs41,qs42,qs43,qs44,qs45,qs46] } }
theorem te7111552045404292505:tw7111552045404292505 = tw7111552045404292505:=rfl
noncomputable def tw16298353231045046036:Params->PySem.W.Frag:=fun _=>[]
theorem te16298353231045046036:tw16298353231045046036 = tw16298353231045046036:=rfl
noncomputable def qo43:=qb qz0 (.seq #[] 0)
noncomputable def qo44:Obj:=(.mk .none .none (.fields #[]) #[])
noncomputable def qo45:=qb qz1 (.fields #[(.str qn0 182),(.str qn0 183),(.str qn1 184),(.int 1 0),(.int 0 0),(.int 0 0),(.int 0 0),(.int 0 0),(.ref 11),(.bool .false),(.int 181 0),(.ref 12),.none,.none,.none,.none,(.int 185 0),(.int 1 0),(.str qn1 186)])
noncomputable def qo46:Obj:=(.mk (.type qz2) .none .plain #[(.some (.ref 13)),(.some (.ref 3)),(.some (.ref 3)),.none,(.some (.str qn2 164)),.none,(.some (.ref 0))])
noncomputable def tw8124672081245695436:Params->Heap:=fun P=>(.mk #[(boot_o_0 P),(boot_o_1 P),(boot_o_2 P),(boot_o_3 P),(boot_o_4 P),(boot_o_5 P),(boot_o_6 P),(boot_o_7 P),(boot_o_8 P),(boot_o_9 P),(boot_o_10 P),qo43,qo44,qo45,qo46] (.mk [] [] [] 0 [] [] .false #[] [] 0 .false .false .false 0 [2000,10,10] .false 0 .true [] [] 0 .false))
theorem te8124672081245695436:tw8124672081245695436 = tw8124672081245695436:=rfl
noncomputable def tw2941002433376977182:Params->BT:=fun P=>(.node (boot_o_0 P) (.node (boot_o_1 P) (.node (boot_o_3 P) (qf (boot_o_7 P)) (qf qo43)) (.node (boot_o_5 P) (qf (boot_o_9 P)) (qf qo45))) (.node (boot_o_2 P) (.node (boot_o_4 P) (qf (boot_o_8 P)) (qf qo44)) (.node (boot_o_6 P) (qf (boot_o_10 P)) (qf qo46))))
theorem te2941002433376977182:tw2941002433376977182 = tw2941002433376977182:=rfl
noncomputable def qo49:=qb qz3 (.dict #[(qd P qn3 165 (.str qn4 187)),(qd P qn5 166 .none),(qd P qn6 167 .none),(qd P qn7 168 (.builtin qz4)),(qd P qn8 169 .none),(qd P qn9 170 (.ref 6)),(qd P qn10 171 (.ref 4)),(qd P qn11 173 (.str qn1 172)),(qd P qn12 174 .none),(qd P qn13 206 (.ref 24))] 10)
noncomputable def tw14100977001757012309:List Stmt:=[qs0,qs1]
theorem te14100977001757012309:tw14100977001757012309 = tw14100977001757012309:=rfl
noncomputable def qo50:Obj:=(.mk .none .none (.fields #[(.int 2 0),(.int 0 0),(.ref 20)]) #[])
noncomputable def qo51:=qb qz0 (.seq #[(.type qz5)] 0)
noncomputable def qo52:=qb qz6 (.fields #[(.builtin qz7),(.type qz8)])
noncomputable def qo53:=qb qz3 (.dict #[(qd P qn14 196 (.str qn4 187)),(qd P qn15 198 (.str qn13 197)),(qd P qn16 200 (.int 2 199)),(qd P qn17 201 (.ref 22))] 4)
noncomputable def qo54:=qb qz0 (.seq #[] 0)
noncomputable def qo55:Obj:=(.mk .none .none (.fields #[]) #[])
noncomputable def qo56:=qb qz1 (.fields #[(.str qn13 191),(.str qn13 192),(.str qn1 193),(.int 2 0),(.int 0 0),(.int 0 0),(.int 0 0),(.int 0 0),(.ref 18),(.bool .false),(.int 181 0),(.ref 19),.none,.none,.none,.none,(.int 194 0),(.int 2 0),(.str qn1 195)])
noncomputable def qo57:Obj:=(.mk (.type qz2) .none .plain #[(.some (.ref 20)),(.some (.ref 3)),(.some (.ref 17)),.none,(.some (.str qn4 187)),.none,(.some (.ref 0))])
noncomputable def qo58:=qb qz0 (.seq #[] 0)
noncomputable def qo59:=qb qz3 (.dict #[(qd P qn14 196 (.str qn4 187)),(qd P qn16 200 (.int 2 199)),(qd P qn17 201 (.ref 22)),(qd P qn18 203 (.ref 25)),(qd P qn5 204 .none)] 3)
noncomputable def qo60:Obj:=(.mk (.type qz8) .none (.cls (.mk qn13 [(.type qz5)] [(.ref 24),(.type qz5),(.type qz9),(.type qz10),(.type qz11)] 23 qn13 .true [] [] .false .none .false)) #[(.some (.ref 15)),.none,(.some (.str qn13 189)),(.some (.str qn13 197)),(.some (.builtin qz12)),(.some (.bool .true))])
noncomputable def qo61:=qb qz13 (.fields #[(.str qn18 202),(.ref 24),(.builtin qz14),.none])
noncomputable def qo62:=qb qz15 (.fields #[(.ref 24),(.ref 24),(.ref 24)])
noncomputable def qo63:=qb qz6 (.fields #[(.builtin qz16),(.ref 24)])
noncomputable def tw2341177904089168915:Params->BT:=fun P=>(.node (boot_o_0 P) (.node (boot_o_1 P) (.node (qo49 P) (.node (boot_o_7 P) (qf qo51) (qf (qo59 P))) (.node qo43 (qf qo55) (qf qo63))) (.node (boot_o_5 P) (.node (boot_o_9 P) (qf (qo53 P)) (qf qo61)) (.node qo45 (qf qo57) .nil))) (.node (boot_o_2 P) (.node (boot_o_4 P) (.node (boot_o_8 P) (qf qo52) (qf qo60)) (.node qo50 (qf qo56) .nil)) (.node (boot_o_6 P) (.node (boot_o_10 P) (qf qo54) (qf qo62)) (.node qo46 (qf qo58) .nil))))
theorem te2341177904089168915:tw2341177904089168915 = tw2341177904089168915:=rfl
noncomputable def qo64:=qb qz3 (.dict #[(qd P qn3 165 (.str qn4 187)),(qd P qn5 166 .none),(qd P qn6 167 .none),(qd P qn7 168 (.builtin qz4)),(qd P qn8 169 .none),(qd P qn9 170 (.ref 6)),(qd P qn10 171 (.ref 4)),(qd P qn11 173 (.str qn1 172)),(qd P qn12 174 .none),(qd P qn13 206 (.ref 24)),(qd P qn19 231 (.ref 44))] 11)
noncomputable def tw1972544928224864836:List Stmt:=[qs2]
theorem te1972544928224864836:tw1972544928224864836 = tw1972544928224864836:=rfl
noncomputable def qo65:Obj:=(.mk .none .none (.fields #[(.int 2 0),(.int 0 0),(.ref 20),(.int 4 0),(.int 0 0),(.ref 33)]) #[])
noncomputable def qo66:Obj:=(.mk (.type qz8) .none (.cls (.mk qn13 [(.type qz5)] [(.ref 24),(.type qz5),(.type qz9),(.type qz10),(.type qz11)] 23 qn13 .true [] [(.ref 44)] .false .none .false)) #[(.some (.ref 15)),.none,(.some (.str qn13 189)),(.some (.str qn13 197)),(.some (.builtin qz12)),(.some (.bool .true))])
noncomputable def qo67:=qb qz0 (.seq #[(.ref 24)] 0)
noncomputable def qo68:=qb qz6 (.fields #[(.builtin qz7),(.type qz8)])
noncomputable def qo69:=qb qz3 (.dict #[(qd P qn14 214 (.str qn4 187)),(qd P qn15 216 (.str qn19 215)),(qd P qn16 218 (.int 4 217)),(qd P qn20 226 (.ref 41)),(qd P qn17 228 (.ref 42))] 5)
noncomputable def qo70:=qb qz0 (.seq #[] 0)
noncomputable def qo71:Obj:=(.mk .none .none (.fields #[(.int 6 0),(.int 4 0),(.ref 40)]) #[])
noncomputable def qo72:=qb qz1 (.fields #[(.str qn19 209),(.str qn19 210),(.str qn1 211),(.int 4 0),(.int 0 0),(.int 0 0),(.int 0 0),(.int 0 0),(.ref 31),(.bool .false),(.int 181 0),(.ref 32),.none,.none,.none,.none,(.int 212 0),(.int 4 0),(.str qn1 213)])
noncomputable def qo73:Obj:=(.mk (.type qz2) .none .plain #[(.some (.ref 33)),(.some (.ref 3)),(.some (.ref 30)),.none,(.some (.str qn4 187)),.none,(.some (.ref 0))])
noncomputable def qo74:=qb qz0 (.seq #[] 0)
noncomputable def qo75:Obj:=(.mk .none .none (.fields #[]) #[])
noncomputable def qo76:=qb qz0 (.seq #[(.str qn21 222),(.str qn22 223)] 0)
noncomputable def qo77:=qb qz0 (.seq #[] 0)
noncomputable def qo78:Obj:=(.mk .none .none (.func (.mk qn20 qn23 (qpa qs2_0) (.stmts (qbo qs2_0)) (qsc qs2_0) 0 [] .none .none .none .none .none .none .none 0)) #[])
noncomputable def qo79:=qb qz1 (.fields #[(.str qn20 219),(.str qn23 220),(.str qn1 221),(.int 6 0),(.int 2 0),(.int 0 0),(.int 0 0),(.int 3 0),(.ref 35),(.bool .true),(.int 181 0),(.ref 36),.none,(.ref 37),(.ref 38),(.ref 39),(.int 224 0),(.int 6 0),(.str qn1 225)])
noncomputable def qo80:=qb qz17 (.func (.mk qn20 qn23 (qpa qs2_0) (.stmts (qbo qs2_0)) (qsc qs2_0) 3 [] .none .none .none (.str qn4 187) .none (.ref 40) .none 0))
noncomputable def qo81:=qb qz0 (.seq #[(.str qn22 227)] 0)
noncomputable def qo82:=qb qz3 (.dict #[(qd P qn14 214 (.str qn4 187)),(qd P qn16 218 (.int 4 217)),(qd P qn20 226 (.ref 41)),(qd P qn17 228 (.ref 42)),(qd P qn5 229 .none)] 2)
noncomputable def qo83:Obj:=(.mk (.type qz8) .none (.cls (.mk qn19 [(.ref 24)] [(.ref 44),(.ref 24),(.type qz5),(.type qz9),(.type qz10),(.type qz11)] 43 qn19 .true [] [] .false .none .false)) #[(.some (.ref 28)),.none,(.some (.str qn19 207)),(.some (.str qn19 215)),(.some (.builtin qz12)),(.some (.bool .true))])
noncomputable def qo84:=qb qz15 (.fields #[(.ref 44),(.ref 44),(.ref 44)])
noncomputable def qo85:=qb qz6 (.fields #[(.builtin qz16),(.ref 44)])
noncomputable def tw7326766839278233109:Params->BT:=fun P=>(.node (boot_o_0 P) (.node (boot_o_1 P) (.node (qo64 P) (.node (boot_o_7 P) (.node qo51 (qf qo70) .nil) (.node (qo59 P) (qf qo78) .nil)) (.node qo43 (.node qo55 (qf qo74) .nil) (.node qo63 (qf (qo82 P)) .nil))) (.node (boot_o_5 P) (.node (boot_o_9 P) (.node (qo53 P) (qf qo72) .nil) (.node qo61 (qf qo80) .nil)) (.node qo45 (.node qo57 (qf qo76) .nil) (.node qo68 (qf qo84) .nil)))) (.node (boot_o_2 P) (.node (boot_o_4 P) (.node (boot_o_8 P) (.node qo52 (qf qo71) .nil) (.node qo66 (qf qo79) .nil)) (.node qo65 (.node qo56 (qf qo75) .nil) (.node qo67 (qf qo83) .nil))) (.node (boot_o_6 P) (.node (boot_o_10 P) (.node qo54 (qf qo73) .nil) (.node qo62 (qf qo81) .nil)) (.node qo46 (.node qo58 (qf qo77) .nil) (.node (qo69 P) (qf qo85) .nil)))))
theorem te7326766839278233109:tw7326766839278233109 = tw7326766839278233109:=rfl
noncomputable def qo86:=qb qz3 (.dict #[(qd P qn3 165 (.str qn4 187)),(qd P qn5 166 .none),(qd P qn6 167 .none),(qd P qn7 168 (.builtin qz4)),(qd P qn8 169 .none),(qd P qn9 170 (.ref 6)),(qd P qn10 171 (.ref 4)),(qd P qn11 173 (.str qn1 172)),(qd P qn12 174 .none),(qd P qn13 206 (.ref 24)),(qd P qn19 231 (.ref 44)),(qd P qn24 256 (.ref 63))] 12)
noncomputable def tw8432832163717257200:List Stmt:=[qs3]
theorem te8432832163717257200:tw8432832163717257200 = tw8432832163717257200:=rfl
noncomputable def qo87:Obj:=(.mk .none .none (.fields #[(.int 2 0),(.int 0 0),(.ref 20),(.int 4 0),(.int 0 0),(.ref 33),(.int 8 0),(.int 0 0),(.ref 52)]) #[])
noncomputable def qo88:Obj:=(.mk (.type qz8) .none (.cls (.mk qn13 [(.type qz5)] [(.ref 24),(.type qz5),(.type qz9),(.type qz10),(.type qz11)] 23 qn13 .true [] [(.ref 44),(.ref 63)] .false .none .false)) #[(.some (.ref 15)),.none,(.some (.str qn13 189)),(.some (.str qn13 197)),(.some (.builtin qz12)),(.some (.bool .true))])
noncomputable def qo89:=qb qz0 (.seq #[(.ref 24)] 0)
noncomputable def qo90:=qb qz6 (.fields #[(.builtin qz7),(.type qz8)])
noncomputable def qo91:=qb qz3 (.dict #[(qd P qn14 239 (.str qn4 187)),(qd P qn15 241 (.str qn24 240)),(qd P qn16 243 (.int 8 242)),(qd P qn20 251 (.ref 60)),(qd P qn17 253 (.ref 61))] 5)
noncomputable def qo92:=qb qz0 (.seq #[] 0)
noncomputable def qo93:Obj:=(.mk .none .none (.fields #[(.int 10 0),(.int 4 0),(.ref 59)]) #[])
noncomputable def qo94:=qb qz1 (.fields #[(.str qn24 234),(.str qn24 235),(.str qn1 236),(.int 8 0),(.int 0 0),(.int 0 0),(.int 0 0),(.int 0 0),(.ref 50),(.bool .false),(.int 181 0),(.ref 51),.none,.none,.none,.none,(.int 237 0),(.int 8 0),(.str qn1 238)])
noncomputable def qo95:Obj:=(.mk (.type qz2) .none .plain #[(.some (.ref 52)),(.some (.ref 3)),(.some (.ref 49)),.none,(.some (.str qn4 187)),.none,(.some (.ref 0))])
noncomputable def qo96:=qb qz0 (.seq #[] 0)
noncomputable def qo97:Obj:=(.mk .none .none (.fields #[]) #[])
noncomputable def qo98:=qb qz0 (.seq #[(.str qn21 247),(.str qn22 248)] 0)
noncomputable def qo99:=qb qz0 (.seq #[] 0)
noncomputable def qo100:Obj:=(.mk .none .none (.func (.mk qn20 qn25 (qpa qs3_0) (.stmts (qbo qs3_0)) (qsc qs2_0) 0 [] .none .none .none .none .none .none .none 0)) #[])
noncomputable def qo101:=qb qz1 (.fields #[(.str qn20 244),(.str qn25 245),(.str qn1 246),(.int 10 0),(.int 2 0),(.int 0 0),(.int 0 0),(.int 3 0),(.ref 54),(.bool .true),(.int 181 0),(.ref 55),.none,(.ref 56),(.ref 57),(.ref 58),(.int 249 0),(.int 10 0),(.str qn1 250)])
noncomputable def qo102:=qb qz17 (.func (.mk qn20 qn25 (qpa qs3_0) (.stmts (qbo qs3_0)) (qsc qs2_0) 3 [] .none .none .none (.str qn4 187) .none (.ref 59) .none 0))
noncomputable def qo103:=qb qz0 (.seq #[(.str qn22 252)] 0)
noncomputable def qo104:=qb qz3 (.dict #[(qd P qn14 239 (.str qn4 187)),(qd P qn16 243 (.int 8 242)),(qd P qn20 251 (.ref 60)),(qd P qn17 253 (.ref 61)),(qd P qn5 254 .none)] 2)
noncomputable def qo105:Obj:=(.mk (.type qz8) .none (.cls (.mk qn24 [(.ref 24)] [(.ref 63),(.ref 24),(.type qz5),(.type qz9),(.type qz10),(.type qz11)] 62 qn24 .true [] [] .false .none .false)) #[(.some (.ref 47)),.none,(.some (.str qn24 232)),(.some (.str qn24 240)),(.some (.builtin qz12)),(.some (.bool .true))])
noncomputable def qo106:=qb qz15 (.fields #[(.ref 63),(.ref 63),(.ref 63)])
noncomputable def qo107:=qb qz6 (.fields #[(.builtin qz16),(.ref 63)])
noncomputable def tw4499652274975449835:Params->BT:=fun P=>(.node (boot_o_0 P) (.node (boot_o_1 P) (.node (qo86 P) (.node (boot_o_7 P) (.node qo51 (.node qo70 (qf qo105) .nil) (qf qo89)) (.node (qo59 P) (qf qo78) (qf qo97))) (.node qo43 (.node qo55 (qf qo74) (qf qo93)) (.node qo63 (qf (qo82 P)) (qf qo101)))) (.node (boot_o_5 P) (.node (boot_o_9 P) (.node (qo53 P) (.node qo72 (qf qo107) .nil) (qf (qo91 P))) (.node qo61 (qf qo80) (qf qo99))) (.node qo45 (.node qo57 (qf qo76) (qf qo95)) (.node qo68 (qf qo84) (qf qo103))))) (.node (boot_o_2 P) (.node (boot_o_4 P) (.node (boot_o_8 P) (.node qo52 (.node qo71 (qf qo106) .nil) (qf qo90)) (.node qo88 (qf qo79) (qf qo98))) (.node qo87 (.node qo56 (qf qo75) (qf qo94)) (.node qo67 (qf qo83) (qf qo102)))) (.node (boot_o_6 P) (.node (boot_o_10 P) (.node qo54 (qf qo73) (qf qo92)) (.node qo62 (qf qo81) (qf qo100))) (.node qo46 (.node qo58 (qf qo77) (qf qo96)) (.node (qo69 P) (qf qo85) (qf (qo104 P)))))))
theorem te4499652274975449835:tw4499652274975449835 = tw4499652274975449835:=rfl
noncomputable def qo108:=qb qz3 (.dict #[(qd P qn3 165 (.str qn26 282)),(qd P qn5 166 .none),(qd P qn6 167 .none),(qd P qn7 168 (.builtin qz4)),(qd P qn8 169 .none),(qd P qn9 170 (.ref 6)),(qd P qn10 171 (.ref 4)),(qd P qn11 173 (.str qn1 172)),(qd P qn12 174 .none),(qd P qn13 206 (.ref 24)),(qd P qn19 231 (.ref 44)),(qd P qn24 256 (.ref 63)),(qd P qn27 281 (.ref 82)),(qd P qn28 285 (.str qn29 284)),(qd P qn30 287 (.str qn31 286)),(qd P qn32 296 (.ref 85)),(qd P qn33 298 (.int 8 297)),(qd P qn34 300 (.int 18446744073709551615 299)),(qd P qn35 302 (.int 999 301)),(qd P qn36 304 (.int 400 303))] 20)
noncomputable def tw16598768676970126033:List Stmt:=[qs4,qs5,qs6,qs7,qs8,qs9,qs10,qs11,qs12]
theorem te16598768676970126033:tw16598768676970126033 = tw16598768676970126033:=rfl
noncomputable def qo109:Obj:=(.mk .none .none (.fields #[(.int 2 0),(.int 0 0),(.ref 20),(.int 4 0),(.int 0 0),(.ref 33),(.int 8 0),(.int 0 0),(.ref 52),(.int 12 0),(.int 0 0),(.ref 71)]) #[])
noncomputable def qo110:Obj:=(.mk (.type qz8) .none (.cls (.mk qn13 [(.type qz5)] [(.ref 24),(.type qz5),(.type qz9),(.type qz10),(.type qz11)] 23 qn13 .true [] [(.ref 44),(.ref 63),(.ref 82)] .false .none .false)) #[(.some (.ref 15)),.none,(.some (.str qn13 189)),(.some (.str qn13 197)),(.some (.builtin qz12)),(.some (.bool .true))])
noncomputable def qo111:=qb qz0 (.seq #[(.ref 24)] 0)
noncomputable def qo112:=qb qz6 (.fields #[(.builtin qz7),(.type qz8)])
noncomputable def qo113:=qb qz3 (.dict #[(qd P qn14 264 (.str qn4 187)),(qd P qn15 266 (.str qn27 265)),(qd P qn16 268 (.int 12 267)),(qd P qn20 276 (.ref 79)),(qd P qn17 278 (.ref 80))] 5)
noncomputable def qo114:=qb qz0 (.seq #[] 0)
noncomputable def qo115:Obj:=(.mk .none .none (.fields #[(.int 14 0),(.int 4 0),(.ref 78)]) #[])
noncomputable def qo116:=qb qz1 (.fields #[(.str qn27 259),(.str qn27 260),(.str qn1 261),(.int 12 0),(.int 0 0),(.int 0 0),(.int 0 0),(.int 0 0),(.ref 69),(.bool .false),(.int 181 0),(.ref 70),.none,.none,.none,.none,(.int 262 0),(.int 12 0),(.str qn1 263)])
noncomputable def qo117:Obj:=(.mk (.type qz2) .none .plain #[(.some (.ref 71)),(.some (.ref 3)),(.some (.ref 68)),.none,(.some (.str qn4 187)),.none,(.some (.ref 0))])
noncomputable def qo118:=qb qz0 (.seq #[] 0)
noncomputable def qo119:Obj:=(.mk .none .none (.fields #[]) #[])
noncomputable def qo120:=qb qz0 (.seq #[(.str qn21 272),(.str qn22 273)] 0)
noncomputable def qo121:=qb qz0 (.seq #[] 0)
noncomputable def qo122:Obj:=(.mk .none .none (.func (.mk qn20 qn37 (qpa qs4_0) (.stmts (qbo qs4_0)) (qsc qs2_0) 0 [] .none .none .none .none .none .none .none 0)) #[])
noncomputable def qo123:=qb qz1 (.fields #[(.str qn20 269),(.str qn37 270),(.str qn1 271),(.int 14 0),(.int 2 0),(.int 0 0),(.int 0 0),(.int 3 0),(.ref 73),(.bool .true),(.int 181 0),(.ref 74),.none,(.ref 75),(.ref 76),(.ref 77),(.int 274 0),(.int 14 0),(.str qn1 275)])
noncomputable def qo124:=qb qz17 (.func (.mk qn20 qn37 (qpa qs4_0) (.stmts (qbo qs4_0)) (qsc qs2_0) 3 [] .none .none .none (.str qn4 187) .none (.ref 78) .none 0))
noncomputable def qo125:=qb qz0 (.seq #[(.str qn22 277)] 0)
noncomputable def qo126:=qb qz3 (.dict #[(qd P qn14 264 (.str qn4 187)),(qd P qn16 268 (.int 12 267)),(qd P qn20 276 (.ref 79)),(qd P qn17 278 (.ref 80)),(qd P qn5 279 .none)] 2)
noncomputable def qo127:Obj:=(.mk (.type qz8) .none (.cls (.mk qn27 [(.ref 24)] [(.ref 82),(.ref 24),(.type qz5),(.type qz9),(.type qz10),(.type qz11)] 81 qn27 .true [] [] .false .none .false)) #[(.some (.ref 66)),.none,(.some (.str qn27 257)),(.some (.str qn27 265)),(.some (.builtin qz12)),(.some (.bool .true))])
noncomputable def qo128:=qb qz15 (.fields #[(.ref 82),(.ref 82),(.ref 82)])
noncomputable def qo129:=qb qz6 (.fields #[(.builtin qz16),(.ref 82)])
noncomputable def qo130:=qb qz0 (.seq #[(.str qn38 288),(.str qn39 289),(.str qn40 290),(.str qn41 291),(.str qn42 292),(.str qn43 293),(.str qn44 294),(.str qn45 295)] 0)
noncomputable def tw18145228940259842084:Params->BT:=fun P=>(.node (boot_o_0 P) (.node (boot_o_1 P) (.node (qo108 P) (.node (boot_o_7 P) (.node qo51 (.node qo70 (qf qo105) .nil) (.node qo89 (qf qo124) .nil)) (.node (qo59 P) (.node qo78 (qf qo116) .nil) (qf qo97))) (.node qo43 (.node qo55 (.node qo74 (qf qo112) .nil) (.node qo93 (qf qo128) .nil)) (.node qo63 (.node (qo82 P) (qf qo120) .nil) (qf qo101)))) (.node (boot_o_5 P) (.node (boot_o_9 P) (.node (qo53 P) (.node qo72 (qf qo107) .nil) (.node (qo91 P) (qf (qo126 P)) .nil)) (.node qo61 (.node qo80 (qf qo118) .nil) (qf qo99))) (.node qo45 (.node qo57 (.node qo76 (qf qo114) .nil) (.node qo95 (qf qo130) .nil)) (.node qo68 (.node qo84 (qf qo122) .nil) (qf qo103))))) (.node (boot_o_2 P) (.node (boot_o_4 P) (.node (boot_o_8 P) (.node qo52 (.node qo71 (qf qo106) .nil) (.node qo90 (qf qo125) .nil)) (.node qo110 (.node qo79 (qf qo117) .nil) (qf qo98))) (.node qo109 (.node qo56 (.node qo75 (qf (qo113 P)) .nil) (.node qo94 (qf qo129) .nil)) (.node qo67 (.node qo83 (qf qo121) .nil) (qf qo102)))) (.node (boot_o_6 P) (.node (boot_o_10 P) (.node qo54 (.node qo73 (qf qo111) .nil) (.node qo92 (qf qo127) .nil)) (.node qo62 (.node qo81 (qf qo119) .nil) (qf qo100))) (.node qo46 (.node qo58 (.node qo77 (qf qo115) .nil) (qf qo96)) (.node (qo69 P) (.node qo85 (qf qo123) .nil) (qf (qo104 P)))))))
theorem te18145228940259842084:tw18145228940259842084 = tw18145228940259842084:=rfl
noncomputable def qo131:=qb qz3 (.dict #[(qd P qn3 165 (.str qn26 282)),(qd P qn5 166 .none),(qd P qn6 167 .none),(qd P qn7 168 (.builtin qz4)),(qd P qn8 169 .none),(qd P qn9 170 (.ref 6)),(qd P qn10 171 (.ref 4)),(qd P qn11 173 (.str qn1 172)),(qd P qn12 174 .none),(qd P qn13 206 (.ref 24)),(qd P qn19 231 (.ref 44)),(qd P qn24 256 (.ref 63)),(qd P qn27 281 (.ref 82)),(qd P qn28 285 (.str qn29 284)),(qd P qn30 287 (.str qn31 286)),(qd P qn32 296 (.ref 85)),(qd P qn33 298 (.int 8 297)),(qd P qn34 300 (.int 18446744073709551615 299)),(qd P qn35 302 (.int 999 301)),(qd P qn36 304 (.int 400 303)),(qd P qn46 393 (.ref 86))] 21)
noncomputable def tw15503381338746478948:List Stmt:=[qs13]
theorem te15503381338746478948:tw15503381338746478948 = tw15503381338746478948:=rfl
noncomputable def qo132:=qb qz3 (.dict #[(qd P qn47 305 (.ref 87)),(qd P qn48 309 (.ref 88)),(qd P qn49 313 (.ref 89)),(qd P qn50 318 (.ref 90)),(qd P qn51 323 (.ref 91)),(qd P qn52 328 (.ref 92)),(qd P qn53 333 (.ref 93)),(qd P qn54 338 (.ref 94)),(qd P qn55 343 (.ref 95)),(qd P qn56 348 (.ref 96)),(qd P qn57 353 (.ref 97)),(qd P qn58 358 (.ref 98)),(qd P qn59 363 (.ref 99)),(qd P qn60 368 (.ref 100)),(qd P qn61 373 (.ref 101)),(qd P qn62 378 (.ref 102)),(qd P qn63 383 (.ref 103)),(qd P qn64 387 (.ref 105)),(qd P qn65 389 (.ref 106))] 19)
noncomputable def qo133:=qb qz0 (.seq #[(.str qn66 306),(.str qn67 307)] 0)
noncomputable def qo134:=qb qz0 (.seq #[(.str qn66 310),(.str qn66 311)] 0)
noncomputable def qo135:=qb qz0 (.seq #[(.str qn66 314),(.str qn66 315),(.str qn66 316)] 0)
noncomputable def qo136:=qb qz0 (.seq #[(.str qn66 319),(.str qn66 320),(.str qn66 321)] 0)
noncomputable def qo137:=qb qz0 (.seq #[(.str qn66 324),(.str qn66 325),(.str qn66 326)] 0)
noncomputable def qo138:=qb qz0 (.seq #[(.str qn66 329),(.str qn66 330),(.str qn66 331)] 0)
noncomputable def qo139:=qb qz0 (.seq #[(.str qn66 334),(.str qn66 335),(.str qn66 336)] 0)
noncomputable def qo140:=qb qz0 (.seq #[(.str qn66 339),(.str qn66 340),(.str qn66 341)] 0)
noncomputable def qo141:=qb qz0 (.seq #[(.str qn66 344),(.str qn66 345),(.str qn66 346)] 0)
noncomputable def qo142:=qb qz0 (.seq #[(.str qn66 349),(.str qn66 350),(.str qn66 351)] 0)
noncomputable def qo143:=qb qz0 (.seq #[(.str qn66 354),(.str qn66 355),(.str qn66 356)] 0)
noncomputable def qo144:=qb qz0 (.seq #[(.str qn66 359),(.str qn66 360),(.str qn66 361)] 0)
noncomputable def qo145:=qb qz0 (.seq #[(.str qn66 364),(.str qn66 365),(.str qn66 366)] 0)
noncomputable def qo146:=qb qz0 (.seq #[(.str qn66 369),(.str qn66 370),(.str qn66 371)] 0)
noncomputable def qo147:=qb qz0 (.seq #[(.str qn66 374),(.str qn66 375),(.str qn68 376)] 0)
noncomputable def qo148:=qb qz0 (.seq #[(.str qn66 379),(.str qn66 380),(.str qn68 381)] 0)
noncomputable def qo149:=qb qz0 (.seq #[(.str qn66 384),(.str qn69 385)] 0)
noncomputable def qo150:=qb qz3 (.dict #[(qd P qn64 387 (.ref 105)),(qd P qn65 389 (.ref 106))] 2)
noncomputable def qo151:=qb qz0 (.seq #[(.str qn69 388)] 0)
noncomputable def qo152:=qb qz0 (.seq #[(.str qn67 390)] 0)
noncomputable def tw16675961482807354737:Params->BT:=fun P=>(.node (boot_o_0 P) (.node (boot_o_1 P) (.node (qo131 P) (.node (boot_o_7 P) (.node qo51 (.node qo70 (qf qo105) (qf qo141)) (.node qo89 (qf qo124) .nil)) (.node (qo59 P) (.node qo78 (qf qo116) (qf qo149)) (.node qo97 (qf qo133) .nil))) (.node qo43 (.node qo55 (.node qo74 (qf qo112) (qf qo145)) (.node qo93 (qf qo128) .nil)) (.node qo63 (.node (qo82 P) (qf qo120) .nil) (.node qo101 (qf qo137) .nil)))) (.node (boot_o_5 P) (.node (boot_o_9 P) (.node (qo53 P) (.node qo72 (qf qo107) (qf qo143)) (.node (qo91 P) (qf (qo126 P)) .nil)) (.node qo61 (.node qo80 (qf qo118) (qf qo151)) (.node qo99 (qf qo135) .nil))) (.node qo45 (.node qo57 (.node qo76 (qf qo114) (qf qo147)) (.node qo95 (qf qo130) .nil)) (.node qo68 (.node qo84 (qf qo122) .nil) (.node qo103 (qf qo139) .nil))))) (.node (boot_o_2 P) (.node (boot_o_4 P) (.node (boot_o_8 P) (.node qo52 (.node qo71 (qf qo106) (qf qo142)) (.node qo90 (qf qo125) .nil)) (.node qo110 (.node qo79 (qf qo117) (qf (qo150 P))) (.node qo98 (qf qo134) .nil))) (.node qo109 (.node qo56 (.node qo75 (qf (qo113 P)) (qf qo146)) (.node qo94 (qf qo129) .nil)) (.node qo67 (.node qo83 (qf qo121) .nil) (.node qo102 (qf qo138) .nil)))) (.node (boot_o_6 P) (.node (boot_o_10 P) (.node qo54 (.node qo73 (qf qo111) (qf qo144)) (.node qo92 (qf qo127) .nil)) (.node qo62 (.node qo81 (qf qo119) (qf qo152)) (.node qo100 (qf qo136) .nil))) (.node qo46 (.node qo58 (.node qo77 (qf qo115) (qf qo148)) (.node qo96 (qf (qo132 P)) .nil)) (.node (qo69 P) (.node qo85 (qf qo123) .nil) (.node (qo104 P) (qf qo140) .nil))))))
theorem te16675961482807354737:tw16675961482807354737 = tw16675961482807354737:=rfl
noncomputable def qo155:=qb qz3 (.dict #[(qd P qn3 165 (.str qn70 481)),(qd P qn5 166 .none),(qd P qn6 167 .none),(qd P qn7 168 (.builtin qz4)),(qd P qn8 169 .none),(qd P qn9 170 (.ref 6)),(qd P qn10 171 (.ref 4)),(qd P qn11 173 (.str qn1 172)),(qd P qn12 174 .none),(qd P qn13 206 (.ref 24)),(qd P qn19 231 (.ref 44)),(qd P qn24 256 (.ref 63)),(qd P qn27 281 (.ref 82)),(qd P qn28 285 (.str qn29 284)),(qd P qn30 287 (.str qn31 286)),(qd P qn32 296 (.ref 85)),(qd P qn33 298 (.int 8 297)),(qd P qn34 300 (.int 18446744073709551615 299)),(qd P qn35 302 (.int 999 301)),(qd P qn36 304 (.int 400 303)),(qd P qn46 393 (.ref 86)),(qd P qn71 400 (.ref 113)),(qd P qn72 406 (.ref 118)),(qd P qn73 412 (.ref 123)),(qd P qn74 419 (.ref 130)),(qd P qn75 428 (.ref 137)),(qd P qn76 436 (.ref 144)),(qd P qn77 443 (.ref 151)),(qd P qn78 450 (.ref 158)),(qd P qn79 458 (.ref 165)),(qd P qn80 466 (.ref 172)),(qd P qn81 472 (.ref 177)),(qd P qn82 480 (.ref 184)),(qd P qn83 488 (.ref 189))] 34)
noncomputable def tw18125517202841942883:List Stmt:=[qs14,qs15,qs16,qs17,qs18,qs19,qs20,qs21,qs22,qs23,qs24,qs25,qs26,qs27]
theorem te18125517202841942883:tw18125517202841942883 = tw18125517202841942883:=rfl
noncomputable def qo156:Obj:=(.mk .none .none (.fields #[(.int 2 0),(.int 0 0),(.ref 20),(.int 4 0),(.int 0 0),(.ref 33),(.int 8 0),(.int 0 0),(.ref 52),(.int 12 0),(.int 0 0),(.ref 71),(.int 25 0),(.int 0 0),(.ref 112),(.int 27 0),(.int 0 0),(.ref 117),(.int 29 0),(.int 0 0),(.ref 122),(.int 31 0),(.int 0 0),(.ref 129),(.int 33 0),(.int 0 0),(.ref 136),(.int 40 0),(.int 0 0),(.ref 143),(.int 45 0),(.int 0 0),(.ref 150),(.int 47 0),(.int 0 0),(.ref 157),(.int 49 0),(.int 0 0),(.ref 164),(.int 57 0),(.int 0 0),(.ref 171),(.int 59 0),(.int 0 0),(.ref 176),(.int 70 0),(.int 0 0),(.ref 183),(.int 76 0),(.int 0 0),(.ref 188)]) #[])
noncomputable def qo157:=qb qz0 (.seq #[] 0)
noncomputable def qo158:Obj:=(.mk .none .none (.fields #[]) #[])
noncomputable def qo159:=qb qz0 (.seq #[(.str qn22 397)] 0)
noncomputable def qo160:=qb qz0 (.seq #[] 0)
noncomputable def qo161:Obj:=(.mk .none .none (.func (.mk qn71 qn71 (qpa qs14) (.stmts (qbo qs14)) (qsc qs14) 0 [] .none .none .none .none .none .none .none 0)) #[])
noncomputable def qo162:=qb qz1 (.fields #[(.str qn71 394),(.str qn71 395),(.str qn1 396),(.int 25 0),(.int 1 0),(.int 0 0),(.int 0 0),(.int 3 0),(.ref 107),(.bool .true),(.int 181 0),(.ref 108),.none,(.ref 109),(.ref 110),(.ref 111),(.int 398 0),(.int 25 0),(.str qn1 399)])
noncomputable def qo163:=qb qz17 (.func (.mk qn71 qn71 (qpa qs14) (.stmts (qbo qs14)) (qsc qs14) 3 [] .none .none .none (.str qn26 282) .none (.ref 112) .none 0))
noncomputable def qo164:=qb qz0 (.seq #[] 0)
noncomputable def qo165:Obj:=(.mk .none .none (.fields #[]) #[])
noncomputable def qo166:Obj:=(.mk .none .none (.func (.mk qn72 qn72 (qpa qs15) (.stmts (qbo qs15)) (qsc qs15) 0 [] .none .none .none .none .none .none .none 0)) #[])
noncomputable def qo167:=qb qz1 (.fields #[(.str qn72 401),(.str qn72 402),(.str qn1 403),(.int 27 0),(.int 1 0),(.int 0 0),(.int 0 0),(.int 3 0),(.ref 114),(.bool .true),(.int 181 0),(.ref 115),.none,.none,.none,(.ref 116),(.int 404 0),(.int 27 0),(.str qn1 405)])
noncomputable def qo168:=qb qz17 (.func (.mk qn72 qn72 (qpa qs15) (.stmts (qbo qs15)) (qsc qs15) 3 [] .none .none .none (.str qn26 282) .none (.ref 117) .none 0))
noncomputable def qo169:=qb qz0 (.seq #[] 0)
noncomputable def qo170:Obj:=(.mk .none .none (.fields #[]) #[])
noncomputable def qo171:Obj:=(.mk .none .none (.func (.mk qn73 qn73 (qpa qs16) (.stmts (qbo qs16)) (qsc qs16) 0 [] .none .none .none .none .none .none .none 0)) #[])
noncomputable def qo172:=qb qz1 (.fields #[(.str qn73 407),(.str qn73 408),(.str qn1 409),(.int 29 0),(.int 2 0),(.int 0 0),(.int 0 0),(.int 3 0),(.ref 119),(.bool .true),(.int 181 0),(.ref 120),.none,.none,.none,(.ref 121),(.int 410 0),(.int 29 0),(.str qn1 411)])
noncomputable def qo173:=qb qz17 (.func (.mk qn73 qn73 (qpa qs16) (.stmts (qbo qs16)) (qsc qs16) 3 [] .none .none .none (.str qn26 282) .none (.ref 122) .none 0))
noncomputable def qo174:=qb qz0 (.seq #[] 0)
noncomputable def qo175:Obj:=(.mk .none .none (.fields #[]) #[])
noncomputable def qo176:=qb qz0 (.seq #[(.str qn67 416)] 0)
noncomputable def qo177:=qb qz0 (.seq #[] 0)
noncomputable def qo178:Obj:=(.mk .none .none (.func (.mk qn74 qn74 (qpa qs17) (.stmts (qbo qs17)) (qsc qs17) 0 [] .none .none .none .none .none .none .none 0)) #[])
noncomputable def qo179:=qb qz1 (.fields #[(.str qn74 413),(.str qn74 414),(.str qn1 415),(.int 31 0),(.int 1 0),(.int 0 0),(.int 0 0),(.int 3 0),(.ref 124),(.bool .true),(.int 181 0),(.ref 125),.none,(.ref 126),(.ref 127),(.ref 128),(.int 417 0),(.int 31 0),(.str qn1 418)])
noncomputable def qo180:=qb qz17 (.func (.mk qn74 qn74 (qpa qs17) (.stmts (qbo qs17)) (qsc qs17) 3 [] .none .none .none (.str qn26 282) .none (.ref 129) .none 0))
noncomputable def qo181:=qb qz0 (.seq #[] 0)
noncomputable def qo182:Obj:=(.mk .none .none (.fields #[]) #[])
noncomputable def qo183:=qb qz0 (.seq #[(.str qn84 423),(.str qn85 424),(.str qn86 425)] 0)
noncomputable def qo184:=qb qz0 (.seq #[] 0)
noncomputable def qo185:Obj:=(.mk .none .none (.func (.mk qn75 qn75 (qpa qs18) (.stmts (qbo qs18)) (qsc qs18) 0 [] .none .none .none .none .none .none .none 0)) #[])
noncomputable def qo186:=qb qz1 (.fields #[(.str qn75 420),(.str qn75 421),(.str qn1 422),(.int 33 0),(.int 2 0),(.int 0 0),(.int 0 0),(.int 3 0),(.ref 131),(.bool .true),(.int 181 0),(.ref 132),.none,(.ref 133),(.ref 134),(.ref 135),(.int 426 0),(.int 33 0),(.str qn1 427)])
noncomputable def qo187:=qb qz17 (.func (.mk qn75 qn75 (qpa qs18) (.stmts (qbo qs18)) (qsc qs18) 3 [] .none .none .none (.str qn26 282) .none (.ref 136) .none 0))
noncomputable def qo188:=qb qz0 (.seq #[] 0)
noncomputable def qo189:Obj:=(.mk .none .none (.fields #[]) #[])
noncomputable def qo190:=qb qz0 (.seq #[(.str qn67 432),(.str qn86 433)] 0)
noncomputable def qo191:=qb qz0 (.seq #[] 0)
noncomputable def qo192:Obj:=(.mk .none .none (.func (.mk qn76 qn76 (qpa qs19) (.stmts (qbo qs19)) (qsc qs19) 0 [] .none .none .none .none .none .none .none 0)) #[])
noncomputable def qo193:=qb qz1 (.fields #[(.str qn76 429),(.str qn76 430),(.str qn1 431),(.int 40 0),(.int 1 0),(.int 0 0),(.int 0 0),(.int 3 0),(.ref 138),(.bool .true),(.int 181 0),(.ref 139),.none,(.ref 140),(.ref 141),(.ref 142),(.int 434 0),(.int 40 0),(.str qn1 435)])
noncomputable def qo194:=qb qz17 (.func (.mk qn76 qn76 (qpa qs19) (.stmts (qbo qs19)) (qsc qs19) 3 [] .none .none .none (.str qn26 282) .none (.ref 143) .none 0))
noncomputable def qo195:=qb qz0 (.seq #[] 0)
noncomputable def qo196:Obj:=(.mk .none .none (.fields #[]) #[])
noncomputable def qo197:=qb qz0 (.seq #[(.str qn67 440)] 0)
noncomputable def qo198:=qb qz0 (.seq #[] 0)
noncomputable def qo199:Obj:=(.mk .none .none (.func (.mk qn77 qn77 (qpa qs20) (.stmts (qbo qs20)) (qsc qs20) 0 [] .none .none .none .none .none .none .none 0)) #[])
noncomputable def qo200:=qb qz1 (.fields #[(.str qn77 437),(.str qn77 438),(.str qn1 439),(.int 45 0),(.int 1 0),(.int 0 0),(.int 0 0),(.int 3 0),(.ref 145),(.bool .true),(.int 181 0),(.ref 146),.none,(.ref 147),(.ref 148),(.ref 149),(.int 441 0),(.int 45 0),(.str qn1 442)])
noncomputable def qo201:=qb qz17 (.func (.mk qn77 qn77 (qpa qs20) (.stmts (qbo qs20)) (qsc qs20) 3 [] .none .none .none (.str qn26 282) .none (.ref 150) .none 0))
noncomputable def qo202:=qb qz0 (.seq #[] 0)
noncomputable def qo203:Obj:=(.mk .none .none (.fields #[]) #[])
noncomputable def qo204:=qb qz0 (.seq #[(.str qn67 447)] 0)
noncomputable def qo205:=qb qz0 (.seq #[] 0)
noncomputable def qo206:Obj:=(.mk .none .none (.func (.mk qn78 qn78 (qpa qs21) (.stmts (qbo qs21)) (qsc qs21) 0 [] .none .none .none .none .none .none .none 0)) #[])
noncomputable def qo207:=qb qz1 (.fields #[(.str qn78 444),(.str qn78 445),(.str qn1 446),(.int 47 0),(.int 1 0),(.int 0 0),(.int 0 0),(.int 3 0),(.ref 152),(.bool .true),(.int 181 0),(.ref 153),.none,(.ref 154),(.ref 155),(.ref 156),(.int 448 0),(.int 47 0),(.str qn1 449)])
noncomputable def qo208:=qb qz17 (.func (.mk qn78 qn78 (qpa qs21) (.stmts (qbo qs21)) (qsc qs21) 3 [] .none .none .none (.str qn26 282) .none (.ref 157) .none 0))
noncomputable def qo209:=qb qz0 (.seq #[] 0)
noncomputable def qo210:Obj:=(.mk .none .none (.fields #[]) #[])
noncomputable def qo211:=qb qz0 (.seq #[(.str qn87 454),(.str qn67 455)] 0)
noncomputable def qo212:=qb qz0 (.seq #[] 0)
noncomputable def qo213:Obj:=(.mk .none .none (.func (.mk qn79 qn79 (qpa qs22) (.stmts (qbo qs22)) (qsc qs22) 0 [] .none .none .none .none .none .none .none 0)) #[])
noncomputable def qo214:=qb qz1 (.fields #[(.str qn79 451),(.str qn79 452),(.str qn1 453),(.int 49 0),(.int 2 0),(.int 0 0),(.int 0 0),(.int 3 0),(.ref 159),(.bool .true),(.int 181 0),(.ref 160),.none,(.ref 161),(.ref 162),(.ref 163),(.int 456 0),(.int 49 0),(.str qn1 457)])
noncomputable def qo215:=qb qz17 (.func (.mk qn79 qn79 (qpa qs22) (.stmts (qbo qs22)) (qsc qs22) 3 [] .none .none .none (.str qn26 282) .none (.ref 164) .none 0))
noncomputable def qo216:=qb qz0 (.seq #[] 0)
noncomputable def qo217:Obj:=(.mk .none .none (.fields #[]) #[])
noncomputable def qo218:=qb qz0 (.seq #[(.str qn87 462),(.str qn88 463)] 0)
noncomputable def qo219:=qb qz0 (.seq #[] 0)
noncomputable def qo220:Obj:=(.mk .none .none (.func (.mk qn80 qn80 (qpa qs23) (.stmts (qbo qs23)) (qsc qs23) 0 [] .none .none .none .none .none .none .none 0)) #[])
noncomputable def qo221:=qb qz1 (.fields #[(.str qn80 459),(.str qn80 460),(.str qn1 461),(.int 57 0),(.int 2 0),(.int 0 0),(.int 0 0),(.int 3 0),(.ref 166),(.bool .true),(.int 181 0),(.ref 167),.none,(.ref 168),(.ref 169),(.ref 170),(.int 464 0),(.int 57 0),(.str qn1 465)])
noncomputable def qo222:=qb qz17 (.func (.mk qn80 qn80 (qpa qs23) (.stmts (qbo qs23)) (qsc qs23) 3 [] .none .none .none (.str qn26 282) .none (.ref 171) .none 0))
noncomputable def qo223:=qb qz0 (.seq #[] 0)
noncomputable def qo224:Obj:=(.mk .none .none (.fields #[]) #[])
noncomputable def qo225:Obj:=(.mk .none .none (.func (.mk qn81 qn81 (qpa qs24) (.stmts (qbo qs24)) (qsc qs24) 0 [] .none .none .none .none .none .none .none 0)) #[])
noncomputable def qo226:=qb qz1 (.fields #[(.str qn81 467),(.str qn81 468),(.str qn1 469),(.int 59 0),(.int 1 0),(.int 0 0),(.int 0 0),(.int 3 0),(.ref 173),(.bool .true),(.int 181 0),(.ref 174),.none,.none,.none,(.ref 175),(.int 470 0),(.int 59 0),(.str qn1 471)])
noncomputable def qo227:=qb qz17 (.func (.mk qn81 qn81 (qpa qs24) (.stmts (qbo qs24)) (qsc qs24) 3 [] .none .none .none (.str qn26 282) .none (.ref 176) .none 0))
noncomputable def qo228:=qb qz0 (.seq #[] 0)
noncomputable def qo229:Obj:=(.mk .none .none (.fields #[]) #[])
noncomputable def qo230:=qb qz0 (.seq #[(.str qn22 476),(.str qn89 477)] 0)
noncomputable def qo231:=qb qz0 (.seq #[] 0)
noncomputable def qo232:Obj:=(.mk .none .none (.func (.mk qn82 qn82 (qpa qs25) (.stmts (qbo qs25)) (qsc qs25) 0 [] .none .none .none .none .none .none .none 0)) #[])
noncomputable def qo233:=qb qz1 (.fields #[(.str qn82 473),(.str qn82 474),(.str qn1 475),(.int 70 0),(.int 1 0),(.int 0 0),(.int 0 0),(.int 3 0),(.ref 178),(.bool .true),(.int 181 0),(.ref 179),.none,(.ref 180),(.ref 181),(.ref 182),(.int 478 0),(.int 70 0),(.str qn1 479)])
noncomputable def qo234:=qb qz17 (.func (.mk qn82 qn82 (qpa qs25) (.stmts (qbo qs25)) (qsc qs25) 3 [] .none .none .none (.str qn26 282) .none (.ref 183) .none 0))
noncomputable def qo235:=qb qz0 (.seq #[] 0)
noncomputable def qo236:Obj:=(.mk .none .none (.fields #[]) #[])
noncomputable def qo237:Obj:=(.mk .none .none (.func (.mk qn83 qn83 (qpa qs27) (.stmts (qbo qs27)) (qsc qs27) 0 [] .none .none .none .none .none .none .none 0)) #[])
noncomputable def qo238:=qb qz1 (.fields #[(.str qn83 483),(.str qn83 484),(.str qn1 485),(.int 76 0),(.int 1 0),(.int 0 0),(.int 0 0),(.int 3 0),(.ref 185),(.bool .true),(.int 181 0),(.ref 186),.none,.none,.none,(.ref 187),(.int 486 0),(.int 76 0),(.str qn1 487)])
noncomputable def qo239:=qb qz17 (.func (.mk qn83 qn83 (qpa qs27) (.stmts (qbo qs27)) (qsc qs27) 3 [] .none .none .none (.str qn70 481) .none (.ref 188) .none 0))
noncomputable def tw2028298677204951957:Params->BT:=fun P=>(.node (boot_o_0 P) (.node (boot_o_1 P) (.node (qo155 P) (.node (boot_o_7 P) (.node qo51 (.node qo70 (.node qo105 (qf qo177) .nil) (.node qo141 (qf qo209) .nil)) (.node qo89 (.node qo124 (qf qo193) .nil) (.node qo161 (qf qo225) .nil))) (.node (qo59 P) (.node qo78 (.node qo116 (qf qo185) .nil) (.node qo149 (qf qo217) .nil)) (.node qo97 (.node qo133 (qf qo201) .nil) (.node qo169 (qf qo233) .nil)))) (.node qo43 (.node qo55 (.node qo74 (.node qo112 (qf qo181) .nil) (.node qo145 (qf qo213) .nil)) (.node qo93 (.node qo128 (qf qo197) .nil) (.node qo165 (qf qo229) .nil))) (.node qo63 (.node (qo82 P) (.node qo120 (qf qo189) .nil) (.node qo157 (qf qo221) .nil)) (.node qo101 (.node qo137 (qf qo205) .nil) (.node qo173 (qf qo237) .nil))))) (.node (boot_o_5 P) (.node (boot_o_9 P) (.node (qo53 P) (.node qo72 (.node qo107 (qf qo179) .nil) (.node qo143 (qf qo211) .nil)) (.node (qo91 P) (.node (qo126 P) (qf qo195) .nil) (.node qo163 (qf qo227) .nil))) (.node qo61 (.node qo80 (.node qo118 (qf qo187) .nil) (.node qo151 (qf qo219) .nil)) (.node qo99 (.node qo135 (qf qo203) .nil) (.node qo171 (qf qo235) .nil)))) (.node qo45 (.node qo57 (.node qo76 (.node qo114 (qf qo183) .nil) (.node qo147 (qf qo215) .nil)) (.node qo95 (.node qo130 (qf qo199) .nil) (.node qo167 (qf qo231) .nil))) (.node qo68 (.node qo84 (.node qo122 (qf qo191) .nil) (.node qo159 (qf qo223) .nil)) (.node qo103 (.node qo139 (qf qo207) .nil) (.node qo175 (qf qo239) .nil)))))) (.node (boot_o_2 P) (.node (boot_o_4 P) (.node (boot_o_8 P) (.node qo52 (.node qo71 (.node qo106 (qf qo178) .nil) (.node qo142 (qf qo210) .nil)) (.node qo90 (.node qo125 (qf qo194) .nil) (.node qo162 (qf qo226) .nil))) (.node qo110 (.node qo79 (.node qo117 (qf qo186) .nil) (.node (qo150 P) (qf qo218) .nil)) (.node qo98 (.node qo134 (qf qo202) .nil) (.node qo170 (qf qo234) .nil)))) (.node qo156 (.node qo56 (.node qo75 (.node (qo113 P) (qf qo182) .nil) (.node qo146 (qf qo214) .nil)) (.node qo94 (.node qo129 (qf qo198) .nil) (.node qo166 (qf qo230) .nil))) (.node qo67 (.node qo83 (.node qo121 (qf qo190) .nil) (.node qo158 (qf qo222) .nil)) (.node qo102 (.node qo138 (qf qo206) .nil) (.node qo174 (qf qo238) .nil))))) (.node (boot_o_6 P) (.node (boot_o_10 P) (.node qo54 (.node qo73 (.node qo111 (qf qo180) .nil) (.node qo144 (qf qo212) .nil)) (.node qo92 (.node qo127 (qf qo196) .nil) (.node qo164 (qf qo228) .nil))) (.node qo62 (.node qo81 (.node qo119 (qf qo188) .nil) (.node qo152 (qf qo220) .nil)) (.node qo100 (.node qo136 (qf qo204) .nil) (.node qo172 (qf qo236) .nil)))) (.node qo46 (.node qo58 (.node qo77 (.node qo115 (qf qo184) .nil) (.node qo148 (qf qo216) .nil)) (.node qo96 (.node (qo132 P) (qf qo200) .nil) (.node qo168 (qf qo232) .nil))) (.node (qo69 P) (.node qo85 (.node qo123 (qf qo192) .nil) (.node qo160 (qf qo224) .nil)) (.node (qo104 P) (.node qo140 (qf qo208) .nil) (qf qo176)))))))
theorem te2028298677204951957:tw2028298677204951957 = tw2028298677204951957:=rfl
noncomputable def qo240:=qb qz3 (.dict #[(qd P qn3 165 (.str qn90 536)),(qd P qn5 166 .none),(qd P qn6 167 .none),(qd P qn7 168 (.builtin qz4)),(qd P qn8 169 .none),(qd P qn9 170 (.ref 6)),(qd P qn10 171 (.ref 4)),(qd P qn11 173 (.str qn1 172)),(qd P qn12 174 .none),(qd P qn13 206 (.ref 24)),(qd P qn19 231 (.ref 44)),(qd P qn24 256 (.ref 63)),(qd P qn27 281 (.ref 82)),(qd P qn28 285 (.str qn29 284)),(qd P qn30 287 (.str qn31 286)),(qd P qn32 296 (.ref 85)),(qd P qn33 298 (.int 8 297)),(qd P qn34 300 (.int 18446744073709551615 299)),(qd P qn35 302 (.int 999 301)),(qd P qn36 304 (.int 400 303)),(qd P qn46 393 (.ref 86)),(qd P qn71 400 (.ref 113)),(qd P qn72 406 (.ref 118)),(qd P qn73 412 (.ref 123)),(qd P qn74 419 (.ref 130)),(qd P qn75 428 (.ref 137)),(qd P qn76 436 (.ref 144)),(qd P qn77 443 (.ref 151)),(qd P qn78 450 (.ref 158)),(qd P qn79 458 (.ref 165)),(qd P qn80 466 (.ref 172)),(qd P qn81 472 (.ref 177)),(qd P qn82 480 (.ref 184)),(qd P qn83 488 (.ref 189)),(qd P qn91 494 (.ref 194)),(qd P qn92 506 (.ref 201)),(qd P qn93 518 (.ref 208)),(qd P qn94 529 (.ref 215)),(qd P qn95 535 (.ref 220)),(qd P qn96 545 (.ref 227)),(qd P qn97 553 (.ref 234)),(qd P qn98 561 (.ref 241)),(qd P qn99 568 (.ref 248)),(qd P qn100 584 (.ref 255)),(qd P qn101 592 (.ref 262)),(qd P qn102 601 (.ref 269))] 46)
noncomputable def tw5333385068409685399:List Stmt:=[qs28,qs29,qs30,qs31,qs32,qs33,qs34,qs35,qs36,qs37,qs38,qs39,qs40]
theorem te5333385068409685399:tw5333385068409685399 = tw5333385068409685399:=rfl
noncomputable def qo241:Obj:=(.mk .none .none (.fields #[(.int 2 0),(.int 0 0),(.ref 20),(.int 4 0),(.int 0 0),(.ref 33),(.int 8 0),(.int 0 0),(.ref 52),(.int 12 0),(.int 0 0),(.ref 71),(.int 25 0),(.int 0 0),(.ref 112),(.int 27 0),(.int 0 0),(.ref 117),(.int 29 0),(.int 0 0),(.ref 122),(.int 31 0),(.int 0 0),(.ref 129),(.int 33 0),(.int 0 0),(.ref 136),(.int 40 0),(.int 0 0),(.ref 143),(.int 45 0),(.int 0 0),(.ref 150),(.int 47 0),(.int 0 0),(.ref 157),(.int 49 0),(.int 0 0),(.ref 164),(.int 57 0),(.int 0 0),(.ref 171),(.int 59 0),(.int 0 0),(.ref 176),(.int 70 0),(.int 0 0),(.ref 183),(.int 76 0),(.int 0 0),(.ref 188),(.int 79 0),(.int 0 0),(.ref 193),(.int 81 0),(.int 0 0),(.ref 200),(.int 91 0),(.int 0 0),(.ref 207),(.int 102 0),(.int 0 0),(.ref 214),(.int 113 0),(.int 0 0),(.ref 219),(.int 119 0),(.int 0 0),(.ref 226),(.int 123 0),(.int 0 0),(.ref 233),(.int 125 0),(.int 0 0),(.ref 240),(.int 131 0),(.int 0 0),(.ref 247),(.int 135 0),(.int 0 0),(.ref 254),(.int 154 0),(.int 0 0),(.ref 261),(.int 160 0),(.int 0 0),(.ref 268)]) #[])
noncomputable def qo242:=qb qz0 (.seq #[] 0)
noncomputable def qo243:Obj:=(.mk .none .none (.fields #[]) #[])
noncomputable def qo244:Obj:=(.mk .none .none (.func (.mk qn91 qn91 (qpa qs28) (.stmts (qbo qs28)) (qsc qs28) 0 [] .none .none .none .none .none .none .none 0)) #[])
noncomputable def qo245:=qb qz1 (.fields #[(.str qn91 489),(.str qn91 490),(.str qn1 491),(.int 79 0),(.int 1 0),(.int 0 0),(.int 0 0),(.int 3 0),(.ref 190),(.bool .true),(.int 181 0),(.ref 191),.none,.none,.none,(.ref 192),(.int 492 0),(.int 79 0),(.str qn1 493)])
noncomputable def qo246:=qb qz17 (.func (.mk qn91 qn91 (qpa qs28) (.stmts (qbo qs28)) (qsc qs28) 3 [] .none .none .none (.str qn70 481) .none (.ref 193) .none 0))
noncomputable def qo247:=qb qz0 (.seq #[] 0)
noncomputable def qo248:Obj:=(.mk .none .none (.fields #[]) #[])
noncomputable def qo249:=qb qz0 (.seq #[(.str qn103 498),(.str qn104 499),(.str qn86 500),(.str qn22 501),(.str qn105 502),(.str qn106 503)] 0)
noncomputable def qo250:=qb qz0 (.seq #[] 0)
noncomputable def qo251:Obj:=(.mk .none .none (.func (.mk qn92 qn92 (qpa qs29) (.stmts (qbo qs29)) (qsc qs29) 0 [] .none .none .none .none .none .none .none 0)) #[])
noncomputable def qo252:=qb qz1 (.fields #[(.str qn92 495),(.str qn92 496),(.str qn1 497),(.int 81 0),(.int 1 0),(.int 0 0),(.int 0 0),(.int 3 0),(.ref 195),(.bool .true),(.int 181 0),(.ref 196),.none,(.ref 197),(.ref 198),(.ref 199),(.int 504 0),(.int 81 0),(.str qn1 505)])
noncomputable def qo253:=qb qz17 (.func (.mk qn92 qn92 (qpa qs29) (.stmts (qbo qs29)) (qsc qs29) 3 [] .none .none .none (.str qn70 481) .none (.ref 200) .none 0))
noncomputable def qo254:=qb qz0 (.seq #[] 0)
noncomputable def qo255:Obj:=(.mk .none .none (.fields #[]) #[])
noncomputable def qo256:=qb qz0 (.seq #[(.str qn104 510),(.str qn107 511),(.str qn108 512),(.str qn86 513),(.str qn105 514),(.str qn106 515)] 0)
noncomputable def qo257:=qb qz0 (.seq #[] 0)
noncomputable def qo258:Obj:=(.mk .none .none (.func (.mk qn93 qn93 (qpa qs30) (.stmts (qbo qs30)) (qsc qs30) 0 [] .none .none .none .none .none .none .none 0)) #[])
noncomputable def qo259:=qb qz1 (.fields #[(.str qn93 507),(.str qn93 508),(.str qn1 509),(.int 91 0),(.int 1 0),(.int 0 0),(.int 0 0),(.int 3 0),(.ref 202),(.bool .true),(.int 181 0),(.ref 203),.none,(.ref 204),(.ref 205),(.ref 206),(.int 516 0),(.int 91 0),(.str qn1 517)])
noncomputable def qo260:=qb qz17 (.func (.mk qn93 qn93 (qpa qs30) (.stmts (qbo qs30)) (qsc qs30) 3 [] .none .none .none (.str qn70 481) .none (.ref 207) .none 0))
noncomputable def qo261:=qb qz0 (.seq #[] 0)
noncomputable def qo262:Obj:=(.mk .none .none (.fields #[]) #[])
noncomputable def qo263:=qb qz0 (.seq #[(.str qn106 522),(.str qn86 523),(.str qn107 524),(.str qn109 525),(.str qn69 526)] 0)
noncomputable def qo264:=qb qz0 (.seq #[] 0)
noncomputable def qo265:Obj:=(.mk .none .none (.func (.mk qn94 qn94 (qpa qs31) (.stmts (qbo qs31)) (qsc qs31) 0 [] .none .none .none .none .none .none .none 0)) #[])
noncomputable def qo266:=qb qz1 (.fields #[(.str qn94 519),(.str qn94 520),(.str qn1 521),(.int 102 0),(.int 4 0),(.int 0 0),(.int 0 0),(.int 3 0),(.ref 209),(.bool .true),(.int 181 0),(.ref 210),.none,(.ref 211),(.ref 212),(.ref 213),(.int 527 0),(.int 102 0),(.str qn1 528)])
noncomputable def qo267:=qb qz17 (.func (.mk qn94 qn94 (qpa qs31) (.stmts (qbo qs31)) (qsc qs31) 3 [] .none .none .none (.str qn70 481) .none (.ref 214) .none 0))
noncomputable def qo268:=qb qz0 (.seq #[] 0)
noncomputable def qo269:Obj:=(.mk .none .none (.fields #[]) #[])
noncomputable def qo270:Obj:=(.mk .none .none (.func (.mk qn95 qn95 (qpa qs32) (.stmts (qbo qs32)) (qsc qs32) 0 [] .none .none .none .none .none .none .none 0)) #[])
noncomputable def qo271:=qb qz1 (.fields #[(.str qn95 530),(.str qn95 531),(.str qn1 532),(.int 113 0),(.int 1 0),(.int 0 0),(.int 0 0),(.int 3 0),(.ref 216),(.bool .true),(.int 181 0),(.ref 217),.none,.none,.none,(.ref 218),(.int 533 0),(.int 113 0),(.str qn1 534)])
noncomputable def qo272:=qb qz17 (.func (.mk qn95 qn95 (qpa qs32) (.stmts (qbo qs32)) (qsc qs32) 3 [] .none .none .none (.str qn70 481) .none (.ref 219) .none 0))
noncomputable def qo273:=qb qz0 (.seq #[] 0)
noncomputable def qo274:Obj:=(.mk .none .none (.fields #[]) #[])
noncomputable def qo275:=qb qz0 (.seq #[(.str qn110 541),(.str qn111 542)] 0)
noncomputable def qo276:=qb qz0 (.seq #[] 0)
noncomputable def qo277:Obj:=(.mk .none .none (.func (.mk qn96 qn96 (qpa qs34) (.stmts (qbo qs34)) (qsc qs34) 0 [] .none .none .none .none .none .none .none 0)) #[])
noncomputable def qo278:=qb qz1 (.fields #[(.str qn96 538),(.str qn96 539),(.str qn1 540),(.int 119 0),(.int 2 0),(.int 0 0),(.int 0 0),(.int 3 0),(.ref 221),(.bool .true),(.int 181 0),(.ref 222),.none,(.ref 223),(.ref 224),(.ref 225),(.int 543 0),(.int 119 0),(.str qn1 544)])
noncomputable def qo279:=qb qz17 (.func (.mk qn96 qn96 (qpa qs34) (.stmts (qbo qs34)) (qsc qs34) 3 [] .none .none .none (.str qn90 536) .none (.ref 226) .none 0))
noncomputable def qo280:=qb qz0 (.seq #[] 0)
noncomputable def qo281:Obj:=(.mk .none .none (.fields #[]) #[])
noncomputable def qo282:=qb qz0 (.seq #[(.str qn112 549),(.str qn111 550)] 0)
noncomputable def qo283:=qb qz0 (.seq #[] 0)
noncomputable def qo284:Obj:=(.mk .none .none (.func (.mk qn97 qn97 (qpa qs35) (.stmts (qbo qs35)) (qsc qs35) 0 [] .none .none .none .none .none .none .none 0)) #[])
noncomputable def qo285:=qb qz1 (.fields #[(.str qn97 546),(.str qn97 547),(.str qn1 548),(.int 123 0),(.int 2 0),(.int 0 0),(.int 0 0),(.int 3 0),(.ref 228),(.bool .true),(.int 181 0),(.ref 229),.none,(.ref 230),(.ref 231),(.ref 232),(.int 551 0),(.int 123 0),(.str qn1 552)])
noncomputable def qo286:=qb qz17 (.func (.mk qn97 qn97 (qpa qs35) (.stmts (qbo qs35)) (qsc qs35) 3 [] .none .none .none (.str qn90 536) .none (.ref 233) .none 0))
noncomputable def qo287:=qb qz0 (.seq #[] 0)
noncomputable def qo288:Obj:=(.mk .none .none (.fields #[]) #[])
noncomputable def qo289:=qb qz0 (.seq #[(.str qn112 557),(.str qn113 558)] 0)
noncomputable def qo290:=qb qz0 (.seq #[] 0)
noncomputable def qo291:Obj:=(.mk .none .none (.func (.mk qn98 qn98 (qpa qs36) (.stmts (qbo qs36)) (qsc qs36) 0 [] .none .none .none .none .none .none .none 0)) #[])
noncomputable def qo292:=qb qz1 (.fields #[(.str qn98 554),(.str qn98 555),(.str qn1 556),(.int 125 0),(.int 2 0),(.int 0 0),(.int 0 0),(.int 3 0),(.ref 235),(.bool .true),(.int 181 0),(.ref 236),.none,(.ref 237),(.ref 238),(.ref 239),(.int 559 0),(.int 125 0),(.str qn1 560)])
noncomputable def qo293:=qb qz17 (.func (.mk qn98 qn98 (qpa qs36) (.stmts (qbo qs36)) (qsc qs36) 3 [] .none .none .none (.str qn90 536) .none (.ref 240) .none 0))
noncomputable def qo294:=qb qz0 (.seq #[] 0)
noncomputable def qo295:Obj:=(.mk .none .none (.fields #[]) #[])
noncomputable def qo296:=qb qz0 (.seq #[(.str qn113 565)] 0)
noncomputable def qo297:=qb qz0 (.seq #[] 0)
noncomputable def qo298:Obj:=(.mk .none .none (.func (.mk qn99 qn99 (qpa qs37) (.stmts (qbo qs37)) (qsc qs37) 0 [] .none .none .none .none .none .none .none 0)) #[])
noncomputable def qo299:=qb qz1 (.fields #[(.str qn99 562),(.str qn99 563),(.str qn1 564),(.int 131 0),(.int 1 0),(.int 0 0),(.int 0 0),(.int 3 0),(.ref 242),(.bool .true),(.int 181 0),(.ref 243),.none,(.ref 244),(.ref 245),(.ref 246),(.int 566 0),(.int 131 0),(.str qn1 567)])
noncomputable def qo300:=qb qz17 (.func (.mk qn99 qn99 (qpa qs37) (.stmts (qbo qs37)) (qsc qs37) 3 [] .none .none .none (.str qn90 536) .none (.ref 247) .none 0))
noncomputable def qo301:=qb qz0 (.seq #[] 0)
noncomputable def qo302:Obj:=(.mk .none .none (.fields #[]) #[])
noncomputable def qo303:=qb qz0 (.seq #[(.str qn112 572),(.str qn111 573),(.str qn114 574),(.str qn115 575),(.str qn116 576),(.str qn117 577),(.str qn118 578),(.str qn113 579),(.str qn119 580),(.str qn120 581)] 0)
noncomputable def qo304:=qb qz0 (.seq #[] 0)
noncomputable def qo305:Obj:=(.mk .none .none (.func (.mk qn100 qn100 (qpa qs38) (.stmts (qbo qs38)) (qsc qs38) 0 [] .none .none .none .none .none .none .none 0)) #[])
noncomputable def qo306:=qb qz1 (.fields #[(.str qn100 569),(.str qn100 570),(.str qn1 571),(.int 135 0),(.int 3 0),(.int 0 0),(.int 0 0),(.int 3 0),(.ref 249),(.bool .true),(.int 181 0),(.ref 250),.none,(.ref 251),(.ref 252),(.ref 253),(.int 582 0),(.int 135 0),(.str qn1 583)])
noncomputable def qo307:=qb qz17 (.func (.mk qn100 qn100 (qpa qs38) (.stmts (qbo qs38)) (qsc qs38) 3 [] .none .none .none (.str qn90 536) .none (.ref 254) .none 0))
noncomputable def qo308:=qb qz0 (.seq #[] 0)
noncomputable def qo309:Obj:=(.mk .none .none (.fields #[]) #[])
noncomputable def qo310:=qb qz0 (.seq #[(.str qn119 588),(.str qn111 589)] 0)
noncomputable def qo311:=qb qz0 (.seq #[] 0)
noncomputable def qo312:Obj:=(.mk .none .none (.func (.mk qn101 qn101 (qpa qs39) (.stmts (qbo qs39)) (qsc qs39) 0 [] .none .none .none .none .none .none .none 0)) #[])
noncomputable def qo313:=qb qz1 (.fields #[(.str qn101 585),(.str qn101 586),(.str qn1 587),(.int 154 0),(.int 2 0),(.int 0 0),(.int 0 0),(.int 3 0),(.ref 256),(.bool .true),(.int 181 0),(.ref 257),.none,(.ref 258),(.ref 259),(.ref 260),(.int 590 0),(.int 154 0),(.str qn1 591)])
noncomputable def qo314:=qb qz17 (.func (.mk qn101 qn101 (qpa qs39) (.stmts (qbo qs39)) (qsc qs39) 3 [] .none .none .none (.str qn90 536) .none (.ref 261) .none 0))
noncomputable def qo315:=qb qz0 (.seq #[] 0)
noncomputable def qo316:Obj:=(.mk .none .none (.fields #[]) #[])
noncomputable def qo317:=qb qz0 (.seq #[(.str qn121 596),(.str qn122 597),(.str qn111 598)] 0)
noncomputable def qo318:=qb qz0 (.seq #[] 0)
noncomputable def qo319:Obj:=(.mk .none .none (.func (.mk qn102 qn102 (qpa qs40) (.stmts (qbo qs40)) (qsc qs40) 0 [] .none .none .none .none .none .none .none 0)) #[])
noncomputable def qo320:=qb qz1 (.fields #[(.str qn102 593),(.str qn102 594),(.str qn1 595),(.int 160 0),(.int 1 0),(.int 0 0),(.int 0 0),(.int 3 0),(.ref 263),(.bool .true),(.int 181 0),(.ref 264),.none,(.ref 265),(.ref 266),(.ref 267),(.int 599 0),(.int 160 0),(.str qn1 600)])
noncomputable def qo321:=qb qz17 (.func (.mk qn102 qn102 (qpa qs40) (.stmts (qbo qs40)) (qsc qs40) 3 [] .none .none .none (.str qn90 536) .none (.ref 268) .none 0))
noncomputable def tw11033185086292417841:Params->BT:=fun P=>(.node (boot_o_0 P) (.node (boot_o_1 P) (.node (qo240 P) (.node (boot_o_7 P) (.node qo51 (.node qo70 (.node qo105 (.node qo177 (qf qo307) .nil) (qf qo243)) (.node qo141 (qf qo209) (qf qo275))) (.node qo89 (.node qo124 (qf qo193) (qf qo259)) (.node qo161 (qf qo225) (qf qo291)))) (.node (qo59 P) (.node qo78 (.node qo116 (.node qo185 (qf qo315) .nil) (qf qo251)) (.node qo149 (qf qo217) (qf qo283))) (.node qo97 (.node qo133 (qf qo201) (qf qo267)) (.node qo169 (qf qo233) (qf qo299))))) (.node qo43 (.node qo55 (.node qo74 (.node qo112 (.node qo181 (qf qo311) .nil) (qf qo247)) (.node qo145 (qf qo213) (qf qo279))) (.node qo93 (.node qo128 (qf qo197) (qf qo263)) (.node qo165 (qf qo229) (qf qo295)))) (.node qo63 (.node (qo82 P) (.node qo120 (.node qo189 (qf qo319) .nil) (qf qo255)) (.node qo157 (qf qo221) (qf qo287))) (.node qo101 (.node qo137 (qf qo205) (qf qo271)) (.node qo173 (qf qo237) (qf qo303)))))) (.node (boot_o_5 P) (.node (boot_o_9 P) (.node (qo53 P) (.node qo72 (.node qo107 (.node qo179 (qf qo309) .nil) (qf qo245)) (.node qo143 (qf qo211) (qf qo277))) (.node (qo91 P) (.node (qo126 P) (qf qo195) (qf qo261)) (.node qo163 (qf qo227) (qf qo293)))) (.node qo61 (.node qo80 (.node qo118 (.node qo187 (qf qo317) .nil) (qf qo253)) (.node qo151 (qf qo219) (qf qo285))) (.node qo99 (.node qo135 (qf qo203) (qf qo269)) (.node qo171 (qf qo235) (qf qo301))))) (.node qo45 (.node qo57 (.node qo76 (.node qo114 (.node qo183 (qf qo313) .nil) (qf qo249)) (.node qo147 (qf qo215) (qf qo281))) (.node qo95 (.node qo130 (qf qo199) (qf qo265)) (.node qo167 (qf qo231) (qf qo297)))) (.node qo68 (.node qo84 (.node qo122 (.node qo191 (qf qo321) .nil) (qf qo257)) (.node qo159 (qf qo223) (qf qo289))) (.node qo103 (.node qo139 (qf qo207) (qf qo273)) (.node qo175 (qf qo239) (qf qo305))))))) (.node (boot_o_2 P) (.node (boot_o_4 P) (.node (boot_o_8 P) (.node qo52 (.node qo71 (.node qo106 (.node qo178 (qf qo308) .nil) (qf qo244)) (.node qo142 (qf qo210) (qf qo276))) (.node qo90 (.node qo125 (qf qo194) (qf qo260)) (.node qo162 (qf qo226) (qf qo292)))) (.node qo110 (.node qo79 (.node qo117 (.node qo186 (qf qo316) .nil) (qf qo252)) (.node (qo150 P) (qf qo218) (qf qo284))) (.node qo98 (.node qo134 (qf qo202) (qf qo268)) (.node qo170 (qf qo234) (qf qo300))))) (.node qo241 (.node qo56 (.node qo75 (.node (qo113 P) (.node qo182 (qf qo312) .nil) (qf qo248)) (.node qo146 (qf qo214) (qf qo280))) (.node qo94 (.node qo129 (qf qo198) (qf qo264)) (.node qo166 (qf qo230) (qf qo296)))) (.node qo67 (.node qo83 (.node qo121 (.node qo190 (qf qo320) .nil) (qf qo256)) (.node qo158 (qf qo222) (qf qo288))) (.node qo102 (.node qo138 (qf qo206) (qf qo272)) (.node qo174 (qf qo238) (qf qo304)))))) (.node (boot_o_6 P) (.node (boot_o_10 P) (.node qo54 (.node qo73 (.node qo111 (.node qo180 (qf qo310) .nil) (qf qo246)) (.node qo144 (qf qo212) (qf qo278))) (.node qo92 (.node qo127 (qf qo196) (qf qo262)) (.node qo164 (qf qo228) (qf qo294)))) (.node qo62 (.node qo81 (.node qo119 (.node qo188 (qf qo318) .nil) (qf qo254)) (.node qo152 (qf qo220) (qf qo286))) (.node qo100 (.node qo136 (qf qo204) (qf qo270)) (.node qo172 (qf qo236) (qf qo302))))) (.node qo46 (.node qo58 (.node qo77 (.node qo115 (.node qo184 (qf qo314) .nil) (qf qo250)) (.node qo148 (qf qo216) (qf qo282))) (.node qo96 (.node (qo132 P) (qf qo200) (qf qo266)) (.node qo168 (qf qo232) (qf qo298)))) (.node (qo69 P) (.node qo85 (.node qo123 (qf qo192) (qf qo258)) (.node qo160 (qf qo224) (qf qo290))) (.node (qo104 P) (.node qo140 (qf qo208) (qf qo274)) (.node qo176 (qf qo242) (qf qo306))))))))
theorem te11033185086292417841:tw11033185086292417841 = tw11033185086292417841:=rfl
noncomputable def qo322:=qb qz3 (.dict #[(qd P qn3 165 (.str qn90 536)),(qd P qn5 166 .none),(qd P qn6 167 .none),(qd P qn7 168 (.builtin qz4)),(qd P qn8 169 .none),(qd P qn9 170 (.ref 6)),(qd P qn10 171 (.ref 4)),(qd P qn11 173 (.str qn1 172)),(qd P qn12 174 .none),(qd P qn13 206 (.ref 24)),(qd P qn19 231 (.ref 44)),(qd P qn24 256 (.ref 63)),(qd P qn27 281 (.ref 82)),(qd P qn28 285 (.str qn29 284)),(qd P qn30 287 (.str qn31 286)),(qd P qn32 296 (.ref 85)),(qd P qn33 298 (.int 8 297)),(qd P qn34 300 (.int 18446744073709551615 299)),(qd P qn35 302 (.int 999 301)),(qd P qn36 304 (.int 400 303)),(qd P qn46 393 (.ref 86)),(qd P qn71 400 (.ref 113)),(qd P qn72 406 (.ref 118)),(qd P qn73 412 (.ref 123)),(qd P qn74 419 (.ref 130)),(qd P qn75 428 (.ref 137)),(qd P qn76 436 (.ref 144)),(qd P qn77 443 (.ref 151)),(qd P qn78 450 (.ref 158)),(qd P qn79 458 (.ref 165)),(qd P qn80 466 (.ref 172)),(qd P qn81 472 (.ref 177)),(qd P qn82 480 (.ref 184)),(qd P qn83 488 (.ref 189)),(qd P qn91 494 (.ref 194)),(qd P qn92 506 (.ref 201)),(qd P qn93 518 (.ref 208)),(qd P qn94 529 (.ref 215)),(qd P qn95 535 (.ref 220)),(qd P qn96 545 (.ref 227)),(qd P qn97 553 (.ref 234)),(qd P qn98 561 (.ref 241)),(qd P qn99 568 (.ref 248)),(qd P qn100 584 (.ref 255)),(qd P qn101 592 (.ref 262)),(qd P qn102 601 (.ref 269)),(qd P qn123 612 (.ref 276)),(qd P qn124 623 (.ref 283)),(qd P qn125 634 (.ref 290)),(qd P qn126 647 (.ref 297)),(qd P qn127 653 (.ref 302)),(qd P qn128 659 (.ref 307))] 52)
noncomputable def tw119627545674663169:List Stmt:=[qs41,qs42,qs43,qs44,qs45,qs46]
theorem te119627545674663169:tw119627545674663169 = tw119627545674663169:=rfl
noncomputable def qo323:Obj:=(.mk .none .none (.fields #[(.int 2 0),(.int 0 0),(.ref 20),(.int 4 0),(.int 0 0),(.ref 33),(.int 8 0),(.int 0 0),(.ref 52),(.int 12 0),(.int 0 0),(.ref 71),(.int 25 0),(.int 0 0),(.ref 112),(.int 27 0),(.int 0 0),(.ref 117),(.int 29 0),(.int 0 0),(.ref 122),(.int 31 0),(.int 0 0),(.ref 129),(.int 33 0),(.int 0 0),(.ref 136),(.int 40 0),(.int 0 0),(.ref 143),(.int 45 0),(.int 0 0),(.ref 150),(.int 47 0),(.int 0 0),(.ref 157),(.int 49 0),(.int 0 0),(.ref 164),(.int 57 0),(.int 0 0),(.ref 171),(.int 59 0),(.int 0 0),(.ref 176),(.int 70 0),(.int 0 0),(.ref 183),(.int 76 0),(.int 0 0),(.ref 188),(.int 79 0),(.int 0 0),(.ref 193),(.int 81 0),(.int 0 0),(.ref 200),(.int 91 0),(.int 0 0),(.ref 207),(.int 102 0),(.int 0 0),(.ref 214),(.int 113 0),(.int 0 0),(.ref 219),(.int 119 0),(.int 0 0),(.ref 226),(.int 123 0),(.int 0 0),(.ref 233),(.int 125 0),(.int 0 0),(.ref 240),(.int 131 0),(.int 0 0),(.ref 247),(.int 135 0),(.int 0 0),(.ref 254),(.int 154 0),(.int 0 0),(.ref 261),(.int 160 0),(.int 0 0),(.ref 268),(.int 168 0),(.int 0 0),(.ref 275),(.int 180 0),(.int 0 0),(.ref 282),(.int 187 0),(.int 0 0),(.ref 289),(.int 197 0),(.int 0 0),(.ref 296),(.int 207 0),(.int 0 0),(.ref 301),(.int 214 0),(.int 0 0),(.ref 306)]) #[])
noncomputable def qo324:=qb qz0 (.seq #[] 0)
noncomputable def qo325:Obj:=(.mk .none .none (.fields #[]) #[])
noncomputable def qo326:=qb qz0 (.seq #[(.str qn129 605),(.str qn130 606),(.str qn121 607),(.str qn131 608),(.str qn113 609)] 0)
noncomputable def qo327:=qb qz0 (.seq #[] 0)
noncomputable def qo328:Obj:=(.mk .none .none (.func (.mk qn123 qn123 (qpa qs41) (.stmts (qbo qs41)) (qsc qs41) 0 [] .none .none .none .none .none .none .none 0)) #[])
noncomputable def qo329:=qb qz1 (.fields #[(.str qn123 602),(.str qn123 603),(.str qn1 604),(.int 168 0),(.int 2 0),(.int 0 0),(.int 0 0),(.int 3 0),(.ref 270),(.bool .true),(.int 181 0),(.ref 271),.none,(.ref 272),(.ref 273),(.ref 274),(.int 610 0),(.int 168 0),(.str qn1 611)])
noncomputable def qo330:=qb qz17 (.func (.mk qn123 qn123 (qpa qs41) (.stmts (qbo qs41)) (qsc qs41) 3 [] .none .none .none (.str qn90 536) .none (.ref 275) .none 0))
noncomputable def qo331:=qb qz0 (.seq #[] 0)
noncomputable def qo332:Obj:=(.mk .none .none (.fields #[]) #[])
noncomputable def qo333:=qb qz0 (.seq #[(.str qn115 616),(.str qn132 617),(.str qn133 618),(.str qn111 619),(.str qn134 620)] 0)
noncomputable def qo334:=qb qz0 (.seq #[] 0)
noncomputable def qo335:Obj:=(.mk .none .none (.func (.mk qn124 qn124 (qpa qs42) (.stmts (qbo qs42)) (qsc qs42) 0 [] .none .none .none .none .none .none .none 0)) #[])
noncomputable def qo336:=qb qz1 (.fields #[(.str qn124 613),(.str qn124 614),(.str qn1 615),(.int 180 0),(.int 1 0),(.int 0 0),(.int 0 0),(.int 3 0),(.ref 277),(.bool .true),(.int 181 0),(.ref 278),.none,(.ref 279),(.ref 280),(.ref 281),(.int 621 0),(.int 180 0),(.str qn1 622)])
noncomputable def qo337:=qb qz17 (.func (.mk qn124 qn124 (qpa qs42) (.stmts (qbo qs42)) (qsc qs42) 3 [] .none .none .none (.str qn90 536) .none (.ref 282) .none 0))
noncomputable def qo338:=qb qz0 (.seq #[] 0)
noncomputable def qo339:Obj:=(.mk .none .none (.fields #[]) #[])
noncomputable def qo340:=qb qz0 (.seq #[(.str qn122 627),(.str qn115 628),(.str qn135 629),(.str qn111 630),(.str qn136 631)] 0)
noncomputable def qo341:=qb qz0 (.seq #[] 0)
noncomputable def qo342:Obj:=(.mk .none .none (.func (.mk qn125 qn125 (qpa qs43) (.stmts (qbo qs43)) (qsc qs43) 0 [] .none .none .none .none .none .none .none 0)) #[])
noncomputable def qo343:=qb qz1 (.fields #[(.str qn125 624),(.str qn125 625),(.str qn1 626),(.int 187 0),(.int 2 0),(.int 0 0),(.int 0 0),(.int 3 0),(.ref 284),(.bool .true),(.int 181 0),(.ref 285),.none,(.ref 286),(.ref 287),(.ref 288),(.int 632 0),(.int 187 0),(.str qn1 633)])
noncomputable def qo344:=qb qz17 (.func (.mk qn125 qn125 (qpa qs43) (.stmts (qbo qs43)) (qsc qs43) 3 [] .none .none .none (.str qn90 536) .none (.ref 289) .none 0))
noncomputable def qo345:=qb qz0 (.seq #[] 0)
noncomputable def qo346:Obj:=(.mk .none .none (.fields #[]) #[])
noncomputable def qo347:=qb qz0 (.seq #[(.str qn137 638),(.str qn112 639),(.str qn138 640),(.str qn111 641),(.str qn121 642),(.str qn115 643),(.str qn139 644)] 0)
noncomputable def qo348:=qb qz0 (.seq #[] 0)
noncomputable def qo349:Obj:=(.mk .none .none (.func (.mk qn126 qn126 (qpa qs44) (.stmts (qbo qs44)) (qsc qs44) 0 [] .none .none .none .none .none .none .none 0)) #[])
noncomputable def qo350:=qb qz1 (.fields #[(.str qn126 635),(.str qn126 636),(.str qn1 637),(.int 197 0),(.int 2 0),(.int 0 0),(.int 0 0),(.int 3 0),(.ref 291),(.bool .true),(.int 181 0),(.ref 292),.none,(.ref 293),(.ref 294),(.ref 295),(.int 645 0),(.int 197 0),(.str qn1 646)])
noncomputable def qo351:=qb qz17 (.func (.mk qn126 qn126 (qpa qs44) (.stmts (qbo qs44)) (qsc qs44) 3 [] .none .none .none (.str qn90 536) .none (.ref 296) .none 0))
noncomputable def qo352:=qb qz0 (.seq #[] 0)
noncomputable def qo353:Obj:=(.mk .none .none (.fields #[]) #[])
noncomputable def qo354:Obj:=(.mk .none .none (.func (.mk qn127 qn127 (qpa qs45) (.stmts (qbo qs45)) (qsc qs45) 0 [] .none .none .none .none .none .none .none 0)) #[])
noncomputable def qo355:=qb qz1 (.fields #[(.str qn127 648),(.str qn127 649),(.str qn1 650),(.int 207 0),(.int 1 0),(.int 0 0),(.int 0 0),(.int 3 0),(.ref 298),(.bool .true),(.int 181 0),(.ref 299),.none,.none,.none,(.ref 300),(.int 651 0),(.int 207 0),(.str qn1 652)])
noncomputable def qo356:=qb qz17 (.func (.mk qn127 qn127 (qpa qs45) (.stmts (qbo qs45)) (qsc qs45) 3 [] .none .none .none (.str qn90 536) .none (.ref 301) .none 0))
noncomputable def qo357:=qb qz0 (.seq #[] 0)
noncomputable def qo358:Obj:=(.mk .none .none (.fields #[]) #[])
noncomputable def qo359:Obj:=(.mk .none .none (.func (.mk qn128 qn128 (qpa qs46) (.stmts (qbo qs46)) (qsc qs46) 0 [] .none .none .none .none .none .none .none 0)) #[])
noncomputable def qo360:=qb qz1 (.fields #[(.str qn128 654),(.str qn128 655),(.str qn1 656),(.int 214 0),(.int 1 0),(.int 0 0),(.int 0 0),(.int 3 0),(.ref 303),(.bool .true),(.int 181 0),(.ref 304),.none,.none,.none,(.ref 305),(.int 657 0),(.int 214 0),(.str qn1 658)])
noncomputable def qo361:=qb qz17 (.func (.mk qn128 qn128 (qpa qs46) (.stmts (qbo qs46)) (qsc qs46) 3 [] .none .none .none (.str qn90 536) .none (.ref 306) .none 0))
noncomputable def tw5155614919686353955:Params->BT:=fun P=>(.node (boot_o_0 P) (.node (boot_o_1 P) (.node (qo322 P) (.node (boot_o_7 P) (.node qo51 (.node qo70 (.node qo105 (.node qo177 (qf qo307) .nil) (qf qo243)) (.node qo141 (.node qo209 (qf qo341) .nil) (qf qo275))) (.node qo89 (.node qo124 (.node qo193 (qf qo325) .nil) (qf qo259)) (.node qo161 (.node qo225 (qf qo357) .nil) (qf qo291)))) (.node (qo59 P) (.node qo78 (.node qo116 (.node qo185 (qf qo315) .nil) (qf qo251)) (.node qo149 (.node qo217 (qf qo349) .nil) (qf qo283))) (.node qo97 (.node qo133 (.node qo201 (qf qo333) .nil) (qf qo267)) (.node qo169 (qf qo233) (qf qo299))))) (.node qo43 (.node qo55 (.node qo74 (.node qo112 (.node qo181 (qf qo311) .nil) (qf qo247)) (.node qo145 (.node qo213 (qf qo345) .nil) (qf qo279))) (.node qo93 (.node qo128 (.node qo197 (qf qo329) .nil) (qf qo263)) (.node qo165 (.node qo229 (qf qo361) .nil) (qf qo295)))) (.node qo63 (.node (qo82 P) (.node qo120 (.node qo189 (qf qo319) .nil) (qf qo255)) (.node qo157 (.node qo221 (qf qo353) .nil) (qf qo287))) (.node qo101 (.node qo137 (.node qo205 (qf qo337) .nil) (qf qo271)) (.node qo173 (qf qo237) (qf qo303)))))) (.node (boot_o_5 P) (.node (boot_o_9 P) (.node (qo53 P) (.node qo72 (.node qo107 (.node qo179 (qf qo309) .nil) (qf qo245)) (.node qo143 (.node qo211 (qf qo343) .nil) (qf qo277))) (.node (qo91 P) (.node (qo126 P) (.node qo195 (qf qo327) .nil) (qf qo261)) (.node qo163 (.node qo227 (qf qo359) .nil) (qf qo293)))) (.node qo61 (.node qo80 (.node qo118 (.node qo187 (qf qo317) .nil) (qf qo253)) (.node qo151 (.node qo219 (qf qo351) .nil) (qf qo285))) (.node qo99 (.node qo135 (.node qo203 (qf qo335) .nil) (qf qo269)) (.node qo171 (qf qo235) (qf qo301))))) (.node qo45 (.node qo57 (.node qo76 (.node qo114 (.node qo183 (qf qo313) .nil) (qf qo249)) (.node qo147 (.node qo215 (qf qo347) .nil) (qf qo281))) (.node qo95 (.node qo130 (.node qo199 (qf qo331) .nil) (qf qo265)) (.node qo167 (qf qo231) (qf qo297)))) (.node qo68 (.node qo84 (.node qo122 (.node qo191 (qf qo321) .nil) (qf qo257)) (.node qo159 (.node qo223 (qf qo355) .nil) (qf qo289))) (.node qo103 (.node qo139 (.node qo207 (qf qo339) .nil) (qf qo273)) (.node qo175 (qf qo239) (qf qo305))))))) (.node (boot_o_2 P) (.node (boot_o_4 P) (.node (boot_o_8 P) (.node qo52 (.node qo71 (.node qo106 (.node qo178 (qf qo308) .nil) (qf qo244)) (.node qo142 (.node qo210 (qf qo342) .nil) (qf qo276))) (.node qo90 (.node qo125 (.node qo194 (qf qo326) .nil) (qf qo260)) (.node qo162 (.node qo226 (qf qo358) .nil) (qf qo292)))) (.node qo110 (.node qo79 (.node qo117 (.node qo186 (qf qo316) .nil) (qf qo252)) (.node (qo150 P) (.node qo218 (qf qo350) .nil) (qf qo284))) (.node qo98 (.node qo134 (.node qo202 (qf qo334) .nil) (qf qo268)) (.node qo170 (qf qo234) (qf qo300))))) (.node qo323 (.node qo56 (.node qo75 (.node (qo113 P) (.node qo182 (qf qo312) .nil) (qf qo248)) (.node qo146 (.node qo214 (qf qo346) .nil) (qf qo280))) (.node qo94 (.node qo129 (.node qo198 (qf qo330) .nil) (qf qo264)) (.node qo166 (qf qo230) (qf qo296)))) (.node qo67 (.node qo83 (.node qo121 (.node qo190 (qf qo320) .nil) (qf qo256)) (.node qo158 (.node qo222 (qf qo354) .nil) (qf qo288))) (.node qo102 (.node qo138 (.node qo206 (qf qo338) .nil) (qf qo272)) (.node qo174 (qf qo238) (qf qo304)))))) (.node (boot_o_6 P) (.node (boot_o_10 P) (.node qo54 (.node qo73 (.node qo111 (.node qo180 (qf qo310) .nil) (qf qo246)) (.node qo144 (.node qo212 (qf qo344) .nil) (qf qo278))) (.node qo92 (.node qo127 (.node qo196 (qf qo328) .nil) (qf qo262)) (.node qo164 (.node qo228 (qf qo360) .nil) (qf qo294)))) (.node qo62 (.node qo81 (.node qo119 (.node qo188 (qf qo318) .nil) (qf qo254)) (.node qo152 (.node qo220 (qf qo352) .nil) (qf qo286))) (.node qo100 (.node qo136 (.node qo204 (qf qo336) .nil) (qf qo270)) (.node qo172 (qf qo236) (qf qo302))))) (.node qo46 (.node qo58 (.node qo77 (.node qo115 (.node qo184 (qf qo314) .nil) (qf qo250)) (.node qo148 (.node qo216 (qf qo348) .nil) (qf qo282))) (.node qo96 (.node (qo132 P) (.node qo200 (qf qo332) .nil) (qf qo266)) (.node qo168 (qf qo232) (qf qo298)))) (.node (qo69 P) (.node qo85 (.node qo123 (.node qo192 (qf qo324) .nil) (qf qo258)) (.node qo160 (.node qo224 (qf qo356) .nil) (qf qo290))) (.node (qo104 P) (.node qo140 (.node qo208 (qf qo340) .nil) (qf qo274)) (.node qo176 (qf qo242) (qf qo306))))))))
theorem te5155614919686353955:tw5155614919686353955 = tw5155614919686353955:=rfl
noncomputable def tw8989615223699208039:Params->Heap:=fun P=>(.mk #[(boot_o_0 P),(boot_o_1 P),(boot_o_2 P),(qo322 P),(boot_o_4 P),(boot_o_5 P),(boot_o_6 P),(boot_o_7 P),(boot_o_8 P),(boot_o_9 P),(boot_o_10 P),qo43,qo323,qo45,qo46,qo51,qo52,(qo53 P),qo54,qo55,qo56,qo57,qo58,(qo59 P),qo110,qo61,qo62,qo63,qo67,qo68,(qo69 P),qo70,qo71,qo72,qo73,qo74,qo75,qo76,qo77,qo78,qo79,qo80,qo81,(qo82 P),qo83,qo84,qo85,qo89,qo90,(qo91 P),qo92,qo93,qo94,qo95,qo96,qo97,qo98,qo99,qo100,qo101,qo102,qo103,(qo104 P),qo105,qo106,qo107,qo111,qo112,(qo113 P),qo114,qo115,qo116,qo117,qo118,qo119,qo120,qo121,qo122,qo123,qo124,qo125,(qo126 P),qo127,qo128,qo129,qo130,(qo132 P),qo133,qo134,qo135,qo136,qo137,qo138,qo139,qo140,qo141,qo142,qo143,qo144,qo145,qo146,qo147,qo148,qo149,(qo150 P),qo151,qo152,qo157,qo158,qo159,qo160,qo161,qo162,qo163,qo164,qo165,qo166,qo167,qo168,qo169,qo170,qo171,qo172,qo173,qo174,qo175,qo176,qo177,qo178,qo179,qo180,qo181,qo182,qo183,qo184,qo185,qo186,qo187,qo188,qo189,qo190,qo191,qo192,qo193,qo194,qo195,qo196,qo197,qo198,qo199,qo200,qo201,qo202,qo203,qo204,qo205,qo206,qo207,qo208,qo209,qo210,qo211,qo212,qo213,qo214,qo215,qo216,qo217,qo218,qo219,qo220,qo221,qo222,qo223,qo224,qo225,qo226,qo227,qo228,qo229,qo230,qo231,qo232,qo233,qo234,qo235,qo236,qo237,qo238,qo239,qo242,qo243,qo244,qo245,qo246,qo247,qo248,qo249,qo250,qo251,qo252,qo253,qo254,qo255,qo256,qo257,qo258,qo259,qo260,qo261,qo262,qo263,qo264,qo265,qo266,qo267,qo268,qo269,qo270,qo271,qo272,qo273,qo274,qo275,qo276,qo277,qo278,qo279,qo280,qo281,qo282,qo283,qo284,qo285,qo286,qo287,qo288,qo289,qo290,qo291,qo292,qo293,qo294,qo295,qo296,qo297,qo298,qo299,qo300,qo301,qo302,qo303,qo304,qo305,qo306,qo307,qo308,qo309,qo310,qo311,qo312,qo313,qo314,qo315,qo316,qo317,qo318,qo319,qo320,qo321,qo324,qo325,qo326,qo327,qo328,qo329,qo330,qo331,qo332,qo333,qo334,qo335,qo336,qo337,qo338,qo339,qo340,qo341,qo342,qo343,qo344,qo345,qo346,qo347,qo348,qo349,qo350,qo351,qo352,qo353,qo354,qo355,qo356,qo357,qo358,qo359,qo360,qo361] (.mk [] [] [] 0 [] [] .false #[] [] 0 .false .false .false 0 [2000,10,10] .false 0 .true [] [] 0 .false))
theorem te8989615223699208039:tw8989615223699208039 = tw8989615223699208039:=rfl
end PySem.W.Fast
set_option maxRecDepth 100000 in
set_option maxHeartbeats 0 in
theorem PySem.Challenge.cw_aheadmill_k11_programs_read_back_holds : PySem.Challenge.rw_aheadmill_k11_programs_read_back.Holds := by
 w_on;o_law;k_head;(case hw=>w_witness2)
 k_fill
 refine AM.walk (k:=2 * 12) (x:="_law_script") (l:=PySem.Challenge.rw_aheadmill_k11_programs_read_back) rfl rfl ⟨rfl,by decide,by decide⟩ (fun w h Y=>PySem.W.kIn_of Y) ?F
 case F =>
  intro w mg fa h KX G hmg
  refine' AMx.all_mk KX G hmg ?x_0 ?l_0 ?c_0 ?k_0 ?x_1 ?l_1 ?c_1 ?k_1 ?x_2 ?l_2 ?c_2 ?k_2 ?x_3 ?l_3 ?c_3 ?k_3 ?x_4 ?l_4 ?c_4 ?k_4 ?x_5 ?l_5 ?c_5 ?k_5 ?x_6 ?l_6 ?c_6 ?k_6 ?x_7 ?l_7 ?c_7 ?k_7 ?x_8 ?l_8 ?c_8 ?k_8 ?x_9 ?l_9 ?c_9 ?k_9 ?x_10 ?l_10 ?c_10 ?k_10 ?x_11 ?l_11 ?c_11 ?k_11 ?x_12 ?l_12 ?c_12 ?k_12 ?x_13 ?l_13 ?c_13 ?k_13 ?x_14 ?l_14 ?c_14 ?k_14 ?x_15 ?l_15 ?c_15 ?k_15 ?x_16 ?l_16 ?c_16 ?k_16 ?x_17 ?l_17 ?c_17 ?k_17 ?x_18 ?l_18 ?c_18 ?k_18 ?x_19 ?l_19 ?c_19 ?k_19 ?x_20 ?l_20 ?c_20 ?k_20 ?x_21 ?l_21 ?c_21 ?k_21 ?x_22 ?l_22 ?c_22 ?k_22 ?x_23 ?l_23 ?c_23 ?k_23 ?x_24 ?l_24 ?c_24 ?k_24 ?x_25 ?l_25 ?c_25 ?k_25 ?x_26 ?l_26 ?c_26 ?k_26 ?x_27 ?l_27 ?c_27 ?k_27 ?x_28 ?l_28 ?c_28 ?k_28 ?x_29 ?l_29 ?c_29 ?k_29 ?x_30 ?l_30 ?c_30 ?k_30 ?x_LETTERS ?x_FIGURES ?x_BOXES ?l_BOXES ?x_LONGEST_LABEL ?x_GREATEST_WORD ?x_GREATEST_STEP ?x_GREATEST_TARGET ?x_FORMS ?l_FORMS ?e_FORMS ?q_FORMS ?t_FORMS ?sm_FORMS ?z_len ?z_int ?z_tuple ?z_list ?z_str ?z_any ?z_all ?z_isinstance ?z_bool ?z_range ?z_enumerate ?z_zip
  (case x_0=>k_is)
  (case l_0=>k_is)
  (case c_0=>k_is)
  (case k_0=>k_is)
  (case x_1=>k_is)
  (case l_1=>k_is)
  (case c_1=>k_is)
  (case k_1=>k_is)
  (case x_2=>k_is)
  (case l_2=>k_is)
  (case c_2=>k_is)
  (case k_2=>k_is)
  (case x_3=>k_is)
  (case l_3=>k_is)
  (case c_3=>k_is)
  (case k_3=>k_is)
  (case x_4=>k_is)
  (case l_4=>k_is)
  (case c_4=>k_is)
  (case k_4=>k_is)
  (case x_5=>k_is)
  (case l_5=>k_is)
  (case c_5=>k_is)
  (case k_5=>k_is)
  (case x_6=>k_is)
  (case l_6=>k_is)
  (case c_6=>k_is)
  (case k_6=>k_is)
  (case x_7=>k_is)
  (case l_7=>k_is)
  (case c_7=>k_is)
  (case k_7=>k_is)
  (case x_8=>k_is)
  (case l_8=>k_is)
  (case c_8=>k_is)
  (case k_8=>k_is)
  (case x_9=>k_is)
  (case l_9=>k_is)
  (case c_9=>k_is)
  (case k_9=>k_is)
  (case x_10=>k_is)
  (case l_10=>k_is)
  (case c_10=>k_is)
  (case k_10=>k_is)
  (case x_11=>k_is)
  (case l_11=>k_is)
  (case c_11=>k_is)
  (case k_11=>k_is)
  (case x_12=>k_is)
  (case l_12=>k_is)
  (case c_12=>k_is)
  (case k_12=>k_is)
  (case x_13=>k_is)
  (case l_13=>k_is)
  (case c_13=>k_is)
  (case k_13=>k_is)
  (case x_14=>k_is)
  (case l_14=>k_is)
  (case c_14=>k_is)
  (case k_14=>k_is)
  (case x_15=>k_is)
  (case l_15=>k_is)
  (case c_15=>k_is)
  (case k_15=>k_is)
  (case x_16=>k_is)
  (case l_16=>k_is)
  (case c_16=>k_is)
  (case k_16=>k_is)
  (case x_17=>k_is)
  (case l_17=>k_is)
  (case c_17=>k_is)
  (case k_17=>k_is)
  (case x_18=>k_is)
  (case l_18=>k_is)
  (case c_18=>k_is)
  (case k_18=>k_is)
  (case x_19=>k_is)
  (case l_19=>k_is)
  (case c_19=>k_is)
  (case k_19=>k_is)
  (case x_20=>k_is)
  (case l_20=>k_is)
  (case c_20=>k_is)
  (case k_20=>k_is)
  (case x_21=>k_is)
  (case l_21=>k_is)
  (case c_21=>k_is)
  (case k_21=>k_is)
  (case x_22=>k_is)
  (case l_22=>k_is)
  (case c_22=>k_is)
  (case k_22=>k_is)
  (case x_23=>k_is)
  (case l_23=>k_is)
  (case c_23=>k_is)
  (case k_23=>k_is)
  (case x_24=>k_is)
  (case l_24=>k_is)
  (case c_24=>k_is)
  (case k_24=>k_is)
  (case x_25=>k_is)
  (case l_25=>k_is)
  (case c_25=>k_is)
  (case k_25=>k_is)
  (case x_26=>k_is)
  (case l_26=>k_is)
  (case c_26=>k_is)
  (case k_26=>k_is)
  (case x_27=>k_is)
  (case l_27=>k_is)
  (case c_27=>k_is)
  (case k_27=>k_is)
  (case x_28=>k_is)
  (case l_28=>k_is)
  (case c_28=>k_is)
  (case k_28=>k_is)
  (case x_29=>k_is)
  (case l_29=>k_is)
  (case c_29=>k_is)
  (case k_29=>k_is)
  (case x_30=>k_is)
  (case l_30=>k_is)
  (case c_30=>k_is)
  (case k_30=>k_is)
  (case x_LETTERS=>k_is)
  (case x_FIGURES=>k_is)
  (case x_BOXES=>k_is)
  (case l_BOXES=>k_is)
  (case x_LONGEST_LABEL=>k_is)
  (case x_GREATEST_WORD=>k_is)
  (case x_GREATEST_STEP=>k_is)
  (case x_GREATEST_TARGET=>k_is)
  (case x_FORMS=>k_is)
  (case l_FORMS=>k_is)
  (case e_FORMS=>rfl)
  (case q_FORMS=>rfl)
  (case t_FORMS=>kernel_rfl)
  (case sm_FORMS=>decide)
  (case z_len=>k_is)
  (case z_int=>k_is)
  (case z_tuple=>k_is)
  (case z_list=>k_is)
  (case z_str=>k_is)
  (case z_any=>k_is)
  (case z_all=>k_is)
  (case z_isinstance=>k_is)
  (case z_bool=>k_is)
  (case z_range=>k_is)
  (case z_enumerate=>k_is)
  (case z_zip=>k_is)
