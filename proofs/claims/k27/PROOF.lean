import PyProof.Rows.All
import Wide.All
import OpenK.AllK
import Wide.FinOn
import Lean
import PyProof.EqAt
import PyProof.EqKinds
import PyProof.TupleCall
import OpenK.KOwn
import PySem.Challenge.RW_aheadmill_k27_benches
import PyProof.NeKinds
import PyProof.DictWalks
import KE.KSortKey
import KE.KDictSum
import KE.KSortTup
set_option Elab.async false
set_option linter.all false
set_option maxRecDepth 100000
set_option exponentiation.threshold 2000
set_option maxHeartbeats 0
set_option genSizeOf false
local macro_rules | `(command| $d:definition) => `(command| noncomputable $d:definition)
namespace L2
open PySem PySem.Spec PyProof.Rows
abbrev aC:=Sum Int Str
def uU:aC->Value->Bool
 |.inl k,v=>Value.isInt k v
 |.inr x,v=>Value.isStrOf x v
def Zm(w:World):aC->Int
 |.inl k=>hashInt k
 |.inr x=>hashStr w x
theorem mY:∀{k:aC} {v:Value},uU k v=true->(∃i t,k=Sum.inl i/\v=Value.int i t)\/(∃x t,k=Sum.inr x/\v=Value.str x t)
 |.inl i,v,h=>by obtain⟨t,e⟩:=Value.isInt_shape (k:=i) (v:=v) h;exact .inl ⟨i,t,rfl,e⟩
 |.inr x,v,h=>by obtain⟨t,e⟩:=Value.isStrOf_shape (x:=x) (v:=v) h;exact .inr ⟨x,t,rfl,e⟩
theorem Zn(i:Int)(t:Tok):uU (.inl i) (.int i t)=true:=by simp[uU,Value.isInt]
theorem Zo(x:Str)(t:Tok):uU (.inr x) (.str x t)=true:=by simp[uU,Value.isStrOf]
theorem Zq(a b:Int):decide ((Sum.inl a:aC)=Sum.inl b)=(a==b):=by
 by_cases e:a=b
 .subst e;simp
 .have h:¬(Sum.inl a:aC)=Sum.inl b:=λq=>e (Sum.inl.inj q);rw[decide_eq_false h];exact(beq_eq_false_iff_ne.mpr e).symm
theorem Zu(a b:Str):decide ((Sum.inr a:aC)=Sum.inr b)=decide (a=b):=by
 by_cases e:a=b
 .subst e;simp
 .have h:¬(Sum.inr a:aC)=Sum.inr b:=λq=>e (Sum.inr.inj q);rw[decide_eq_false h,decide_eq_false e]
theorem Zr(a:Int)(b:Str):decide ((Sum.inl a:aC)=Sum.inr b)=false:=decide_eq_false (λq=>nomatch q)
theorem Zt(a:Str)(b:Int):decide ((Sum.inr a:aC)=Sum.inl b)=false:=decide_eq_false (λq=>nomatch q)
def cY(prog:Program)(w:World):PySem.KeyKind prog w aC where
 is:=uU
 hash:=Zm w
 inj:=λv a b ha hb=>by
  rcases mY ha with⟨i,t,rfl,rfl⟩|⟨x,t,rfl,rfl⟩
  .rcases mY hb with⟨j,u,rfl,e⟩|⟨y,u,rfl,e⟩
   .injection e with e1 _;rw[e1]
   .exact nomatch e
  .rcases mY hb with⟨j,u,rfl,e⟩|⟨y,u,rfl,e⟩
   .exact nomatch e
   .injection e with e1 _;rw[e1]
 byValue:=λk v h=>by rcases mY h with⟨i,t,rfl,rfl⟩|⟨x,t,rfl,rfl⟩<;>rfl
 pyHash:=λhv h=>by
  rcases mY hv with⟨i,t,rfl,rfl⟩|⟨x,t,rfl,rfl⟩
  .exact wpAny_pyHash_int h
  .exact wpAny_pyHash_str h
 eqBool:=λhu hv h=>by
  rcases mY hu with⟨i,t,rfl,rfl⟩|⟨x,t,rfl,rfl⟩
  .rcases mY hv with⟨j,u,rfl,rfl⟩|⟨y,u,rfl,rfl⟩
   .rw[Zq]at h;exact wpAny_eqBool_int h
   .rw[Zr]at h;exact SeqAt.EqAt.int_str i t y u _ _ _ _ h
  .rcases mY hv with⟨j,u,rfl,rfl⟩|⟨y,u,rfl,rfl⟩
   .rw[Zt]at h;exact SeqAt.EqAt.str_int x t j u _ _ _ _ h
   .rw[Zu]at h;exact wpAny_eqBool_str h
 «strs»:=λk x t v h=>by
  rcases mY h with⟨i,u,rfl,e⟩|⟨y,u,rfl,e⟩
  .exact nomatch e
  .injection e with e1 _;subst e1;cases v<;>rfl
theorem AX(prog:Program)(w:World)(i:Int)(t:Tok):(cY prog w).is (.inl i) (.int i t)=true:=Zn i t
theorem AY(prog:Program)(w:World)(x:Str)(t:Tok):(cY prog w).is (.inr x) (.str x t)=true:=Zo x t
inductive V where
 |aE|bl (b:Bool)|int (i:Int)|str (x:Str)|gM (b:Array UInt8)|uM (b:UInt64)|ref (a:Addr)|ty (n:String)
 deriving DecidableEq
def RelV:V->Value->Prop
 |.aE,u=>u=Value.none
 |.bl b,u=>u=Value.bool b
 |.int i,u=>∃t,u=Value.int i t
 |.str x,u=>∃t,u=Value.str x t
 |.gM b,u=>∃t,u=Value.bytes b t
 |.uM b,u=>∃t,u=Value.float b t
 |.ref a,u=>u=Value.ref a
 |.ty n,u=>u=Value.type n
abbrev Vals:List V->List Value->Prop:=Paired RelV
theorem Vals.length{xs:List V}{us:List Value}(r:Vals xs us):xs.length=us.length:=Paired.length r
theorem Vals.get:∀{xs:List V} {us:List Value} {i:Nat} {x:V},Vals xs us->xs[i]?=some x->∃u,us[i]?=some u/\RelV x u
 |_,_,_,_,.nil,e=>by simp at e
 |_,_,0,_,.cons r _,e=>by simp at e;subst e;exact⟨_,rfl,r⟩
 |_,_,i+1,x,.cons _ t,e=>by obtain⟨u,h1,h2⟩:=Vals.get (i:=i) (x:=x) t (by simpa using e);exact⟨u,by simpa using h1,h2⟩
theorem Vals.set{x:V}{u:Value}(r:RelV x u):∀{xs:List V} {us:List Value} (i:Nat),Vals xs us->Vals (xs.set i x) (us.set i u)
 |_,_,_,.nil=>.nil
 |_,_,0,.cons _ t=>.cons r t
 |_,_,i+1,.cons q t=>.cons q (Vals.set r i t)
theorem Vals.append:∀{xs ys:List V} {us ws:List Value},Vals xs us->Vals ys ws->Vals (xs++ys) (us++ws)
 |_,_,_,_,.nil,s=>s
 |_,_,_,_,.cons r t,s=>.cons r (Vals.append t s)
theorem Vals.take:∀{xs:List V} {us:List Value} (n:Nat),Vals xs us->Vals (xs.take n) (us.take n)
 |_,_,0,_=>.nil
 |_,_,_+1,.nil=>.nil
 |_,_,n+1,.cons r t=>.cons r (Vals.take n t)
theorem Vals.drop:∀{xs:List V} {us:List Value} (n:Nat),Vals xs us->Vals (xs.drop n) (us.drop n)
 |_,_,0,r=>r
 |_,_,_+1,.nil=>.nil
 |_,_,n+1,.cons _ t=>Vals.drop n t
theorem Vals.none_of:∀{xs:List V} {us:List Value} {i:Nat},Vals xs us->xs[i]?=none->us[i]?=none:=λ{xs us i} r e=>by have h1:=r.length;have h2:xs.length<=i:=List.getElem?_eq_none_iff.mp e;exact List.getElem?_eq_none_iff.mpr (by omega)
def dW:Option V->Option Value->Prop
 |some v,some u=>RelV v u
 |none,none=>True
 |_,_=>False
def KV{κ:Type}:List (κ×V)->List (κ×Value)->Prop:=Paired λ(p:κ×V) (q:κ×Value)=>p.1=q.1/\RelV p.2 q.2
def kV:aC->V
 |.inl i=>.int i
 |.inr x=>.str x
inductive HO where
 |lst (xs:List V)
 |tup (xs:List V)
 |dK (kvs:List (aC×V))|dT (kvs:List (List aC×V))
 |set (S:Int->Bool) (n:Nat)
 |ins (C dx:Addr) (fs:List (Str×V))
 |own (x:Addr)
 |xd (fs:List (Str×V))
 |met (f x:Addr)
 |pj (lo hi:Int)
 |bC (o:Obj) (u:HO)
 |tV (ps:Array Value)
 |ext (φ:Heap->Prop)
abbrev Hp:=Addr->Option HO
def aG(H:Hp)(a:Addr)(o:HO):Hp:=λb=>if b=a then some o else H b
theorem cQ{H:Hp}{a:Addr}{o:HO}:aG H a o a=some o:=by unfold aG;rw[if_pos rfl]
theorem aO{H:Hp}{a b:Addr}{o:HO}(h:b≠a):aG H a o b=H b:=by unfold aG;rw[if_neg h]
theorem kY{H:Hp}{a b:Addr}{o u:HO}(h:H a=some o)(h':H b=some u)(d:o≠u):a≠b:=by intro e;subst e;rw[h]at h';exact d (Option.some.inj h')
theorem dI{H:Hp}{a b:Addr}{o:HO}(h:H a=some o)(h':H b=none):a≠b:=by intro e;subst e;rw[h]at h';cases h'
section
variable (P:Program)(w:World)
def bY(H:Hp)(h:Heap)(a:Addr):HO->Prop
 |.lst xs=>xs.length<=sizeLine/\∃(its:List Value) (n:Nat),Vals xs its/\h.get? a=some { cls:=.type "list",data:=.seq its.toArray n }
 |.tup xs=>xs.length<=sizeLine/\∃its:List Value,Vals xs its/\IsTup h a its.toArray
 |.dK kvs=>kvs.length<=sizeLine/\(a==sysModules)=false/\∃vs,KV kvs vs/\h.DictOf (cY P w) a vs
 |.dT kvs=>kvs.length<=sizeLine/\(a==sysModules)=false/\∃xs:List (List aC×Addr×Value),
  Paired (λ(p:List aC×V) (q:List aC×Addr×Value)=>p.1=q.1/\H q.2.1=some (.tup (p.1.map kV))/\RelV p.2 q.2.2) kvs xs /\
  ∃o es ep,h.get? a=some o/\o.ExactDict/\o.data = .dict es ep/\es.toList=xs.map (entryOfKey (tupleKind (cY P w)))/\(xs.map (·.1)).Nodup
 |.set S n=>h.SetOf (intKind P w) a S n
 |.ins C dx fs=>H dx=some (.own a)/\fs.length<=1000/\dx≠a/\h.get? a=some (W.instObj C dx) /\
  ∃mA,h.Ns1 dx mA/\(∀f,dW (fs.lookup f) (mA f))/\PySem.Within mA (fs.map (·.1))
 |.own _=>∃o,h.get? a=some o
 |.xd fs=>∃mA,h.Ns1 a mA/\∀f,dW (fs.lookup f) (mA f)
 |.pj lo hi=>∃t u v,h.get? a=some { cls:=.type "range",data:=.fields #[.int lo t,.int hi u,.int 1 v] }
 |.bC o u=>h.get? a=some o/\bY H h a u
 |.tV ps=>h.get? a=some { cls:=.none,data:=.fields ps }
 |.met f x=>h.get? a=some (W.methodObj (.ref f) (.ref x))
 |.ext φ=>φ h/\(∃o,h.get? a=some o)/\∀h1 h2:Heap,φ h1->(∀o,h1.get? a=some o->h2.get? a=some o)->φ h2
def bQ(H:Hp)(h:Heap):Prop:=∀a o,H a=some o->bY P w H h a o
end
section
variable {P:Program}{w:World}{H H':Hp}{h h':Heap}{a:Addr}{o:HO}
theorem bY.lt(x:bY P w H h a o):a<h.objs.size:=by
 cases o with
 |lst xs=>obtain⟨_,_,_,_,e⟩:=x;exact Heap.lt_size e|tup xs=>obtain⟨_,_,_,p⟩:=x;exact p.lt|dK kvs=>obtain⟨_,_,_,_,o,_,_,e,_⟩:=x;exact Heap.lt_size e|dT kvs=>obtain⟨_,_,_,_,o,_,_,e,_⟩:=x;exact Heap.lt_size e|set S n=>obtain⟨o,_,_,_,e,_⟩:=x;exact Heap.lt_size e|ins C dx fs=>obtain⟨_,_,_,e,_⟩:=x;exact Heap.lt_size e|own y=>obtain⟨_,e⟩:=x;exact Heap.lt_size e|xd fs=>obtain⟨_,⟨_,_,_,e,_⟩,_⟩:=x;exact Heap.lt_size e|pj lo hi=>obtain⟨_,_,_,e⟩:=x;exact Heap.lt_size e|bC ob u=>obtain⟨e,_⟩:=x;exact Heap.lt_size e|tV ps=>exact Heap.lt_size (show h.get? a=some _ from x)|met f y=>exact Heap.lt_size (show h.get? a=some _ from x)|ext φ=>obtain⟨_,⟨_,e⟩,_⟩:=x;exact Heap.lt_size e
theorem Paired.wo{α β:Type}{F G:α->β->Prop}:∀{l₁:List α} {l₂:List β},Paired F l₁ l₂->(∀a b,F a b->G a b)->Paired G l₁ l₂
 |_,_,.nil,_=>.nil
 |_,_,.cons r t,f=>.cons (f _ _ r) (Paired.wo t f)
theorem bY.gI(x:bY P w H h a o)(k:∀b u,(b=a\/H b=some (.own a))->h.get? b=some u->h'.get? b=some u)
  (ho:∀b,H b=some (.own a)->H' b=some (.own a)) (ht:∀b xs,H b=some (.tup xs)->H' b=some (.tup xs)):bY P w H' h' a o:=by
 induction o with
 |lst xs=>obtain⟨z,its,n,r,e⟩:=x;exact⟨z,its,n,r,k _ _ (.inl rfl) e⟩|tup xs=>obtain⟨z,its,r,ob,e,c⟩:=x;exact⟨z,its,r,ob,k _ _ (.inl rfl) e,c⟩|dK kvs=>obtain⟨z,y,vs,r,ob,es,ep,e,c⟩:=x;exact⟨z,y,vs,r,ob,es,ep,k _ _ (.inl rfl) e,c⟩|dT kvs=>obtain⟨z,y,xs,r,ob,es,ep,e,c⟩:=x;exact⟨z,y,xs,Paired.wo r λp q z=>⟨z.1,ht _ _ z.2.1,z.2.2⟩,ob,es,ep,k _ _ (.inl rfl) e,c⟩
 |set S n=>obtain⟨ob,es,ep,t,e,c⟩:=x;exact⟨ob,es,ep,t,k _ _ (.inl rfl) e,c⟩|ins C dx fs=>obtain⟨d,z,ne,e,mA,⟨od,es,ep,e2,c⟩,r⟩:=x;exact⟨ho _ d,z,ne,k _ _ (.inl rfl) e,mA,⟨od,es,ep,k _ _ (.inr d) e2,c⟩,r⟩
 |own y=>obtain⟨ob,e⟩:=x;exact⟨ob,k _ _ (.inl rfl) e⟩|xd fs=>obtain⟨mA,⟨od,es,ep,e,c⟩,r⟩:=x;exact⟨mA,⟨od,es,ep,k _ _ (.inl rfl) e,c⟩,r⟩|pj lo hi=>obtain⟨t,u,v,e⟩:=x;exact⟨t,u,v,k _ _ (.inl rfl) e⟩|bC ob u ih=>obtain⟨e,q⟩:=x;exact⟨k _ _ (.inl rfl) e,ih q⟩|tV ps=>have e:h.get? a=some { cls:=.none,data:=.fields ps }:=x;show h'.get? a=some { cls:=.none,data:=.fields ps };exact k a _ (.inl rfl) e
 |met f y=>have e:h.get? a=some (W.methodObj (.ref f) (.ref y)):=x;show h'.get? a=some (W.methodObj (.ref f) (.ref y));exact k a _ (.inl rfl) e
 |ext φ=>obtain⟨p,⟨o,e⟩,st⟩:=x;exact⟨st _ _ p λo q=>k _ _ (.inl rfl) q,⟨o,k _ _ (.inl rfl) e⟩,st⟩
theorem bQ.lt(x:bQ P w H h)(e:H a=some o):a<h.objs.size:=(x a o e).lt
theorem bQ.fresh(x:bQ P w H h)(e:h.objs.size<=a):H a=none:=by
 cases q:H a with
 |none=>rfl|some u=>exact absurd (Nat.lt_of_lt_of_le (x.lt q) e) (Nat.lt_irrefl _)
theorem bQ.kept(x:bQ P w H h)(k:∀b u,h.get? b=some u->h'.get? b=some u):bQ P w H h':=λa o e=>
 (x a o e).gI (λb u _ q=>k b u q) (λ_ q=>q) λ_ _ q=>q
theorem bQ.laid(x:bQ P w H h)(k:∀b u,h.get? b=some u->h'.get? b=some u)(hp:h.objs.size<=a)(new:bY P w (aG H a o) h' a o):bQ P w (aG H a o) h':=λb u e=>by
 have hn:=x.fresh hp;by_cases hb:b=a
 .subst hb;rw[cQ]at e;cases e;exact new
 .rw[aO hb]at e;exact(x b u e).gI (λc v _ q=>k c v q) (λc q=>by rw[aO (dI q hn)];exact q) λc xs q=>by rw[aO (dI q hn)];exact q
end
def Rd(H:Hp)(a:Addr)(u:HO):Prop:=H a=some u\/∃o,H a=some (.bC o u)
theorem Rd.ok{P:Program}{w:World}{H:Hp}{h:Heap}{a:Addr}{u:HO}(r:Rd H a u)(x:bQ P w H h):bY P w H h a u:=by
 rcases r with r|⟨o,r⟩
 .exact x a u r
 .obtain⟨_,q⟩:=x a _ r;exact q
def wI:Option HO->Prop
 |some (.lst _)=>True
 |some (.dK _)=>True
 |some (.dT _)=>True
 |some (.set _ _)=>True
 |some (.ins _ _ _)=>True
 |some (.ext _)=>True
 |_=>False
section
variable {P:Program}{w:World}{H:Hp}{h h':Heap}{x e:Addr}{o':HO}
theorem bQ.write(ok:bQ P w H h)(mu:wI (H x))(he:e=x\/H e=some (.own x))(k:∀b u,b≠e->h.get? b=some u->h'.get? b=some u)(heo:∃u,h'.get? e=some u)
  (new:bY P w (aG H x o') h' x o'):bQ P w (aG H x o') h':=λb u q=>by
 have nown:∀c y,H c=some (.own y)->c≠x:=λc y r z=>by subst z;rw[r]at mu;exact mu
 have ntup:∀c xs,H c=some (.tup xs)->c≠x:=λc xs r z=>by subst z;rw[r]at mu;exact mu
 by_cases hb:b=x
 .subst hb;rw[cQ]at q;cases q;exact new
 .rw[aO hb]at q;by_cases hbe:b=e
  .have q':H b=some (.own x):=by
    rcases he with z|z
    .exact absurd (hbe.trans z) hb
    .rw[hbe];exact z
   rw[q]at q';cases q';obtain⟨v,hv⟩:=heo;exact⟨v,by rw[hbe];exact hv⟩
  .refine(ok b u q).gI (λc v hc r=>k c v ?_ r) (λc r=>by rw[aO (nown c b r)];exact r) λc xs r=>by rw[aO (ntup c xs r)];exact r
   rcases hc with rfl|hc
   .exact hbe
   .rintro rfl
    rcases he with z|z
    .exact nown c b hc z
    .rw[hc]at z;cases z;exact hb rfl
end
structure Un(fs ex:List Addr)(H H':Hp)(h h':Heap):Prop where
 keep:∀b o,h.get? b=some o->H b=none->b∉fs->b∉ex->h'.get? b=some o
 slot:∀b o,h.get? b=some o->H b=none->b∈fs->b∉ex->∃sl,h'.get? b=some { o with slots:=sl }
 free:∀b o,h.get? b=some o->H b=none->b∉ex->H' b=none
 there:∀b o,h.get? b=some o->b∉ex->∃o',h'.get? b=some o'
 gX:∀b xs,H b=some (.tup xs)->H' b=some (.tup xs)
 fQ:∀b o u,H b=some (.bC o u)->H' b=some (.bC o u)
 gU:∀b ps,H b=some (.tV ps)->∃more,H' b=some (.tV (ps++more))
section
variable {fs fs' ex ex':List Addr}{H H1 H2:Hp}{h h1 h2 h':Heap}{a x e:Addr}{o:HO}
theorem Un.any(u:Un fs ex H H1 h h1){b:Addr}{ob:Obj}(q:h.get? b=some ob)(n:H b=none)(hx:b∉ex):∃sl,h1.get? b=some { ob with slots:=sl }:=by
 by_cases hb:b∈fs
 .exact u.slot b ob q n hb hx
 .exact⟨ob.slots,u.keep b ob q n hb hx⟩
theorem Un.kept(k:∀b u,h.get? b=some u->h'.get? b=some u):Un fs ex H H h h':=
 ⟨λb ob q _ _ _=>k b ob q,λb ob q _ _ _=>⟨ob.slots,k b ob q⟩,λ_ _ _ n _=>n,λb ob q _=>⟨ob,k b ob q⟩,λ_ _ q=>q,λ_ _ _ q=>q,λ_ ps q=>⟨#[],by rw[q];simp⟩⟩
theorem Un.refl:Un fs ex H H h h:=Un.kept λ_ _ q=>q
theorem Un.laid(k:∀b u,h.get? b=some u->h'.get? b=some u)(hp:h.objs.size<=a)(hn:H a=none):Un fs ex H (aG H a o) h h' where
 keep:=λb u q _ _ _=>k b u q
 slot:=λb u q _ _ _=>⟨u.slots,k b u q⟩
 free:=λb u q n _=>by rw[aO (Nat.ne_of_lt (Nat.lt_of_lt_of_le (Heap.lt_size q) hp))];exact n
 there:=λb u q _=>⟨u,k b u q⟩
 gX:=λb xs q=>by rw[aO (dI q hn)];exact q
 fQ:=λb u xs q=>by rw[aO (dI q hn)];exact q
 gU:=λb ps q=>⟨#[],by rw[aO (dI q hn),q];simp⟩
theorem Un.write(mu:wI (H x))(he:e=x\/H e=some (.own x))(k:∀b u,b≠e->h.get? b=some u->h'.get? b=some u)(heo:∃u,h'.get? e=some u):Un fs ex H (aG H x o) h h':=by
 have hx:∀b,H b=none->b≠x:=λb n z=>by subst z;rw[n]at mu;exact mu
 have hb:∀b,H b=none->b≠e:=λb n z=>by
  subst z;rcases he with r|r
  .exact hx b n r
  .rw[n]at r;cases r
 have hm:∀b u,H b=some u->¬wI (some u)->b≠x:=λb u q nm z=>by subst z;rw[q]at mu;exact nm mu
 refine⟨λb u q n _ _=>k b u (hb b n) q,λb u q n _ _=>⟨u.slots,k b u (hb b n) q⟩,λb u q n _=>by rw[aO (hx b n)];exact n,λb u q _=>?_,
  λb xs q=>by rw[aO (hm b _ q λz=>z)];exact q,λb u xs q=>by rw[aO (hm b _ q λz=>z)];exact q,λb ps q=>⟨#[],by rw[aO (hm b _ q λz=>z),q];simp⟩⟩
 by_cases hbe:b=e
 .subst hbe;exact heo
 .exact⟨u,k b u hbe q⟩
end
def qm(h:Heap)(H:Hp):List Addr:=(List.range h.objs.size).filter λa=>(H a).isSome
def oU(h:Heap)(H:Hp):Heap:=W.hideAll h (qm h H)
theorem Yf(h:Heap)(H:Hp):(oU h H).objs.size=h.objs.size:=W.hideAll_size _ _
theorem Ye{h:Heap}{H:Hp}{b:Addr}{o:Obj}(e:h.get? b=some o)(n:H b=none):(oU h H).get? b=some o:=
 W.hideAll_get _ e λhm=>by have q:(H b).isSome=true:=(List.mem_filter.mp hm).2;rw[n]at q;simp at q
theorem BN{h:Heap}{H:Hp}{b:Addr}{o:Obj}(e:(oU h H).get? b=some o):h.get? b=some o/\H b=none:=by
 have e':h.get? b=some o:=W.of_hideAll (qm h H) e;refine⟨e',?_⟩;cases q:H b with
 |none=>rfl|some x=>have hm:b∈qm h H:=List.mem_filter.mpr ⟨List.mem_range.mpr (Heap.lt_size e'),by simp[q]⟩;have z:(oU h H).get? b=none:=W.hideAll_none (qm h H) hm;rw[z]at e;cases e
structure Mod(K:W.Frag)(mg:Str->Option Value)(base:Heap):Prop where
 rN:K.In base
 glob:base.Ns mainGlobals mg
 blt:∃mb,base.Ns builtinsNs mb/\∀x:Str,x≠"__name__"->mb x=bootBuiltins x
 nolimit:base.NoLimit
structure Cx where
 prog:Program
 w:World
 K:W.Frag
 mg:Str->Option Value
 base:Heap
 A:Around
 N:List Str
 s₀:Shared
 H₀:Hp
 env:Env
 outer:List Env
 stack:List Env
 ex:List Addr
 fn:Str->Bool
 calm:Bool
 pn:List (Addr×Obj)
 xe:Value->Shared->Prop
def bW(l:List Env):List Addr:=l.filterMap (·.frame)
noncomputable abbrev Cx.fs(X:Cx):List Addr:=bW X.outer
def zG(sc:Scope)(x:Str):Prop:=sc.names.lookup x=some .local\/sc.names.lookup x=some .cell\/sc.names.lookup x=some .free
def oE(sc:Scope)(x:Str):Prop:=sc.names.lookup x=some .local\/sc.names.lookup x=some .cell
def Rn(env:Env)(h:Heap)(m:Str->Option Value)(x:Str)(u:Value):Prop:=
 (env.kindOf x=some .local/\m x=some u)\/((env.kindOf x=some .cell\/env.kindOf x=some .free)/\∃c,env.cells.lookup x=some c/\h.IsCell c (some u))
structure Cx.Ok(X:Cx):Prop where
 mod:Mod X.K X.mg X.base
 kind:X.env.scope.kind = .function
 glob:X.env.globals=mainGlobals
 blt:X.env.builtins=builtinsNs
 above:X.s₀.heap.objs.size<=X.env.locals
 inj:∀x y c,X.env.cells.lookup x=some c->X.env.cells.lookup y=some c->x=y
 has:∀x,(X.env.kindOf x=some .cell\/X.env.kindOf x=some .free)->∃c,X.env.cells.lookup x=some c
 oI:∀x c,X.fn x=true->X.env.cells.lookup x=some c->X.s₀.heap.objs.size<=c
 hd:X.calm=true->X.A.handled=none
 frames:X.A.frames=some X.stack
 fV:X.stack=X.outer\/(X.stack=X.env::X.outer/\X.env.frame=some X.env.locals)
 oQ:∀b∈X.ex,b≠X.env.locals/\∀x c,X.env.cells.lookup x=some c->c≠b
 bs:∀b o,X.base.get? b=some o->X.s₀.heap.get? b=some o/\X.H₀ b=none
 gL:X.base.objs.size<=X.s₀.heap.objs.size
 oZ:∀b o,X.base.get? b=some o->b∉X.ex
 mS:∀b∈X.ex,b∉X.fs
 fG:X.s₀.heap.FunFrames X.base X.outer
 jF:∀b∈X.fs,X.H₀ b=none
structure Inv(X:Cx)(pins:List (Addr×Obj))(U:List (Option V))(H:Hp)(s:Shared):Prop where
 ok:X.Ok
 os:s.os=X.s₀.os
 bare:AllBare s.gens
 base:Un X.fs X.ex X.H₀ H X.s₀.heap s.heap
 loc:∃m,s.heap.Ns X.env.locals m/\∀(i:Nat) (x:Str) (v:V),X.N[i]?=some x->U[i]?=some (some v)->zG X.env.scope x->∃u,RelV v u/\Rn X.env s.heap m x u
 cell:∀x c,X.env.cells.lookup x=some c->∃v,s.heap.IsCell c v
 free:H X.env.locals=none
 eX:∀x c,X.env.cells.lookup x=some c->H c=none
 pin:∀p∈X.pn++pins,s.heap.get? p.1=some p.2/\H p.1=none/\p.1≠X.env.locals/\p.1∉X.fs/\∀v,p.2.data ≠ .cell v
 aD:bQ X.prog X.w H s.heap
 len:U.length=X.N.length
section
variable {X:Cx}{pins:List (Addr×Obj)}{U:List (Option V)}{H H':Hp}{s:Shared}{h':Heap}
theorem Cx.Ok.BL(ok:X.Ok){b:Addr}{o:Obj}(e:X.base.get? b=some o):b∉X.fs:=λhb=>by have:=(ok.fG.mem hb).1;rw[e]at this;cases this
theorem Inv.bs(I:Inv X pins U H s):∀b o,X.base.get? b=some o->s.heap.get? b=some o/\H b=none:=λb o e=>
 ⟨I.base.keep b o (I.ok.bs b o e).1 (I.ok.bs b o e).2 (I.ok.BL e) (I.ok.oZ b o e),I.base.free b o (I.ok.bs b o e).1 (I.ok.bs b o e).2 (I.ok.oZ b o e)⟩
theorem Inv.bk(I:Inv X pins U H s):∀b o,X.base.get? b=some o->s.heap.get? b=some o:=λb o e=>(I.bs b o e).1
theorem Inv.mod(I:Inv X pins U H s):Mod X.K X.mg X.base:=I.ok.mod
theorem Inv.bK(I:Inv X pins U H s):X.K.In s.heap:=I.ok.mod.rN.keeps I.bk
theorem Inv.lt(I:Inv X pins U H s):X.env.locals<s.heap.objs.size:=let ⟨_,hn,_⟩:=I.loc;hn.lt
theorem Inv.sz(I:Inv X pins U H s):X.s₀.heap.objs.size<=s.heap.objs.size:=Nat.le_trans I.ok.above (Nat.le_of_lt I.lt)
theorem Inv.Kq(I:Inv X pins U H s){a:Addr}(h:s.heap.objs.size<=a):a∉X.fs:=λhb=>by obtain⟨_,o,ho,_⟩:=I.ok.fG.mem hb;exact absurd (Nat.lt_of_lt_of_le (Heap.lt_size ho) (Nat.le_trans I.sz h)) (Nat.lt_irrefl _)
theorem Inv.kR(I:Inv X pins U H s):∀x c,X.env.cells.lookup x=some c->c≠X.env.locals:=λx c e z=>by obtain⟨v,o,ho,hd⟩:=I.cell x c e;obtain⟨m,⟨o',es,ep,ho',hd',_⟩,_⟩:=I.loc;rw[z,ho']at ho;cases ho;rw[hd']at hd;cases hd
theorem Inv.fG(I:Inv X pins U H s):s.heap.FunFrames X.base X.outer:=by
 have all:∀(l:List Env),(∀b∈bW l,b∈X.fs)->X.s₀.heap.FunFrames X.base l->s.heap.FunFrames X.base l:=by
  intro l;induction l with
  |nil=>intro _ _;trivial|cons env r ih=>intro hs hl;obtain⟨hk,⟨L,o,hf,hn,ho,hd⟩,hr⟩:=hl;have hL:L∈X.fs:=hs L (by unfold bW;rw[List.filterMap_cons,hf];exact List.mem_cons_self);obtain⟨sl,e⟩:=I.base.slot L o ho (I.ok.jF L hL) hL λz=>I.ok.mS L z hL;exact⟨hk,⟨L,_,hf,hn,e,hd⟩,ih (λb hb=>hs b (by unfold bW;rw[List.filterMap_cons,hf];exact List.mem_cons_of_mem _ hb)) hr⟩
 exact all X.outer (λ_ hb=>hb) I.ok.fG
theorem Inv.stack(I:Inv X pins U H s):s.heap.FunFrames X.base X.stack:=by
 rcases I.ok.fV with e|⟨e,hf⟩
 .rw[e];exact I.fG
 .rw[e];obtain⟨m,hn,_⟩:=I.loc;refine .cons (by rw[I.ok.kind];decide) hf hn ?_ I.fG;exact Heap.get?_none_of_le (Nat.le_trans I.ok.gL I.ok.above)
theorem Inv.cx(I:Inv X pins U H s):∀b∈bW X.stack,b∈X.env.locals::X.fs:=λb hb=>by
 rcases I.ok.fV with e|⟨e,hf⟩
 .rw[e]at hb;exact List.mem_cons_of_mem _ hb
 .rw[e]at hb;unfold bW at hb;rw[List.filterMap_cons,hf]at hb;exact hb
theorem Inv.yO(I:Inv X pins U H s):∀b∈bW X.stack,H b=none:=λb hb=>by
 rcases List.mem_cons.mp (I.cx b hb)with e|hb
 .rw[e];exact I.free
 .obtain⟨_,o,ho,_⟩:=I.ok.fG.mem hb;exact I.base.free b o ho (I.ok.jF b hb) λz=>I.ok.mS b z hb
theorem Inv.step{g':Array GenState}{t':Nat}{d':Drawn}{ch:List Addr}(I:Inv X pins U H s)
  (hch:∀b∈ch,(b∈X.ex\/X.s₀.heap.objs.size<=b)/\b≠X.env.locals/\(∀x c,X.env.cells.lookup x=some c->c≠b)/\∀p∈X.pn++pins,p.1≠b)
  (keep:∀b o,b≠X.env.locals->b∉X.fs->b∉ch->s.heap.get? b=some o->H b=none->h'.get? b=some o)
  (slot:∀b o,b≠X.env.locals->b∈X.fs->b∉ch->s.heap.get? b=some o->H b=none->∃sl,h'.get? b=some { o with slots:=sl }) (free:∀b o,b∉ch->s.heap.get? b=some o->H b=none->H' b=none)
  (there:∀b o,b∉ch->s.heap.get? b=some o->∃o',h'.get? b=some o')
  (gX:∀b xs,H b=some (.tup xs)->H' b=some (.tup xs)) (fQ:∀b o u,H b=some (.bC o u)->H' b=some (.bC o u)) (gU:∀b ps,H b=some (.tV ps)->∃more,H' b=some (.tV (ps++more)))
  (ns:∀m,s.heap.Ns X.env.locals m->h'.Ns X.env.locals m) (aD:bQ X.prog X.w H' h') (hg:AllBare g') :
  Inv X pins U H' { s with heap:=h',gens:=g',drawn:=d',toks:=t' }:=by
 have neL:∀b o,X.s₀.heap.get? b=some o->b≠X.env.locals:=λb o e=>Nat.ne_of_lt (Nat.lt_of_lt_of_le (Heap.lt_size e) I.ok.above);have neC:∀b o,X.s₀.heap.get? b=some o->b∉X.ex->b∉ch:=λb o e hx hb=>by
  rcases(hch b hb).1 with z|z
  .exact hx z
  .exact absurd (Nat.lt_of_lt_of_le (Heap.lt_size e) z) (Nat.lt_irrefl _)
 have cellK:∀x c,X.env.cells.lookup x=some c->∀v,s.heap.IsCell c v->h'.IsCell c v:=λx c e v ⟨o,ho,hd⟩=>by
  have nch:c∉ch:=λz=>(hch c z).2.2.1 x c e rfl;by_cases hc:c∈X.fs
  .obtain⟨sl,q⟩:=slot c o (I.kR x c e) hc nch ho (I.eX x c e);exact⟨_,q,hd⟩
  .exact⟨o,keep c o (I.kR x c e) hc nch ho (I.eX x c e),hd⟩
 refine⟨I.ok,I.os,hg,⟨λb o e n hb hx=>?_,λb o e n hb hx=>?_,λb o e n hx=>?_,λb o e hx=>?_,λb xs e=>gX b xs (I.base.gX b xs e),λb o xs e=>fQ b o xs (I.base.fQ b o xs e),λb ps e=>?_⟩,?_,λx c e=>?_,?_,λx c e=>?_,λp hp=>?_,aD,I.len⟩
 .exact keep b o (neL b o e) hb (neC b o e hx) (I.base.keep b o e n hb hx) (I.base.free b o e n hx)
 .obtain⟨sl,e1⟩:=I.base.slot b o e n hb hx;obtain⟨sl',e2⟩:=slot b _ (neL b o e) hb (neC b o e hx) e1 (I.base.free b o e n hx);exact⟨sl',e2⟩
 .obtain⟨o',e1⟩:=I.base.there b o e hx;exact free b o' (neC b o e hx) e1 (I.base.free b o e n hx)
 .obtain⟨o',e1⟩:=I.base.there b o e hx;exact there b o' (neC b o e hx) e1
 .obtain⟨m1,e1⟩:=I.base.gU b ps e;obtain⟨m2,e2⟩:=gU b _ e1;exact⟨m1++m2,by rw[e2,Array.append_assoc]⟩
 .obtain⟨m,hn,hl⟩:=I.loc;refine⟨m,ns m hn,λi x v e1 e2 e3=>?_⟩;obtain⟨u,r,l⟩:=hl i x v e1 e2 e3;refine⟨u,r,?_⟩;rcases l with l|⟨k,c,e,z⟩
  .exact .inl l
  .exact .inr ⟨k,c,e,cellK x c e _ z⟩
 .obtain⟨v,z⟩:=I.cell x c e;exact⟨v,cellK x c e v z⟩
 .obtain⟨m,⟨o,_,_,ho,_⟩,_⟩:=I.loc;exact free _ o (λz=>(hch _ z).2.1 rfl) ho I.free
 .obtain⟨v,o,ho,hd⟩:=I.cell x c e;exact free c o (λz=>(hch c z).2.2.1 x c e rfl) ho (I.eX x c e)
 .obtain⟨e,n,ne,nf,d⟩:=I.pin p hp;have nch:p.1∉ch:=λz=>(hch p.1 z).2.2.2 p hp rfl;exact⟨keep p.1 p.2 ne nf nch e n,free p.1 p.2 nch e n,ne,nf,d⟩
theorem Inv.un{t':Nat}(I:Inv X pins U H s)(u:Un X.fs [] H H' s.heap h')(aD:bQ X.prog X.w H' h'):Inv X pins U H' { s with heap:=h',toks:=t' }:=by
 obtain⟨m,⟨o,es,ep,ho,r⟩,_⟩:=id I.loc;obtain⟨sl,hL⟩:=u.any ho I.free (by simp);exact I.step (g':=s.gens) (d':=s.drawn) (ch:=[]) (λ_ z=>nomatch z) (λb o _ hb _ e n=>u.keep b o e n hb (by simp)) (λb o _ hb _ e n=>u.slot b o e n hb (by simp)) (λb o _ e n=>u.free b o e n (by simp)) (λb o _ e=>u.there b o e (by simp)) u.gX u.fQ u.gU (λm' hm=>by obtain⟨o',es',ep',ho',r'⟩:=hm;rw[ho]at ho';cases ho';exact⟨_,es',ep',hL,r'⟩) aD I.bare
theorem Inv.call{g':Array GenState}{t':Nat}{d':Drawn}{ch:List Addr}(I:Inv X pins U H s)(u:Un (bW X.stack) ch H H' s.heap h')(aD:bQ X.prog X.w H' h')(hg:AllBare g')
  (hch:∀b∈ch,(b∈X.ex\/X.s₀.heap.objs.size<=b)/\b≠X.env.locals/\(∀x c,X.env.cells.lookup x=some c->c≠b)/\∀p∈X.pn++pins,p.1≠b) :
  Inv X pins U H' { s with heap:=h',gens:=g',drawn:=d',toks:=t' }:=by
 obtain⟨m,⟨o,es,ep,ho,r⟩,_⟩:=id I.loc;obtain⟨sl,hL⟩:=u.any ho I.free λz=>(hch _ z).2.1 rfl;exact I.step (ch:=ch) hch (λb o hL hb hc e n=>u.keep b o e n (λz=>(List.mem_cons.mp (I.cx b z)).elim hL hb) hc) (λb o _ _ hc e n=>u.any e n hc) (λb o hc e n=>u.free b o e n hc) (λb o hc e=>u.there b o e hc) u.gX u.fQ u.gU (λm' hm=>by obtain⟨o',es',ep',ho',r'⟩:=hm;rw[ho]at ho';cases ho';exact⟨_,es',ep',hL,r'⟩) aD hg
theorem Inv.turned{t':Nat}{it:Addr}(I:Inv X pins U H s)(k:∀b o,b≠it->s.heap.get? b=some o->h'.get? b=some o)(hn:H it=none)(hL:it≠X.env.locals)
  (h1:it∈X.ex\/X.s₀.heap.objs.size<=it) (h2:∀x c,X.env.cells.lookup x=some c->c≠it) (h3:∀p∈X.pn++pins,p.1≠it):Inv X pins U H { s with heap:=h',toks:=t' }:=by
 have nit:∀b u,H b=some u->b≠it:=λb u e z=>by rw[z,hn]at e;cases e
 refine I.step (g':=s.gens) (d':=s.drawn) (ch:=[it]) (λb hb=>?_) (λb o _ _ hc e _=>k b o (λz=>hc (by simp[z])) e) (λb o _ _ hc e _=>⟨o.slots,k b o (λz=>hc (by simp[z])) e⟩) (λ_ _ _ _ n=>n)
  (λb o hc e=>⟨o,k b o (λz=>hc (by simp[z])) e⟩) (λ_ _ e=>e) (λ_ _ _ e=>e) (λb ps e=>⟨#[],by rw[e];simp⟩) (λm hm=>?_) (λb u e=>?_) I.bare
 .have e:b=it:=by simpa using hb
  subst e;exact⟨h1,hL,h2,h3⟩
 .obtain⟨o,es,ep,ho,r⟩:=hm;exact⟨o,es,ep,k _ o (Ne.symm hL) ho,r⟩
 .refine(I.aD b u e).gI (λc v hc q=>k c v ?_ q) (λ_ q=>q) λ_ _ q=>q;rcases hc with z|z
  .rw[z];exact nit b u e
  .exact nit c _ z
theorem Inv.tok(I:Inv X pins U H s)(t:Nat):Inv X pins U H { s with toks:=t }:=I.un (h':=s.heap) (t':=t) Un.refl I.aD
theorem Inv.kept{t':Nat}(I:Inv X pins U H s)(k:∀b u,s.heap.get? b=some u->h'.get? b=some u):Inv X pins U H { s with heap:=h',toks:=t' }:=I.un (Un.kept k) (I.aD.kept k)
theorem Inv.laid{a:Addr}{o:HO}{t':Nat}(I:Inv X pins U H s)(k:∀b u,s.heap.get? b=some u->h'.get? b=some u)(hp:s.heap.objs.size<=a)(new:bY X.prog X.w (aG H a o) h' a o) :
 Inv X pins U (aG H a o) { s with heap:=h',toks:=t' }:=I.un (Un.laid k hp (I.aD.fresh hp)) (I.aD.laid k hp new)
theorem Inv.write{x e:Addr}{o:HO}{t':Nat}(I:Inv X pins U H s)(mu:wI (H x))(he:e=x\/H e=some (.own x))(k:∀b u,b≠e->s.heap.get? b=some u->h'.get? b=some u)(heo:∃u,h'.get? e=some u)
 (new:bY X.prog X.w (aG H x o) h' x o):Inv X pins U (aG H x o) { s with heap:=h',toks:=t' }:=I.un (Un.write mu he k heo) (I.aD.write mu he k heo new)
theorem Inv.nC{pins':List (Addr×Obj)}(I:Inv X pins U H s)(h:∀p∈pins',s.heap.get? p.1=some p.2/\H p.1=none/\p.1≠X.env.locals/\p.1∉X.fs/\∀v,p.2.data ≠ .cell v):Inv X pins' U H s:=
 ⟨I.ok,I.os,I.bare,I.base,I.loc,I.cell,I.free,I.eX,λp hp=>(List.mem_append.mp hp).elim (λz=>I.pin p (List.mem_append_left _ z)) (h p),I.aD,I.len⟩
theorem xf{N:List Str}(hN:N.Nodup){i j:Nat}{x:Str}(a:N[i]?=some x)(b:N[j]?=some x):i=j:=by obtain⟨h1,e1⟩:=List.getElem?_eq_some_iff.mp a;obtain⟨h2,e2⟩:=List.getElem?_eq_some_iff.mp b;exact(List.getElem_inj hN).mp (e1.trans e2.symm)
theorem PV{M:Model}{A:Around}{E:Value->Shared->Prop}{i:Nat}{x:Str}{v:V}{u:Value}{Q:Unit->Shared->Prop}(I:Inv X pins U H s)(hN:X.N.Nodup)(hi:X.N[i]?=some x)(hx:oE X.env.scope x)(r:RelV v u)
  (h:∀s',Inv X pins (U.set i (some v)) H s'->(∃a,Heap.SameBut a s.heap s'.heap/\(a=X.env.locals\/X.env.cells.lookup x=some a))->Q () s') (hf:X.fn x=true\/X.env.scope.names.lookup x=some .local:=by first|exact .inl rfl|exact .inr rfl|assumption):wpAny M A (storeName X.env x u) Q E s:=by
 obtain⟨m,hn,hl⟩:=id I.loc;have hcls:(X.env.scope.kind == .class||(X.env.scope.kind == .module&&X.env.locals != X.env.globals))=false:=by rw[I.ok.kind];rfl
 have hiU:i<U.length:=by rw[I.len];exact(List.getElem?_eq_some_iff.mp hi).1
 have kR:=I.kR;have tracked:∀{a:Addr} {h':Heap},(∃o,s.heap.get? a=some o/\H a=none)->Heap.SameBut a s.heap h'->bQ X.prog X.w H h':=λ{a h'} ha hs b ob e=>by
  obtain⟨_,_,hfree⟩:=ha;refine(I.aD b ob e).gI (λc w' hc q=>(hs.2 c ?_).trans q) (λ_ q=>q) λ_ _ q=>q;rintro rfl
  rcases hc with rfl|hc
  .rw[hfree]at e;cases e
  .rw[hfree]at hc;cases hc
 rcases hx with hk|hk
 .refine wpAny_storeName_local hk hn (λh' hn' hs=>?_) hcls;obtain⟨oL,_,_,hoL,_⟩:=id hn;refine h _ ⟨I.ok,I.os,I.bare,⟨λb o e n hb hx=>?_,λb o e n hb hx=>?_,I.base.free,λb o e hx=>?_,I.base.gX,I.base.fQ,I.base.gU⟩,⟨_,hn',λj y v' e1 e2 e3=>?_⟩,λy c e=>?_,I.free,I.eX,λp hp=>?_,tracked ⟨oL,hoL,I.free⟩ hs,by simpa using I.len⟩ ⟨_,hs,.inl rfl⟩
  .exact(hs.2 b (Nat.ne_of_lt (Nat.lt_of_lt_of_le (Heap.lt_size e) I.ok.above))).trans (I.base.keep b o e n hb hx)
  .obtain⟨sl,e1⟩:=I.base.slot b o e n hb hx;exact⟨sl,(hs.2 b (Nat.ne_of_lt (Nat.lt_of_lt_of_le (Heap.lt_size e) I.ok.above))).trans e1⟩
  .obtain⟨o',e1⟩:=I.base.there b o e hx;exact⟨o',(hs.2 b (Nat.ne_of_lt (Nat.lt_of_lt_of_le (Heap.lt_size e) I.ok.above))).trans e1⟩
  .by_cases hj:j=i
   .subst hj;rw[hi]at e1;cases e1;rw[List.getElem?_set_self hiU]at e2;cases e2;exact⟨u,r,.inl ⟨hk,by simp⟩⟩
   .rw[List.getElem?_set_ne (Ne.symm hj)]at e2;obtain⟨u',r',q⟩:=hl j y v' e1 e2 e3;refine⟨u',r',?_⟩;rcases q with⟨k,e⟩|⟨k,c,e,z⟩
    .refine .inl ⟨k,?_⟩;have:y≠x:=λe=>hj (xf hN e1 (e▸hi));simp[this,e]
    .exact .inr ⟨k,c,e,z.sameBut hs (kR y c e)⟩
  .obtain⟨w',z⟩:=I.cell y c e;exact⟨w',z.sameBut hs (kR y c e)⟩
  .obtain⟨e,n,ne,nf,d⟩:=I.pin p hp;exact⟨(hs.2 p.1 ne).trans e,n,ne,nf,d⟩
 .have hfn:X.fn x=true:=by
   rcases hf with z|z
   .exact z
   .rw[z]at hk;cases hk
  obtain⟨c,hc⟩:=I.ok.has x (.inl hk);obtain⟨w',z⟩:=I.cell x c hc;refine wpAny_storeName_cell I.ok.kind hk hc z (λh' hc' hs=>?_);obtain⟨oc,hoc,hocd⟩:=id z;refine h { s with heap:=h' } ⟨I.ok,I.os,I.bare,⟨λb o e n hb hx=>?_,λb o e n hb hx=>?_,I.base.free,λb o e hx=>?_,I.base.gX,I.base.fQ,I.base.gU⟩,⟨m,hn.sameBut hs (Ne.symm (kR x c hc)),λj y v' e1 e2 e3=>?_⟩,λy c' e=>?_,I.free,I.eX,λp hp=>?_,tracked ⟨oc,hoc,I.eX x c hc⟩ hs,by simpa using I.len⟩ ⟨c,hs,.inr hc⟩
  .exact(hs.2 b (Nat.ne_of_lt (Nat.lt_of_lt_of_le (Heap.lt_size e) (I.ok.oI x c hfn hc)))).trans (I.base.keep b o e n hb hx)
  .obtain⟨sl,e1⟩:=I.base.slot b o e n hb hx;exact⟨sl,(hs.2 b (Nat.ne_of_lt (Nat.lt_of_lt_of_le (Heap.lt_size e) (I.ok.oI x c hfn hc)))).trans e1⟩
  .obtain⟨o',e1⟩:=I.base.there b o e hx;exact⟨o',(hs.2 b (Nat.ne_of_lt (Nat.lt_of_lt_of_le (Heap.lt_size e) (I.ok.oI x c hfn hc)))).trans e1⟩
  .by_cases hj:j=i
   .subst hj;rw[hi]at e1;cases e1;rw[List.getElem?_set_self hiU]at e2;cases e2;exact⟨u,r,.inr ⟨.inl hk,c,hc,hc'⟩⟩
   .rw[List.getElem?_set_ne (Ne.symm hj)]at e2;obtain⟨u',r',q⟩:=hl j y v' e1 e2 e3;refine⟨u',r',?_⟩;rcases q with q|⟨k,c',e,z'⟩
    .exact .inl q
    .refine .inr ⟨k,c',e,z'.sameBut hs ?_⟩;rintro rfl
     exact hj (xf hN e1 (I.ok.inj _ _ _ e hc▸hi))
  .by_cases hcc:c'=c
   .subst hcc;exact⟨_,hc'⟩
   .obtain⟨w2,z2⟩:=I.cell y c' e;exact⟨w2,z2.sameBut hs hcc⟩
  .obtain⟨e,n,ne,nf,d⟩:=I.pin p hp;refine⟨(hs.2 p.1 ?_).trans e,n,ne,nf,d⟩;intro q;rw[q,hoc]at e;have q':oc=p.2:=Option.some.inj e;exact d w' (by rw[<- q'];exact hocd)
theorem qe{M:Model}{A:Around}{E:Value->Shared->Prop}{i:Nat}{x:Str}{v:V}{u:Value}{Q:Unit->Shared->Prop}(I:Inv X pins U H s)(hN:X.N.Nodup)(hi:X.N[i]?=some x)(hx:oE X.env.scope x)(r:RelV v u)
  (h:∀s',Inv X pins (U.set i (some v)) H s'->Q () s') (hf:X.fn x=true\/X.env.scope.names.lookup x=some .local:=by first|exact .inl rfl|exact .inr rfl|assumption):wpAny M A (storeName X.env x u) Q E s:=
 PV I hN hi hx r (λs' I' _=>h s' I') hf
theorem Inv.Gg{s':Shared}{ch:List Addr}(I:Inv X pins U H s)(ho:s'.os=s.os)(u:Un (bW X.stack) ch H H' s.heap s'.heap)(aD:bQ X.prog X.w H' s'.heap)(hg:AllBare s'.gens)
  (hch:∀b∈ch,(b∈X.ex\/X.s₀.heap.objs.size<=b)/\b≠X.env.locals/\(∀x c,X.env.cells.lookup x=some c->c≠b)/\∀p∈X.pn++pins,p.1≠b):Inv X pins U H' s':=by
 obtain⟨h',g',d',t',o'⟩:=s';have e:o'=s.os:=ho;subst e;exact I.call (g':=g') (t':=t') (d':=d') u aD hg hch
end
abbrev XK:=Value->Option Addr->Hp->Prop
abbrev St:=List (Option V)
abbrev VK:=V->Hp->Prop
abbrev TE:=St->Hp->VK->Prop
abbrev TT:=St->Hp->(Bool->Hp->Prop)->Prop
abbrev TA:=St->Hp->(List V->Hp->Prop)->Prop
structure Ends where
 nx:St->Hp->Prop
 rt:VK
 bk:St->Hp->Prop:=λ_ _=>False
 ct:St->Hp->Prop:=λ_ _=>False
abbrev TS:=Ends->St->Hp->Prop
def EP(X:Cx)(pins:List (Addr×Obj))(U:St)(Q:VK)(u:Value)(s':Shared):Prop:=∃v H',Inv X pins U H' s'/\RelV v u/\Q v H'
def TP(X:Cx)(pins:List (Addr×Obj))(U:St)(Q:Bool->Hp->Prop)(b:Bool)(s':Shared):Prop:=∃H',Inv X pins U H' s'/\Q b H'
def AP(X:Cx)(pins:List (Addr×Obj))(U:St)(Q:List V->Hp->Prop)(us:List Value)(s':Shared):Prop:=∃vs H',Inv X pins U H' s'/\Vals vs us/\Q vs H'
def SP(X:Cx)(pins:List (Addr×Obj))(D:Ends)(f:Flow)(s':Shared):Prop:=
 match f with
 |.next=>∃U' H',Inv X pins U' H' s'/\D.nx U' H'
 |.brk=>∃U' H',Inv X pins U' H' s'/\D.bk U' H'
 |.cont=>∃U' H',Inv X pins U' H' s'/\D.ct U' H'
 |.ret u=>∃v U' H',Inv X pins U' H' s'/\RelV v u/\D.rt v H'
def PE(X:Cx)(e:Expr)(t:TE):Prop:=
 ∀(pins:List (Addr×Obj)) (s:Shared) (U:St) (H:Hp) (Q:VK),Inv X pins U H s->t U H Q->wpAny (model X.prog X.w) X.A (eval e X.env) (EP X pins U Q) X.xe s
def PT(X:Cx)(e:Expr)(t:TT):Prop:=
 ∀(pins:List (Addr×Obj)) (s:Shared) (U:St) (H:Hp) (Q:Bool->Hp->Prop),Inv X pins U H s->t U H Q->wpAny (model X.prog X.w) X.A (isTrue e X.env (eval e X.env)) (TP X pins U Q) X.xe s
def PW(X:Cx)(e:Expr)(t:TT):Prop:=
 ∀(whole:Sem Value) (pins:List (Addr×Obj)) (s:Shared) (U:St) (H:Hp) (Q:Bool->Hp->Prop),Inv X pins U H s->t U H Q->wpAny (model X.prog X.w) X.A (isTrue e X.env whole) (TP X pins U Q) X.xe s
theorem PW.pt{X:Cx}{e:Expr}{t:TT}(h:PW X e t):PT X e t:=h _
def PA(X:Cx)(es:List Expr)(t:TA):Prop:=
 ∀(pos:Pos) (pins:List (Addr×Obj)) (s:Shared) (U:St) (H:Hp) (Q:List V->Hp->Prop),Inv X pins U H s->t U H Q->wpAny (model X.prog X.w) X.A (spliced (backTo pos (starEach es X.env))) (AP X pins U Q) X.xe s
def PS(X:Cx)(st:Stmt)(t:TS):Prop:=
 ∀(pins:List (Addr×Obj)) (s:Shared) (U:St) (H:Hp) (D:Ends),Inv X pins U H s->t D U H->wpAny (model X.prog X.w) X.A (exec st X.env) (SP X pins D) X.xe s
def jA(X:Cx)(st:List Stmt)(t:TS):Prop:=
 ∀(pins:List (Addr×Obj)) (s:Shared) (U:St) (H:Hp) (D:Ends),Inv X pins U H s->t D U H->wpAny (model X.prog X.w) X.A (execs st X.env) (SP X pins D) X.xe s
theorem aI{α:Type}{t:Sem α}{Q Q':α->Shared->Prop}{M:Model}{A:Around}{E:Value->Shared->Prop}{s:Shared}(h:wpAny M A t Q E s)(hQ:∀a s,Q a s->Q' a s):wpAny M A t Q' E s:=wpAny_mono h hQ λ_ _ x=>x
section
variable {X:Cx}
def RL(i:Nat):TE:=λU H Q=>∃v,U[i]?=some (some v)/\Q v H
def tC(v:V):TE:=λ_ H Q=>Q v H
theorem EX{i:Nat} {x:Str} {pos:Pos} (hN:X.N[i]?=some x) (hv:zG X.env.scope x) (hd:(x==("__debug__":Str))=false:=by decide) (hcd:(x==("__classdict__":Str))=false:=by decide):PE X (.Name x pos) (RL i):=by
 intro pins s U H Q I h;obtain⟨v,e,h⟩:=h;obtain⟨m,hn,hl⟩:=I.loc;obtain⟨u,r,l⟩:=hl i x v hN e hv;have fin:EP X pins U Q u s:=⟨v,H,I,r,h⟩;rcases l with⟨hk,hm⟩|⟨hk,c,hc,hcell⟩
 .exact wpAny_Name (wpAny_loadName_local I.ok.kind hk hn hm fin) hd
 .rcases hk with hk|hk
  .exact wpAny_Name (wpAny_loadName_cell I.ok.kind hk hc hcell fin) hd
  .exact wpAny_Name (wpAny_loadName_free I.ok.kind hk hc hcell fin hcd) hd
theorem xj{i j pos}:PE X (.Constant (.int i) j pos) (tC (.int i)):=λ_ _ _ H _ I h=>wpAny_Constant_int ⟨.int i,H,I.tok _,⟨_,rfl⟩,h⟩
theorem jm{b j pos}:PE X (.Constant (.bool b) j pos) (tC (.bl b)):=λ_ _ _ H _ I h=>Constant_bool ⟨.bl b,H,I,rfl,h⟩
theorem jn{j pos}:PE X (.Constant .none j pos) (tC .aE):=λ_ _ _ H _ I h=>Constant_none ⟨.aE,H,I,rfl,h⟩
theorem xk{x j pos}:PE X (.Constant (.str x) j pos) (tC (.str x)):=λ_ _ _ H _ I h=>Calls.Constant_str ⟨.str x,H,I.tok _,⟨_,rfl⟩,h⟩
def Gl(X:Cx)(x:Str):Prop:=X.env.kindOf x=some .globalImplicit
theorem rP{E:Value->Shared->Prop}{pins:List (Addr×Obj)}{s:Shared}{U:St}{H:Hp}{x:Str}{u:Value}{pos:Pos}{Q:Value->Shared->Prop}(I:Inv X pins U H s)(hg:Gl X x)(hm:X.mg x=some u)(h:Q u s)
  (hd:(x==("__debug__":Str))=false:=by decide):wpAny (model X.prog X.w) X.A (eval (.Name x pos) X.env) Q E s:=
 Calls.Name_function_global I.ok.kind hg (Calls.loadGlobal_global (by rw[I.ok.glob];exact I.mod.glob.keeps I.bk) hm h) hd
theorem rO{E:Value->Shared->Prop}{pins:List (Addr×Obj)}{s:Shared}{U:St}{H:Hp}{x:Str}{u:Value}{pos:Pos}{Q:Value->Shared->Prop}(I:Inv X pins U H s)(hg:Gl X x)(hm:X.mg x=none)(hv:bootBuiltins x=some u)(h:Q u s)
  (hn:x≠"__name__":=by decide) (hd:(x==("__debug__":Str))=false:=by decide):wpAny (model X.prog X.w) X.A (eval (.Name x pos) X.env) Q E s:=by
 obtain⟨mb,h1,h2⟩:=I.mod.blt;exact Calls.Name_function_global I.ok.kind hg (Calls.loadGlobal_builtin (by rw[I.ok.glob];exact I.mod.glob.keeps I.bk) hm (by rw[I.ok.blt];exact h1.keeps I.bk) ((h2 x hn).trans hv) h) hd
theorem ah{x:Str} {v:V} {u:Value} {pos:Pos} (hg:Gl X x) (hm:X.mg x=some u) (r:RelV v u) (hd:(x==("__debug__":Str))=false:=by decide):PE X (.Name x pos) (tC v):=
 λ_ _ _ H _ I h=>rP I hg hm ⟨v,H,I,r,h⟩ hd
theorem La{x:Str} {v:V} {u:Value} {pos:Pos} (hg:Gl X x) (hm:X.mg x=none) (hv:bootBuiltins x=some u) (r:RelV v u) (hn:x≠"__name__":=by decide) (hd:(x==("__debug__":Str))=false:=by decide):PE X (.Name x pos) (tC v):=
 λ_ _ _ H _ I h=>rO I hg hm hv ⟨v,H,I,r,h⟩ hn hd
variable {a b:Expr}{ta tb:TE}{pos:Pos}
variable {tA tB':TT}{rest:List Expr}
def QB(t u:TT):TT:=λU H Q=>t U H λc H1=>if c=true then u U H1 Q else Q false H1
def RA(t u:TT):TT:=λU H Q=>t U H λc H1=>if c=true then Q true H1 else u U H1 Q
def QY(t:TT):TT:=λU H Q=>t U H λc H1=>Q (!c) H1
theorem HC(ha:PT X a tA):PW X (.BoolOp .And [a] pos) tA:=by
 intro wh pins s U H Q I h;refine isTrue_and (aI (ha pins s U H Q I h) λc s1 e=>?_);cases c with
 |true=>exact isTrue_and_nil e|false=>exact e
theorem HE(ha:PT X a tA):PW X (.BoolOp .Or [a] pos) tA:=by
 intro wh pins s U H Q I h;refine isTrue_or (aI (ha pins s U H Q I h) λc s1 e=>?_);cases c with
 |false=>exact isTrue_or_nil e|true=>exact e
theorem HB(ha:PT X a tA)(hb:PW X (.BoolOp .And (b::rest) pos) tB'):PW X (.BoolOp .And (a::b::rest) pos) (QB tA tB'):=by
 intro wh pins s U H Q I h;refine isTrue_and (aI (ha pins s U H _ I h) λc s1 ⟨H1,I1,q1⟩=>?_);cases c with
 |true=>exact hb wh pins s1 U H1 Q I1 q1|false=>exact⟨H1,I1,q1⟩
theorem HD(ha:PT X a tA)(hb:PW X (.BoolOp .Or (b::rest) pos) tB'):PW X (.BoolOp .Or (a::b::rest) pos) (RA tA tB'):=by
 intro wh pins s U H Q I h;refine isTrue_or (aI (ha pins s U H _ I h) λc s1 ⟨H1,I1,q1⟩=>?_);cases c with
 |true=>exact⟨H1,I1,q1⟩|false=>exact hb wh pins s1 U H1 Q I1 q1
theorem GW(ha:PT X a tA):PT X (.UnaryOp .Not a pos) (QY tA):=by intro pins s U H Q I h;exact isTrue_not (ha pins s U H (λc H1=>Q (!c) H1) I h)
theorem EO{op}{t:TE}(h:PE X a t):PE X (.BoolOp op [a] pos) t:=λpins s U H Q I hw=>BoolOp_one (h pins s U H Q I hw)
def QQ(t:TT)(ta tb:TE):TE:=λU H Q=>t U H λc H1=>if c=true then ta U H1 Q else tb U H1 Q
theorem EI{c:Expr}(hc:PT X c tA)(ha:PE X a ta)(hb:PE X b tb):PE X (.IfExp c a b pos) (QQ tA ta tb):=by
 intro pins s U H Q I h;refine wpAny_IfExp (aI (hc pins s U H _ I h) λd s1 ⟨H1,I1,q1⟩=>?_);cases d with
 |true=>exact ha pins s1 U H1 Q I1 q1|false=>exact hb pins s1 U H1 Q I1 q1
end
def bG(K:W.Frag)(H:Hp)(a:Addr)(xs:List V):Prop:=
 Rd H a (.lst xs) \/
  ∃(o:Obj) (its:Array Value) (n:Nat),K.lookup a=some o/\o.cls = .type "list"/\o.dict=none/\o.data = .seq its n/\its.size<=sizeLine/\Vals xs its.toList
def bV(K:W.Frag)(H:Hp)(a:Addr)(xs:List V):Prop:=
 Rd H a (.tup xs) \/
  ∃(o:Obj) (its:Array Value) (n:Nat),K.lookup a=some o/\o.cls = .type "tuple"/\o.data = .seq its n/\its.size<=sizeLine/\Vals xs its.toList
def Ru:Value->Option V
 |.none=>some .aE
 |.bool b=>some (.bl b)
 |.int i _=>some (.int i)
 |.str x _=>some (.str x)
 |.bytes b _=>some (.gM b)
 |.float b _=>some (.uM b)
 |.ref a=>some (.ref a)
 |.type n=>some (.ty n)
 |_=>none
theorem RelV.abs{x:V}{u:Value}(r:RelV x u):Ru u=some x:=by
 cases x with
 |aE=>cases r;rfl|bl _=>cases r;rfl|int _=>obtain⟨t,rfl⟩:=r;rfl|str _=>obtain⟨t,rfl⟩:=r;rfl|gM _=>obtain⟨t,rfl⟩:=r;rfl|uM _=>obtain⟨t,rfl⟩:=r;rfl|ref _=>cases r;rfl|ty _=>cases r;rfl
theorem RelV.inj{x y:V}{u:Value}(r:RelV x u)(q:RelV y u):x=y:=Option.some.inj (r.abs.symm.trans q.abs)
theorem Vals.inj:∀{xs ys:List V} {us:List Value},Vals xs us->Vals ys us->xs=ys
 |_,_,_,.nil,.nil=>rfl|_,_,_,.cons r t,.cons r' t'=>by rw[r.inj r',Vals.inj t t']
section
variable {X:Cx}{pins:List (Addr×Obj)}{U:St}{H:Hp}{s:Shared}{a:Addr}{xs ys:List V}
theorem bG.of{K:W.Frag}(h:H a=some (.lst xs)):bG K H a xs:=.inl (.inl h)
theorem bV.of{K:W.Frag}(h:H a=some (.tup xs)):bV K H a xs:=.inl (.inl h)
theorem Inv.list(I:Inv X pins U H s)(h:bG X.K H a xs):∃its:List Value,Vals xs its/\PlainL s.heap a its.toArray/\xs.length<=sizeLine:=by
 rcases h with h|⟨o,its,n,hk,hc,hd,hs,hz,r⟩
 .obtain⟨z,its,n,r,e⟩:=h.ok I.aD;exact⟨its,r,⟨_,n,e,rfl,rfl,rfl⟩,z⟩
 .refine⟨its.toList,r,⟨o,n,I.bK a o hk,hc,hd,by simpa using hs⟩,?_⟩;have e:=r.length;simp only[Array.length_toList]at e;omega
theorem Inv.tuple(I:Inv X pins U H s)(h:bV X.K H a xs):∃its:List Value,Vals xs its/\IsTup s.heap a its.toArray/\xs.length<=sizeLine:=by
 rcases h with h|⟨o,its,n,hk,hc,hs,hz,r⟩
 .obtain⟨z,its,r,p⟩:=h.ok I.aD;exact⟨its,r,p,z⟩
 .refine⟨its.toList,r,⟨o,I.bK a o hk,hc,n,by simpa using hs⟩,?_⟩;have e:=r.length;simp only[Array.length_toList]at e;omega
theorem Inv.wg(I:Inv X pins U H s)(h:bG X.K H a xs)(h':bG X.K H a ys):xs=ys:=by
 obtain⟨its,r,⟨o,n,e,_,_,d⟩,_⟩:=I.list h;obtain⟨its',r',⟨o',n',e',_,_,d'⟩,_⟩:=I.list h';rw[e]at e';cases e';rw[d]at d';injection d' with d1 _;have:its=its':=by simpa using congrArg Array.toList d1
 subst this;exact r.inj r'
theorem Inv.Qk(I:Inv X pins U H s)(h:bV X.K H a xs)(h':bV X.K H a ys):xs=ys:=by
 obtain⟨its,r,⟨o,e,_,n,d⟩,_⟩:=I.tuple h;obtain⟨its',r',⟨o',e',_,n',d'⟩,_⟩:=I.tuple h';rw[e]at e';cases e';rw[d]at d';injection d' with d1 _;have:its=its':=by simpa using congrArg Array.toList d1
 subst this;exact r.inj r'
end
abbrev Cx.oA(X:Cx)(E:Value->Shared->Prop):Cx:={ X with xe:=E }
abbrev Cx.gQ(X:Cx):Cx:=X.oA λ_ _=>False
theorem Cx.Ok.oA{X:Cx}(ok:X.Ok)(E:Value->Shared->Prop):(X.oA E).Ok:=
 ⟨ok.mod,ok.kind,ok.glob,ok.blt,ok.above,ok.inj,ok.has,ok.oI,ok.hd,ok.frames,ok.fV,ok.oQ,ok.bs,ok.gL,ok.oZ,ok.mS,ok.fG,ok.jF⟩
theorem Cx.Ok.qq{X:Cx}{E:Value->Shared->Prop}(ok:(X.oA E).Ok):X.Ok:=
 ⟨ok.mod,ok.kind,ok.glob,ok.blt,ok.above,ok.inj,ok.has,ok.oI,ok.hd,ok.frames,ok.fV,ok.oQ,ok.bs,ok.gL,ok.oZ,ok.mS,ok.fG,ok.jF⟩
section
variable {X:Cx}{pins:List (Addr×Obj)}{U:St}{H:Hp}{s:Shared}{E:Value->Shared->Prop}
theorem Inv.oA(I:Inv X pins U H s)(E:Value->Shared->Prop):Inv (X.oA E) pins U H s:=⟨I.ok.oA E,I.os,I.bare,I.base,I.loc,I.cell,I.free,I.eX,I.pin,I.aD,I.len⟩
theorem Inv.qq(I:Inv (X.oA E) pins U H s):Inv X pins U H s:=⟨I.ok.qq,I.os,I.bare,I.base,I.loc,I.cell,I.free,I.eX,I.pin,I.aD,I.len⟩
theorem PE.gQ{e:Expr}{t:TE}(h:PE X.gQ e t):PE X e t:=λpins s U H Q I hw=>wpAny_mono (h pins s U H Q (I.oA _) hw) (λ_ _ ⟨v,H',I',r,q⟩=>⟨v,H',I'.qq,r,q⟩) λ_ _ z=>False.elim z
end
section
variable {X:Cx}{st:Stmt}{rest:List Stmt}{t u:TS}{e:Expr}{te:TE}{pos:Pos}
def cz:TS:=λD U H=>D.nx U H
def qk(t u:TS):TS:=λD U H=>t { D with nx:=u D } U H
theorem jr:jA X [] cz:=λ_ _ U H _ I h=>wpAny_execs_nil ⟨U,H,I,h⟩
theorem jq(h1:PS X st t)(h2:jA X rest u):jA X (st::rest) (qk t u):=by
 intro pins s U H D I h;refine wpAny_execs_cons (aI (h1 pins s U H { D with nx:=u D } I h) λf s1 q=>?_);cases f with
 |next=>obtain⟨U',H',I',q⟩:=q;exact h2 pins s1 U' H' D I' q
 |ret v=>exact q|brk=>exact q|cont=>exact q
def QJ:TS:=λD U H=>D.bk U H
def QL:TS:=λD U H=>D.ct U H
theorem GL:PS X (.Pass pos) cz:=λ_ _ U H _ I h=>wpAny_Pass ⟨U,H,I,h⟩
theorem GD:PS X (.Break pos) QJ:=λ_ _ U H _ I h=>wpAny_Break ⟨U,H,I,h⟩
theorem GF:PS X (.Continue pos) QL:=λ_ _ U H _ I h=>wpAny_Continue ⟨U,H,I,h⟩
theorem Inv.quiet{pins:List (Addr×Obj)}{U:St}{H:Hp}{s:Shared}(I:Inv X pins U H s):interactive X.env=false:=by simp[interactive,I.ok.kind]
def Pz(te:TE):TS:=λD U H=>te U H λ_ H1=>D.nx U H1
theorem Lg(he:PE X e te)(hs:swapsWith e none pos.line X.env=pure false:=by rfl):PS X (.Expr e pos) (Pz te):=by intro pins s U H D I h;exact wpAny_Expr_any (aI (he pins s U H _ I h) λv s1 ⟨x,H1,I1,r1,q1⟩=>⟨U,H1,I1,q1⟩) I.quiet hs
def Qf(te:TE):TS:=λD U H=>te U H D.rt
theorem Lh(he:PE X e te):PS X (.Return (some e) pos) (Qf te):=by intro pins s U H D I h;exact wpAny_Return_some (aI (he pins s U H _ I h) λv s1 ⟨x,H1,I1,r1,q1⟩=>⟨x,U,H1,I1,r1,q1⟩)
def RF:TS:=λD _ H=>D.rt .aE H
theorem GO:PS X (.Return none pos) RF:=λ_ _ U H _ I h=>wpAny_Return_none ⟨.aE,U,H,I,rfl,h⟩
def QR(c:TT)(t u:TS):TS:=λD U H=>c U H λb H1=>if b=true then t D U H1 else u D U H1
theorem GJ{c:Expr}{a b:List Stmt}{tc:TT}(hc:PT X c tc)(ha:jA X a t)(hb:jA X b u):PS X (.If c a b pos) (QR tc t u):=by
 intro pins s U H D I h;refine wpAny_If (aI (hc pins s U H _ I h) λd s1 ⟨H1,I1,q1⟩=>?_);cases d with
 |true=>exact ha pins s1 U H1 D I1 q1|false=>exact hb pins s1 U H1 D I1 q1
def QV:TS:=λ_ _ _=>False
theorem GK:PS X st QV:=λ_ _ _ _ _ _ h=>h.elim
end
abbrev TG:=V->St->Hp->(St->Hp->Prop)->Prop
abbrev uB:=List V->St->Hp->(St->Hp->Prop)->Prop
def PG(X:Cx)(target:Expr)(t:TG):Prop:=
 ∀(pins:List (Addr×Obj)) (s:Shared) (U:St) (H:Hp) (v:V) (u:Value) (Q:St->Hp->Prop),Inv X pins U H s->RelV v u->t v U H Q ->
  wpAny (model X.prog X.w) X.A (assign target X.env u) (λ_ s'=>∃U' H',Inv X pins U' H' s'/\Q U' H') X.xe s
def yZ(X:Cx)(ts:List Expr)(t:uB):Prop:=
 ∀(pins:List (Addr×Obj)) (s:Shared) (U:St) (H:Hp) (vs:List V) (us:List Value) (Q:St->Hp->Prop),Inv X pins U H s->Vals vs us->t vs U H Q ->
  wpAny (model X.prog X.w) X.A (assignInOrder ((assignEach ts X.env).map (·.2)) us) (λ_ s'=>∃U' H',Inv X pins U' H' s'/\Q U' H') X.xe s
abbrev sr:=V->V->V->Hp->(Hp->Prop)->Prop
def si(X:Cx)(t:sr):Prop:=
 ∀(pins:List (Addr×Obj)) (s:Shared) (U:St) (H:Hp) (o i v:V) (ov iv u:Value) (Q:Hp->Prop),Inv X pins U H s->RelV o ov->RelV i iv->RelV v u->t o i v H Q ->
  wpAny (model X.prog X.w) X.A (setItem ov iv u) (λ_ s'=>∃H',Inv X pins U H' s'/\Q H') X.xe s
section
variable {X:Cx}{pos:Pos}
def gp(i:Nat):TG:=λv U H Q=>Q (U.set i (some v)) H
theorem EZ{i:Nat}{x:Str}(hN:X.N.Nodup)(hi:X.N[i]?=some x)(hx:oE X.env.scope x)(hf:X.fn x=true\/X.env.scope.names.lookup x=some .local:=by first|exact .inl rfl|exact .inr rfl|assumption):PG X (.Name x pos) (gp i):=by intro pins s U H v u Q I r h;exact wpAny_assign_Name (qe I hN hi hx r (λs' I'=>⟨_,H,I',h⟩) hf)
def Xt:uB:=λvs U H Q=>vs=[]/\Q U H
def Xs(t:TG)(u:uB):uB:=λvs U H Q=>∃v r,vs=v::r/\t v U H λU' H'=>u r U' H' Q
theorem FE:yZ X [] Xt:=by intro pins s U H vs us Q I r h;obtain⟨e,h⟩:=h;subst e;cases r;exact assignInOrder_nil ⟨U,H,I,h⟩
theorem FD{e:Expr}{es:List Expr}{t:TG}{u:uB}(h1:PG X e t)(h2:yZ X es u)
  (hs:(assignEach (e::es) X.env).map (·.2)=assign e X.env::(assignEach es X.env).map (·.2):=by rfl):yZ X (e::es) (Xs t u):=by
 intro pins s U H vs us Q I r h;obtain⟨v,vr,e1,h⟩:=h;subst e1;cases r with
 |cons r rr=>rw[hs];refine assignInOrder_cons (aI (h1 pins s U H _ _ _ I r h) λ_ s1 ⟨U1,H1,I1,q1⟩=>?_);exact h2 pins s1 U1 H1 _ _ Q I1 rr q1
def gy(to ti:TE)(t:sr):TG:=λv U H Q=>to U H λo H1=>ti U H1 λi H2=>t o i v H2 λH3=>Q U H3
theorem FC{o i:Expr}{to ti:TE}{t:sr}(ho:PE X o to)(hi:PE X i ti)(hs:si X t)
  (ha:∀v,assign (.Subscript o i pos) X.env v=(do
   let ov <- holding [v] (eval o X.env)
   let iv <- holding [v,ov] (eval i X.env)
   standAt pos
   holding [v,ov,iv] (setItem ov iv v)
   release [v,ov,iv] []):=by intro _;rfl):PG X (.Subscript o i pos) (gy to ti t):=by
 intro pins s U H v u Q I r h;rw[ha];refine wpAny_bind (wpAny_holding (aI (ho pins s U H _ I h) λov s1 ⟨x,H1,I1,r1,q1⟩=>?_));refine wpAny_bind (wpAny_holding (aI (hi pins s1 U H1 _ I1 q1) λiv s2 ⟨y,H2,I2,r2,q2⟩=>?_));refine wpAny_bind (wpAny_standAt (wpAny_bind (wpAny_holding (aI (hs pins s2 U H2 x y v ov iv u _ I2 r1 r2 r q2) λ_ s3 ⟨H3,I3,q3⟩=>?_))));exact wpAny_release ⟨U,H3,I3,q3⟩
def qg(te:TE)(g:TG):TS:=λD U H=>te U H λx H1=>g x U H1 D.nx
theorem GC{tg e:Expr}{te:TE}{g:TG}(he:PE X e te)(hg:PG X tg g)(hs:swapsWithSole [tg] e pos.line X.env=pure false:=by rfl)(hw:swappedStores [tg] e X.env=pure none:=by rfl)
  (h1:(assignEach [tg] X.env).map (·.2)=[assign tg X.env]:=by rfl):PS X (.Assign [tg] e pos) (qg te g):=by
 intro pins s U H D I h;refine wpAny_Assign_stores (aI (he pins s U H _ I h) λv s1 ⟨x,H1,I1,r1,q1⟩=>?_) hs hw;rw[h1];exact aI (hg pins s1 U H1 x v _ I1 r1 q1) λ_ s2 q=>q
theorem GP{i:Nat}{x:Str}{e:Expr}{te:TE}{pos':Pos}(hN:X.N.Nodup)(hi:X.N[i]?=some x)(hx:oE X.env.scope x)(he:PE X e te)(hs:swapsWith e (some (.Name x pos')) pos.line X.env=pure false:=by rfl)(hf:X.fn x=true\/X.env.scope.names.lookup x=some .local:=by first|exact .inl rfl|exact .inr rfl|assumption) :
  PS X (.Assign [.Name x pos'] e pos) (qg te (gp i)):=by
 intro pins s U H D I h;refine wpAny_Assign_Name (aI (he pins s U H _ I h) λv s1 ⟨y,H1,I1,r1,q1⟩=>?_) hs;exact qe I1 hN hi hx r1 (λs2 I2=>⟨_,H1,I2,q1⟩) hf
end
structure It where
 go:Nat->Hp->Prop
 dj:Nat->Hp->V->Hp->Prop
 stop:Nat->Hp->Prop
def eW(X:Cx)(pins:List (Addr×Obj))(H:Hp)(b:Addr):Prop:=
 H b=none/\b≠X.env.locals/\b∉X.fs/\(b∈X.ex\/X.s₀.heap.objs.size<=b)/\(∀x c,X.env.cells.lookup x=some c->c≠b)/\∀p∈X.pn++pins,p.1≠b
theorem Inv.mV{X:Cx}{pins:List (Addr×Obj)}{U:St}{H H':Hp}{s:Shared}{b:Addr}(I:Inv X pins U H s)(hb:s.heap.objs.size<=b)(hn:H' b=none):eW X pins H' b:=by
 refine⟨hn,Nat.ne_of_gt (Nat.lt_of_lt_of_le I.lt hb),I.Kq hb,.inr (Nat.le_trans I.sz hb),λx c e z=>?_,λp hp z=>?_⟩
 .obtain⟨v,q⟩:=I.cell x c e;exact absurd (Nat.lt_of_lt_of_le q.lt (by rw[z];exact hb)) (Nat.lt_irrefl _)
 .exact absurd (Nat.lt_of_lt_of_le (Heap.lt_size (I.pin p hp).1) (by rw[z];exact hb)) (Nat.lt_irrefl _)
structure Turn(P:Program)(w:World)(K:W.Frag)(tg:Expr)(J:It)(fp:List Addr)(it:Addr)(tn:Nat->Heap->Prop):Prop where
 mem:it∈fp
 obj:∀i h,tn i h->∀b∈fp,∃o,h.get? b=some o/\∀v,o.data ≠ .cell v
 keep:∀i h h',tn i h->(∀b∈fp,∀o,h.get? b=some o->h'.get? b=some o)->tn i h'
 item:∀(X:Cx),X.prog=P->X.w=w->X.K=K->X.calm=true->∀(i:Nat) (pins:List (Addr×Obj)) (s:Shared) (U:St) (H:Hp) (E:Value->Shared->Prop),Inv X pins U H s->(∀b∈fp,eW X pins H b)->tn i s.heap->J.go i H ->
  wpAny (model P w) X.A (pyNext (.ref it)) (λr s1=>∃u,r=some u /\
   wpAny (model P w) X.A (letOwnedTupleGo tg (.ref it) u) (λ_ s2=>∃x H',Inv X pins U H' s2/\RelV x u/\J.dj i H x H'/\tn (i+1) s2.heap/\∀b∈fp,H' b=none) E s1) E s
 done:∀(X:Cx),X.prog=P->X.w=w->X.K=K->X.calm=true->∀(i:Nat) (pins:List (Addr×Obj)) (s:Shared) (U:St) (H:Hp) (E:Value->Shared->Prop),Inv X pins U H s->(∀b∈fp,eW X pins H b)->tn i s.heap->J.stop i H ->
  wpAny (model P w) X.A (pyNext (.ref it)) (λr s1=>r=none/\Inv X pins U H s1) E s
 self:∀(A:Around) (i:Nat) (s:Shared) (Q:Value->Shared->Prop) (E:Value->Shared->Prop),tn i s.heap->Q (.ref it) s->wpAny (model P w) A (pyIter (.ref it)) Q E s
abbrev TI:=St->Hp->(It->Hp->Prop)->Prop
def Ed(X:Cx)(pins:List (Addr×Obj))(U:St)(tg:Expr)(R:It->Hp->Prop)(itv:Value)(s2:Shared):Prop:=
 ∃(it:Addr) (fp:List Addr) (tn:Nat->Heap->Prop) (J:It) (H':Hp),itv = .ref it/\Inv X pins U H' s2/\Turn X.prog X.w X.K tg J fp it tn/\tn 0 s2.heap/\(∀b∈fp,eW X pins H' b)/\R J H'
def PI(X:Cx)(tg bD:Expr)(wi:TI):Prop:=
 ∀(pins:List (Addr×Obj)) (s:Shared) (U:St) (H:Hp) (R:It->Hp->Prop),Inv X pins U H s->wi U H R ->
  wpAny (model X.prog X.w) X.A (eval bD X.env) (λv s1=>wpAny (model X.prog X.w) X.A (pyIter v) (Ed X pins U tg R) X.xe s1) X.xe s
theorem ic{M:Model}{A:Around}{E:Value->Shared->Prop}{s:Shared}{tg:Expr}{it:Addr}{u:Value}{o:Obj}{n:String}{vs:Array Value}{Q:Unit->Shared->Prop}(ho:s.heap.get? it=some o)(hc:o.cls = .type n)(hd:o.data = .fields vs)
    (hn:["enumerate","zip","dict_itemiterator","dict_reverseitemiterator","odict_iterator","itertools.zip_longest","itertools.pairwise"].contains n=false) (hQ:Q () s):wpAny M A (letOwnedTupleGo tg (.ref it) u) Q E s:=by
  unfold letOwnedTupleGo;cases tg<;>first
    |exact wpAny_pure hQ
    | (cases u<;>first
        |exact wpAny_pure hQ
        | (refine wpAny_bind (wpAny_load ho ?_)
           rw[hc,hd];show wpAny M A (if(["enumerate","zip","dict_itemiterator","dict_reverseitemiterator","odict_iterator","itertools.zip_longest","itertools.pairwise"].contains n&&vs[0]?==some (rawInt _))=true then _ else _) Q E s;rw[if_neg (by intro h;rw[hn,Bool.false_and]at h;cases h)];exact wpAny_pure hQ))
def rn(K:W.Frag)(a:Addr):It:=
 ⟨λi H=>∃xs x,bG K H a xs/\xs[i]?=some x,λi H x H'=>H'=H/\∀xs,bG K H a xs->xs[i]?=some x,λi H=>∃xs,bG K H a xs/\xs.length<=i⟩
def rq(K:W.Frag)(a:Addr):It:=
 ⟨λi H=>∃xs x,bV K H a xs/\xs[i]?=some x,λi H x H'=>H'=H/\∀xs,bV K H a xs->xs[i]?=some x,λi H=>∃xs,bV K H a xs/\xs.length<=i⟩
def yY(lo:Int)(n:Nat):It:=⟨λi _=>i<n,λi H x H'=>H'=H/\x = .int (lo+i),λi _=>n<=i⟩
theorem SM{P:Program}{w:World}{K:W.Frag}{tg:Expr}(a it:Addr):Turn P w K tg (rn K a) [it] it (λi h=>h.IsListIter it a i) where
 mem:=by simp
 obj:=λi h st b hb=>by
  have e:b=it:=by simpa using hb
  subst e;obtain⟨o,e,c,d⟩:=st;exact⟨o,e,λv z=>by rw[d]at z;cases z⟩
 keep:=λi h h' st k=>st.at λo e=>k it (by simp) o e
 item:=by intro X hP hw hK hc i pins s U H E I hf st hg;subst hP hw hK;obtain⟨xs,x,hq,hx⟩:=hg;obtain⟨its,rv,p,hz⟩:=I.list hq;obtain⟨u,hu,ru⟩:=rv.get hx;obtain⟨f0,f1,f2,f3,f4,f5⟩:=hf it (by simp);refine wpAny_pyNext_list_item st p.isList (x:=u) (by simpa using hu) λh' st' sb=>?_;have I1:Inv X pins U H { s with heap:=h' }:=I.turned (t':=s.toks) (λb o hb e=>(sb.2 b hb).trans e) f0 f1 f3 f4 f5;obtain⟨o,e,c,d⟩:=id st';exact⟨u,rfl,ic (s:={ s with heap:=h' }) e c d (by decide) ⟨x,H,I1,ru,⟨rfl,λys hy=>by rw[I.wg hy hq];exact hx⟩,st',λb hb=>(hf b hb).1⟩⟩
 done:=by intro X hP hw hK hc i pins s U H E I hf st hg;subst hP hw hK;obtain⟨xs,hq,hx⟩:=hg;obtain⟨its,rv,p,hz⟩:=I.list hq;obtain⟨f0,f1,f2,f3,f4,f5⟩:=hf it (by simp);have hl:=rv.length;exact wpAny_pyNext_list_end (I.ok.hd hc) st p.isList (by simp;omega) λh' eb=>⟨rfl,I.turned (t':=s.toks) (λb o hb e=>eb b o hb e) f0 f1 f3 f4 f5⟩
 self:=λ_ _ _ _ _ st h=>wpAny_pyIter_listiter st h
theorem SO{P:Program}{w:World}{K:W.Frag}{tg:Expr}(a it:Addr):Turn P w K tg (rq K a) [it] it (λi h=>h.IsTupleIter it a i) where
 mem:=by simp
 obj:=λi h st b hb=>by
  have e:b=it:=by simpa using hb
  subst e;obtain⟨o,e,c,d⟩:=st;exact⟨o,e,λv z=>by rw[d]at z;cases z⟩
 keep:=λi h h' st k=>st.at λo e=>k it (by simp) o e
 item:=by intro X hP hw hK hc i pins s U H E I hf st hg;subst hP hw hK;obtain⟨xs,x,hq,hx⟩:=hg;obtain⟨its,rv,p,hz⟩:=I.tuple hq;obtain⟨u,hu,ru⟩:=rv.get hx;obtain⟨f0,f1,f2,f3,f4,f5⟩:=hf it (by simp);refine wpAny_pyNext_tuple_item st (show s.heap.IsTuple a its.toArray from p) (x:=u) (by simpa using hu) λh' st' sb=>?_;have I1:Inv X pins U H { s with heap:=h' }:=I.turned (t':=s.toks) (λb o hb e=>(sb.2 b hb).trans e) f0 f1 f3 f4 f5;obtain⟨o,e,c,d⟩:=id st';exact⟨u,rfl,ic (s:={ s with heap:=h' }) e c d (by decide) ⟨x,H,I1,ru,⟨rfl,λys hy=>by rw[I.Qk hy hq];exact hx⟩,st',λb hb=>(hf b hb).1⟩⟩
 done:=by intro X hP hw hK hc i pins s U H E I hf st hg;subst hP hw hK;obtain⟨xs,hq,hx⟩:=hg;obtain⟨its,rv,p,hz⟩:=I.tuple hq;obtain⟨f0,f1,f2,f3,f4,f5⟩:=hf it (by simp);have hl:=rv.length;exact wpAny_pyNext_tuple_end (I.ok.hd hc) st (show s.heap.IsTuple a its.toArray from p) (by simp;omega) λh' eb=>⟨rfl,I.turned (t':=s.toks) (λb o hb e=>eb b o hb e) f0 f1 f3 f4 f5⟩
 self:=λ_ _ _ _ _ st h=>wpAny_pyIter_tupleiter st h
theorem SN{P:Program}{w:World}{K:W.Frag}{tg:Expr}(it:Addr)(lo:Int)(n:Nat):Turn P w K tg (yY lo n) [it] it (λi h=>IsRangeIter h it (lo+(i:Nat)*1) ((n:Int)-(i:Nat)) 1) where
 mem:=by simp
 obj:=λi h st b hb=>by
  have e:b=it:=by simpa using hb
  subst e;exact⟨_,st,λv z=>by have z':Data.fields _=Data.cell v:=z;cases z'⟩
 keep:=λi h h' st k=>k it (by simp) _ st
 item:=by intro X hP hw hK hc i pins s U H E I hf st hg;subst hP hw hK;obtain⟨f0,f1,f2,f3,f4,f5⟩:=hf it (by simp);have W:=Walks.range (prog:=X.prog) (w:=X.w) (I.ok.hd hc) it lo 1 n;refine W.item i s _ _ hg st λv h' tk hv st' kk=>?_;obtain⟨t,rfl⟩:=hv;have I1:Inv X pins U H { s with heap:=h',toks:=tk }:=I.turned (λb o hb e=>kk b o (by simpa using hb) e) f0 f1 f3 f4 f5;refine⟨_,rfl,ic (s:={ s with heap:=h',toks:=tk }) (n:="range_iterator") st' rfl rfl (by decide) ⟨.int (lo+i),H,I1,⟨t,?_⟩,⟨rfl,rfl⟩,st',λb hb=>(hf b hb).1⟩⟩;rw[Int.mul_one]
 done:=by intro X hP hw hK hc i pins s U H E I hf st hg;subst hP hw hK;obtain⟨f0,f1,f2,f3,f4,f5⟩:=hf it (by simp);exact wpAny_pyNext_range_end (I.ok.hd hc) st (by have:n<=i:=hg;omega) λh' eb=>⟨rfl,I.turned (t':=s.toks) (λb o hb e=>eb b o hb e) f0 f1 f3 f4 f5⟩
 self:=λ_ _ _ _ _ st h=>wpAny_pyIter_rangeiter st h
section
variable {X:Cx}{tg:Expr}
theorem Oo{pins:List (Addr×Obj)}{U:St}{H:Hp}{s:Shared}{R:It->Hp->Prop}{E:Value->Shared->Prop}{lo hi:Int}{t u v:Tok}{tk:Nat}(I:Inv X pins U H s)(h1:-(2 ^ 62)<=lo)(h2:lo<2 ^ 62)(h3:-(2 ^ 62)<=hi)(h4:hi<2 ^ 62)
  (q:R (yY lo (hi-lo).toNat) H):wpAny (model X.prog X.w) X.A (pyIter (.ref s.heap.objs.size)) (Ed X pins U tg R) E { s with heap:=s.heap.push { cls:=.type "range",data:=.fields #[.int lo t,.int hi u,.int 1 v] },toks:=tk }:=by
 refine wpAny_pyIter_range (IsRange.new ..) (small_one h1 h2 h3 h4) ?_;have I1:Inv X pins U H { s with heap:=s.heap.push { cls:=.type "range",data:=.fields #[.int lo t,.int hi u,.int 1 v] },toks:=tk }:=I.kept λb o e=>Heap.get?_push_of_some _ e;refine⟨(s.heap.push { cls:=.type "range",data:=.fields #[.int lo t,.int hi u,.int 1 v] }).objs.size,[(s.heap.push { cls:=.type "range",data:=.fields #[.int lo t,.int hi u,.int 1 v] }).objs.size],_,_,H,rfl,
  I1.kept (t':=tk) λb o e=>Heap.get?_push_of_some _ e,SN _ lo (hi-lo).toNat,?_,λb hb=>?_,q⟩
 .have e1:lo+((0:Nat):Int)*1=lo:=by simp
  have e2:(((hi-lo).toNat:Nat):Int)-((0:Nat):Int)=Builtin.Range.rangeSize lo hi 1:=by rw[rangeSize_one];split<;>omega
  show IsRangeIter _ _ (lo+((0:Nat):Int)*1) ((((hi-lo).toNat:Nat):Int)-((0:Nat):Int)) 1;rw[e1,e2];exact Heap.get?_push_size _ rfl
 .have e:b=(s.heap.push { cls:=.type "range",data:=.fields #[.int lo t,.int hi u,.int 1 v] }).objs.size:=by simpa using hb
  subst e;exact I1.mV (Nat.le_refl _) (I1.aD.fresh (Nat.le_refl _))
def Yi(ta:TA):TI:=λU H R=>ta U H λvs H1=>∃j:Int,vs=[.int j]/\-(2 ^ 62)<=j/\j<2 ^ 62/\R (yY 0 j.toNat) H1
def Yj(ta:TA):TI:=λU H R=>ta U H λvs H1=>∃i j:Int,vs=[.int i,.int j]/\(-(2 ^ 62)<=i/\i<2 ^ 62/\-(2 ^ 62)<=j/\j<2 ^ 62)/\R (yY i (j-i).toNat) H1
theorem FH{a:Expr} {ta:TA} {p pos:Pos} (hg:Gl X "range") (hm:X.mg "range"=none) (ha:PA X [a] ta) (hs:starEach [a] X.env=[(false,eval a X.env)]:=by rfl):PI X tg (.Call (.Name "range" p) [a] [] pos) (Yi ta):=by
 intro pins s U H R I h;refine Call_ (rO I hg hm boot_range (PyProof.Rows.callWith_type1 (aI (ha pos pins s U H _ I h) λus s1 ⟨vs,H1,I1,r1,q1⟩=>?_) hs rfl));obtain⟨j,e,q1,q2,q⟩:=q1;subst e;cases r1 with
 |cons r rr=>cases rr;obtain⟨t,rfl⟩:=r;exact call_range_1 (Oo I1 (by omega) (by omega) q1 q2 (by simpa using q))
theorem FI{a b:Expr} {ta:TA} {p pos:Pos} (hg:Gl X "range") (hm:X.mg "range"=none) (ha:PA X [a,b] ta) (hs:starEach [a,b] X.env=[(false,eval a X.env),(false,eval b X.env)]:=by rfl) (hs2:starEach [b] X.env=[(false,eval b X.env)]:=by rfl) :
  PI X tg (.Call (.Name "range" p) [a,b] [] pos) (Yj ta):=by
 intro pins s U H R I h;refine Call_ (rO I hg hm boot_range (PyProof.Rows.callWith_type1 (aI (ha pos pins s U H _ I h) λus s1 ⟨vs,H1,I1,r1,q1⟩=>?_) (by rw[hs,hs2]) (by rw[hs2];rfl)));obtain⟨i,j,e,⟨q1,q2,q3,q4⟩,q⟩:=q1;subst e;cases r1 with
 |cons r rr=>
  cases rr with
  |cons r' rr=>cases rr;obtain⟨t,rfl⟩:=r;obtain⟨t',rfl⟩:=r';exact call_range_2 (Oo I1 q1 q2 q3 q4 q)
def QP(wi:TI)(g:TG)(tb:TS):TS:=λD U H=>wi U H λJ H1=>∃W:Nat->Nat->St->Hp->Prop,(∃m,W 0 m U H1)/\∀i m U H,W i m U H ->
 (J.stop i H/\D.nx U H)\/(J.go i H/\∃N:St->Hp->Prop,(∀U' H',N U' H'->∃m',m'<m/\W (i+1) m' U' H')/\∀x H',J.dj i H x H'->g x U H' λU2 H2=>tb { D with nx:=N,ct:=N,bk:=D.nx } U2 H2)
def jo(fp:List Addr)(h:Heap):List (Addr×Obj):=fp.filterMap λb=>(h.get? b).map λo=>(b,o)
theorem ja{fp:List Addr}{h:Heap}{b:Addr}{o:Obj}(hb:b∈fp)(e:h.get? b=some o):(b,o)∈jo fp h:=List.mem_filterMap.mpr ⟨b,hb,by rw[e];rfl⟩
theorem Kr{fp:List Addr}{h:Heap}{p:Addr×Obj}(hp:p∈jo fp h):p.1∈fp/\h.get? p.1=some p.2:=by
 obtain⟨b,hb,e⟩:=List.mem_filterMap.mp hp;cases q:h.get? b with
 |none=>rw[q]at e;cases e|some o=>rw[q]at e;have e':(b,o)=p:=Option.some.inj e;subst e';exact⟨hb,q⟩
theorem Inv.pinned{pins:List (Addr×Obj)}{U:St}{H:Hp}{s:Shared}{fp:List Addr}(I:Inv X pins U H s)(hf:∀b∈fp,eW X pins H b)(ho:∀b∈fp,∃o,s.heap.get? b=some o/\∀v,o.data ≠ .cell v):Inv X (pins++jo fp s.heap) U H s:=
 I.nC λp hp=>(List.mem_append.mp hp).elim (λz=>I.pin p (List.mem_append_right _ z)) λz=>by obtain⟨hb,e⟩:=Kr z;obtain⟨f0,f1,f2,_⟩:=hf p.1 hb;obtain⟨o,e',d⟩:=ho p.1 hb;rw[e]at e';cases e';exact⟨e,f0,f1,f2,d⟩
theorem Inv.qp{pins pl:List (Addr×Obj)}{U:St}{H:Hp}{s:Shared}(I:Inv X (pins++pl) U H s):Inv X pins U H s:=I.nC λp hp=>I.pin p (List.mem_append_right _ (List.mem_append_left _ hp))
theorem GI{bD:Expr}{body:List Stmt}{wi:TI}{g:TG}{tb:TS}{pos:Pos}(hp:PassesOwn (model X.prog X.w) X.A X.env X.xe)(hc:X.calm=true)(hi:PI X tg bD wi)(hg:PG X tg g)(hb:jA X body tb)
  (hs:∀x,foldedSetIterable bD X.env x=pure x:=by intro _;rfl):PS X (.For tg bD body [] pos) (QP wi g tb):=by
 intro pins s U H D I h;refine wpAny_For (aI (hi pins s U H _ I h) λv s1 h1=>aI h1 λitv s2 h2=>?_) hs;obtain⟨it,fp,tn,J,H2,e,I2,T,st2,f2,W,⟨m0,w0⟩,turn⟩:=h2;subst e;have stat:∀{H':Hp},(∀b∈fp,H' b=none)->∀b∈fp,eW X pins H' b:=λhn b hb=>⟨hn b hb,(f2 b hb).2⟩;refine codeAny_forLoop_any (λn s'=>∃i U' H',Inv X pins U' H' s'/\tn i s'.heap/\(∀b∈fp,H' b=none)/\W i n U' H') ?_ m0 ⟨0,U,H2,I2,st2,λb hb=>(f2 b hb).1,w0⟩;rintro n s3 ⟨i,U3,H3,I3,st3,fr3,w3⟩
 rcases turn i n U3 H3 w3 with⟨stop,qn⟩|⟨go,N,hN,step⟩
 .refine wpAny_passesOwn hp (aI (T.done X rfl rfl rfl hc i pins s3 U3 H3 X.xe I3 (stat fr3) st3 stop) λr s4 ⟨hr,I4⟩=>?_);subst hr;exact wpAny_execs_nil ⟨U3,H3,I4,qn⟩
 .refine wpAny_passesOwn hp (aI (T.item X rfl rfl rfl hc i pins s3 U3 H3 X.xe I3 (stat fr3) st3 go) λr s4 ⟨u,hr,h4⟩=>?_);subst hr;refine wpAny_passesOwn hp (aI h4 λ_ s5 ⟨x,H5,I5,r5,y5,st5,fr5⟩=>?_);have I5':=I5.pinned (stat fr5) (T.obj _ _ st5);refine wpAny_passesOwn hp (aI (hg _ s5 U3 H5 x u _ I5' r5 (step x H5 y5)) λ_ s6 ⟨U6,H6,I6,q6⟩=>?_);refine wpAny_passesOwn hp (aI (hb _ s6 U6 H6 _ I6 q6) λf s7 q7=>?_);have again:∀{U7:St} {H7:Hp},Inv X (pins++jo fp s5.heap) U7 H7 s7->N U7 H7->∃m,m<n/\∃i U' H',Inv X pins U' H' s7/\tn i s7.heap/\(∀b∈fp,H' b=none)/\W i m U' H':=λ{U7 H7} I7 n7=>by obtain⟨m',hm,w7⟩:=hN U7 H7 n7;refine⟨m',hm,i+1,U7,H7,I7.qp,T.keep _ _ _ st5 λb hb o e=>(I7.pin (b,o) (List.mem_append_right _ (List.mem_append_right _ (ja hb e)))).1,λb hb=>?_,w7⟩;obtain⟨o,e,d⟩:=T.obj _ _ st5 b hb;exact(I7.pin (b,o) (List.mem_append_right _ (List.mem_append_right _ (ja hb e)))).2.1
  cases f with
  |next=>obtain⟨U7,H7,I7,n7⟩:=q7;exact again I7 n7|cont=>obtain⟨U7,H7,I7,n7⟩:=q7;exact again I7 n7|brk=>obtain⟨U7,H7,I7,q7⟩:=q7;exact⟨U7,H7,I7.qp,q7⟩|ret v=>obtain⟨x7,U7,H7,I7,r7,q7⟩:=q7;exact⟨x7,U7,H7,I7.qp,r7,q7⟩
end
abbrev R2:=V->V->Hp->VK->Prop
def bE(X:Cx)(f:Value->Value->Sem Value)(r:R2):Prop:=
 ∀(pins:List (Addr×Obj)) (s:Shared) (U:St) (H:Hp) (x y:V) (v u:Value) (Q:VK),Inv X pins U H s->RelV x v->RelV y u->r x y H Q ->
  wpAny (model X.prog X.w) X.A (f v u) (EP X pins U Q) X.xe s
def dz(X:Cx)(f:Value->Sem Value)(r:V->Hp->VK->Prop):Prop:=
 ∀(pins:List (Addr×Obj)) (s:Shared) (U:St) (H:Hp) (x:V) (v:Value) (Q:VK),Inv X pins U H s->RelV x v->r x H Q ->
  wpAny (model X.prog X.w) X.A (f v) (EP X pins U Q) X.xe s
def dM(X:Cx)(f:Value)(r:List V->Hp->VK->Prop):Prop:=
 ∀(pins:List (Addr×Obj)) (s:Shared) (U:St) (H:Hp) (xs:List V) (us:List Value) (Q:VK),Inv X pins U H s->Vals xs us->r xs H Q ->
  wpAny (model X.prog X.w) X.A (call f us) (EP X pins U Q) X.xe s
def Rt(X:Cx)(r:V->Hp->(Bool->Hp->Prop)->Prop):Prop:=
 ∀(pins:List (Addr×Obj)) (s:Shared) (U:St) (H:Hp) (x:V) (v:Value) (Q:Bool->Hp->Prop),Inv X pins U H s->RelV x v->r x H Q ->
  wpAny (model X.prog X.w) X.A (truthy v) (TP X pins U Q) X.xe s
def qj(r:R2)(ta tb:TE):TE:=λU H Q=>ta U H λx H1=>tb U H1 λy H2=>r x y H2 Q
def RK(r:V->Hp->VK->Prop)(ta:TE):TE:=λU H Q=>ta U H λx H1=>r x H1 Q
def rI(C:Int->Int->Prop)(g:Int->Int->V):R2:=λx y H Q=>∃i j,x = .int i/\y = .int j/\C i j/\Q (g i j) H
def iV(g:Int->Int->V):R2:=λx y H Q=>∃i j,x = .int i/\y = .int j/\Q (g i j) H
def rU(g:Int->V):V->Hp->VK->Prop:=λx H Q=>∃i,x = .int i/\Q (g i) H
section
variable {X:Cx}{a b c:Expr}{ta tb tc:TE}{pos:Pos}
theorem sx(ha:PE X a ta)(hb:PE X b tb){pins:List (Addr×Obj)}{s:Shared}{U:St}{H:Hp}{R:V->V->Hp->Prop}(I:Inv X pins U H s)
  (h:ta U H λx H1=>tb U H1 λy H2=>R x y H2) {Q:Value->Shared->Prop} {f:Value->Value->Sem Value}
  (hf:∀v u s2 x y H2,Inv X pins U H2 s2->RelV x v->RelV y u->R x y H2->wpAny (model X.prog X.w) X.A (f v u) Q X.xe s2) :
  wpAny (model X.prog X.w) X.A (eval a X.env) (λv s₁=>wpAny (model X.prog X.w) X.A (eval b X.env) (λu s₂=>wpAny (model X.prog X.w) X.A (f v u) Q X.xe s₂) X.xe s₁) X.xe s:=by
 refine aI (ha pins s U H _ I h) λv s1 ⟨x,H1,I1,r1,q1⟩=>?_;refine aI (hb pins s1 U H1 _ I1 q1) λu s2 ⟨y,H2,I2,r2,q2⟩=>?_;exact hf v u s2 x y H2 I2 r1 r2 q2
theorem ER{op:Operator}{r:R2}(ho:bE X (binaryOp op) r)(ha:PE X a ta)(hb:PE X b tb):PE X (.BinOp a op b pos) (qj r ta tb):=by intro pins s U H Q I h;exact wpAny_BinOp (sx ha hb I h λv u s2 x y H2 I2 rx ry q=>ho pins s2 U H2 x y v u Q I2 rx ry q)
theorem EW{op:UnaryOp}{r:V->Hp->VK->Prop}(ho:dz X (unaryOp op) r)(ha:PE X a ta):PE X (.UnaryOp op a pos) (RK r ta):=by intro pins s U H Q I h;exact UnaryOp_ (aI (ha pins s U H _ I h) λv s1 ⟨x,H1,I1,r1,q1⟩=>ho pins s1 U H1 x v Q I1 r1 q1)
theorem xH{f:Value->Value->Sem Value}{C:Int->Int->Prop}{g:Int->Int->Int}
  (rule:∀(i j:Int) (t u:Tok) (s:Shared) (Q:Value->Shared->Prop) (E:Value->Shared->Prop),C i j->Q (.int (g i j) s.toks) { s with toks:=s.toks+1 }->wpAny (model X.prog X.w) X.A (f (.int i t) (.int j u)) Q E s) :
  bE X f (rI C λi j=>.int (g i j)):=by
 intro pins s U H x y v u Q I rx ry h;obtain⟨i,j,rfl,rfl,hc,q⟩:=h;obtain⟨t,rfl⟩:=rx;obtain⟨t',rfl⟩:=ry;exact rule i j t t' s _ _ hc ⟨.int (g i j),H,I.tok _,⟨_,rfl⟩,q⟩
theorem ag{f:Value->Value->Sem Value}{g:Int->Int->Int}
  (rule:∀(i j:Int) (t u:Tok) (s:Shared) (Q:Value->Shared->Prop) (E:Value->Shared->Prop),Q (.int (g i j) s.toks) { s with toks:=s.toks+1 }->wpAny (model X.prog X.w) X.A (f (.int i t) (.int j u)) Q E s) :
  bE X f (iV λi j=>.int (g i j)):=by
 intro pins s U H x y v u Q I rx ry h;obtain⟨i,j,rfl,rfl,q⟩:=h;obtain⟨t,rfl⟩:=rx;obtain⟨t',rfl⟩:=ry;exact rule i j t t' s _ _ ⟨.int (g i j),H,I.tok _,⟨_,rfl⟩,q⟩
theorem jh{f:Value->Value->Sem Value}{g:Int->Int->Bool}
  (rule:∀(i j:Int) (t u:Tok) (s:Shared) (Q:Value->Shared->Prop) (E:Value->Shared->Prop),Q (.bool (g i j)) s->wpAny (model X.prog X.w) X.A (f (.int i t) (.int j u)) Q E s) :
  bE X f (iV λi j=>.bl (g i j)):=by
 intro pins s U H x y v u Q I rx ry h;obtain⟨i,j,rfl,rfl,q⟩:=h;obtain⟨t,rfl⟩:=rx;obtain⟨t',rfl⟩:=ry;exact rule i j t t' s _ _ ⟨.bl (g i j),H,I,rfl,q⟩
def qz(i j:Int):Prop:=0<=j/\j<=1000000/\i.natAbs<2 ^ 64
theorem SS(k:Nat):(0:Int)<=2 ^ k:=by rw[two_pow_cast];exact Int.natCast_nonneg _
theorem BQ:bE X (binaryOp .Add) (iV λi j=>.int (i+j)):=ag λ_ _ _ _ _ _ _ q=>add_int q
theorem CU:bE X (binaryOp .Sub) (iV λi j=>.int (i-j)):=ag λ_ _ _ _ _ _ _ q=>sub_int q
theorem CH:bE X (binaryOp .Mod) (rI (λ_ j=>0<j) λi j=>.int (i%j)):=xH λi j _ _ _ _ _ hc q=>by have h1:(0:Int)<j:=hc;exact mod_int' (by omega) (by rw[Int.fmod_eq_emod_of_nonneg i (by omega)];exact q)
theorem CP:bE X (binaryOp .Pow) (rI qz λi j=>.int (i ^ j.toNat)):=xH λ_ _ _ _ _ _ _ hc q=>pow_int_small hc.1 hc.2.1 hc.2.2 q
theorem CQ:bE X (binaryOp .LShift) (rI qz λi j=>.int (i*2 ^ j.toNat)):=xH λ_ _ _ _ _ _ _ hc q=>lshift_int_small hc.1 hc.2.1 hc.2.2 q
theorem CS:bE X (binaryOp .RShift) (rI (λ_ j=>0<=j) λi j=>.int (i / 2 ^ j.toNat)):=xH λi j _ _ _ _ _ hc q=>rshift_int hc (by rw[Int.fdiv_eq_ediv_of_nonneg i (SS _)];exact q)
theorem BS:bE X (binaryOp .BitAnd) (iV λi j=>.int (Builtin.bitAnd i j)):=ag λ_ _ _ _ _ _ _ q=>and_int q
theorem CO:bE X (binaryOp .BitOr) (iV λi j=>.int (Builtin.bitOr i j)):=ag λ_ _ _ _ _ _ _ q=>or_int q
theorem CV:bE X (binaryOp .BitXor) (iV λi j=>.int (Builtin.bitXor i j)):=ag λ_ _ _ _ _ _ _ q=>xor_int q
theorem SU{f:Value->Sem Value}{g:Int->Int}
  (rule:∀(i:Int) (t:Tok) (s:Shared) (Q:Value->Shared->Prop) (E:Value->Shared->Prop),Q (.int (g i) s.toks) { s with toks:=s.toks+1 }->wpAny (model X.prog X.w) X.A (f (.int i t)) Q E s) :
  dz X f (rU λi=>.int (g i)):=by
 intro pins s U H x v Q I rx h;obtain⟨i,rfl,q⟩:=h;obtain⟨t,rfl⟩:=rx;exact rule i t s _ _ ⟨.int (g i),H,I.tok _,⟨_,rfl⟩,q⟩
theorem SV:dz X (unaryOp .USub) (rU λi=>.int (-i)):=SU λ_ _ _ _ _ q=>neg_int q
end
def pv:V->V->Bool
 |.aE,.aE=>true | .aE,.int _=>true | .int _,.aE=>true | .aE,.bl _=>true | .bl _,.aE=>true | .aE,.str _=>true | .str _,.aE=>true
 |.int _,.int _=>true | .bl _,.bl _=>true | .str _,.str _=>true | .gM _,.gM _=>true
 |.int _,.str _=>true | .str _,.int _=>true | .bl _,.str _=>true | .str _,.bl _=>true
 |_,_=>false
def ML:R2:=λx y H Q=>pv x y=true/\Q (.bl (decide (x=y))) H
def MN:R2:=λx y H Q=>pv x y=true/\Q (.bl (!decide (x=y))) H
theorem Hi{i j:Int}:decide (V.int i=V.int j)=(i==j):=by rw[Bool.eq_iff_iff];simp
theorem Hg{i j:Bool}:decide (V.bl i=V.bl j)=(i==j):=by rw[Bool.eq_iff_iff];simp
theorem Hj{i j:Str}:decide (V.str i=V.str j)=(i==j):=by rw[Bool.eq_iff_iff];simp
theorem Hh{i j:Array UInt8}:decide (V.gM i=V.gM j)=(i.toList==j.toList):=by rw[Bool.eq_iff_iff];cases i;cases j;simp
section
variable {X:Cx}{a b c:Expr}{ta tb tc:TE}{pos:Pos}
theorem bZ{pins:List (Addr×Obj)}{U:St}{H:Hp}{s:Shared}{Q:VK}{k k':Bool}(I:Inv X pins U H s)(q:Q (.bl k) H)(e:k=k'):EP X pins U Q (.bool k') s:=by subst e;exact⟨.bl k,H,I,rfl,q⟩
theorem BX:bE X (compareOp .Eq) ML:=by
 intro pins s U H x y v u Q I rx ry h;obtain⟨hs,q⟩:=h;cases x with
 |aE=>
  cases rx;cases y with
  |aE=>cases ry;exact PySem.EqNone.eq_none_none (bZ I q (by simp))|bl j=>cases ry;exact PySem.EqNone.eq_none_bool (bZ I q (by simp))|int j=>obtain⟨t',rfl⟩:=ry;exact PySem.EqNone.eq_none_int (bZ I q (by simp))|str j=>obtain⟨t',rfl⟩:=ry;exact PySem.EqNone.eq_none_str (bZ I q (by simp))|_=>exact absurd (show false=true from hs) Bool.false_ne_true
 |bl i=>
  cases rx;cases y with
  |aE=>cases ry;exact PySem.EqNone.eq_bool_none (bZ I q (by simp))|bl j=>cases ry;exact eq_bool (bZ I q Hg)|str j=>obtain⟨t',rfl⟩:=ry;exact PySem.EqMixed.eq_bool_str (bZ I q (by simp))|_=>exact absurd (show false=true from hs) Bool.false_ne_true
 |int i=>
  obtain⟨t,rfl⟩:=rx;cases y with
  |aE=>cases ry;exact PySem.EqNone.eq_int_none (bZ I q (by simp))|int j=>obtain⟨t',rfl⟩:=ry;exact eq_int (bZ I q Hi)|str j=>obtain⟨t',rfl⟩:=ry;exact PySem.EqMixed.eq_int_str (bZ I q (by simp))|_=>exact absurd (show false=true from hs) Bool.false_ne_true
 |str i=>
  obtain⟨t,rfl⟩:=rx;cases y with
  |aE=>cases ry;exact PySem.EqNone.eq_str_none (bZ I q (by simp))|bl j=>cases ry;exact PySem.EqMixed.eq_str_bool (bZ I q (by simp))|int j=>obtain⟨t',rfl⟩:=ry;exact PySem.EqMixed.eq_str_int (bZ I q (by simp))|str j=>obtain⟨t',rfl⟩:=ry;exact eq_str (bZ I q Hj)|_=>exact absurd (show false=true from hs) Bool.false_ne_true
 |gM i=>
  obtain⟨t,rfl⟩:=rx;cases y with
  |gM j=>obtain⟨t',rfl⟩:=ry;exact W.eq_bytes (bZ I q Hh)|_=>exact absurd (show false=true from hs) Bool.false_ne_true
 |_=>cases y<;>exact absurd (show false=true from hs) Bool.false_ne_true
theorem CJ:bE X (compareOp .NotEq) MN:=by
 intro pins s U H x y v u Q I rx ry h;obtain⟨hs,q⟩:=h;cases x with
 |aE=>
  cases rx;cases y with
  |aE=>cases ry;exact PySem.EqNone.ne_none_none (bZ I q (by simp))|bl j=>cases ry;exact PySem.EqNone.ne_none_bool (bZ I q (by simp))|int j=>obtain⟨t',rfl⟩:=ry;exact PySem.EqNone.ne_none_int (bZ I q (by simp))|str j=>obtain⟨t',rfl⟩:=ry;exact PySem.EqNone.ne_none_str (bZ I q (by simp))|_=>exact absurd (show false=true from hs) Bool.false_ne_true
 |bl i=>
  cases rx;cases y with
  |aE=>cases ry;exact PySem.EqNone.ne_bool_none (bZ I q (by simp))|bl j=>cases ry;exact ne_bool (bZ I q (congrArg not Hg))|str j=>obtain⟨t',rfl⟩:=ry;exact PySem.EqMixed.ne_bool_str (bZ I q (by simp))|_=>exact absurd (show false=true from hs) Bool.false_ne_true
 |int i=>
  obtain⟨t,rfl⟩:=rx;cases y with
  |aE=>cases ry;exact PySem.EqNone.ne_int_none (bZ I q (by simp))|int j=>obtain⟨t',rfl⟩:=ry;exact ne_int (bZ I q (congrArg not Hi))|str j=>obtain⟨t',rfl⟩:=ry;exact PySem.EqMixed.ne_int_str (bZ I q (by simp))|_=>exact absurd (show false=true from hs) Bool.false_ne_true
 |str i=>
  obtain⟨t,rfl⟩:=rx;cases y with
  |aE=>cases ry;exact PySem.EqNone.ne_str_none (bZ I q (by simp))|bl j=>cases ry;exact PySem.EqMixed.ne_str_bool (bZ I q (by simp))|int j=>obtain⟨t',rfl⟩:=ry;exact PySem.EqMixed.ne_str_int (bZ I q (by simp))|str j=>obtain⟨t',rfl⟩:=ry;exact ne_str (bZ I q (congrArg not Hj))|_=>exact absurd (show false=true from hs) Bool.false_ne_true
 |gM i=>
  obtain⟨t,rfl⟩:=rx;cases y with
  |gM j=>obtain⟨t',rfl⟩:=ry;exact W.ne_bytes (bZ I q (congrArg not Hh))|_=>exact absurd (show false=true from hs) Bool.false_ne_true
 |_=>cases y<;>exact absurd (show false=true from hs) Bool.false_ne_true
theorem CG:bE X (compareOp .Lt) (iV λi j=>.bl (decide (i<j))):=jh λ_ _ _ _ _ _ _ q=>lt_int q
theorem CF:bE X (compareOp .LtE) (iV λi j=>.bl (decide (i<=j))):=jh λ_ _ _ _ _ _ _ q=>le_int q
theorem CA:bE X (compareOp .Gt) (iV λi j=>.bl (decide (j<i))):=jh λ_ _ _ _ _ _ _ q=>gt_int q
theorem BZ:bE X (compareOp .GtE) (iV λi j=>.bl (decide (j<=i))):=jh λ_ _ _ _ _ _ _ q=>ge_int q
theorem CD:bE X (compareOp .Is) (λx y H Q=>y = .aE/\Q (.bl (decide (x = .aE))) H):=by
 intro pins s U H x y v u Q I rx ry h;obtain⟨rfl,q⟩:=h;cases ry;refine is_none_gen (bZ I q ?_);cases x<;>first
  | (cases rx;rfl)
  | (obtain⟨t,rfl⟩:=rx;rfl)
theorem CM:bE X (compareOp .IsNot) (λx y H Q=>y = .aE/\Q (.bl (!decide (x = .aE))) H):=by
 intro pins s U H x y v u Q I rx ry h;obtain⟨rfl,q⟩:=h;cases ry;refine isnot_none_gen (bZ I q ?_);cases x<;>first
  | (cases rx;rfl)
  | (obtain⟨t,rfl⟩:=rx;rfl)
theorem bE.or{f:Value->Value->Sem Value}{r r':R2}(h:bE X f r)(h':bE X f r'):bE X f (λx y H Q=>r x y H Q\/r' x y H Q):=by
 intro pins s U H x y v u Q I rx ry q;rcases q with q|q
 .exact h pins s U H x y v u Q I rx ry q
 .exact h' pins s U H x y v u Q I rx ry q
theorem EC{op:CmpOp}{r:R2}(ho:bE X (compareOp op) r)(ha:PE X a ta)(hb:PE X b tb)(hm:behindInMarks op b=false):PE X (.Compare a [op] [b] pos) (qj r ta tb):=by intro pins s U H Q I h;exact wpAny_Compare1 (sx ha hb I h λv u s2 x y H2 I2 rx ry q=>ho pins s2 U H2 x y v u Q I2 rx ry q) hm
def Qg(t:TE):TT:=λU H Q=>t U H λx H'=>∃k,x = .bl k/\Q k H'
theorem GV{op:CmpOp}{r:R2}(ho:bE X (compareOp op) r)(ha:PE X a ta)(hb:PE X b tb)(hm:behindInMarks op b=false):PT X (.Compare a [op] [b] pos) (Qg (qj r ta tb)):=by
 intro pins s U H Q I h;refine wpAny_isTrue_Compare1 (aI (ha pins s U H _ I h) λv s1 ⟨x,H1,I1,r1,q1⟩=>aI (hb pins s1 U H1 _ I1 q1) λu s2 ⟨y,H2,I2,r2,q2⟩=>aI (ho pins s2 U H2 x y v u _ I2 r1 r2 q2) λc s3 ⟨z,H3,I3,r3,k,e,q3⟩=>?_) hm
 subst e;cases r3;exact wpAny_truthy_bool ⟨H3,I3,q3⟩
def Dd(r r':R2)(ta tb tc:TE):TE:=λU H Q=>ta U H λx H1=>tb U H1 λy H2=>r x y H2 λz H3=>∃k,z = .bl k /\
 (if k=true then tc U H3 λw' H4=>r' y w' H4 Q else Q (.bl false) H3)
theorem EB{op op':CmpOp}{r r':R2}(ho:bE X (compareOp op) r)(ho':bE X (compareOp op') r')(ha:PE X a ta)(hb:PE X b tb)(hc:PE X c tc)
  (hm:lastMarks [op,op'] [b,c]=false:=by with_unfolding_all rfl):PE X (.Compare a [op,op'] [b,c] pos) (Dd r r' ta tb tc):=by
 intro pins s U H Q I h;refine Compare_chain (aI (ha pins s U H _ I h) λv s1 ⟨x,H1,I1,r1,q1⟩=>chain_link (aI (hb pins s1 U H1 _ I1 q1) λu s2 ⟨y,H2,I2,r2,q2⟩=>aI (ho pins s2 U H2 x y v u _ I2 r1 r2 q2) λd s3 ⟨z,H3,I3,r3,k,e,q3⟩=>?_)) hm
 subst e;cases r3;refine wpAny_truthy_bool ?_;cases k with
 |false=>exact ite_ff ⟨.bl false,H3,I3,rfl,q3⟩|true=>exact ite_tt (chain_last (aI (hc pins s3 U H3 _ I3 q3) λw' s4 ⟨z',H4,I4,r4,q4⟩=>ho' pins s4 U H4 y z' u w' Q I4 r2 r4 q4))
theorem GU{op op':CmpOp}{r r':R2}(ho:bE X (compareOp op) r)(ho':bE X (compareOp op') r')(ha:PE X a ta)(hb:PE X b tb)(hc:PE X c tc)
  (hm:lastMarks [op,op'] [b,c]=false:=by with_unfolding_all rfl):PT X (.Compare a [op,op'] [b,c] pos) (Qg (Dd r r' ta tb tc)):=by
 intro pins s U H Q I h;refine isTrue_chain (aI (ha pins s U H _ I h) λv s1 ⟨x,H1,I1,r1,q1⟩=>test_link (aI (hb pins s1 U H1 _ I1 q1) λu s2 ⟨y,H2,I2,r2,q2⟩=>aI (ho pins s2 U H2 x y v u _ I2 r1 r2 q2) λd s3 ⟨z,H3,I3,r3,k,e,q3⟩=>?_)) hm
 subst e;cases r3;refine wpAny_truthy_bool ?_;cases k with
 |false=>obtain⟨k',e',q'⟩:=q3;cases e';exact ite_ff ⟨H3,I3,q'⟩
 |true=>refine ite_tt (test_last (aI (hc pins s3 U H3 _ I3 q3) λw' s4 ⟨z',H4,I4,r4,q4⟩=>aI (ho' pins s4 U H4 y z' u w' _ I4 r2 r4 q4) λd' s5 ⟨z2,H5,I5,r5,k2,e2,q5⟩=>?_));subst e2;cases r5;exact wpAny_truthy_bool ⟨H5,I5,q5⟩
def uC(K:W.Frag)(x:V)(H:Hp)(k:Bool):Prop:=
 match x with
 |.aE=>k=false
 |.bl b=>k=b
 |.int i=>k=(i != 0)
 |.str y=>y.length<=sizeLine/\k=((y.length:Int) != 0)
 |.gM y=>y.size<=sizeLine/\k=((y.size:Int) != 0)
 |.ref p=>(∃xs,bG K H p xs/\k = !xs.isEmpty)\/(∃xs,bV K H p xs/\k = !xs.isEmpty)\/∃kvs,H p=some (.dK kvs)/\k = !kvs.isEmpty
 |_=>False
theorem Zc{κ:Type}{kvs:List (κ×V)}{vs:List (κ×Value)}(r:KV kvs vs):(!vs.isEmpty) = !kvs.isEmpty:=by cases r<;>rfl
theorem Jm{xs:List V}{its:List Value}(r:Vals xs its):(!its.toArray.isEmpty) = !xs.isEmpty:=by cases r<;>simp
theorem uX:(sizeLine:Nat)<2 ^ 63:=by rw[sizeLine_eq];decide
theorem qo:Rt X (λx H Q=>∃k,uC X.K x H k/\Q k H):=by
 intro pins s U H x v Q I rx h;obtain⟨k,e,q⟩:=h;have hl:=uX;have hs:sizeLine=16777216:=sizeLine_eq;cases x with
 |aE=>cases rx;have e':k=false:=e;subst e';exact truthy_none ⟨H,I,q⟩
 |bl b=>cases rx;have e':k=b:=e;subst e';exact wpAny_truthy_bool ⟨H,I,q⟩
 |int i=>obtain⟨t,rfl⟩:=rx;have e':k=(i != 0):=e;subst e';exact PySem.P.truthy_int ⟨H,I,q⟩
 |str y=>obtain⟨t,rfl⟩:=rx;obtain⟨hy,e'⟩:y.length<=sizeLine/\k=((y.length:Int) != 0):=e;subst e';exact PySem.P.truthy_str (by omega) ⟨H,I.tok _,q⟩
 |gM y=>obtain⟨t,rfl⟩:=rx;obtain⟨hy,e'⟩:y.size<=sizeLine/\k=((y.size:Int) != 0):=e;subst e';exact W.truthy_bytes (by omega) ⟨H,I.tok _,q⟩
 |ref p=>
  cases rx;have e':(∃xs,bG X.K H p xs/\k = !xs.isEmpty)\/(∃xs,bV X.K H p xs/\k = !xs.isEmpty)\/∃kvs,H p=some (.dK kvs)/\k = !kvs.isEmpty:=e;rcases e' with⟨xs,hx,e'⟩|⟨xs,hx,e'⟩|⟨kvs,hx,e'⟩
  .subst e';obtain⟨its,r,pl,hz⟩:=I.list hx;have hlen:=r.length;exact wpAny_truthy_list pl.isList (by simp only[List.size_toArray];omega) ⟨H,I.tok _,by rw[Jm r];exact q⟩
  .subst e';obtain⟨its,r,pl,hz⟩:=I.tuple hx;have hlen:=r.length;exact truthy_tuple pl (by simp only[List.size_toArray];omega) ⟨H,I.tok _,by rw[Jm r];exact q⟩
  .subst e';obtain⟨hz,hS,vs,r,m⟩:kvs.length<=sizeLine/\(p==sysModules)=false/\∃vs,KV kvs vs/\s.heap.DictOf (cY X.prog X.w) p vs:=I.aD p _ hx;have hlen:kvs.length=vs.length:=Paired.length r;exact wpAny_truthy_dict hS m (by omega) ⟨H,I.tok _,by rw[Zc r];exact q⟩
 |_=>exact(show False from e).elim
theorem GX(ha:PE X a ta)(he:∀whole,isTrue a X.env whole=(do let v <- whole;standAt a.pos;holding [v] (truthy v))) :
  PT X a (λU H Q=>ta U H λx H'=>∃k,uC X.K x H' k/\Q k H'):=by
 intro pins s U H Q I h;exact isTrue_plain (aI (ha pins s U H _ I h) λv s1 ⟨x,H1,I1,r1,q1⟩=>qo pins s1 U H1 x v Q I1 r1 q1) (he _)
theorem BR:bE X (binaryOp .Add) (λx y H Q=>∃i j,x = .str i/\y = .str j/\i.length+j.length<=sizeLine/\Q (.str (i++j)) H):=by intro pins s U H x y v u Q I rx ry h;obtain⟨i,j,rfl,rfl,hz,q⟩:=h;obtain⟨t,rfl⟩:=rx;obtain⟨t',rfl⟩:=ry;exact add_str (λt' tk=>⟨.str (i++j),H,I.tok _,⟨_,rfl⟩,q⟩) hz
theorem yS{x:V}{us:List Value}(r:Vals [x] us):∃u,us=[u]/\RelV x u:=by
 cases r with
 |cons r1 r2=>cases r2;exact⟨_,rfl,r1⟩
theorem pS{x y:V}{us:List Value}(r:Vals [x,y] us):∃u w',us=[u,w']/\RelV x u/\RelV y w':=by
 cases r with
 |cons r1 r2=>
  cases r2 with
  |cons r3 r4=>cases r4;exact⟨_,_,rfl,r1,r3⟩
theorem Sy(hc:X.calm=true):dM X (.builtin "max") (λxs H Q=>∃i j,xs=[.int i,.int j]/\Q (.int (if j > i then j else i)) H):=by
 intro pins s U H xs us Q I r h;obtain⟨i,j,rfl,q⟩:=h;obtain⟨u,w',rfl,⟨t,rfl⟩,⟨t',rfl⟩⟩:=pS r;refine max_two_ints (I.ok.hd hc) λh' tk k=>⟨_,H,I.kept k,?_,q⟩;by_cases hj:j > i
 .rw[if_pos hj,if_pos hj];exact⟨_,rfl⟩
 .rw[if_neg hj,if_neg hj];exact⟨_,rfl⟩
theorem Sz(hc:X.calm=true):dM X (.builtin "min") (λxs H Q=>∃i j,xs=[.int i,.int j]/\Q (.int (if j<i then j else i)) H):=by
 intro pins s U H xs us Q I r h;obtain⟨i,j,rfl,q⟩:=h;obtain⟨u,w',rfl,⟨t,rfl⟩,⟨t',rfl⟩⟩:=pS r;refine min_two_ints (I.ok.hd hc) λh' tk k=>⟨_,H,I.kept k,?_,q⟩;by_cases hj:j<i
 .rw[if_pos hj,if_pos hj];exact⟨_,rfl⟩
 .rw[if_neg hj,if_neg hj];exact⟨_,rfl⟩
theorem So:dM X (.type "int") (λxs H Q=>(∃i,xs=[.int i]/\Q (.int i) H)\/∃k,xs=[.bl k]/\Q (.int (if k then 1 else 0)) H):=by
 intro pins s U H xs us Q I r h;rcases h with⟨i,rfl,q⟩|⟨k,rfl,q⟩
 .obtain⟨u,rfl,t,rfl⟩:=yS r;exact call_int_int ⟨.int i,H,I,⟨_,rfl⟩,q⟩
 .obtain⟨u,rfl,r1⟩:=yS r;cases r1;exact call_int_bool ⟨.int (if k then 1 else 0),H,I.tok _,⟨_,rfl⟩,q⟩
end
structure tZ(h:Heap)(x dx C:Addr)(mA:Str->Option Value):Prop where
 obj:h.get? x=some (W.instObj C dx)
 ns:h.Ns1 dx mA
 ne:dx≠x
theorem AG{h:Heap}{dx:Addr}{mA:Str->Option Value}(n:h.Ns1 dx mA):∃od,h.get? dx=some od/\∀name,W.lookIn name od=some (mA name):=by
 obtain⟨o,es,ep,ho,hd,hk,_,hm⟩:=n;refine⟨o,ho,λname=>?_⟩;have e:=hm name;unfold nsFind findBy at e;rw[<- Array.find?_toList]at e;unfold W.lookIn;rw[hd];dsimp only;split
 .rename_i y q;rw[q]at e;exact congrArg some e
 .rename_i q;rw[q]at e;have a:es.toList.any (·.refKey)=false:=by rw[List.any_eq_false];intro y hy;obtain⟨z,t,hkey⟩:=hk y (Array.mem_toList_iff.mp hy);simp[DictEntry.refKey,hkey]
  have a':¬es.toList.any (·.refKey)=true:=by rw[a];exact Bool.false_ne_true
  rw[if_neg a'];exact congrArg some e
theorem tZ.look{h:Heap}{x dx C:Addr}{mA:Str->Option Value}(I:tZ h x dx C mA):∃od,W.InstAt h x (W.instObj C dx) C (some od)/\∀name,W.lookIn name od=some (mA name):=
 let ⟨od,ho,hl⟩:=AG I.ns
 ⟨od,⟨I.obj,rfl,rfl,ho⟩,hl⟩
section
variable {prog:Program}{w:World}{A:Around}{E:Value->Shared->Prop}{s:Shared}{K:W.Frag}{x dx C f:Addr}{mA:Str->Option Value}{name:Str}{v:Value}
theorem Xw{expr:Bool}{Q:Value->Shared->Prop}(X:K.In s.heap)(I:tZ s.heap x dx C mA)(hg:W.plainGet K C name=true)(hh:W.hasDictIn K C=true)
  (ha:W.findIn K (.ref C) name=some none) (hv:mA name=some v) (hv':W.handedIn v=true) (h:Q v { s with toks:=s.toks+1 }) :
  wpAny (model prog w) A (getAttr (.ref x) name expr) Q E s:=by
 obtain⟨od,J,hl⟩:=I.look;exact W.get_value X J (W.plainGet_of hg).1 (W.findObj_own hh ha rfl (by rw[hl,hv])) hv' h
theorem Xx{pl:Sem Bool}{Q:Value×List Value->Shared->Prop}(X:K.In s.heap)(I:tZ s.heap x dx C mA)(hg:W.plainGet K C name=true)
  (hf:W.findIn K (.ref C) name=some (some (.ref f))) (ht:W.isFn K (.ref f)=true) (hv:mA name=none) (h:Q (.ref f,[.ref x]) s) :
  wpAny (model prog w) A (getMethod (.ref x) name pl) Q E s:=by
 obtain⟨od,J,hl⟩:=I.look;exact W.method_fn X J (W.plainGet_of hg).1 (W.plainGet_of hg).2 hf (beq_iff_eq.mp ht) (by show(W.lookIn name od).map (·.isSome)=some false;rw[hl,hv];rfl) h
theorem ON{ns:List Str}{Q:Unit->Shared->Prop}(X:K.In s.heap)(I:tZ s.heap x dx C mA)
  (hs:W.findIn K (.ref C) "__setattr__"=some (some (.builtin "object.__setattr__"))) (hp:W.plainOver K C=true) (ht:W.takerIn K C name=some none) (hh:W.hasDictIn K C=true)
  (hw:PySem.Within mA ns) (hsz:ns.length<=sizeLine)
  (h:∀h',tZ h' x dx C (λy=>if y=name then some v else mA y)->Heap.SameBut dx s.heap h'->Q () { s with heap:=h',toks:=s.toks+2 }) :
  wpAny (model prog w) A (setAttr (.ref x) name v) Q E s:=by
 obtain⟨od,J,hl⟩:=I.look;refine W.set_plain X J hs (W.osa_open (s:={ s with toks:=s.toks+1 }) (r:=none) X J hp ht λb=>?_);obtain⟨cd,hc,hd'⟩:=W.any_some hh;have hx:s.heap.get? x=some ⟨.ref C,some dx,.plain,#[]⟩:=I.obj;refine wpAny_bind (wpAny_pure (wpAny_bind (wpAny_bind (wpAny_loadPart hx (wpAny_bind (W.Looks.here (s:={ s with toks:=s.toks+1 }) (W.looks_clsIn X hc) ?_))))));rw[hd'];refine wpAny_pure (a:=some dx) (wpAny_bind (wpAny_pure (wpAny_bind ?_)));refine wpAny_nsSet1 (s:={ s with toks:=s.toks+1 }) I.ns λh' hn2 hs2=>?_;obtain⟨oD,esD,epD,hoD,hdD,hcD⟩:=hn2.count (PySem.Within.cons name v hw);refine wpAny_bind (wpAny_lookBehind hoD (by rw[hdD];exact pastItsLine_dict (Nat.le_trans hcD (by rw[List.length_cons];omega))) ?_);exact wpAny_pure (h _ ⟨(hs2.2 _ (Ne.symm I.ne)).trans I.obj,hn2,I.ne⟩ hs2)
theorem AK{R:Result->Shared->Prop}{vs:List Value}{kw:List (Str×Value)}(X:K.In s.heap)(hm:W.makesIn K C=true)
  (hi:W.findIn K (.ref C) "__init__"=some (some (.ref f))) (hf:W.typeIn K (.ref f)=some (.type "function"))
  (h:codeAny (model prog w) (A.under (.builtin "type.__call__" ⟨.ref C::vs,kw⟩)) (.call (.ref f) ⟨.ref (s.heap.objs.size+1)::vs,kw⟩) (W.InitBack (s.heap.objs.size+1) R)
   { s with heap:=(s.heap.push W.emptyDict).push (W.instObj C s.heap.objs.size) }) :
  codeAny (model prog w) A (.call (.ref C) ⟨vs,kw⟩) R s:=by
 obtain⟨hh,g,d,t,os⟩:=s;exact W.make_core (W.makes_of X hm) (W.looks_findIn X hi) (λself=>W.bind_fn X self hf) (.inl rfl) h
end
def eL(f:Str)(v:V):List (Str×V)->List (Str×V)
 |[]=>[(f,v)]
 | (g,x)::r=>if g=f then(g,v)::r else(g,x)::eL f v r
theorem Kg(f g:Str)(v:V):∀fs:List (Str×V),(eL f v fs).lookup g=if g=f then some v else fs.lookup g
 |[]=>by
  show List.lookup g [(f,v)]=_;by_cases h:g=f
  .have hb:(g==f)=true:=beq_iff_eq.mpr h;simp only[List.lookup,hb,if_pos h]
  .have hb:(g==f)=false:=beq_eq_false_iff_ne.mpr h;simp only[List.lookup,hb,if_neg h]
 | (k,x)::r=>by
  have ih:=Kg f g v r;rw[show eL f v ((k,x)::r)=(if k=f then(k,v)::r else(k,x)::eL f v r) from rfl];by_cases hk:k=f
  .rw[if_pos hk];by_cases h:g=k
   .have hb:(g==k)=true:=beq_iff_eq.mpr h;simp only[List.lookup,hb,if_pos (h.trans hk)]
   .have hb:(g==k)=false:=beq_eq_false_iff_ne.mpr h;simp only[List.lookup,hb,if_neg (λe:g=f=>h (e.trans hk.symm))]
  .rw[if_neg hk];by_cases h:g=k
   .have hb:(g==k)=true:=beq_iff_eq.mpr h;simp only[List.lookup,hb,if_neg (λe:g=f=>hk (h.symm.trans e))]
   .have hb:(g==k)=false:=beq_eq_false_iff_ne.mpr h;simp only[List.lookup,hb];exact ih
theorem wd(f:Str)(v:V):∀fs:List (Str×V),f∈(eL f v fs).map (·.1)/\∀g,g∈fs.map (·.1)->g∈(eL f v fs).map (·.1)
 |[]=>⟨by simp[eL],λg h=>by simp at h⟩
 | (k,x)::r=>by
  obtain⟨i1,i2⟩:=wd f v r;rw[show eL f v ((k,x)::r)=(if k=f then(k,v)::r else(k,x)::eL f v r) from rfl];by_cases hk:k=f
  .rw[if_pos hk];subst hk;exact⟨by simp,λg h=>by simpa using h⟩
  .rw[if_neg hk];refine⟨?_,λg h=>?_⟩
   .rw[List.map_cons];exact List.mem_cons_of_mem _ i1
   .rw[List.map_cons]at h ⊢;rcases List.mem_cons.mp h with e|e
    .exact List.mem_cons.mpr (.inl e)
    .exact List.mem_cons_of_mem _ (i2 g e)
theorem Jz(f:Str)(v:V):∀fs:List (Str×V),(eL f v fs).length<=fs.length+1
 |[]=>by simp[eL]
 | (k,x)::r=>by
  have ih:=Jz f v r;rw[show eL f v ((k,x)::r)=(if k=f then(k,v)::r else(k,x)::eL f v r) from rfl];by_cases hk:k=f
  .rw[if_pos hk,List.length_cons,List.length_cons];omega
  .rw[if_neg hk,List.length_cons,List.length_cons];omega
theorem dW.some_of{v:V}{o:Option Value}(r:dW (some v) o):∃u,o=some u/\RelV v u:=by
 cases o with
 |none=>exact(show False from r).elim|some u=>exact⟨u,rfl,r⟩
theorem dW.none_of{o:Option Value}(r:dW none o):o=none:=by
 cases o with
 |none=>rfl|some u=>exact(show False from r).elim
theorem Ya{v:V}{u:Value}(r:RelV v u):W.handedIn u=true:=by
 cases v with
 |aE=>cases(show u=Value.none from r);rfl|bl b=>cases(show u=Value.bool b from r);rfl|int i=>obtain⟨t,e⟩:=(show∃t,u=Value.int i t from r);cases e;rfl|str x=>obtain⟨t,e⟩:=(show∃t,u=Value.str x t from r);cases e;rfl|gM b=>obtain⟨t,e⟩:=(show∃t,u=Value.bytes b t from r);cases e;rfl|uM b=>obtain⟨t,e⟩:=(show∃t,u=Value.float b t from r);cases e;rfl|ref a=>cases(show u=Value.ref a from r);rfl|ty n=>cases(show u=Value.type n from r);rfl
section
variable {P:Program}{w:World}{H H':Hp}{h h':Heap}{a C dx:Addr}{fs fs':List (Str×V)}
theorem ij(aD:bQ P w H h)(e:H a=some (.ins C dx fs)):∃mA,tZ h a dx C mA/\(∀f,dW (fs.lookup f) (mA f))/\PySem.Within mA (fs.map (·.1))/\fs.length<=1000/\H dx=some (.own a):=by obtain⟨d,z,ne,ob,mA,n,r,q⟩:=(show bY P w H h a (.ins C dx fs) from aD a _ e);exact⟨mA,⟨ob,n,ne⟩,r,q,z,d⟩
end
structure gY(K:W.Frag)(C:Addr):Prop where
 pg:W.plainGet K C Str.empty=true
 hd:W.hasDictIn K C=true
 po:W.plainOver K C=true
 sa:W.findIn K (.ref C) "__setattr__"=some (some (.builtin "object.__setattr__"))
theorem gY.get{K:W.Frag}{C:Addr}(c:gY K C)(f:Str):W.plainGet K C f=true:=c.pg
def pY(K:W.Frag)(C:Addr)(f:Str):Prop:=W.findIn K (.ref C) f=some none
theorem pY.RP{K:W.Frag}{C:Addr}{f:Str}(n:pY K C f):W.takerIn K C f=some none:=by unfold W.takerIn;rw[show W.findIn K (.ref C) f=some none from n];rfl
structure Meth(K:W.Frag)(C:Addr)(m:Str)(f:Addr):Prop where
 at_:W.findIn K (.ref C) m=some (some (.ref f))
 fn:W.isFn K (.ref f)=true
 kp:W.keepIn K (.ref f)=true
section
variable {X:Cx}{pins:List (Addr×Obj)}{U:St}{H:Hp}{s:Shared}{a C dx:Addr}{fs:List (Str×V)}{f:Str}{v:V}{A:Around}{E:Value->Shared->Prop}
theorem Jd{b:Bool}{Q:Value->Shared->Prop}(I:Inv X pins U H s)(e:H a=some (.ins C dx fs))(c:gY X.K C)(n:pY X.K C f)(l:fs.lookup f=some v)
  (h:∀u s',Inv X pins U H s'->RelV v u->Q u s'):wpAny (model X.prog X.w) A (getAttr (.ref a) f b) Q E s:=by
 obtain⟨mA,O,r,_,_,_⟩:=ij I.aD e;obtain⟨u,hu,ru⟩:=dW.some_of (v:=v) (o:=mA f) (by rw[<- l];exact r f);exact Xw I.bK O (c.get f) c.hd n hu (Ya ru) (h u _ (I.tok _) ru)
theorem Je{m:Str}{g:Addr}{pl:Sem Bool}{Q:Value×List Value->Shared->Prop}(I:Inv X pins U H s)(e:H a=some (.ins C dx fs))(c:gY X.K C)(k:Meth X.K C m g)(l:fs.lookup m=none)
  (h:Q (.ref g,[.ref a]) s):wpAny (model X.prog X.w) A (getMethod (.ref a) m pl) Q E s:=by
 obtain⟨mA,O,r,_,_,_⟩:=ij I.aD e;have hn:mA m=none:=dW.none_of (by rw[<- l];exact r m);exact Xx I.bK O (c.get m) k.at_ k.fn hn h
theorem Pj{y:V}{u:Value}{Q:Unit->Shared->Prop}(I:Inv X pins U H s)(e:H a=some (.ins C dx fs))(c:gY X.K C)(n:pY X.K C f)(hl:fs.length<1000)(ry:RelV y u)
  (h:∀s',Inv X pins U (aG H a (.ins C dx (eL f y fs))) s'->Q () s'):wpAny (model X.prog X.w) A (setAttr (.ref a) f u) Q E s:=by
 obtain⟨mA,O,r,wi,_,ho⟩:=ij I.aD e;have hz:(fs.map (·.1)).length<=sizeLine:=by rw[List.length_map,sizeLine_eq];omega
 refine ON I.bK O c.sa c.po n.RP c.hd wi hz λh' O' sb=>h _ ?_;have hd:∃o,h'.get? dx=some o:=let ⟨o,_,_,e',_⟩:=O'.ns;⟨o,e'⟩;refine I.write (x:=a) (e:=dx) (by rw[e];exact True.intro) (.inr ho) (λb q hb z=>(sb.2 b hb).trans z) hd ?_;refine⟨by rw[aO O.ne];exact ho,?_,O.ne,O'.obj,_,O'.ns,λg=>?_,λg hg=>?_⟩
 .have:=Jz f y fs;omega
 .show dW ((eL f y fs).lookup g) (if g=f then some u else mA g);rw[Kg];by_cases q:g=f
  .rw[if_pos q,if_pos q];exact ry
  .rw[if_neg q,if_neg q];exact r g
 .by_cases q:g=f
  .rw[q];exact(wd f y fs).1
  .refine(wd f y fs).2 g (wi g λz=>hg ?_);show(if g=f then some u else mA g)=none;rw[if_neg q];exact z
theorem Inv.made(I:Inv X pins U H s):Inv X pins U (aG (aG H s.heap.objs.size (.own (s.heap.objs.size+1))) (s.heap.objs.size+1) (.ins C s.heap.objs.size []))
  { s with heap:=(s.heap.push W.emptyDict).push (W.instObj C s.heap.objs.size) }:=by
 have e1:(s.heap.push W.emptyDict).get? s.heap.objs.size=some W.emptyDict:=Heap.get?_push_size s.heap rfl;have e2:((s.heap.push W.emptyDict).push (W.instObj C s.heap.objs.size)).get? (s.heap.objs.size+1)=some (W.instObj C s.heap.objs.size):=by have:=Heap.get?_push_size (s.heap.push W.emptyDict) (o:=W.instObj C s.heap.objs.size) rfl;rwa [Heap.size_push]at this
 have e3:(s.heap.push W.emptyDict).Ns s.heap.objs.size (λ_=>none):=⟨W.emptyDict,#[],_,e1,rfl,(λe he=>absurd he (by simp)),λ_=>rfl⟩;have I1:=I.laid (a:=s.heap.objs.size) (o:=.own (s.heap.objs.size+1)) (h':=s.heap.push W.emptyDict) (t':=s.toks) (λb u q=>Heap.get?_push_of_some _ q) (Nat.le_refl _) ⟨_,e1⟩;refine I1.laid (a:=s.heap.objs.size+1) (o:=.ins C s.heap.objs.size []) (t':=s.toks) (λb u q=>Heap.get?_push_of_some _ q) (Nat.le_of_eq (Heap.size_push _ _)) ?_;have ne:s.heap.objs.size≠s.heap.objs.size+1:=Nat.ne_of_lt (Nat.lt_succ_self _);refine⟨by rw[aO ne,cQ],Nat.zero_le _,ne,e2,λ_=>none,(Heap.Ns1.of_empty e3).at λo q=>Heap.get?_push_of_some _ q,λ_=>True.intro,λy hy=>absurd rfl hy⟩
theorem Se{prog:Program}{w:World}{env:Env}{e:Expr}{f:Str}{pos:Pos}{s:Shared}{Q:Value->Shared->Prop}(hb:attributeBase e f env (eval e env)=eval e env)
  (h:wpAny (model prog w) A (eval e env) (λo s₁=>wpAny (model prog w) A (getAttr o f true) Q E s₁) E s):wpAny (model prog w) A (eval (.Attribute e f pos) env) Q E s:=
 Attribute_any_ h (by rw[arm_eval_Attribute,hb])
end
def QN(K:W.Frag)(ta:TE)(f:Str):TE:=λU H Q=>ta U H λx H1=>∃a C dx fs v,x = .ref a/\H1 a=some (.ins C dx fs)/\gY K C/\pY K C f/\fs.lookup f=some v/\Q v H1
def NJ(K:W.Frag)(ta tv:TE)(f:Str):TS:=λD U H=>tv U H λy H1=>ta U H1 λx H2=>∃a C dx fs,x = .ref a/\H2 a=some (.ins C dx fs)/\gY K C/\pY K C f/\fs.length<1000 /\
 D.nx U (aG H2 a (.ins C dx (eL f y fs)))
def Dz(X:Cx)(op:Operator)(rd:V->V->Hp->VK->Prop):Prop:=
 ∀(pins:List (Addr×Obj)) (s:Shared) (U:St) (H:Hp) (x y:V) (u v:Value) (Q:VK),Inv X pins U H s->RelV x u->RelV y v->rd x y H Q->wpAny (model X.prog X.w) X.A (inplaceOp op u v) (EP X pins U Q) X.xe s
def NK(K:W.Frag)(ta tv:TE)(rd:V->V->Hp->VK->Prop)(f:Str):TS:=λD U H=>ta U H λx H1=>∃a C dx fs v,x = .ref a/\H1 a=some (.ins C dx fs)/\gY K C/\pY K C f/\fs.lookup f=some v /\
 tv U H1 λy H2=>rd v y H2 λz H3=>∃dx' fs',H3 a=some (.ins C dx' fs')/\fs'.length<1000/\D.nx U (aG H3 a (.ins C dx' (eL f z fs')))
section
variable {X:Cx}{o e value:Expr}{f:Str}{pos pos' tpos:Pos}{ta tv:TE}
theorem EH(he:PE X e ta)(hb:attributeBase e f X.env (eval e X.env)=eval e X.env):PE X (.Attribute e f pos) (QN X.K ta f):=by intro pins s U H Q I h;refine Se hb (aI (he pins s U H _ I h) λu s1 ⟨x,H1,I1,rx,a,C,dx,fs,v,ex,ea,c,n,l,q⟩=>?_);subst ex;obtain rfl:u=Value.ref a:=rx;exact Jd I1 ea c n l λu' s2 I2 ru=>⟨v,H1,I2,ru,q⟩
theorem GG(ha:PE X o ta)(hv:PE X value tv)(hs:swapsWith value (some (.Attribute o f pos')) pos.line X.env=pure false):PS X (.Assign [.Attribute o f pos'] value pos) (NJ X.K ta tv f):=by intro pins s U H D I h;refine plainObj_wpAny_Assign_Attribute (aI (hv pins s U H _ I h) λu s1 ⟨y,H1,I1,ry,q⟩=>aI (ha pins s1 U H1 _ I1 q) λov s2 ⟨x,H2,I2,rx,a,C,dx,fs,ex,ea,c,n,l,q2⟩=>?_) hs;subst ex;obtain rfl:ov=Value.ref a:=rx;exact Pj I2 ea c n l ry λs3 I3=>⟨U,_,I3,q2⟩
theorem GH{op:Operator}{rd:V->V->Hp->VK->Prop}(ha:PE X o ta)(hv:PE X value tv)(hop:Dz X op rd):PS X (.AugAssign (.Attribute o f tpos) op value pos) (NK X.K ta tv rd f):=by intro pins s U H D I h;refine wpAny_AugAssign_AttributeAny (aI (ha pins s U H _ I h) λov s1 ⟨x,H1,I1,rx,a,C,dx,fs,v,ex,ea,c,n,l,q⟩=>?_);subst ex;obtain rfl:ov=Value.ref a:=rx;refine Jd I1 ea c n l λu s2 I2 ru=>aI (hv pins s2 U H1 _ I2 q) λw3 s3 ⟨y,H2,I3,ry,q3⟩=>aI (hop pins s3 U H2 v y u w3 _ I3 ru ry q3) λw4 s4 ⟨z,H3,I4,rz,dx',fs',ea',l',q4⟩=>?_;exact Pj I4 ea' c n l' rz λs5 I5=>⟨U,_,I5,q4⟩
def MH:V->V->Hp->VK->Prop:=λx y H Q=>∃i j,x = .int i/\y = .int j/\Q (.int (i+j)) H
theorem Yr:Dz X .Add MH:=by
 rintro pins s U H x y u v Q I rx ry ⟨i,j,rfl,rfl,q⟩
 obtain⟨t,rfl⟩:=(show∃t,u=Value.int i t from rx);obtain⟨t',rfl⟩:=(show∃t',v=Value.int j t' from ry);exact PyProof.Rows.iadd_int ⟨.int (i+j),H,I.tok _,⟨_,rfl⟩,q⟩
end
section
variable {X:Cx}{pins:List (Addr×Obj)}{U:St}{H:Hp}{s:Shared}{A:Around}{E:Value->Shared->Prop}{Q:Value->Shared->Prop}{c:Value}{b:Bool}
inductive jC(K:W.Frag)(H:Hp):V->Value->Prop where
 |aE:jC K H .aE (.type "NoneType")
 |bl (x:Bool):jC K H (.bl x) (.type "bool")
 |int (i:Int):jC K H (.int i) (.type "int")
 |str (x:Str):jC K H (.str x) (.type "str")
 |uM (x:UInt64):jC K H (.uM x) (.type "float")
 |lst {a:Addr} {xs:List V} (e:H a=some (.lst xs)):jC K H (.ref a) (.type "list")
 |bC {a:Addr} {o:Obj} {xs:List V} (e:H a=some (.bC o (.lst xs))):jC K H (.ref a) (.type "list")
 |tup {a:Addr} {xs:List V} (e:H a=some (.tup xs)):jC K H (.ref a) (.type "tuple")
 |dK {a:Addr} {kvs:List (aC×V)} (e:H a=some (.dK kvs)):jC K H (.ref a) (.type "dict")
 |dT {a:Addr} {kvs:List (List aC×V)} (e:H a=some (.dT kvs)):jC K H (.ref a) (.type "dict")
 |ins {a C dx:Addr} {fs:List (Str×V)} (e:H a=some (.ins C dx fs)) (cl:gY K C) (ha:W.findIn K (.ref C) "__class__"=some (some (.builtin "object.__class__")))
  (hn:W.specialIn K (.builtin "object.__class__") "__get__"=some (some (.builtin "getset_descriptor.__get__"))) (htk:W.takesIn K (.builtin "object.__class__")=some true)
  (hm:W.mroIn K C (.type "object")=some true):jC K H (.ref a) (.ref C)
theorem Zd{x:V}{u t:Value}(I:Inv X pins U H s)(rx:RelV x u)(ty:jC X.K H x t)(e:W.kitOne X.K t c=some b)(h:∀tk,Q (.bool b) { s with toks:=tk }) :
  wpAny (model X.prog X.w) A (call (.builtin "isinstance") [u,c]) Q E s:=by
 cases ty with
 |aE=>cases(show u=Value.none from rx);exact W.kia_one W.kitx_none I.bK True.intro e (λz=>nomatch z) h|bl y=>cases(show u=Value.bool y from rx);exact W.kia_one W.kitx_bool I.bK True.intro e (λz=>nomatch z) h|int i=>obtain⟨t,q⟩:=(show∃t,u=Value.int i t from rx);cases q;exact W.kia_one W.kitx_int I.bK True.intro e (λz=>nomatch z) h|str y=>obtain⟨t,q⟩:=(show∃t,u=Value.str y t from rx);cases q;exact W.kia_one W.kitx_str I.bK True.intro e (λz=>nomatch z) h|uM y=>obtain⟨t,q⟩:=(show∃t,u=Value.float y t from rx);cases q;exact W.kia_one W.kitx_float I.bK True.intro e (λz=>nomatch z) h|@lst a xs ea=>cases(show u=Value.ref a from rx);obtain⟨_,_,n,_,h1⟩:=(show bY X.prog X.w H s.heap a (.lst xs) from I.aD a _ ea);exact W.kia_one W.kitx_list I.bK ⟨_,h1,rfl⟩ e (λz=>nomatch z) h
 |@bC a ob xs ea=>cases(show u=Value.ref a from rx);obtain⟨_,_,_,n,_,h1⟩:=(show bY X.prog X.w H s.heap a (.bC ob (.lst xs)) from I.aD a _ ea);exact W.kia_one W.kitx_list I.bK ⟨_,h1,rfl⟩ e (λz=>nomatch z) h
 |@tup a xs ea=>cases(show u=Value.ref a from rx);obtain⟨_,_,_,p⟩:=(show bY X.prog X.w H s.heap a (.tup xs) from I.aD a _ ea);obtain⟨o,h1,h2,_⟩:=p;exact W.kia_one W.kitx_tuple I.bK ⟨o,h1,h2⟩ e (λz=>nomatch z) h
 |@dK a kvs ea=>cases(show u=Value.ref a from rx);obtain⟨_,_,vs,_,p⟩:=(show bY X.prog X.w H s.heap a (.dK kvs) from I.aD a _ ea);obtain⟨o,es,ep,h1,h2,_⟩:=p;exact W.kia_one W.kitx_dict I.bK ⟨o,h1,h2.1⟩ e (λz=>nomatch z) h
 |@dT a kvs ea=>cases(show u=Value.ref a from rx);obtain⟨_,_,xs,_,o,es,ep,h1,h2,_⟩:=(show bY X.prog X.w H s.heap a (.dT kvs) from I.aD a _ ea);exact W.kia_one W.kitx_dict I.bK ⟨o,h1,h2.1⟩ e (λz=>nomatch z) h
 |@ins a C dx fs ea cl ha hn htk hm=>cases(show u=Value.ref a from rx);obtain⟨mA,O,_⟩:=ij I.aD ea;obtain⟨od,J,_⟩:=O.look;exact W.kia_one (W.kitx_own (cl.get _) cl.hd ha hn htk hm) I.bK J e (λz=>nomatch z) h
end
structure bU(k:Nat)(A:Around):Prop where
 hd:A.handled=none
 dp:A.depth+3*k+5<recursionLimit
 un:A.units+16*k+200<cLine
theorem bU.mono{j k:Nat}{A:Around}(r:bU k A)(h:j<=k):bU j A:=⟨r.hd,by have:=r.dp;omega,by have:=r.un;omega⟩
theorem bU.deeper{k:Nat}{A:Around}(r:bU (k+1) A)(env:Env):bU k (A.deeper env):=
 ⟨r.hd,by have:=r.dp;show A.depth+1+3*k+5<_;omega,by have:=r.un;show A.units+3+16*k+200<_;omega⟩
theorem AJ{A:Around}{C:Addr}{us:List Value}{kw:List (Str×Value)}:(A.under (.builtin "type.__call__" ⟨.ref C::us,kw⟩)).depth=A.depth+1:=by first|rfl|simp[Around.under,Code.weight,Code.isCreation,Code.isGuard,Code.isCaller,Code.frames,Code.isFrame,guardIds]
theorem AL{A:Around}{C:Addr}{us:List Value}{kw:List (Str×Value)}:(A.under (.builtin "type.__call__" ⟨.ref C::us,kw⟩)).units=A.units+1:=by first|rfl|simp[Around.under,Code.cUnits,Code.frames,Code.isFrame]
theorem bU.make{k:Nat}{A:Around}(r:bU (k+1) A)(C:Addr)(us:List Value)(kw:List (Str×Value)):bU k (A.under (.builtin "type.__call__" ⟨.ref C::us,kw⟩)):=
 ⟨r.hd,by have:=r.dp;rw[AJ];omega,by have:=r.un;rw[AL];omega⟩
theorem bU.depth{k:Nat}{A:Around}(r:bU k A):A.depth<recursionLimit:=by have:=r.dp;omega
theorem bU.units{k:Nat}{A:Around}(r:bU k A):A.units+64<cLine:=by have:=r.un;omega
def pR:TA:=λ_ H Q=>Q [] H
def qh(ta:TE)(tr:TA):TA:=λU H Q=>ta U H λx H1=>tr U H1 λxs H2=>Q (x::xs) H2
section
variable {X:Cx}{e:Expr}{es:List Expr}{te:TE}{t:TA}{pos:Pos}
theorem pC:PA X [] pR:=λ_ _ _ _ H Q I h=>Calls.spliced_nil ⟨[],H,I,.nil,h⟩
theorem jL(ha:PE X e te)(hr:PA X es t)(hs:starEach (e::es) X.env=(false,eval e X.env)::starEach es X.env:=by rfl):PA X (e::es) (qh te t):=by intro pos pins s U H Q I h;rw[hs];show wpAny _ _ (spliced ((false,eval e X.env)::backTo pos (starEach es X.env))) _ _ s;refine Calls.spliced_cons (aI (ha pins s U H _ I h) λu s1 ⟨x,H1,I1,r1,q1⟩=>?_);exact aI (hr pos pins s1 U H1 _ I1 q1) λus s2 ⟨xs,H2,I2,r2,q2⟩=>⟨x::xs,H2,I2,.cons r1 r2,q2⟩
def RJ(t:TA):TE:=λU H Q=>t U H λxs H1=>xs.length<=sizeLine/\∀p,H1 p=none->Q (.ref p) (aG H1 p (.tup xs))
def QU(t:TA):TE:=λU H Q=>t U H λxs H1=>xs.length<=sizeLine/\∀p,H1 p=none->Q (.ref p) (aG H1 p (.lst xs))
theorem EV{x1}(h:PA X es t):PE X (.Tuple es x1 pos) (RJ t):=by intro pins s U H Q I hq;refine wpAny_Tuple_spliced (aI (h pos pins s U H _ I hq) λus s1 ⟨xs,H1,I1,r,z,q⟩=>⟨by rw[<- r.length];exact z,?_⟩);have hf:H1 s1.heap.objs.size=none:=I1.aD.fresh (Nat.le_refl _);refine⟨.ref s1.heap.objs.size,aG H1 s1.heap.objs.size (.tup xs),I1.laid (t':=s1.toks) (λb u e=>Heap.get?_push_of_some _ e) (Nat.le_refl _) ?_,rfl,q _ hf⟩;exact⟨z,us,r,⟨_,Heap.get?_push_size _ rfl,rfl,_,rfl⟩⟩
theorem EK(h:PA X es t):PE X (.List es pos) (QU t):=by intro pins s U H Q I hq;refine wpAny_List_spliced (aI (h pos pins s U H _ I hq) λus s1 ⟨xs,H1,I1,r,z,q⟩=>⟨by rw[<- r.length];exact z,?_⟩);have hf:H1 s1.heap.objs.size=none:=I1.aD.fresh (Nat.le_refl _);refine⟨.ref s1.heap.objs.size,aG H1 s1.heap.objs.size (.lst xs),I1.laid (t':=s1.toks) (λb u e=>Heap.get?_push_of_some _ e) (Nat.le_refl _) ?_,rfl,q _ hf⟩;exact⟨z,us,0,r,Heap.get?_push_size _ rfl⟩
end
abbrev Sp:=List V->Hp->VK->XK->Prop
abbrev gK:=List Env->Hp->Shared->XK->Value->Shared->Prop
structure mP(P:Program)(w:World)(K:W.Frag)(mg:Str->Option Value)(base:Heap)(A:Around)(outer:List Env)(s:Shared)(H:Hp):Prop where
 frames:A.frames=some outer
 mod:Mod K mg base
 bs:∀b o,base.get? b=some o->s.heap.get? b=some o/\H b=none
 gL:base.objs.size<=s.heap.objs.size
 fG:s.heap.FunFrames base outer
 jF:∀b∈bW outer,H b=none
 aD:bQ P w H s.heap
 bare:AllBare s.gens
def CE(outer:List Env)(P:Program)(w:World)(H:Hp)(s:Shared)(Q:VK)(u:Value)(s':Shared):Prop:=
 ∃v H',s'.os=s.os/\AllBare s'.gens/\Un (bW outer) [] H H' s.heap s'.heap/\bQ P w H' s'.heap/\RelV v u/\Q v H'
def CR(CX:gK)(outer:List Env)(P:Program)(w:World)(H:Hp)(s:Shared)(Q:VK)(E:XK)(r:Result)(s':Shared):Prop:=
 match r with
 |.ok (.ret u)=>CE outer P w H s Q u s'
 |.ok _=>False
 |.error e=>CX outer H s E e s'
structure dD(P:Program)(w:World)(K:W.Frag)(mg:Str->Option Value)(base:Heap)(CX:gK)(k:Nat)(f:Addr)(fd:FuncData)(ps:List Str)(sp:Sp):Prop where
 len:∀vs H Q E,sp vs H Q E->vs.length=ps.length
 run:∀(A:Around) (outer:List Env) (s:Shared) (H:Hp) (args:Args) (us:List Value) (vs:List V) (Q:VK) (E:XK),bU k A->mP P w K mg base A outer s H->BindsTo s fd args (ps.zip us)->Vals vs us->sp vs H Q E ->
  codeAny (model P w) A (.call (.ref f) args) (CR CX outer P w H s Q E) s
theorem dD.imp{P:Program}{w:World}{K:W.Frag}{mg:Str->Option Value}{base:Heap}{CX:gK}{k:Nat}{f:Addr}{fd:FuncData}{ps:List Str}{sp sp':Sp}(F:dD P w K mg base CX k f fd ps sp)
  (h:∀vs H Q E,sp' vs H Q E->sp vs H Q E):dD P w K mg base CX k f fd ps sp':=
 ⟨λvs H Q E q=>F.len vs H Q E (h _ _ _ _ q),λA outer s H args us vs Q E hr he hb hv hs=>F.run A outer s H args us vs Q E hr he hb hv (h _ _ _ _ hs)⟩
theorem mP.make{P:Program}{w:World}{K:W.Frag}{mg:Str->Option Value}{base:Heap}{A:Around}{outer:List Env}{s:Shared}{H:Hp}(e:mP P w K mg base A outer s H)(C:Addr)(us:List Value)(kw:List (Str×Value)) :
 mP P w K mg base (A.under (.builtin "type.__call__" ⟨.ref C::us,kw⟩)) outer s H:=⟨by first|exact e.frames|(simpa[Around.under,Code.envs,Code.isFrame,pushEnvs]using e.frames),e.mod,e.bs,e.gL,e.fG,e.jF,e.aD,e.bare⟩
theorem mP.in1{P:Program}{w:World}{K:W.Frag}{mg:Str->Option Value}{base:Heap}{A:Around}{outer:List Env}{s:Shared}{H:Hp}(e:mP P w K mg base A outer s H) :
 mP P w K mg base A.in1 outer s H:=⟨e.frames,e.mod,e.bs,e.gL,e.fG,e.jF,e.aD,e.bare⟩
section
variable {X:Cx}{pins:List (Addr×Obj)}{U:St}{H:Hp}{s s':Shared}
theorem Inv.gb(I:Inv X pins U H s):mP X.prog X.w X.K X.mg X.base X.A X.stack s H:=
 ⟨I.ok.frames,I.ok.mod,I.bs,Nat.le_trans I.ok.gL I.sz,I.stack,I.yO,I.aD,I.bare⟩
theorem Inv.after{Q:VK}{u:Value}(I:Inv X pins U H s)(h:CE X.stack X.prog X.w H s Q u s'):EP X pins U Q u s':=by obtain⟨v,H',os,bare,un,aD,r,q⟩:=h;obtain⟨hh,g,d,t,os'⟩:=s';obtain rfl:os'=s.os:=os;exact⟨v,H',I.call (h':=hh) (g':=g) (d':=d) (t':=t) (ch:=[]) un aD bare (λb z=>absurd z (by simp)),r,q⟩
end
def Py(sp:Sp)(dvs:List V)(E:XK)(t:TA):TE:=λU H Q=>t U H λvs H1=>sp (vs++dvs) H1 Q E
def Qa(C:Addr)(sp:Sp)(dvs:List V)(E:XK)(t:TA):TE:=λU H Q=>t U H λvs H1=>∀x dx,H1 x=none->H1 dx=none->dx≠x ->
 sp (.ref x::(vs++dvs)) (aG (aG H1 dx (.own x)) x (.ins C dx [])) (λv H2=>v = .aE/\Q (.ref x) H2) E
def Binds(K:W.Frag)(fd:FuncData)(ps:List Str)(ds:List Value):Prop:=
 ∀(s:Shared) (us:List Value),K.In s.heap->(us++ds).length=ps.length->BindsTo s fd ⟨us,[]⟩ (ps.zip (us++ds))
theorem Binds.all{K:W.Frag}{fd:FuncData}{ps:List Str}(h:∀us:List Value,us.length=ps.length->bindArgs fd ⟨us,[]⟩=pure (ps.zip us)):Binds K fd ps []:=λs us _ hl=>by rw[List.append_nil]at hl ⊢;exact .of_eq (h us hl)
def mR(CX:gK)(X:Cx)(E:XK):Prop:=∀(pins:List (Addr×Obj)) (U:St) (H:Hp) (s:Shared) (e:Value) (s':Shared),Inv X pins U H s->CX X.stack H s E e s'->X.xe e s'
section
variable {X:Cx}{CX:gK}{k:Nat}{f C:Addr}{fd:FuncData}{ps:List Str}{sp:Sp}{dvs:List V}{ds:List Value}{E:XK}{x m:Str}{p pos apos:Pos}{e o:Expr}{es:List Expr}{ta:TE}{t:TA}
theorem Cu{pins:List (Addr×Obj)}{U:St}{H:Hp}{s:Shared}{Q:VK}{us:List Value}{vs:List V}(F:dD X.prog X.w X.K X.mg X.base CX k f fd ps sp)(hr:bU k X.A)(hb:Binds X.K fd ps ds)(hd:Vals dvs ds)(hx:mR CX X E)
  (I:Inv X pins U H s) (r:Vals vs us) (h:sp (vs++dvs) H Q E):wpAny (model X.prog X.w) X.A (call (.ref f) us) (EP X pins U Q) X.xe s:=by
 have r2:Vals (vs++dvs) (us++ds):=r.append hd;have hl:(us++ds).length=ps.length:=by rw[<- r2.length];exact F.len _ _ _ _ h
 refine wpAny_call (codeAny_mono (F.run X.A X.stack s H ⟨us,[]⟩ (us++ds) (vs++dvs) Q E hr I.gb (hb s us I.bK hl) r2 h) λr s' hq=>?_);cases r with
 |error e=>exact hx pins U H s e s' I hq|ok fl=>
  cases fl with
  |ret u=>exact I.after hq|next=>exact False.elim hq|brk=>exact False.elim hq|cont=>exact False.elim hq
theorem DX(F:dD X.prog X.w X.K X.mg X.base CX k f fd ps sp)(hr:bU k X.A)(hg:Gl X x)(hm:X.mg x=some (.ref f))(hk:W.keepIn X.K (.ref f)=true)(hb:Binds X.K fd ps ds)(hd:Vals dvs ds)(hx:mR CX X E)
  (ha:PA X (e::es) t) (hdb:(x==("__debug__":Str))=false:=by decide) (he:starEach (e::es) X.env=(false,eval e X.env)::starEach es X.env:=by rfl) (hpl:(backTo pos (starEach es X.env)).any (·.1)=false:=by rfl) :
  PE X (.Call (.Name x p) (e::es) [] pos) (Py sp dvs E t):=by
 intro pins s U H Q I h;refine wpAny_Call_Name_kw (rP I hg hm ?_ hdb);refine W.callWith_K (h₀:=X.base) I.ok.mod.rN hk (aI (ha pos pins s U H _ I h) λus s1 ⟨vs,H1,I1,r,q⟩=>⟨I1.bK,?_⟩) he hpl;exact Cu F hr hb hd hx I1 r q
theorem DY(F:dD X.prog X.w X.K X.mg X.base CX k f fd ps sp)(hr:bU k X.A)(hg:Gl X x)(hm:X.mg x=some (.ref f))(hk:W.keepIn X.K (.ref f)=true)(hb:Binds X.K fd ps ds)(hd:Vals dvs ds)(hx:mR CX X E)
  (hdb:(x==("__debug__":Str))=false:=by decide):PE X (.Call (.Name x p) [] [] pos) (Py sp dvs E pR):=by
 intro pins s U H Q I h;refine wpAny_Call_Name_kw (rP I hg hm ?_ hdb);exact W.callWith_K0 I.bK hk (Cu (us:=[]) F hr hb hd hx I .nil h)
structure Mk(K:W.Frag)(C f:Addr):Prop where
 makes:W.makesIn K C=true
 init:W.findIn K (.ref C) "__init__"=some (some (.ref f))
 fn:W.isFn K (.ref f)=true
 kp:W.keepIn K (.ref C)=true
theorem Pd{pins:List (Addr×Obj)}{U:St}{H:Hp}{s:Shared}{Q:VK}{us:List Value}{vs:List V}(M:Mk X.K C f)(F:dD X.prog X.w X.K X.mg X.base CX k f fd ps sp)(hr:bU (k+1) X.A)(hb:Binds X.K fd ps ds)(hd:Vals dvs ds)
  (hx:mR CX X E) (I:Inv X pins U H s) (r:Vals vs us)
  (h:∀x dx,H x=none->H dx=none->dx≠x->sp (.ref x::(vs++dvs)) (aG (aG H dx (.own x)) x (.ins C dx [])) (λv H2=>v = .aE/\Q (.ref x) H2) E) :
  wpAny (model X.prog X.w) X.A (call (.ref C) us) (EP X pins U Q) X.xe s:=by
 have hq:=h (s.heap.objs.size+1) s.heap.objs.size (I.aD.fresh (Nat.le_succ _)) (I.aD.fresh (Nat.le_refl _)) (Nat.ne_of_lt (Nat.lt_succ_self _));have I2:=Inv.made (C:=C) I;have r2:Vals (V.ref (s.heap.objs.size+1)::(vs++dvs)) (Value.ref (s.heap.objs.size+1)::(us++ds)):=.cons rfl (r.append hd);have hl:(Value.ref (s.heap.objs.size+1)::us++ds).length=ps.length:=by have e:=r2.length;rw[F.len _ _ _ _ hq]at e;exact e.symm
 refine wpAny_call (AK (f:=f) I.bK M.makes M.init (beq_iff_eq.mp M.fn) (codeAny_mono (F.run _ X.stack _ _ ⟨Value.ref (s.heap.objs.size+1)::us,[]⟩ (Value.ref (s.heap.objs.size+1)::(us++ds)) _ _ E (hr.make C us [])
  (I2.gb.make C us []) (hb _ (Value.ref (s.heap.objs.size+1)::us) I2.bK hl) r2 hq) λr s' hq'=>?_))
 cases r with
 |error e=>exact hx pins U _ _ e s' I2 hq'|ok fl=>
  cases fl with
  |ret u=>obtain⟨v,H',I3,rv,ev,q3⟩:=I2.after hq';subst ev;exact⟨rv,⟨V.ref (s.heap.objs.size+1),H',I3,rfl,q3⟩⟩
  |next=>exact False.elim hq'|brk=>exact False.elim hq'|cont=>exact False.elim hq'
theorem EL(M:Mk X.K C f)(F:dD X.prog X.w X.K X.mg X.base CX k f fd ps sp)(hr:bU (k+1) X.A)(hg:Gl X x)(hm:X.mg x=some (.ref C))(hb:Binds X.K fd ps ds)(hd:Vals dvs ds)(hx:mR CX X E)
  (ha:PA X (e::es) t) (hdb:(x==("__debug__":Str))=false:=by decide) (he:starEach (e::es) X.env=(false,eval e X.env)::starEach es X.env:=by rfl) (hpl:(backTo pos (starEach es X.env)).any (·.1)=false:=by rfl) :
  PE X (.Call (.Name x p) (e::es) [] pos) (Qa C sp dvs E t):=by
 intro pins s U H Q I h;refine wpAny_Call_Name_kw (rP I hg hm ?_ hdb);refine W.callWith_K (h₀:=X.base) I.ok.mod.rN M.kp (aI (ha pos pins s U H _ I h) λus s1 ⟨vs,H1,I1,r,q⟩=>⟨I1.bK,?_⟩) he hpl;exact Pd M F hr hb hd hx I1 r q
theorem EM(M:Mk X.K C f)(F:dD X.prog X.w X.K X.mg X.base CX k f fd ps sp)(hr:bU (k+1) X.A)(hg:Gl X x)(hm:X.mg x=some (.ref C))(hb:Binds X.K fd ps ds)(hd:Vals dvs ds)(hx:mR CX X E)
  (hdb:(x==("__debug__":Str))=false:=by decide):PE X (.Call (.Name x p) [] [] pos) (Qa C sp dvs E pR):=by
 intro pins s U H Q I h;refine wpAny_Call_Name_kw (rP I hg hm ?_ hdb);exact W.callWith_K0 I.bK M.kp (Pd (us:=[]) M F hr hb hd hx I .nil h)
end
def PK(X:Cx)(kws:List Keyword)(t:TA):Prop:=
 ∀(pos:Pos) (pins:List (Addr×Obj)) (s:Shared) (U:St) (H:Hp) (Q:List V->Hp->Prop),Inv X pins U H s->t U H Q->wpAny (model X.prog X.w) X.A (evalAll ((backToKw pos (keywordEach kws X.env)).map (·.2))) (AP X pins U Q) X.xe s
section
variable {X:Cx}{CX:gK}{k:Nat}{f C:Addr}{fd:FuncData}{ps ks:List Str}{sp:Sp}{E:XK}{x m:Str}{p pos apos kpos:Pos}{e o:Expr}{es:List Expr}{kws:List Keyword}{te ta:TE}{t tk:TA}{nm:Option Str}
theorem FT:PK X [] pR:=λ_ _ _ _ H Q I h=>wpAny_evalAll_nil ⟨[],H,I,.nil,h⟩
theorem FR(ha:PE X e te)(hr:PK X kws t):PK X (⟨nm,e,kpos⟩::kws) (qh te t):=by intro pos pins s U H Q I h;show wpAny _ _ (evalAll ((do let v <- eval e X.env;standAt pos;pure v)::(backToKw pos (keywordEach kws X.env)).map (·.2))) _ _ s;refine wpAny_evalAll_cons (wpAny_bind (aI (ha pins s U H _ I h) λu s1 ⟨x,H1,I1,r1,q1⟩=>wpAny_bind (wpAny_standAt (wpAny_pure ?_))));exact aI (hr pos pins s1 U H1 _ I1 q1) λus s2 ⟨xs,H2,I2,r2,q2⟩=>⟨x::xs,H2,I2,.cons r1 r2,q2⟩
variable {g:List Value->List Value->List Value}{gV:List V->List V->List V}
end
structure dE(N P:List Str)(sc:Scope):Prop where
 kind:sc.kind = .function
 co:sc.isCoroutine=false
 gen:sc.isGenerator=false
 nd:N.Nodup
 pre:N.take P.length=P
 par:∀x∈P,sc.names.lookup x=some .local\/sc.names.lookup x=some .cell
 BM:∀y∈sc.names,y.2 ≠ .free
theorem Fu{kindOf:Str->Option NameKind}{x:Str}:∀{binds:List (Str×Value)} {m:Str->Option Value},(∀v,(x,v)∉binds)->bindL kindOf binds m x=m x
 |[],_,_=>rfl
 | (n,v)::r,m,h=>by
  unfold bindL;rw[Fu λw hw=>h w (List.mem_cons_of_mem _ hw)];split
  .have:x≠n:=by rintro rfl;exact h v List.mem_cons_self
   simp[this]
  .rfl
theorem Fs{kindOf:Str->Option NameKind}{x:Str}:∀{binds:List (Str×Value)} {m:Str->Option Value},(∀v,(x,v)∉binds)->bindC kindOf binds m x=m x
 |[],_,_=>rfl
 | (n,v)::r,m,h=>by
  unfold bindC;rw[Fs λw hw=>h w (List.mem_cons_of_mem _ hw)];split
  .rfl
  .have:x≠n:=by rintro rfl;exact h v List.mem_cons_self
   simp[this]
theorem Ft{kindOf:Str->Option NameKind}{x:Str}{v:Value}:∀{P:List Str} {vs:List Value} {i:Nat} {m:Str->Option Value},P.Nodup->P[i]?=some x->vs[i]?=some v->kindOf x=some .local ->
  bindL kindOf (P.zip vs) m x=some v
 |[],_,_,_,_,h,_,_=>by simp at h
 |_::_,[],_,_,_,_,h,_=>by simp at h
 |p::P,w::vs,0,m,nd,h1,h2,hk=>by simp at h1 h2;subst h1;subst h2;show bindL kindOf ((p,w)::P.zip vs) m p=_;unfold bindL;rw[Fu λv hv=>(List.nodup_cons.mp nd).1 (List.of_mem_zip hv).1,if_pos hk];simp
 |p::P,w::vs,i+1,m,nd,h1,h2,hk=>by show bindL kindOf ((p,w)::P.zip vs) m x=_;unfold bindL;exact Ft (i:=i) (List.nodup_cons.mp nd).2 (by simpa using h1) (by simpa using h2) hk
theorem Fq{kindOf:Str->Option NameKind}{x:Str}{v:Value}:∀{P:List Str} {vs:List Value} {i:Nat} {m:Str->Option Value},P.Nodup->P[i]?=some x->vs[i]?=some v->kindOf x≠some .local ->
  bindC kindOf (P.zip vs) m x=some v
 |[],_,_,_,_,h,_,_=>by simp at h
 |_::_,[],_,_,_,_,h,_=>by simp at h
 |p::P,w::vs,0,m,nd,h1,h2,hk=>by simp at h1 h2;subst h1;subst h2;show bindC kindOf ((p,w)::P.zip vs) m p=_;unfold bindC;rw[Fs λv hv=>(List.nodup_cons.mp nd).1 (List.of_mem_zip hv).1,if_neg hk];simp
 |p::P,w::vs,i+1,m,nd,h1,h2,hk=>by show bindC kindOf ((p,w)::P.zip vs) m x=_;unfold bindC;exact Fq (i:=i) (List.nodup_cons.mp nd).2 (by simpa using h1) (by simpa using h2) hk
def start(N:List Str)(vs:List V):St:=vs.map some++List.replicate (N.length-vs.length) none
def oK(CX:gK)(P:Program)(w:World)(K:W.Frag)(mg:Str->Option Value)(base:Heap)(N:List Str)(qual:Str)(scope:Scope)(f:Addr)(cd:Value)(A:Around)(outer:List Env)(s:Shared)(H:Hp)(E:XK):Cx where
 prog:=P
 w:=w
 K:=K
 mg:=mg
 base:=base
 A:=A.deeper (envOfC qual scope s.heap.objs.size f cd)
 N:=N
 s₀:=s
 H₀:=H
 env:=envOfC qual scope s.heap.objs.size f cd
 outer:=outer
 stack:=envOfC qual scope s.heap.objs.size f cd::outer
 ex:=[]
 calm:=true
 fn:=λ_=>true
 pn:=[]
 xe:=λe s'=>wpAny (model P w) (A.deeper (envOfC qual scope s.heap.objs.size f cd)) (leaving (envOfC qual scope s.heap.objs.size f cd) e) (λ_ s''=>CX outer H s E e s'') (λe' s''=>CX outer H s E e' s'') s'
theorem Gi{sc:Scope}{n:Nat}{x:Str}(h:sc.names.lookup x=some .cell):∃c,(cellsFrom n sc.names []).lookup x=some c:=by have q:=W.cellsFrom_some sc.names n [] (.inl h);exact Option.isSome_iff_exists.mp q
theorem Yy{CX:gK}{P:Program}{w:World}{K:W.Frag}{mg:Str->Option Value}{base:Heap}{N ps:List Str}{qual:Str}{scope:Scope}{f:Addr}{cd:Value}{A:Around}{outer:List Env}{s s1:Shared}{H:Hp}{E:XK}{us:List Value}{vs:List V}
  (S:dE N ps scope) (hd:A.handled=none) (e0:mP P w K mg base A outer s H) (hl:vs.length=ps.length) (r:Vals vs us)
  (x:InCallC s s.heap.objs.size (bindL (envOfC qual scope s.heap.objs.size f cd).kindOf (ps.zip us) λ_=>none) (cellsFrom (s.heap.objs.size+1) scope.names []) (bindC (envOfC qual scope s.heap.objs.size f cd).kindOf (ps.zip us) λ_=>none) s1) :
  Inv (oK CX P w K mg base N qual scope f cd A outer s H E) [] (start N vs) H s1:=by
 have hpl:ps.length<=N.length:=by have:=congrArg List.length S.pre;rw[List.length_take]at this;omega
 obtain⟨h1,tk,rfl,hk⟩:=x.done;have noA:∀b:Addr,b∉(oK CX P w K mg base N qual scope f cd A outer s H E).ex:=λb z=>absurd (show b∈([]:List Addr) from z) (by simp);refine⟨⟨e0.mod,S.kind,rfl,rfl,Nat.le_refl _,λy z c h1 h2=>?_,λy hy=>?_,λy c _ h=>?_,λ_=>hd,Around.frames_deeper e0.frames,.inr ⟨rfl,rfl⟩,λb z=>absurd z (noA b),e0.bs,e0.gL,λb _ _=>noA b,λb z=>absurd z (noA b),e0.fG,e0.jF⟩,
  rfl,e0.bare,Un.kept hk,⟨_,x.toInCall.ns,λi y v h1 h2 h3=>?_⟩,λy c h=>⟨_,x.cell y c h⟩,e0.aD.fresh (Nat.le_refl _),λy c h=>?_,λp hp=>absurd (show p∈([]:List (Addr×Obj)) from hp) (by simp),e0.aD.kept hk,?_⟩
 .exact name_of_addr x.apart (PySem.mem_of_lookup h1) (PySem.mem_of_lookup h2)
 .have hy:scope.names.lookup y=some .cell\/scope.names.lookup y=some .free:=hy;rcases hy with hy|hy
  .exact Gi hy
  .exact absurd rfl (S.BM _ (PySem.mem_of_lookup hy))
 .exact Nat.le_of_lt (x.above y c (PySem.mem_of_lookup h))
 .have hi:i<vs.length:=by
   unfold start at h2;by_cases hi:i<vs.length
   .exact hi
   .rw[List.getElem?_append_right (by simpa using hi)]at h2;rw[List.getElem?_replicate]at h2;split at h2<;>cases h2
  have ha:vs[i]?=some v:=by
   unfold start at h2;rw[List.getElem?_append_left (by simpa using hi),List.getElem?_map]at h2;cases e:vs[i]? with
   |none=>rw[e]at h2;cases h2|some a=>rw[e]at h2;cases h2;rfl
  obtain⟨u,hu,rv⟩:=r.get ha;have hp:ps[i]?=some y:=by rw[<- S.pre,List.getElem?_take_of_lt (by omega)];exact h1
  have ndP:ps.Nodup:=by rw[<- S.pre];exact S.nd.sublist (List.take_sublist _ _)
  refine⟨u,rv,?_⟩;rcases S.par y (List.mem_of_getElem? hp)with k|k
  .exact .inl ⟨k,Ft ndP hp hu k⟩
  .obtain⟨c,e⟩:=Gi (n:=s.heap.objs.size+1) k;refine .inr ⟨.inl k,c,e,?_⟩;have q:=x.cell y c e;rw[Fq ndP hp hu (by show scope.names.lookup y≠_;rw[k];decide)]at q;exact q
 .exact e0.aD.fresh (Nat.le_of_lt (x.above y c (PySem.mem_of_lookup h)))
 .unfold start;show _=N.length;rw[List.length_append,List.length_map,List.length_replicate];omega
theorem Xj{CX:gK}{P:Program}{w:World}{K:W.Frag}{mg:Str->Option Value}{base:Heap}{k:Nat}{f:Addr}{name qual:Str}{params:Arguments}{body:List Stmt}{scope:Scope}{dV kV doc pm cdv ct oc:Value}{an od:Option Addr}
  {osl:Array (Option Value)} {N ps:List Str} {sp:Sp} (lk:K.lookup f=some ⟨oc,od,.func (W.fnOf name qual params body scope dV kV doc pm an cdv ct),osl⟩) (hcd:W.codeIn K cdv qual=true) (S:dE N ps scope)
  (len:∀vs H Q E,sp vs H Q E->vs.length=ps.length)
  (hbody:∀(A:Around) (outer:List Env) (s:Shared) (H:Hp) (vs:List V) (Q:VK) (E:XK),bU k (A.deeper (envOfC qual scope s.heap.objs.size f cdv))->sp vs H Q E ->
   ∃t,jA (oK CX P w K mg base N qual scope f cdv A outer s H E) body t/\t { nx:=λ_ H'=>Q .aE H',rt:=Q } (start N vs) H) :
  dD P w K mg base CX (k+1) f (W.fnOf name qual params body scope dV kV doc pm an cdv ct) ps sp:=by
 refine⟨len,λA outer s H args us vs Q E hr e0 hb r hsp=>?_⟩;have hl:=len _ _ _ _ hsp;have KX:K.In s.heap:=e0.mod.rN.keeps λb o e=>(e0.bs b o e).1;have lim:s.heap.NoLimit:=e0.mod.nolimit.keeps λb o e=>(e0.bs b o e).1;have hkind:∀y∈ps.zip us,scope.names.lookup y.1=some .local\/(scope.names.lookup y.1=some .cell/\((cellsFrom (s.heap.objs.size+1) scope.names []).lookup y.1).isSome=true):=λ⟨n,v⟩ hy=>by
  rcases S.par n (List.of_mem_zip hy).1 with q|q
  .exact .inl q
  .exact .inr ⟨q,W.cellsFrom_some _ _ _ (.inl q)⟩
 refine codeAny_call_function hr.depth (KX _ _ lk) rfl S.co S.gen rfl (W.codeRec_of KX hcd) (hb _ _ _ _ ?_);refine wpAny_newFunctionEnv_cells S.kind hkind λenv he s1 x=>?_;subst he;refine⟨lim.keeps x.toInCall.keep,codeAny_func ?_⟩;obtain⟨t,ht,hq⟩:=hbody A outer s H vs Q E (hr.deeper _) hsp;have I:Inv (oK CX P w K mg base N qual scope f cdv A outer s H E) [] (start N vs) H s1:=Yy S hr.hd e0 hl r x;refine wpAny_mono (ht [] s1 (start N vs) H _ I hq) (λfl s' hs=>?_) λe s' hs=>hs;have fin:∀{U':St} {H':Hp} {v:V} {u:Value},Inv (oK CX P w K mg base N qual scope f cdv A outer s H E) [] U' H' s'->RelV v u->Q v H'->CE outer P w H s Q u s':=
  λ{U' H' v u} J rv q=>⟨v,H',J.os,J.bare,J.base,J.aD,rv,q⟩
 cases fl with
 |ret u=>obtain⟨v,U',H',J,rv,q⟩:=hs;exact fin J rv q
 |next=>obtain⟨U',H',J,q⟩:=hs;exact fin (v:=V.aE) (u:=Value.none) J rfl q
 |brk=>obtain⟨_,_,_,q⟩:=hs;exact False.elim q
 |cont=>obtain⟨_,_,_,q⟩:=hs;exact False.elim q
section
variable {X:Cx}{x:Str}{p pos:Pos}{e:Expr}{es:List Expr}{t:TA}{id T:String}{r:List V->Hp->VK->Prop}
def Px(r:List V->Hp->VK->Prop)(t:TA):TE:=λU H Q=>t U H λvs H1=>r vs H1 Q
theorem xJ(hc:dM X (.builtin id) r) (hg:Gl X x) (hm:X.mg x=none) (hv:bootBuiltins x=some (.builtin id)) (ha:PA X (e::es) t) (hn:x≠"__name__":=by decide) (hdb:(x==("__debug__":Str))=false:=by decide)
  (he:starEach (e::es) X.env=(false,eval e X.env)::starEach es X.env:=by rfl) (hpl:(backTo pos (starEach es X.env)).any (·.1)=false:=by rfl):PE X (.Call (.Name x p) (e::es) [] pos) (Px r t):=by
 intro pins s U H Q I h;refine wpAny_Call_Name_kw (rO I hg hm hv ?_ hn hdb);exact PyProof.Rows.callWith_builtin1 (aI (ha pos pins s U H _ I h) λus s1 ⟨vs,H1,I1,r1,q1⟩=>hc pins s1 U H1 vs us Q I1 r1 q1) he hpl
theorem EA(hc:dM X (.type T) r) (hg:Gl X x) (hm:X.mg x=none) (hv:bootBuiltins x=some (.type T)) (ha:PA X (e::es) t) (hn:x≠"__name__":=by decide) (hdb:(x==("__debug__":Str))=false:=by decide)
  (he:starEach (e::es) X.env=(false,eval e X.env)::starEach es X.env:=by rfl) (hpl:(backTo pos (starEach es X.env)).any (·.1)=false:=by rfl):PE X (.Call (.Name x p) (e::es) [] pos) (Px r t):=by
 intro pins s U H Q I h;refine wpAny_Call_Name_kw (rO I hg hm hv ?_ hn hdb);exact PyProof.Rows.callWith_type1 (aI (ha pos pins s U H _ I h) λus s1 ⟨vs,H1,I1,r1,q1⟩=>hc pins s1 U H1 vs us Q I1 r1 q1) he hpl
end
end L2
namespace HT
open PySem PyProof.Rows
section
open PySem.SeqAt
open PySem.AutoSeq1 (wpAny_loadPart')
open PySem.MeetsSeq PySem.MeetsSeq2 PySem.MeetsSeq3
end
section
variable {prog:Program}{w:World}{A:Around}{E:Value->Shared->Prop}{s:Shared}
theorem To{t b:Addr}{vs ws:List Value}{Q:Value->Shared->Prop}(ht:IsTup s.heap t vs.toArray)(hb:IsTup s.heap b ws.toArray)(hv:vs≠[])
  (h1:ws=[]->Q (.ref t) s) (h2:ws≠[]->Q (.ref s.heap.objs.size) { s with heap:=s.heap.push { cls:=.type "tuple",data:=.seq (vs++ws).toArray } })
  (hsz:vs.length+ws.length<=sizeLine):wpAny (model prog w) A (binaryOp .Add (.ref t) (.ref b)) Q E s:=by
 obtain⟨⟨cls,dd,data,sl⟩,ho,hc,n,hd⟩:=id ht;obtain⟨⟨cls2,dd2,data2,sl2⟩,ho2,hc2,n2,hd2⟩:=id hb;simp only at hc hd hc2 hd2;subst hc hd hc2 hd2;have e:vs.toArray++ws.toArray=(vs++ws).toArray:=by simp
 by_cases hw:ws=[]
 .exact concat_meets ⟨_,ho,rfl⟩ ⟨_,ho2,rfl⟩ noFill_tuple_add seq_tuple_add PySem.F.slot_tuple_add PySem.F.entry_tuple_add (PySem.F.args_tuple_add_2 _ _)
   (tuple_addW1 t b vs.toArray ws.toArray n n2 dd dd2 sl sl2 (by simpa using hv) (by simp[hw])) ⟨ho,ho2,h1 hw⟩
 .refine concat_meets ⟨_,ho,rfl⟩ ⟨_,ho2,rfl⟩ noFill_tuple_add seq_tuple_add PySem.F.slot_tuple_add PySem.F.entry_tuple_add (PySem.F.args_tuple_add_2 _ _)
   (tuple_addW2 t b vs.toArray ws.toArray n n2 dd dd2 sl sl2 (by simpa using hv) (by simpa using hw) (by rw[List.size_toArray,List.size_toArray];exact hsz)) ⟨ho,ho2,?_⟩
  rw[e];exact h2 hw
def aT(n d:Nat):Option Int->Nat
 |none=>d
 |some v=>if v<0 then(v+(n:Int)).toNat else min v.toNat n
theorem NM(n d k:Nat):aT n d (some (k:Int))=min k n:=by show(if(k:Int)<0 then((k:Int)+(n:Int)).toNat else min (k:Int).toNat n)=min k n;rw[if_neg (by omega),Int.toNat_natCast]
theorem NL(n d:Nat)(hd:d<=n)(o:Option Int):aT n d o<=n:=by
 cases o with
 |none=>exact hd|some v=>
  show(if v<0 then(v+(n:Int)).toNat else min v.toNat n)<=n;by_cases hv:v<0
  .rw[if_pos hv];omega
  .rw[if_neg hv];exact Nat.min_le_right _ _
theorem Gp(v:Int)(n d:Nat):(if v<0 then max (v+(n:Int)) 0 else min v (n:Int))=((aT n d (some v):Nat):Int):=by
 show(if v<0 then max (v+(n:Int)) 0 else min v (n:Int))=(((if v<0 then(v+(n:Int)).toNat else min v.toNat n):Nat):Int);by_cases hv:v<0
 .simp only[if_pos hv];omega
 .simp only[if_neg hv];omega
theorem Rv(lo hi:Option Int)(n:Nat):Builtin.Slice.sliceAdjust lo hi 1 (n:Int)=(((aT n 0 lo:Nat):Int),((aT n n hi:Nat):Int)):=by
 have h1:¬((1:Int)<0):=by omega
 unfold Builtin.Slice.sliceAdjust;simp only[h1,if_false];refine Prod.ext ?_ ?_
 .cases lo with
  |none=>rfl|some v=>exact Gp v n 0
 .cases hi with
  |none=>rfl|some v=>exact Gp v n n
theorem FV(i j:Nat):Builtin.Slice.slicePlaces (i:Int) (j:Int) 1=j-i:=by
 unfold Builtin.Slice.slicePlaces;have h1:(1:Int) > 0:=by omega
 simp only[h1,if_true,Int.ediv_one];split<;>omega
theorem Pl{v:Value}{o:Option Int}{Q:Option Int->Shared->Prop}(p:IsPart v o)(h:Q o s):wpAny (model prog w) A (Builtin.Slice.slicePartIndex v) Q E s:=by
 cases p with
 |none=>exact slicePart_none h|int i t=>exact slicePart_int h
theorem OR{sl:Addr}{vl vu:Value}{lo hi:Option Int}{n:Nat}{Q:Int×Int×Nat->Shared->Prop}(hs:s.heap.IsSliceOf sl vl vu .none)(pl:IsPart vl lo)(pu:IsPart vu hi)
  (h:Q (((aT n 0 lo:Nat):Int),1,aT n n hi-aT n 0 lo) s):wpAny (model prog w) A (Builtin.Slice.sliceApplied (.ref sl) (pure (n:Int))) Q E s:=by
 obtain⟨os,hos,hcs,hds⟩:=id hs;unfold Builtin.Slice.sliceApplied Builtin.Slice.sliceFields;refine wpAny_bind (wpAny_bind (wpAny_field hos hds (x:=vl) rfl (wpAny_bind (wpAny_field hos hds (x:=vu) rfl (wpAny_bind (wpAny_field hos hds (x:=.none) rfl (wpAny_pure ?_)))))));refine wpAny_bind (slicePart_none ?_);show wpAny _ _ (if((1:Int)==0)=true then _ else _) _ _ s;rw[if_neg (by decide)];refine wpAny_bind (Pl pl (wpAny_bind (Pl pu (wpAny_bind (wpAny_pure ?_)))));show wpAny _ _ (match Builtin.Slice.sliceAdjust lo hi 1 (n:Int)with|(lo,hi)=>pure (lo,(1:Int),Builtin.Slice.slicePlaces lo hi 1)) _ _ s;rw[Rv lo hi n];show wpAny _ _ (pure (((aT n 0 lo:Nat):Int),(1:Int),Builtin.Slice.slicePlaces ((aT n 0 lo:Nat):Int) ((aT n n hi:Nat):Int) 1)) _ _ s;rw[FV];exact wpAny_pure h
theorem FL(xs:Array Value)(i k:Nat):((List.range k).filterMap λ(m:Nat)=>xs[((i:Int)+(m:Int)*1).toNat]?).toArray=((xs.toList.drop i).take k).toArray:=by
 have e:(λ(m:Nat)=>xs[((i:Int)+(m:Int)*1).toNat]?)=λm=>xs[i+m]?:=by
  funext m
  have:((i:Int)+(m:Int)*1).toNat=i+m:=by omega
  rw[this]
 rw[e];have:=pick_run xs i k;rw[List.filterMap_map]at this;have e2:((λx=>xs[x]?) ∘ λx=>i+x)=λm=>xs[i+m]?:=rfl;rw[e2]at this;rw[this]
theorem Xv{t sl:Addr}{items:Array Value}{vl vu:Value}{lo hi:Option Int}{Q:Value->Shared->Prop}(ht:IsTup s.heap t items)(hs:s.heap.IsSliceOf sl vl vu .none)(pl:IsPart vl lo)(pu:IsPart vu hi)
  (hw:¬(aT items.size 0 lo=0/\aT items.size items.size hi=items.size))
  (h:Q (.ref s.heap.objs.size) { s with heap:=s.heap.push { cls:=.type "tuple",data:=.seq ((items.toList.drop (aT items.size 0 lo)).take (aT items.size items.size hi-aT items.size 0 lo)).toArray } })
  (hsz:items.size<=sizeLine):wpAny (model prog w) A (getItem (.ref t) (.ref sl)) Q E s:=by
 have htake:sizeOk (.seq ((items.toList.drop (aT items.size 0 lo)).take (aT items.size items.size hi-aT items.size 0 lo)).toArray):=by show((items.toList.drop (aT items.size 0 lo)).take (aT items.size items.size hi-aT items.size 0 lo)).toArray.size<=sizeLine;rw[List.size_toArray,List.length_take,List.length_drop,Array.length_toList];omega
 have hj:aT items.size items.size hi<=items.size:=NL _ _ (Nat.le_refl _) hi;obtain⟨os,hos,hcs,hds⟩:=id hs;have hTs:s.TypeIs (.ref sl) "slice":=⟨os,hos,hcs⟩;unfold getItem;try with_reducible refine wpAny_holding ?_
 first|refine wpAny_bind (wpAny_pure ?_)|skip
 refine wpAny_bind (wpAny_sequenceKey ht.typeIs (by decide) ?_);refine wpAny_bind (wpAny_callSpecial?_slot (name:=Str.ofString "__getitem__") ht.typeIs PyProof.Rows.slot_tuple_getitem
  (wpAny_call_entry PyProof.Rows.slot_tuple_getitem ht.typeIs entry_tuple_getitem ?_ (args_tuple_getitem _ _)))
 show wpAny _ _ (Builtin.Tuple.tupleItemsOf (.ref t)>>=_) _ _ s;refine wpAny_bind (tupleItemsOf_ ht ?_);refine wpAny_bind (wpAny_typeOf hTs ?_);rw[if_pos (by decide)];refine wpAny_bind (OR hs pl pu ?_);have hno:¬((((aT items.size 0 lo:Nat):Int)==0&&(1:Int)==1&&(aT items.size items.size hi-aT items.size 0 lo)==items.size)=true):=by intro q;rw[Bool.and_eq_true,Bool.and_eq_true]at q;have q1:((aT items.size 0 lo:Nat):Int)=0:=eq_of_beq q.1.1;have q2:aT items.size items.size hi-aT items.size 0 lo=items.size:=eq_of_beq q.2;exact hw ⟨by omega,by omega⟩
 show wpAny _ _ (if(((aT items.size 0 lo:Nat):Int)==0&&(1:Int)==1&&(aT items.size items.size hi-aT items.size 0 lo)==items.size)=true then _ else _) _ _ s;rw[if_neg hno,FL];first
  |exact wpAny_bind (m:=Builtin.Tuple.tupleExact _) (wpAny_newObj_type (wpAny_pure ⟨_,rfl,wpAny_pure h⟩) htake)|exact wpAny_bind (m:=Builtin.Tuple.tupleExact _) (wpAny_newObj_type (wpAny_bind (wpAny_pure (wpAny_pure ⟨_,rfl,wpAny_pure h⟩))) htake)|exact wpAny_bind (wpAny_bind (m:=Builtin.Tuple.tupleExact _) (wpAny_newObj_type (wpAny_pure (wpAny_pure ⟨_,rfl,wpAny_pure h⟩)) htake))|exact wpAny_bind (wpAny_bind (m:=Builtin.Tuple.tupleExact _) (wpAny_newObj_type (wpAny_pure ⟨_,rfl,wpAny_pure h⟩) htake))
end
end HT
namespace L2
open PySem PySem.Spec PyProof.Rows
abbrev TO:=St->Hp->(Option Int->Hp->Prop)->Prop
def PO(X:Cx)(e:Option Expr)(t:TO):Prop:=
 ∀(pins:List (Addr×Obj)) (s:Shared) (U:St) (H:Hp) (Q:Option Int->Hp->Prop),Inv X pins U H s->t U H Q ->
  wpAny (model X.prog X.w) X.A (evalPart e X.env) (λu s'=>∃o H',Inv X pins U H' s'/\IsPart u o/\Q o H') X.xe s
def QX:TO:=λ_ H Q=>Q none H
def RD(t:TE):TO:=λU H Q=>t U H λx H1=>∃i,x = .int i/\Q (some i) H1
section
variable {X:Cx}{e:Expr}{te:TE}{lo hi:Option Expr}{tl th:TO}{pos p2:Pos}
theorem FX:PO X none QX:=by intro pins s U H Q I h;rw[evalPart_none];exact wpAny_pure ⟨none,H,I,.none,h⟩
theorem FY(h:PE X e te):PO X (some e) (RD te):=by intro pins s U H Q I hw;rw[evalPart_some];refine aI (h pins s U H _ I hw) λu s1 ⟨x,H1,I1,r1,q1⟩=>?_;obtain⟨i,rfl,q⟩:=q1;obtain⟨t,rfl⟩:=r1;exact⟨some i,H1,I1,.int i t,q⟩
def uA(X:Cx)(r:V->Option Int->Option Int->Hp->VK->Prop):Prop:=
 ∀(pins:List (Addr×Obj)) (s:Shared) (U:St) (H:Hp) (x:V) (v vl vu:Value) (lo hi:Option Int) (sl:Addr) (Q:VK),Inv X pins U H s->RelV x v->s.heap.IsSliceOf sl vl vu .none->IsPart vl lo->IsPart vu hi->r x lo hi H Q ->
  ∃T id,typeLookup (.type T) "__getitem__"=pure (some (.builtin id))/\s.TypeIs v T/\wpAny (model X.prog X.w) X.A (getItem v (.ref sl)) (EP X pins U Q) X.xe s
theorem uA.or{r r':V->Option Int->Option Int->Hp->VK->Prop}(h:uA X r)(h':uA X r'):uA X (λx lo hi H Q=>r x lo hi H Q\/r' x lo hi H Q):=by
 intro pins s U H x v vl vu lo hi sl Q I rx hs pl pu q;rcases q with q|q
 .exact h pins s U H x v vl vu lo hi sl Q I rx hs pl pu q
 .exact h' pins s U H x v vl vu lo hi sl Q I rx hs pl pu q
def RG(r:V->Option Int->Option Int->Hp->VK->Prop)(te:TE)(tl th:TO):TE:=λU H Q=>te U H λx H1=>tl U H1 λl H2=>th U H2 λu H3=>r x l u H3 Q
theorem ET{r:V->Option Int->Option Int->Hp->VK->Prop}(hr:uA X r)(he:PE X e te)(hl:PO X lo tl)(hu:PO X hi th):PE X (.Subscript e (.Slice lo hi none p2) pos) (RG r te tl th):=by intro pins s U H Q I h;refine Subscript_ (aI (he pins s U H _ I h) λv s1 ⟨x,H1,I1,r1,q1⟩=>?_);refine wpAny_Slice (aI (hl pins s1 U H1 _ I1 q1) λvl s2 ⟨l,H2,I2,pl,q2⟩=>aI (hu pins s2 U H2 _ I2 q2) λvu s3 ⟨u,H3,I3,pu,q3⟩=>?_);rw[evalPart_none];refine wpAny_pure ?_;have I4:Inv X pins U H3 { s3 with heap:=s3.heap.push { cls:=.type "slice",data:=.fields #[vl,vu,.none] } }:=I3.kept (t':=s3.toks) λb ob q=>Heap.get?_push_of_some _ q;obtain⟨T,id,hT,ht,hg⟩:=hr pins { s3 with heap:=s3.heap.push { cls:=.type "slice",data:=.fields #[vl,vu,.none] } } U H3 x v vl vu l u s3.heap.objs.size Q I4 r1 (Heap.IsSliceOf.new ..) pl pu q3;show wpAny (model X.prog X.w) X.A (subscriptTail e (.Slice lo hi none p2) v (.ref s3.heap.objs.size)) (EP X pins U Q) X.xe { s3 with heap:=s3.heap.push { cls:=.type "slice",data:=.fields #[vl,vu,.none] } };exact tail_any (ops:=[.ref s3.heap.objs.size,v]) ht hT hg (by with_unfolding_all rfl)
def qF(xs:List V)(lo hi:Option Int):List V:=(xs.drop (HT.aT xs.length 0 lo)).take (HT.aT xs.length xs.length hi-HT.aT xs.length 0 lo)
theorem Hb(xs:List V)(lo hi:Option Int):(qF xs lo hi).length<=xs.length:=by unfold qF;rw[List.length_take,List.length_drop];omega
def MR(K:W.Frag):V->Option Int->Option Int->Hp->VK->Prop:=λx lo hi H Q=>∃a xs,x = .ref a/\bV K H a xs /\
 ¬(HT.aT xs.length 0 lo=0/\HT.aT xs.length xs.length hi=xs.length)/\∀p,H p=none->Q (.ref p) (aG H p (.tup (qF xs lo hi)))
theorem OQ:uA X (MR X.K):=by
 intro pins s U H x v vl vu lo hi sl Q I rx hs pl pu h;obtain⟨a,xs,rfl,hx,hw,q⟩:=h;cases rx;obtain⟨its,r,ht,hz⟩:=I.tuple hx;have hlen:its.toArray.size=xs.length:=by rw[List.size_toArray];exact r.length.symm
 refine⟨"tuple",_,PyProof.Rows.slot_tuple_getitem.lookup,ht.typeIs,?_⟩;refine HT.Xv ht hs pl pu (by rw[hlen];exact hw) ?_ (by rw[hlen];exact hz);rw[hlen];refine⟨.ref s.heap.objs.size,_,I.laid (t':=s.toks) (o:=.tup (qF xs lo hi)) (λb ob q=>Heap.get?_push_of_some _ q) (Nat.le_refl _) ?_,rfl,q _ (I.aD.fresh (Nat.le_refl _))⟩;exact⟨Nat.le_trans (Hb xs lo hi) hz,_,(r.drop (HT.aT xs.length 0 lo)).take (HT.aT xs.length xs.length hi-HT.aT xs.length 0 lo),IsTup.new _ _⟩
def MI(K:W.Frag):R2:=λx y H Q=>∃a b xs ys,x = .ref a/\y = .ref b/\bV K H a xs/\bV K H b ys/\xs≠[]/\xs.length+ys.length<=sizeLine /\
 (ys=[]->Q (.ref a) H)/\(ys≠[]->∀p,H p=none->Q (.ref p) (aG H p (.tup (xs++ys))))
theorem Vals.xa{xs:List V}{us:List Value}(r:Vals xs us):us=[]↔xs=[]:=by
 cases r with
 |nil=>simp|cons _ _=>simp
theorem BV:bE X (binaryOp .Add) (MI X.K):=by intro pins s U H x y v u Q I rx ry h;obtain⟨a,b,xs,ys,rfl,rfl,ha,hb,hx,hz,q1,q2⟩:=h;cases rx;cases ry;obtain⟨its,r1,p1,_⟩:=I.tuple ha;obtain⟨its2,r2,p2,_⟩:=I.tuple hb;refine HT.To p1 p2 (λz=>hx (r1.xa.mp z)) (λz=>⟨.ref a,H,I,rfl,q1 (r2.xa.mp z)⟩) (λz=>?_) (by rw[<- r1.length,<- r2.length];exact hz);refine⟨.ref s.heap.objs.size,_,I.laid (t':=s.toks) (o:=.tup (xs++ys)) (λb ob q=>Heap.get?_push_of_some _ q) (Nat.le_refl _) ?_,rfl,q2 (λw=>z (r2.xa.mpr w)) _ (I.aD.fresh (Nat.le_refl _))⟩;exact⟨by rw[List.length_append];exact hz,_,r1.append r2,IsTup.new _ _⟩
end
def jI(n:Nat)(i:Int):Option Nat:=if 0<=i then(if i<n then some i.toNat else none) else if -(n:Int)<=i then some (i+n).toNat else none
def dF{α:Type}(xs:List α)(i:Int):Option α:=(jI xs.length i).bind λj=>xs[j]?
theorem Js{n:Nat}{i:Int}{j:Nat}(h:jI n i=some j):seqIndex? i n=some j/\j<n/\-(n:Int)<=i/\i<n:=by
 unfold jI at h;by_cases h0:0<=i
 .rw[if_pos h0]at h;by_cases h1:i<n
  .rw[if_pos h1]at h;have e:i.toNat=j:=Option.some.inj h;exact⟨by rw[seqIndex_of h0 h1,e],by omega,by omega,h1⟩
  .rw[if_neg h1]at h;cases h
 .rw[if_neg h0]at h;by_cases h1:-(n:Int)<=i
  .rw[if_pos h1]at h;have e:(i+n).toNat=j:=Option.some.inj h;exact⟨by rw[seqIndex_neg (by omega) h1,e],by omega,h1,by omega⟩
  .rw[if_neg h1]at h;cases h
theorem sv{α:Type}{xs:List α}{i:Int}{v:α}(h:dF xs i=some v):∃j,seqIndex? i xs.length=some j/\xs[j]?=some v/\j<xs.length/\-(xs.length:Int)<=i/\i<xs.length:=by
 unfold dF at h;cases e:jI xs.length i with
 |none=>rw[e]at h;cases h|some j=>rw[e]at h;obtain⟨h1,h2,h3,h4⟩:=Js e;exact⟨j,h1,h,h2,h3,h4⟩
theorem Eo{α:Type}{xs:List α}{j:Nat}{v:α}(h:xs[j]?=some v):dF xs (j:Int)=some v:=by
 have hj:j<xs.length:=(List.getElem?_eq_some_iff.mp h).1;have e:jI xs.length (j:Int)=some j:=by unfold jI;rw[if_pos (by omega),if_pos (by omega)];simp
 unfold dF;rw[e];exact h
def sj(b:Expr):Prop:=∀o i,subscripted b false o i=operate [o,i] (getItem o i)
def kN(X:Cx)(r:R2):Prop:=
 ∀(value slice:Expr) (pins:List (Addr×Obj)) (s:Shared) (U:St) (H:Hp) (x y:V) (v u:Value) (Q:VK),Inv X pins U H s->RelV x v->RelV y u->r x y H Q ->
  subscripted slice false v u=operate [v,u] (getItem v u)->wpAny (model X.prog X.w) X.A (subscriptTail value slice v u) (EP X pins U Q) X.xe s
def Ec(X:Cx)(id:String)(r:V->List V->Hp->VK->Prop):Prop:=
 ∀(pins:List (Addr×Obj)) (s:Shared) (U:St) (H:Hp) (x:V) (xs:List V) (v:Value) (us:List Value) (Q:VK),Inv X pins U H s->RelV x v->Vals xs us->r x xs H Q ->
  wpAny (model X.prog X.w) X.A (call (.builtin id) (v::us)) (EP X pins U Q) X.xe s
section
variable {X:Cx}{a b:Expr}{ta tb:TE}{pos:Pos}
theorem kN.or{r r':R2}(h:kN X r)(h':kN X r'):kN X (λx y H Q=>r x y H Q\/r' x y H Q):=by
 intro value slice pins s U H x y v u Q I rx ry q hs;rcases q with q|q
 .exact h value slice pins s U H x y v u Q I rx ry q hs
 .exact h' value slice pins s U H x y v u Q I rx ry q hs
theorem EJ{r:R2}(hr:kN X r)(ha:PE X a ta)(hb:PE X b tb)(hs:sj b):PE X (.Subscript a b pos) (qj r ta tb):=by intro pins s U H Q I h;exact Subscript_ (sx ha hb I h λv u s2 x y H2 I2 rx ry q=>hr a b pins s2 U H2 x y v u Q I2 rx ry q (hs _ _))
def Oh(K:W.Frag):R2:=λx y H Q=>∃p xs i v,x = .ref p/\y = .int i/\bG K H p xs/\dF xs i=some v/\Q v H
def Oj(K:W.Frag):R2:=λx y H Q=>∃p xs i v,x = .ref p/\y = .int i/\bV K H p xs/\dF xs i=some v/\Q v H
def Oi:R2:=λx y H Q=>∃z i c,x = .str z/\y = .int i/\z.length<=sizeLine/\dF z.cps.toList i=some c/\Q (.str ⟨#[c]⟩) H
theorem Zf:kN X (Oh X.K):=by
 intro value slice pins s U H x y v u Q I rx ry h hs;obtain⟨p,xs,i,z,rfl,rfl,hq,he,q⟩:=h;cases rx;obtain⟨t,rfl⟩:=ry;obtain⟨its,r,pl,hz⟩:=I.list hq;obtain⟨j,h1,h2,h3,h4,h5⟩:=sv he;obtain⟨w,ew,rw'⟩:=r.get h2;have hl:=r.length;have hn:=uX;have fin:EP X pins U Q w s:=⟨z,H,I,rw',q⟩;by_cases h0:0<=i
 .have hj:i.toNat=j:=by rw[seqIndex_of h0 h5]at h1;exact Option.some.inj h1
  exact item_listR pl.isList h0 (by omega) (by rw[hj];simpa using ew) fin hs
 .have hj:(i+(its.toArray.size:Int)).toNat=j:=by rw[seqIndex_neg (by omega) h4]at h1;rw[List.size_toArray,<- hl];exact Option.some.inj h1
  exact subscriptTail_builtinR (x:=w) pl.isList.typeIs slot_list_getitem.lookup
   (wpAny_getItem_list_neg (Q:=λr s'=>r=w/\EP X pins U Q r s') pl.isList (by omega) (by rw[List.size_toArray]<;>omega) (by omega) (by rw[hj];simpa using ew) ⟨rfl,fin⟩) hs
theorem Zi:kN X (Oj X.K):=by
 intro value slice pins s U H x y v u Q I rx ry h hs;obtain⟨p,xs,i,z,rfl,rfl,hq,he,q⟩:=h;cases rx;obtain⟨t,rfl⟩:=ry;obtain⟨its,r,pl,hz⟩:=I.tuple hq;obtain⟨j,h1,h2,h3,h4,h5⟩:=sv he;obtain⟨w,ew,rw'⟩:=r.get h2;have hl:=r.length;have hn:=uX;have fin:EP X pins U Q w s:=⟨z,H,I,rw',q⟩;exact subscriptTail_builtinR (x:=w) pl.typeIs slot_tuple_getitem.lookup
  (getItem_tuple (j:=j) (Q:=λr s'=>r=w/\EP X pins U Q r s') pl (by omega) (by omega) (by rw[List.size_toArray,<- hl];exact h1) (by simpa using ew) ⟨rfl,fin⟩) hs
theorem Zh:kN X Oi:=by
 intro value slice pins s U H x y v u Q I rx ry h hs;obtain⟨z,i,c,rfl,rfl,hz,he,q⟩:=h;obtain⟨t,rfl⟩:=rx;obtain⟨t',rfl⟩:=ry;obtain⟨j,h1,h2,h3,h4,h5⟩:=sv he;have hl:z.cps.toList.length=z.length:=by simp[Str.length]
 rw[hl]at h1 h4 h5;have hn:=uX;exact tail_any (typeIs_str s z t) slot_str_getitem.lookup (getItem_str (c:=c) (by
  have e1:decide (i < -(2 ^ 63:Int))=false:=decide_eq_false (by omega);have e2:decide (i ≥ 2 ^ 63)=false:=decide_eq_false (by omega);rw[e1,e2,Bool.or_false]) (by rw[h1];simpa using h2) ⟨.str ⟨#[c]⟩,H,I.tok _,⟨_,rfl⟩,q⟩) hs
def Cm(K:W.Frag):R2:=λx y H Q=>Oh K x y H Q\/Oj K x y H Q\/Oi x y H Q
theorem Zg:kN X (Cm X.K):=Zf.or (Zi.or Zh)
theorem AN(its:List Value)(n j:Nat)(u:Value):Obj.mapSeq (·.setIfInBounds j u) { cls:=.type "list",data:=.seq its.toArray n }={ cls:=.type "list",data:=.seq (its.set j u).toArray n }:=by simp[Obj.mapSeq]
theorem Inv.lst{pins:List (Addr×Obj)}{U:St}{H:Hp}{s:Shared}{p:Addr}{xs:List V}(I:Inv X pins U H s)(h:H p=some (.lst xs)) :
  ∃(its:List Value) (n:Nat),Vals xs its/\s.heap.get? p=some { cls:=.type "list",data:=.seq its.toArray n }/\xs.length<=sizeLine:=by
 obtain⟨z,its,n,r,e⟩:=I.aD p _ h;exact⟨its,n,r,e,z⟩
theorem Inv.AI{pins:List (Addr×Obj)}{U:St}{H:Hp}{s:Shared}{p:Addr}{xs ys:List V}{its its':List Value}{n n':Nat}{f:Obj->Obj}(I:Inv X pins U H s)(h:H p=some (.lst xs))
  (ho:s.heap.get? p=some { cls:=.type "list",data:=.seq its.toArray n }) (hf:f { cls:=.type "list",data:=.seq its.toArray n }={ cls:=.type "list",data:=.seq its'.toArray n' }) (r:Vals ys its') (hz:ys.length<=sizeLine) (t:Nat) :
  Inv X pins U (aG H p (.lst ys)) { s with heap:=s.heap.update p f,toks:=t }:=by
 have e:(s.heap.update p f).get? p=some { cls:=.type "list",data:=.seq its'.toArray n' }:=by rw[Heap.get?_update_self f ho (by rw[hf]<;>rfl),hf]
 refine I.write (x:=p) (e:=p) (by rw[h];trivial) (.inl rfl) (λb u hb q=>(Heap.get?_update_other _ _ (Ne.symm hb)).trans q) ⟨_,e⟩ ?_;exact⟨hz,its',n',r,e⟩
def Ol:V->V->V->Hp->(Hp->Prop)->Prop:=λo i v H Q=>∃p xs k j,o = .ref p/\i = .int k/\H p=some (.lst xs)/\jI xs.length k=some j/\Q (aG H p (.lst (xs.set j v)))
theorem OM:si X Ol:=by
 intro pins s U H o i v ov iv u Q I ro ri rv h;obtain⟨p,xs,k,j,rfl,rfl,hp,hj,q⟩:=h;cases ro;obtain⟨t,rfl⟩:=ri;obtain⟨its,n,r,ho,hz⟩:=I.lst hp;obtain⟨h1,h2,h3,h4⟩:=Js hj;have hl:=r.length;have hn:=uX;have I':Inv X pins U (aG H p (.lst (xs.set j v))) { s with heap:=s.heap.update p (Obj.mapSeq (·.setIfInBounds j u)) }:=
  I.AI hp ho (AN its n j u) (r.set rv j) (by rw[List.length_set];exact hz) s.toks
 by_cases h0:0<=k
 .have hk:k.toNat=j:=by rw[seqIndex_of h0 h4]at h1;exact Option.some.inj h1
  exact W.ki_setAt ho h0 (by omega) (by rw[List.size_toArray,<- hl];exact h4) (by rw[hk];exact⟨_,I',q⟩)
 .have hk:(k+(its.toArray.size:Int)).toNat=j:=by rw[seqIndex_neg (by omega) h3]at h1;rw[List.size_toArray,<- hl];exact Option.some.inj h1
  exact W.ki_setBack ho (by omega) (by rw[List.size_toArray,<- hl];exact h3) (by omega) (by rw[hk];exact⟨_,I',q⟩)
theorem OT(lo hi:Option Int)(n:Nat):(sliceBounds lo hi none n).1=((HT.aT n 0 lo:Nat):Int)/\(sliceBounds lo hi none n).2.1=((HT.aT n n hi:Nat):Int)/\(sliceBounds lo hi none n).2.2=1:=by
 refine⟨?_,?_,rfl⟩
 .cases lo with
  |none=>simp[sliceBounds,HT.aT]|some i=>
   simp only[sliceBounds,HT.aT,Option.getD_none,show(1:Int) > 0 by decide,if_true];by_cases h:i<0
   .simp only[h,if_true]<;>omega
   .simp only[h,if_false]<;>omega
 .cases hi with
  |none=>simp[sliceBounds,HT.aT]|some i=>
   simp only[sliceBounds,HT.aT,Option.getD_none,show(1:Int) > 0 by decide,if_true];by_cases h:i<0
   .simp only[h,if_true]<;>omega
   .simp only[h,if_false]<;>omega
theorem OS(its:List Value)(lo hi:Option Int):slicePick its.toArray lo hi none=((its.drop (HT.aT its.length 0 lo)).take (HT.aT its.length its.length hi-HT.aT its.length 0 lo)).toArray:=by obtain⟨h1,h2,h3⟩:=OT lo hi its.toArray.size;unfold slicePick;rw[h1,h2,h3];simp only[sliceRange_one,pick_run,List.size_toArray]<;>rfl
def MQ(K:W.Frag):V->Option Int->Option Int->Hp->VK->Prop:=λx lo hi H Q=>∃a xs,x = .ref a/\bG K H a xs/\∀p,H p=none->Q (.ref p) (aG H p (.lst (qF xs lo hi)))
theorem OP:uA X (MQ X.K):=by intro pins s U H x v vl vu lo hi sl Q I rx hs pl pu h;obtain⟨a,xs,rfl,hx,q⟩:=h;cases rx;obtain⟨its,r,ht,hz⟩:=I.list hx;have hlen:=r.length;refine⟨"list",_,slot_list_getitem.lookup,ht.isList.typeIs,?_⟩;refine wpAny_getItem_list_slice ht.isList hs pl pu .none (by simp) ?_ (by rw[List.size_toArray]<;>omega);rw[OS,<- hlen];refine⟨.ref s.heap.objs.size,_,I.laid (t':=s.toks) (o:=.lst (qF xs lo hi)) (λb ob q=>Heap.get?_push_of_some _ q) (Nat.le_refl _) ?_,rfl,q _ (I.aD.fresh (Nat.le_refl _))⟩;exact⟨Nat.le_trans (Hb xs lo hi) hz,_,0,(r.drop (HT.aT xs.length 0 lo)).take (HT.aT xs.length xs.length hi-HT.aT xs.length 0 lo),Heap.get?_push_size _ rfl⟩
def mT:V->Bool
 |.aE=>true
 |.bl _=>true
 |.int _=>true
 |.str _=>true
 |_=>false
def oP:V->V->Bool
 |.aE,.aE=>true
 |.bl a,.bl b=>a==b
 |.bl a,.int b=>(if a then 1 else 0)==b
 |.int a,.bl b=>a==(if b then 1 else 0)
 |.int a,.int b=>a==b
 |.str a,.str b=>a==b
 |_,_=>false
theorem Wc{A:Around}{s:Shared}{y x:V}{u v:Value}(ry:RelV y u)(rx:RelV x v)(fy:mT y=true)(fx:mT x=true):SeqAt.EqAt A s u v (oP y x):=by
 cases y with
 |aE=>
  cases ry;cases x with
  |aE=>cases rx;exact SeqAt.EqAt.same _|bl b=>cases rx;exact SeqAt.EqAt.none_bool b|int b=>obtain⟨t,rfl⟩:=rx;exact SeqAt.EqAt.none_int b t|str b=>obtain⟨t,rfl⟩:=rx;exact SeqAt.EqAt.none_str b t|_=>exact absurd (show false=true from fx) Bool.false_ne_true
 |bl a=>
  cases ry;cases x with
  |aE=>cases rx;exact SeqAt.EqAt.bool_none a|bl b=>cases rx;exact SeqAt.EqAt.bool_bool a b|int b=>obtain⟨t,rfl⟩:=rx;exact SeqAt.EqAt.bool_int a b t|str b=>obtain⟨t,rfl⟩:=rx;exact SeqAt.EqAt.bool_str a b t|_=>exact absurd (show false=true from fx) Bool.false_ne_true
 |int a=>
  obtain⟨t',rfl⟩:=ry;cases x with
  |aE=>cases rx;exact SeqAt.EqAt.int_none a t'|bl b=>cases rx;exact SeqAt.EqAt.int_bool a t' b|int b=>obtain⟨t,rfl⟩:=rx;exact SeqAt.EqAt.int_int a t' b t|str b=>obtain⟨t,rfl⟩:=rx;exact SeqAt.EqAt.int_str a t' b t|_=>exact absurd (show false=true from fx) Bool.false_ne_true
 |str a=>
  obtain⟨t',rfl⟩:=ry;cases x with
  |aE=>cases rx;exact SeqAt.EqAt.str_none a t'|bl b=>cases rx;exact SeqAt.EqAt.str_bool a t' b|int b=>obtain⟨t,rfl⟩:=rx;exact SeqAt.EqAt.str_int a t' b t|str b=>obtain⟨t,rfl⟩:=rx;exact SeqAt.EqAt.str_str a t' b t|_=>exact absurd (show false=true from fx) Bool.false_ne_true
 |_=>exact absurd (show false=true from fy) Bool.false_ne_true
def fZ(x:V)(u:Value):Bool:=match u with
 |.none=>oP .aE x
 |.bool b=>oP (.bl b) x
 |.int i _=>oP (.int i) x
 |.str z _=>oP (.str z) x
 |_=>false
theorem Hr{x y:V}{u:Value}(r:RelV y u)(f:mT y=true):fZ x u=oP y x:=by
 cases y with
 |aE=>cases r;rfl|bl b=>cases r;rfl|int i=>obtain⟨t,rfl⟩:=r;rfl|str z=>obtain⟨t,rfl⟩:=r;rfl|_=>exact absurd (show false=true from f) Bool.false_ne_true
theorem zH{x:V}:∀{xs:List V} {us:List Value},Vals xs us->xs.all mT=true->us.any (fZ x)=xs.any λy=>oP y x
 |_,_,.nil,_=>rfl|y::xs,u::us,.cons r t,f=>by rw[List.all_cons,Bool.and_eq_true]at f;rw[List.any_cons,List.any_cons,Hr r f.1,zH t f.2]
theorem zZ{A:Around}{s:Shared}{x:V}{v:Value}(rx:RelV x v)(fx:mT x=true):∀{xs:List V} {us:List Value},Vals xs us->xs.all mT=true->∀u∈us,SeqAt.EqAt A s u v (fZ x u)
 |_,_,.nil,_=>λu hu=>by cases hu
 |y::xs,u::us,.cons r t,f=>λu' hu=>by
  rw[List.all_cons,Bool.and_eq_true]at f;rcases List.mem_cons.mp hu with rfl|hu
  .rw[Hr r f.1];exact Wc r rx f.1 fx
  .exact zZ rx fx t f.2 u' hu
def ig(x:V)(xs:List V):Bool:=xs.any λy=>oP y x
def Of(K:W.Frag)(neg:Bool):R2:=λx y H Q=>∃p xs,y = .ref p/\(bG K H p xs\/bV K H p xs)/\mT x=true/\xs.all mT=true/\Q (.bl (if neg then !ig x xs else ig x xs)) H
theorem CC:bE X (compareOp .In) (Of X.K false):=by
 intro pins s U H x y v u Q I rx ry h;obtain⟨p,xs,rfl,hq,fx,fs,q⟩:=h;cases ry;rcases hq with hq|hq
 .obtain⟨its,r,pl,hz⟩:=I.list hq;refine SeqAt.in_listAt (fZ x) pl.isList (λw hw=>zZ rx fx r fs w (by simpa using hw)) ⟨.bl _,H,I,rfl,?_⟩;rw[show its.toArray.any (fZ x)=its.any (fZ x) by simp,zH r fs];exact q
 .obtain⟨its,r,pl,hz⟩:=I.tuple hq;refine SeqAt.in_tupleAt (fZ x) pl (λw hw=>zZ rx fx r fs w (by simpa using hw)) ⟨.bl _,H,I,rfl,?_⟩;rw[show its.toArray.any (fZ x)=its.any (fZ x) by simp,zH r fs];exact q
theorem CL:bE X (compareOp .NotIn) (Of X.K true):=by
 intro pins s U H x y v u Q I rx ry h;obtain⟨p,xs,rfl,hq,fx,fs,q⟩:=h;cases ry;rcases hq with hq|hq
 .obtain⟨its,r,pl,hz⟩:=I.list hq;refine SeqAt.notIn_listAt (fZ x) pl.isList (λw hw=>zZ rx fx r fs w (by simpa using hw)) ⟨.bl _,H,I,rfl,?_⟩;rw[show its.toArray.any (fZ x)=its.any (fZ x) by simp,zH r fs];exact q
 .obtain⟨its,r,pl,hz⟩:=I.tuple hq;refine SeqAt.notIn_tupleAt (fZ x) pl (λw hw=>zZ rx fx r fs w (by simpa using hw)) ⟨.bl _,H,I,rfl,?_⟩;rw[show its.toArray.any (fZ x)=its.any (fZ x) by simp,zH r fs];exact q
theorem Su:dM X (.builtin "len") (λxs H Q=>∃p ys,xs=[.ref p]/\(bG X.K H p ys\/bV X.K H p ys)/\Q (.int ys.length) H):=by
 intro pins s U H xs us Q I r h;obtain⟨p,ys,rfl,hq,q⟩:=h;obtain⟨u,rfl,rx⟩:=yS r;cases rx;have hn:=uX;rcases hq with hq|hq
 .obtain⟨its,r',pl,hz⟩:=I.list hq;have hlen:=r'.length;exact Calls.call_len_list pl.isList (by simp only[List.size_toArray]<;>omega) ⟨.int ys.length,H,I.tok _,⟨s.toks+1,by rw[List.size_toArray,hlen]⟩,q⟩
 .obtain⟨its,r',pl,hz⟩:=I.tuple hq;have hlen:=r'.length;exact len_tuple pl (by simp only[List.size_toArray]<;>omega) ⟨.int ys.length,H,I.tok _,⟨s.toks+1,by rw[List.size_toArray,hlen]⟩,q⟩
theorem Sv:dM X (.builtin "len") (λxs H Q=>∃z,xs=[.str z]/\z.length<=sizeLine/\Q (.int z.length) H):=by intro pins s U H xs us Q I r h;obtain⟨z,rfl,hz,q⟩:=h;obtain⟨u,rfl,t,rfl⟩:=yS r;have hn:=uX;exact len_str (by omega) ⟨.int z.length,H,I.tok _,⟨_,rfl⟩,q⟩
theorem dM.or{f:Value}{r r':List V->Hp->VK->Prop}(h:dM X f r)(h':dM X f r'):dM X f (λxs H Q=>r xs H Q\/r' xs H Q):=by
 intro pins s U H xs us Q I rs q;rcases q with q|q
 .exact h pins s U H xs us Q I rs q
 .exact h' pins s U H xs us Q I rs q
theorem Sw:dM X (.type "list") (λxs H Q=>∃p ys,xs=[.ref p]/\(bG X.K H p ys\/bV X.K H p ys)/\∀l,H l=none->Q (.ref l) (aG H l (.lst ys))):=by
 intro pins s U H xs us Q I r h;obtain⟨p,ys,rfl,hq,q⟩:=h;obtain⟨u,rfl,rx⟩:=yS r;cases rx;have fin:∀(its:List Value),Vals ys its->ys.length<=sizeLine->∀(h':Heap) (c':Nat),(∀b o',s.heap.get? b=some o'->h'.get? b=some o') ->
   h'.get? s.heap.objs.size=some { cls:=.type "list",dict:=none,data:=.seq its.toArray c',slots:=#[] }->EP X pins U Q (.ref s.heap.objs.size) { s with heap:=h' }:=λits r' hz h' c' kp e=>
  ⟨.ref s.heap.objs.size,_,I.laid (t':=s.toks) kp (Nat.le_refl _) (show bY X.prog X.w _ h' _ (.lst ys) from⟨hz,its,c',r',e⟩),rfl,q _ (I.aD.fresh (Nat.le_refl _))⟩
 rcases hq with hq|hq
 .obtain⟨its,r',pl,hz⟩:=I.list hq;have hlen:=r'.length;obtain⟨o,ho,hc,n,hd⟩:=pl.isList;exact call_list_seq p (.inl rfl) ho hc hd (λh' c' kp e=>fin its r' hz h' c' kp e) (by simp only[List.size_toArray]<;>omega)
 .obtain⟨its,r',pl,hz⟩:=I.tuple hq;have hlen:=r'.length;obtain⟨o,ho,hc,n,hd⟩:=pl;exact call_list_seq p (.inr rfl) ho hc hd (λh' c' kp e=>fin its r' hz h' c' kp e) (by simp only[List.size_toArray]<;>omega)
theorem Tj:dM X (.type "tuple") (λxs H Q=>∃p ys,xs=[.ref p]/\((bG X.K H p ys/\∀l,H l=none->Q (.ref l) (aG H l (.tup ys)))\/(bV X.K H p ys/\Q (.ref p) H))):=by
 intro pins s U H xs us Q I r h;obtain⟨p,ys,rfl,h⟩:=h;obtain⟨u,rfl,rx⟩:=yS r;cases rx;rcases h with⟨hq,q⟩|⟨hq,q⟩
 .obtain⟨its,r',pl,hz⟩:=I.list hq;have hlen:=r'.length;refine call_tuple_list pl.isList (λh' kp=>?_) (by simp only[List.size_toArray]<;>omega);have I1:Inv X pins U H { s with heap:=h' }:=I.kept (t':=s.toks) kp;have I2:Inv X pins U (aG H h'.objs.size (.tup ys)) { s with heap:=h'.push { cls:=.type "tuple",data:=.seq its.toArray } }:=
   I1.laid (t':=s.toks) (λb o e=>Heap.get?_push_of_some _ e) (Nat.le_refl _) (show bY X.prog X.w _ _ _ (.tup ys) from⟨hz,its,r',IsTup.new _ _⟩)
  exact⟨.ref h'.objs.size,_,I2,rfl,q _ (I1.aD.fresh (Nat.le_refl _))⟩
 .obtain⟨its,r',pl,hz⟩:=I.tuple hq;exact call_tuple_same pl ⟨.ref p,H,I,rfl,q⟩
def Dp(K:W.Frag)(T:String)(x:V)(H:Hp):Prop:=match x with
 |.str _=>T="str"
 |.int _=>T="int"
 |.ref p=>(T="list"/\∃xs,bG K H p xs)\/(T="tuple"/\∃o,K.lookup p=some o/\o.cls = .type "tuple"/\o.dict=none) \/
  (T="dict"/\((∃kvs,H p=some (.dK kvs))\/∃kvs,H p=some (.dT kvs)))\/(T="set"/\∃S n,H p=some (.set S n))
 |_=>False
theorem Qp{pins:List (Addr×Obj)}{U:St}{H:Hp}{s:Shared}{T:String}{x:V}{v:Value}(I:Inv X pins U H s)(r:RelV x v)(ty:Dp X.K T x H) :
  s.TypeIs v T/\∀a,v = .ref a->∃ob,s.heap.get? a=some ob/\ob.dict=none:=by
 cases x with
 |str z=>obtain⟨t,rfl⟩:=r;cases(show T="str" from ty);exact⟨typeIs_str s z t,λ_ e=>nomatch e⟩
 |int i=>obtain⟨t,rfl⟩:=r;cases(show T="int" from ty);exact⟨typeIs_int s i t,λ_ e=>nomatch e⟩
 |ref p=>
  cases r;rcases ty with⟨rfl,xs,hq⟩|⟨rfl,o,hk,hc,hd⟩|⟨rfl,hk⟩|⟨rfl,S,n,hk⟩
  .obtain⟨its,_,pl,_⟩:=I.list hq;refine⟨pl.isList.typeIs,λa e=>?_⟩;cases e;obtain⟨o,n,e,c,hd,_⟩:=pl;exact⟨o,e,hd⟩
  .refine⟨⟨o,I.bK p o hk,hc⟩,λa e=>?_⟩;cases e;exact⟨o,I.bK _ o hk,hd⟩
  .have z:∃o,s.heap.get? p=some o/\o.ExactDict:=by
    rcases hk with⟨kvs,hk⟩|⟨kvs,hk⟩
    .obtain⟨_,_,_,_,o,_,_,e,ex,_⟩:=I.aD p _ hk;exact⟨o,e,ex⟩
    .obtain⟨_,_,_,_,o,_,_,e,ex,_⟩:=I.aD p _ hk;exact⟨o,e,ex⟩
   obtain⟨o,e,ex⟩:=z;refine⟨⟨o,e,ex.1⟩,λa e2=>?_⟩;cases e2;exact⟨o,e,ex.2.1⟩
  .obtain⟨o,_,_,_,e,ex,_⟩:=I.aD p _ hk;refine⟨⟨o,e,ex.1⟩,λa e2=>?_⟩;cases e2;exact⟨o,e,ex.2.1⟩
 |_=>exact False.elim ty
def QH(K:W.Frag)(T:String)(r:V->List V->Hp->VK->Prop)(to:TE):TE:=λU H Q=>to U H λx H1=>Dp K T x H1/\r x [] H1 Q
def QF(K:W.Frag)(T:String)(r:V->List V->Hp->VK->Prop)(to:TE)(t:TA):TE:=λU H Q=>to U H λx H1=>Dp K T x H1/\t U H1 λxs H2=>r x xs H2 Q
variable {o e:Expr}{es:List Expr}{to:TE}{t:TA}{name:Str}{apos cpos:Pos}{T id:String}{r:V->List V->Hp->VK->Prop}
theorem Lc(pa:PlainAttrs T) (slot:Slot T name id) (hty:typeOf (.builtin id)=pure (.type "method_descriptor")) (hm:Ec X id r) (ho:PE X o to)
  (hbase:attributeBase o name X.env (eval o X.env)=eval o X.env:=by rfl) (hline:(apos.endLine==cpos.line)=true:=by rfl):PE X (.Call (.Attribute o name apos) [] [] cpos) (QH X.K T r to):=by
 intro pins s U H Q I h;refine wpAny_Call_method0_late hbase hline (aI (ho pins s U H _ I h) λv s1 ⟨x,H1,I1,r1,ty,q1⟩=>?_);obtain⟨h1,h2⟩:=Qp I1 r1 ty;exact⟨T,id,pa,slot,hty,h1,h2,Calls.callWith_builtin rfl (PySem.evalArgs_none (hm pins s1 U H1 x [] v [] Q I1 r1 .nil q1))⟩
theorem Lb(pa:PlainAttrs T) (slot:Slot T name id) (hty:typeOf (.builtin id)=pure (.type "method_descriptor")) (hm:Ec X id r) (ho:PE X o to) (ha:PA X (e::es) t)
  (hbase:attributeBase o name X.env (eval o X.env)=eval o X.env:=by rfl)
  (hfew:((backTo cpos (starEach (e::es) X.env)).all (λx=>!x.1)&&(backToKw cpos (keywordEach [] X.env)).all (λx=>x.1.isSome)
  &&decide ((e::es).length+([]:List Keyword).length+(if([]:List Keyword).isEmpty then 0 else 1)<30))=true:=by rfl)
  (hline:(apos.endLine==cpos.line)=true:=by rfl) (hs:starEach (e::es) X.env=(false,eval e X.env)::starEach es X.env:=by rfl) (hplain:(backTo cpos (starEach es X.env)).any (·.1)=false:=by rfl) :
  PE X (.Call (.Attribute o name apos) (e::es) [] cpos) (QF X.K T r to t):=by
 intro pins s U H Q I h;refine wpAny_Call_method_late hbase hfew hline rfl (aI (ho pins s U H _ I h) λv s1 ⟨x,H1,I1,r1,ty,q1⟩=>?_);obtain⟨h1,h2⟩:=Qp I1 r1 ty;refine⟨T,id,pa,slot,hty,h1,h2,?_⟩;have hA:=ha cpos pins s1 U H1 _ I1 q1;rw[hs]at hA ⊢;refine Calls.callWith_builtin (by show(false||(backTo cpos (starEach es X.env)).any (·.1))=false;rw[hplain]<;>rfl) (Calls.evalArgs_plain ?_);exact aI hA λus s2 ⟨vs,H2,I2,r2,q2⟩=>hm pins s2 U H2 x vs v us Q I2 r1 r2 q2
end
def tY(X:Cx)(id:String)(r:V->List V->Hp->VK->Prop):Prop:=
 ∀(pins:List (Addr×Obj)) (s:Shared) (U:St) (H:Hp) (x:V) (xs:List V) (v:Value) (us:List Value) (Q:VK),Inv X pins U H s->RelV x v->Vals xs us->r x xs H Q ->
  wpAny (model X.prog X.w) X.A (call (.builtin id) (v::us)) (EP X pins U Q) X.xe s
theorem Vals.one:∀{x:V} {us:List Value},Vals [x] us->∃u,us=[u]/\RelV x u
 |_,_,.cons r .nil=>⟨_,rfl,r⟩
theorem Vals.zero:∀{us:List Value},Vals [] us->us=[]
 |_,.nil=>rfl
theorem Vals.dropLast{xs:List V}{us:List Value}(h:Vals xs us):Vals xs.dropLast us.dropLast:=by
 induction h with
 |nil=>exact .nil|cons r t ih=>
  cases t with
  |nil=>exact .nil|cons q t'=>exact .cons r ih
theorem Wf{α:Type}(l:List α):l.eraseIdx (l.length-1)=l.dropLast:=by
 induction l with
 |nil=>rfl|cons a r ih=>
  cases r with
  |nil=>rfl|cons b r=>
   have e:(a::b::r).length-1=((b::r).length-1)+1:=by have h1:(a::b::r).length=r.length+2:=rfl;have h2:(b::r).length=r.length+1:=rfl;omega
   rw[e,List.eraseIdx_cons_succ,ih];all_goals rfl
section
variable {X:Cx}{pins:List (Addr×Obj)}{U:St}{H:Hp}{s:Shared}{l b:Addr}{xs ys zs:List V}
theorem Inv.wk{its its':List Value}{n:Nat}{f:Array Value->Array Value}{t':Nat}(I:Inv X pins U H s)(hH:H l=some (.lst xs))
  (e:s.heap.get? l=some { cls:=.type "list",data:=.seq its.toArray n }) (hf:f its.toArray=its'.toArray) (hv:Vals ys its') (hz:ys.length<=sizeLine) :
  Inv X pins U (aG H l (.lst ys)) { s with heap:=s.heap.update l (Obj.mapSeq f),toks:=t' }:=by
 have q:=PySem.IsL.update e f;rw[hf]at q;refine I.write (x:=l) (e:=l) (by rw[hH];exact trivial) (.inl rfl) (λb' u hb hu=>(Heap.get?_update_other s.heap (Obj.mapSeq f) (Ne.symm hb)).trans hu) ⟨_,q⟩ ?_;exact⟨hz,its',_,hv,q⟩
theorem Inv.AF{its:List Value}{t':Nat}(I:Inv X pins U H s)(hv:Vals ys its)(hz:ys.length<=sizeLine) :
  Inv X pins U (aG H s.heap.objs.size (.lst ys)) { s with heap:=s.heap.push { cls:=.type "list",data:=.seq its.toArray },toks:=t' }:=
 I.laid (λ_ _ q=>Heap.get?_push_of_some _ q) (Nat.le_refl _) ⟨hz,its,0,hv,Heap.get?_push_size _ rfl⟩
theorem Inv.fresh(I:Inv X pins U H s):H s.heap.objs.size=none:=I.aD.fresh (Nat.le_refl _)
theorem Inv.oX(I:Inv X pins U H s)(hH:H l=some (.lst xs)):xs.length<=sizeLine/\∃(its:List Value) (n:Nat),Vals xs its/\xs.length=its.length/\s.heap.get? l=some { cls:=.type "list",data:=.seq its.toArray n }:=by obtain⟨z,its,n,r,e⟩:=I.aD l _ hH;exact⟨z,its,n,r,r.length,e⟩
end
section
variable {X:Cx}
def Oa:V->List V->Hp->VK->Prop:=λx vs H Q=>∃l xs y,x = .ref l/\vs=[y]/\H l=some (.lst xs)/\xs.length<sizeLine/\Q .aE (aG H l (.lst (xs++[y])))
theorem AZ:tY X "list.append" Oa:=by intro pins s U H x vs v us Q I rx rv h;obtain⟨l,xs,y,rfl,rfl,hH,hz,q⟩:=h;cases rx;obtain⟨u,rfl,ru⟩:=rv.one;obtain⟨z,its,n,r,hl,e⟩:=I.oX hH;refine call_meets F.slot_list_append ⟨_,e,rfl⟩ F.entry_list_append (F.args_list_append_2 _ _) (PySem.list_append l its.toArray n u (by rw[List.size_toArray];omega)) ⟨e,?_⟩;refine⟨.aE,_,I.wk (its':=its++[u]) hH e (by simp) (r.append (.cons ru .nil)) ?_,rfl,q⟩;rw[List.length_append,List.length_singleton];omega
def MO:V->List V->Hp->VK->Prop:=λx vs H Q=>∃l xs y,x = .ref l/\vs=[]/\H l=some (.lst xs)/\xs[xs.length-1]?=some y/\Q y (aG H l (.lst xs.dropLast))
theorem BE:tY X "list.pop" MO:=by
 intro pins s U H x vs v us Q I rx rv h;obtain⟨l,xs,y,rfl,rfl,hH,hy,q⟩:=h;cases rx;have hus:=rv.zero;subst hus;obtain⟨z,its,n,r,hl,e⟩:=I.oX hH;obtain⟨u,hu,ru⟩:=r.get hy;have hy':its.toArray[its.toArray.size-1]?=some u:=by show its.toArray[its.length-1]?=some u;rw[<- Array.getElem?_toList,<- hl];exact hu
 refine call_meets F.slot_list_pop ⟨_,e,rfl⟩ F.entry_list_pop (F.args_list_pop_1 _) (MeetsSeq.list_pop_last l its.toArray n u hy' (by rw[List.size_toArray];omega)) ⟨e,?_⟩;refine⟨y,_,I.wk (its':=its.dropLast) hH e ?_ r.dropLast ?_,ru,q⟩
 .show its.toArray.eraseIdxIfInBounds (its.toArray.size-1)=its.dropLast.toArray;rw[List.size_toArray,List.eraseIdxIfInBounds_toArray,Wf]
 .rw[List.length_dropLast];omega
def MK:V->List V->Hp->VK->Prop:=λx vs H Q=>∃l xs,x = .ref l/\vs=[]/\H l=some (.lst xs)/\Q .aE (aG H l (.lst []))
theorem BA:tY X "list.clear" MK:=by intro pins s U H x vs v us Q I rx rv h;obtain⟨l,xs,rfl,rfl,hH,q⟩:=h;cases rx;have hus:=rv.zero;subst hus;obtain⟨z,its,n,r,hl,e⟩:=I.oX hH;refine call_meets F.slot_list_clear ⟨_,e,rfl⟩ F.entry_list_clear (F.args_list_clear_1 _) (AutoSeq1.list_clear_list_0 l its.toArray n (by rw[List.size_toArray];omega)) ⟨e,?_⟩;exact⟨.aE,_,I.wk (its':=[]) (ys:=[]) hH e rfl .nil (Nat.zero_le _),rfl,q⟩
def Ob:R2:=λx y H Q=>∃l b xs zs,x = .ref l/\y = .ref b/\H l=some (.lst xs)/\H b=some (.lst zs)/\xs.length+zs.length<=sizeLine/\∀p,H p=none->Q (.ref p) (aG H p (.lst (xs++zs)))
theorem BU:bE X (binaryOp .Add) Ob:=by
 intro pins s U H x y v u Q I rx ry h;obtain⟨l,b,xs,zs,rfl,rfl,hH,hB,hz,q⟩:=h;cases rx;cases ry;obtain⟨z,its,n,r,hl,e⟩:=I.oX hH;obtain⟨z2,its2,n2,r2,hl2,e2⟩:=I.oX hB;refine PySem.P.add_list e e2 ?_ (by rw[List.size_toArray,List.size_toArray];omega);have ea:its.toArray++its2.toArray=(its++its2).toArray:=by simp
 rw[ea];exact⟨.ref _,_,I.AF (t':=s.toks) (r.append r2) (by rw[List.length_append];omega),rfl,q _ I.fresh⟩
end
end L2
namespace Att
open PySem PySem.W PySem.Calls PyProof.Rows
theorem Yw{P:Params}{h:Heap}:∀(ns:List Int) (vs:List Value),WellAll P h vs (ns.map WData.int)->IntsAre vs ns:=by
 intro ns;induction ns with
 |nil=>intro vs w;rw[List.map_nil]at w;cases w;exact .nil
 |cons n ns ih=>
  intro vs w;rw[List.map_cons]at w;cases w with
  |cons a b=>cases a;exact .cons _ _ (ih _ b)
theorem OJ{l:OpenLaw}{n:Nat}(hn:l.most=some n){P:Params}{h:Heap}{args:List WData}{vals:List Value}
  (hpre:l.row.toRowW.claim.pre args=true) (hwl:WellAll P h vals args) :
  ∃a vs ns,vals=[Value.ref a]/\args=[WData.list (ns.map WData.int)]/\h.get? a=some { cls:=.type "list",data:=.seq vs.toArray }/\IntsAre vs ns/\ns.length<=n:=by
 have hsh:WShape.hasAll [] args [.list .int]=true:=(pre_splitW hpre).1;have hc:l.pre.holds [] { args:=args }=true:=(pre_splitW hpre).2;obtain⟨d,r,rfl,h1,h2⟩:=hasAllW_cons hsh;obtain rfl:=hasAllW_nil h2;obtain⟨xs,rfl,h3⟩:=hasW_list h1;obtain⟨ns,rfl⟩:=items_int h3;have hlen:ns.length<=n:=by
  unfold OpenLaw.pre at hc;have h4:(WTm.not (.lt (.lit (.int (n:Int))) (.len (.arg 0)))).holds [] { args:=[.list (ns.map .int)] }=true:=by have h4:=(holds_andW hc).1;rw[hn]at h4;exact h4
  have h5:=condW_of h4 (w_not (w_lt w_lit (w_len_list (w_arg rfl))));rw[List.length_map]at h5;refine Nat.le_of_not_lt λq=>?_;have q':(n:Int)<((ns.length:Nat):Int):=by omega
  first
   | (rw[decide_eq_true q']at h5;exact absurd h5 (by decide))
   | (simp at h5;omega)
 cases hwl with
 |cons w1 w2=>
  cases w2;cases w1 with
  |list ho hall=>exact⟨_,_,ns,rfl,rfl,ho,Yw ns _ hall,hlen⟩
theorem GA(l:OpenLaw)(args:List WData):l.row.toRowW.claim.post args (.bool true) args=true:=
 postW_of (r:=l.row.toRowW) (X:=(true==true))
  (show WShape.has [] (.bool true) .bool=true by first|rfl|decide|simp[WShape.has,WShape.arms,WShape.armsAll])
  (show(WTm.eq .res (.lit (.bool true))).value [] { args:=args,res:=some (.bool true),after:=args }=some (.bool (true==true)) from w_eq_bool (w_res rfl) w_lit) rfl
theorem Sd{l:OpenLaw}{n:Nat}{q:Program}{loose:List Str}{XP:(Str->Option Value)->Heap->Prop}{YP:World->Heap->Prop}{d:DefRec}
  (hn:l.most=some n) (hdf:d.params.defaults=[])
  (call:∀(w:World) (s₀ s₁:Shared) (mg mb:Str->Option Value) (fa:Addr) (o:Obj) (pm cd doc:Value) (a:Addr) (vs:List Value) (ns:List Int),
   Ground q loose [] XP w s₀ mg mb s₁.heap->YP w s₁.heap ->
   s₁.heap.get? fa=some o->o.data = .func (docDef d.name d.params d.body d.scope pm cd doc)->s₁.heap.CodeRec cd d.name->mg d.name=some (.ref fa) ->
   s₁.heap.get? a=some { cls:=.type "list",data:=.seq vs.toArray }->IntsAre vs ns->ns.length<=n->s₁.gens=#[] ->
   codeAny (model l.prog w) callerA (.call (.ref fa) ⟨[.ref a],[]⟩) (λr s'=>r = .ok (.ret (.bool true))/\OldK s₁.heap s'.heap/\s'.os=s₁.os/\AllBare s'.gens) s₁) :
  WalkO q loose XP YP l.row.toRowW d [] (λf vs=>PySem.call f vs):=by
 intro w s₀ s₁ mg mb G Y fa o pm cd doc dV kV ho hd hcd hD hmg hg args vals as hpre hlay hrd hwl hlo;obtain rfl:dV = .none:=Dflts.none hD hdf;obtain rfl:kV = .none:=Dflts.noKw hD;obtain⟨a,vs,ns,rfl,rfl,hobj,hints,hlen⟩:=OJ hn hpre hwl;refine enter_call (codeAny_mono (call w s₀ s₁ mg mb fa o pm cd doc a vs ns G Y ho (fd_plain hd) hcd hmg hobj hints hlen hg) λr s' hq=>?_);obtain⟨rfl,h2,h3,h4⟩:=hq;exact⟨.inl ⟨.bool true,.bool true,[],rfl,λ_=>rfl,.bool true,GA l _,λ_=>⟨List.Pairwise.nil,λ_ hm=>(nomatch hm)⟩⟩,h2,h3,h4⟩
end Att
namespace L2
open PySem PySem.Spec PyProof.Rows
theorem Qs:∀{vs:List Value} {ns:List Int},IntsAre vs ns->Vals (ns.map V.int) vs
 |_,_,.nil=>.nil
 |_,_,.cons n t h=>.cons ⟨t,rfl⟩ (Qs h)
def dw(H:Hp):Prop:=∀b,H b=none\/∃o xs,H b=some (.bC o (.lst xs))
theorem Zx{P:Program}{w:World}{K:W.Frag}{mg mb:Str->Option Value}{CX:gK}{k:Nat}{fa a:Addr}{fd:FuncData}{x:Str}{sp:Sp}{s₁:Shared}{vs:List Value}{ns:List Int}
  (KX:K.In s₁.heap) (hns:s₁.heap.Ns mainGlobals mg) (hb:s₁.heap.Ns builtinsNs mb) (hbb:∀x:Str,x≠"__name__"->mb x=bootBuiltins x) (hlim:s₁.heap.NoLimit) (hg:s₁.gens=#[])
  (ha:s₁.heap.get? a=some { cls:=.type "list",data:=.seq vs.toArray }) (hi:IntsAre vs ns) (hl:ns.length<=sizeLine) (hr:bU k callerA)
  (F:∀base:Heap,K.In base->base.Ns mainGlobals mg->dD P w K mg base CX k fa fd [x] sp) (hbind:∀(s:Shared) (u:Value),BindsTo s fd ⟨[u],[]⟩ [(x,u)])
  (hsp:∀H:Hp,dw H->bG K H a (ns.map V.int)->sp [.ref a] H (λv _=>v = .bl true) λ_ _ _=>False)
  (hCX:∀H e s',CX [] H s₁ (λ_ _ _=>False) e s'->False) :
  codeAny (model P w) callerA (.call (.ref fa) ⟨[.ref a],[]⟩) (λr s'=>r = .ok (.ret (.bool true))/\OldK s₁.heap s'.heap/\s'.os=s₁.os/\AllBare s'.gens) s₁:=by
 have rv:=Qs hi;have lenV:=hi.length;have core:∀H:Hp,dw H->bG K H a (ns.map V.int)->bQ P w H s₁.heap->(∀b,H b≠none->b=a)->(H a≠none->K.lookup a=none) ->
   codeAny (model P w) callerA (.call (.ref fa) ⟨[.ref a],[]⟩) (λr s'=>r = .ok (.ret (.bool true))/\OldK s₁.heap s'.heap/\s'.os=s₁.os/\AllBare s'.gens) s₁:=by
  intro H hO hS aD hA hK;have base_of:∀{b:Addr} {o:Obj},s₁.heap.get? b=some o->H b=none->(oU s₁.heap H).get? b=some o:=λe n=>Ye e n;have noA:∀{b:Addr} {o:Obj} {es:Array DictEntry} {ep:Nat},s₁.heap.get? b=some o->o.data = .dict es ep->H b=none:=λ{b o es ep} e d=>by
   cases q:H b with
   |none=>rfl|some u=>have e':b=a:=hA b (by rw[q];simp);subst e';rw[ha]at e;cases e;have d':Data.seq vs.toArray _=Data.dict es ep:=d;cases d'
  have nsK:∀{b:Addr} {m:Str->Option Value},s₁.heap.Ns b m->(oU s₁.heap H).Ns b m:=λ{b m} ⟨o,es,ep,e,d,r⟩=>⟨o,es,ep,base_of e (noA e d),d,r⟩;have hKb:K.In (oU s₁.heap H):=λb o e=>base_of (KX b o e) (by
   cases q:H b with
   |none=>rfl|some u=>have e':b=a:=hA b (by rw[q];simp);subst e';rw[hK (by rw[q];simp)]at e;cases e)
  have hM:Mod K mg (oU s₁.heap H):=⟨hKb,nsK hns,⟨mb,nsK hb,hbb⟩,let ⟨mc,h1,h2⟩:=hlim;⟨mc,nsK h1,h2⟩⟩;have e0:mP P w K mg (oU s₁.heap H) callerA [] s₁ H:=⟨rfl,hM,λb o e=>BN e,Nat.le_of_eq (Yf _ _),trivial,λb hb=>absurd (show b∈([]:List Addr) from hb) (by simp),aD,.of_eq hg⟩;refine codeAny_mono ((F _ hKb (nsK hns)).run callerA [] s₁ H ⟨[.ref a],[]⟩ [.ref a] [.ref a] _ _ hr e0 (hbind s₁ (.ref a)) (.cons rfl .nil) (hsp H hO hS)) λr s' h=>?_;cases r with
  |error e=>exact(hCX H e s' h).elim|ok fl=>
   cases fl with
   |next=>exact False.elim h|brk=>exact False.elim h|cont=>exact False.elim h|ret u=>
    obtain⟨v,H',os,bare,un,hok',r',q⟩:=h;have q':v = .bl true:=q;subst q';obtain rfl:u=Value.bool true:=r';refine⟨rfl,OldK.of_keep λb o e=>?_,os,bare⟩;cases q:H b with
    |none=>exact un.keep b o e q (by intro z;exact absurd (show b∈([]:List Addr) from z) (by simp)) (by simp)|some u=>
     rcases hO b with z|⟨ob,xs,z⟩
     .rw[q]at z;cases z
     .have z2:=un.fQ b ob _ z;obtain⟨e1,_⟩:=aD b _ z;obtain⟨e2,_⟩:=hok' b _ z2;rw[e]at e1;cases e1;exact e2
 cases hk:K.lookup a with
 |some o=>have e:=KX a o hk;rw[ha]at e;cases e;refine core (λ_=>none) (λ_=>.inl rfl) (.inr ⟨_,vs.toArray,_,hk,rfl,rfl,rfl,by rw[List.size_toArray,lenV];exact hl,by simpa using rv⟩) (λb u z=>by have z':(none:Option HO)=some u:=z;cases z') (λb z=>absurd rfl z) λz=>absurd rfl z
 |none=>
  refine core (λb=>if b=a then some (.bC { cls:=.type "list",data:=.seq vs.toArray } (.lst (ns.map V.int))) else none) (λb=>?_) (.inl (.inr ⟨{ cls:=.type "list",data:=.seq vs.toArray },if_pos rfl⟩)) (λb u z=>?_) (λb z=>?_) λ_=>hk
  .by_cases hb:b=a
   .exact .inr ⟨_,_,if_pos hb⟩
   .exact .inl (if_neg hb)
  .by_cases hb:b=a
   .have z':=(if_pos hb).symm.trans z;cases z';subst hb;exact⟨ha,by rw[List.length_map];exact hl,vs,_,rv,ha⟩
   .have z':=(if_neg hb).symm.trans z;cases z'
  .by_cases hb:b=a
   .exact hb
   .exact absurd (if_neg hb) z
theorem TJ{l:W.OpenLaw}{n k:Nat}{q:Program}{loose:List Str}{XP:(Str->Option Value)->Heap->Prop}{YP:World->Heap->Prop}{d:DefRec}{K:Params->W.Frag}{CX:World->gK}{sp:World->Sp}{x:Str}
  (hn:l.most=some n) (hn2:n<=sizeLine) (hdf:d.params.defaults=[]) (hr:bU k callerA)
  (hY:∀(w:World) (h:Heap),YP w h->(K w.params).In h)
  (F:∀(w:World) (mg:Str->Option Value) (fa:Addr) (h:Heap),(K w.params).In h->h.Ns mainGlobals mg->mg d.name=some (.ref fa) ->
   ∃fd:FuncData,(∀(s:Shared) (u:Value),BindsTo s fd ⟨[u],[]⟩ [(x,u)]) /\
    ∀base:Heap,(K w.params).In base->base.Ns mainGlobals mg->dD l.prog w (K w.params) mg base (CX w) k fa fd [x] (sp w))
  (hsp:∀(w:World) (H:Hp) (a:Addr) (ns:List Int),ns.length<=n->dw H->bG (K w.params) H a (ns.map V.int)->sp w [.ref a] H (λv _=>v = .bl true) λ_ _ _=>False)
  (hCX:∀(w:World) (H:Hp) (s:Shared) (e:Value) (s':Shared),CX w [] H s (λ_ _ _=>False) e s'->False) :
  W.WalkO q loose XP YP l.row.toRowW d [] (λf vs=>PySem.call f vs):=by
 refine Att.Sd hn hdf λw s₀ s₁ mg mb fa o pm cd doc a vs ns G Y ho hd hcd hmg hobj hints hlen hg=>?_;have KX:=hY w _ Y;obtain⟨fd,hb,hF⟩:=F w mg fa _ KX G.T.g hmg;exact Zx KX G.T.g G.T.b G.T.builtins G.T.nolimit hg hobj hints (Nat.le_trans hlen hn2) hr hF hb (λH hO hS=>hsp w H a ns hlen hO hS) λH e s'=>hCX w H s₁ e s'
def aS(s:Stmt):Arguments:=match s with
 |.FunctionDef _ a _ _ _ _ _ _ _ _=>a
 |_=>{ posonlyargs:=[],args:=[],vararg:=none,kwonlyargs:=[],kw_defaults:=[],kwarg:=none,defaults:=[] }
def aR(s:Stmt):List Stmt:=match s with
 |.FunctionDef _ _ b _ _ _ _ _ _ _=>b
 |_=>[]
def aJ(s:Stmt):Scope:=match s with
 |.FunctionDef _ _ _ _ _ _ sc _ _ _=>sc
 |_=>{ kind:=.function,names:=[],isGenerator:=false,isCoroutine:=false }
abbrev E0:XK:=λ_ _ _=>False
section
variable {κ:Type} [DecidableEq κ]
def cO(kvs:List (κ×V))(k:κ):Option V:=(kvs.find? λkv=>decide (kv.1=k)).map (·.2)
def eS(kvs:List (κ×V))(k:κ)(v:V):List (κ×V):=
 if(kvs.any λkv=>decide (kv.1=k))=true then kvs.map (λkv=>if kv.1=k then(kv.1,v) else kv) else kvs++[(k,v)]
def kW(kvs:List (κ×V))(k:κ):List (κ×V):=kvs.filter λkv=>decide (kv.1≠k)
theorem Dr{p:κ×V}{r:List (κ×V)}{k:κ}(e:p.1=k):cO (p::r) k=some p.2:=by simp[cO,List.find?_cons,e]
theorem Dq{p:κ×V}{r:List (κ×V)}{k:κ}(e:¬p.1=k):cO (p::r) k=cO r k:=by simp[cO,List.find?_cons,e]
theorem Qq(k:κ):∀kvs:List (κ×V),(kvs.any λkv=>decide (kv.1=k))=(cO kvs k).isSome
 |[]=>rfl|p::r=>by
  rw[List.any_cons];by_cases e:p.1=k
  .simp only[Dr e,decide_eq_true e,Bool.true_or,Option.isSome_some]
  .rw[Dq e,decide_eq_false e,Bool.false_or];exact Qq k r
theorem we(kvs:List (κ×V))(k:κ)(v:V):(eS kvs k v).length<=kvs.length+1:=by
 unfold eS;split
 .rw[List.length_map];omega
 .rw[List.length_append,List.length_cons,List.length_nil];omega
theorem dW.zX{o:Option V}{u:Option Value}(r:dW o u):o.isSome=u.isSome:=by
 cases o with
 |none=>cases u with
  |none=>rfl|some _=>exact(show False from r).elim
 |some _=>cases u with
  |none=>exact(show False from r).elim|some _=>rfl
theorem dW.getD{o:Option V}{u:Option Value}{d:V}{d':Value}(r:dW o u)(rd:RelV d d'):RelV (o.getD d) (u.getD d'):=by
 cases o with
 |none=>cases u with
  |none=>exact rd|some _=>exact(show False from r).elim
 |some _=>cases u with
  |none=>exact(show False from r).elim|some _=>exact r
theorem KV.val{kvs:List (κ×V)}{vs:List (κ×Value)}(r:KV kvs vs)(k:κ):dW (cO kvs k) (valueAt vs k):=by
 unfold KV at r;induction r with
 |nil=>exact True.intro|@cons p q ps qs h t ih=>
  obtain⟨h1,h2⟩:=h;by_cases e:p.1=k
  .have e':q.1=k:=h1.symm.trans e;have b:valueAt (q::qs) k=some q.2:=by simp[valueAt,List.find?_cons,e']
   rw[Dr e,b];exact h2
  .have e':¬q.1=k:=λz=>e (h1.trans z);have b:valueAt (q::qs) k=valueAt qs k:=by simp[valueAt,List.find?_cons,e']
   rw[Dq e,b];exact ih
theorem KV.any{kvs:List (κ×V)}{vs:List (κ×Value)}(r:KV kvs vs)(k:κ):(kvs.any λkv=>decide (kv.1=k))=vs.any λkv=>decide (kv.1=k):=by
 unfold KV at r;induction r with
 |nil=>rfl|cons h t ih=>rw[List.any_cons,List.any_cons,ih,h.1]
theorem KV.Cq{kvs:List (κ×V)}{vs:List (κ×Value)}(r:KV kvs vs)(k:κ){y:V}{u:Value}(ry:RelV y u) :
  KV (kvs.map λkv=>if kv.1=k then(kv.1,y) else kv) (vs.map λkv=>if kv.1=k then(kv.1,u) else kv):=by
 unfold KV at r ⊢;induction r with
 |nil=>exact .nil|@cons p q ps qs h t ih=>
  rw[List.map_cons,List.map_cons];refine .cons ?_ ih;obtain⟨h1,h2⟩:=h;by_cases e:p.1=k
  .rw[if_pos e,if_pos (h1.symm.trans e)];exact⟨h1,ry⟩
  .rw[if_neg e,if_neg (λz=>e (h1.trans z))];exact⟨h1,h2⟩
theorem KV.put{kvs:List (κ×V)}{vs:List (κ×Value)}(r:KV kvs vs)(k:κ){y:V}{u:Value}(ry:RelV y u):KV (eS kvs k y) (stored vs k u):=by
 unfold eS stored;rw[r.any k];by_cases e:(vs.any λkv=>decide (kv.1=k))=true
 .rw[if_pos e,if_pos e];exact r.Cq k ry
 .rw[if_neg e,if_neg e];exact Paired.snoc r ⟨rfl,ry⟩
theorem KV.drop{kvs:List (κ×V)}{vs:List (κ×Value)}(r:KV kvs vs)(k:κ):KV (kW kvs k) (without vs k):=by
 unfold KV at r ⊢;unfold kW without;induction r with
 |nil=>exact .nil|@cons p q ps qs h t ih=>
  obtain⟨h1,h2⟩:=h;rw[List.filter_cons,List.filter_cons];by_cases e:p.1=k
  .have a:¬decide (p.1≠k)=true:=by simp[e]
   have b:¬decide (q.1≠k)=true:=by simp[h1.symm.trans e]
   rw[if_neg a,if_neg b];exact ih
  .have e':¬q.1=k:=λz=>e (h1.trans z);have a:decide (p.1≠k)=true:=by simp[e]
   have b:decide (q.1≠k)=true:=by simp[e']
   rw[if_pos a,if_pos b];exact .cons ⟨h1,h2⟩ ih
theorem KV.length{kvs:List (κ×V)}{vs:List (κ×Value)}(r:KV kvs vs):kvs.length=vs.length:=Paired.length r
theorem Uy(kvs:List (κ×V))(k:κ):(kW kvs k).length<=kvs.length:=List.length_filter_le _ _
end
theorem mX{P:Program}{w:World}{k:aC}{u:Value}(r:RelV (kV k) u):(cY P w).is k u=true:=by
 cases k with
 |inl i=>obtain⟨t,e⟩:=(show∃t,u=Value.int i t from r);subst e;exact AX P w i t|inr x=>obtain⟨t,e⟩:=(show∃t,u=Value.str x t from r);subst e;exact AY P w x t
theorem Jp{P:Program}{w:World}:∀{ks:List aC} {us:List Value},Vals (ks.map kV) us->ItemsAre (cY P w) ks us
 |[],_,r=>by rw[List.map_nil]at r;cases r;exact .nil
 |k::ks,_,r=>by
  rw[List.map_cons]at r;cases r with
  |cons h t=>exact .cons (mX h) (Jp t)
abbrev KT(H:Hp):List (List aC×V)->List (List aC×Addr×Value)->Prop:=Paired λp q=>p.1=q.1/\H q.2.1=some (.tup (p.1.map kV))/\RelV p.2 q.2.2
theorem KT.val{H:Hp}{kvs:List (List aC×V)}{xs:List (List aC×Addr×Value)}(r:KT H kvs xs)(k:List aC):dW (cO kvs k) ((atKey xs k).map (·.2)):=by
 induction r with
 |nil=>exact True.intro|@cons p q ps qs h t ih=>
  obtain⟨h1,_,h2⟩:=h;by_cases e:p.1=k
  .have e':q.1=k:=h1.symm.trans e;have b:atKey (q::qs) k=some q.2:=by simp[atKey,List.find?_cons,e']
   rw[Dr e,b];exact h2
  .have e':¬q.1=k:=λz=>e (h1.trans z);have b:atKey (q::qs) k=atKey qs k:=by simp[atKey,List.find?_cons,e']
   rw[Dq e,b];exact ih
theorem KT.Cq{H:Hp}{kvs:List (List aC×V)}{xs:List (List aC×Addr×Value)}(r:KT H kvs xs)(k:List aC){y:V}{u:Value}(ry:RelV y u) :
  KT H (kvs.map λkv=>if kv.1=k then(kv.1,y) else kv) (xs.map (putAt k u)):=by
 induction r with
 |nil=>exact .nil|@cons p q ps qs h t ih=>
  rw[List.map_cons,List.map_cons];refine .cons ?_ ih;obtain⟨h1,h2,h3⟩:=h;unfold putAt;by_cases e:p.1=k
  .rw[if_pos e,if_pos (h1.symm.trans e)];exact⟨h1,h2,ry⟩
  .rw[if_neg e,if_neg (λz=>e (h1.trans z))];exact⟨h1,h2,h3⟩
theorem KT.put{H:Hp}{kvs:List (List aC×V)}{xs:List (List aC×Addr×Value)}(r:KT H kvs xs)(k:List aC){b:Addr}{y:V}{u:Value}(hb:H b=some (.tup (k.map kV)))(ry:RelV y u) :
  KT H (eS kvs k y) (storedH xs k b u):=by
 have e:(kvs.any λkv=>decide (kv.1=k))=(atKey xs k).isSome:=by rw[Qq,(r.val k).zX,Option.isSome_map]
 unfold eS storedH;rw[e];by_cases q:(atKey xs k).isSome=true
 .rw[if_pos q,if_pos q];exact r.Cq k ry
 .rw[if_neg q,if_neg q];exact Paired.snoc r ⟨rfl,hb,ry⟩
theorem KT.keeps{H H':Hp}{kvs:List (List aC×V)}{xs:List (List aC×Addr×Value)}(r:KT H kvs xs)(ht:∀b ys,H b=some (.tup ys)->H' b=some (.tup ys)):KT H' kvs xs:=
 Paired.wo r λ_ _ z=>⟨z.1,ht _ _ z.2.1,z.2.2⟩
section
variable {P:Program}{w:World}{H:Hp}{h:Heap}{a:Addr}
theorem Oq{u:HO}(ok:bQ P w H h)(e:Rd H a u):bY P w H h a u:=e.ok ok
theorem uJ{kvs:List (aC×V)}(ok:bQ P w H h)(e:Rd H a (.dK kvs)):kvs.length<=sizeLine/\(a==sysModules)=false/\∃vs,KV kvs vs/\h.DictOf (cY P w) a vs:=
 show bY P w H h a (.dK kvs) from Oq ok e
theorem fu{kvs:List (aC×V)}(ok:bQ P w H h)(e:H a=some (.dK kvs)):kvs.length<=sizeLine/\(a==sysModules)=false/\∃vs,KV kvs vs/\h.DictOf (cY P w) a vs:=uJ ok (.inl e)
theorem uV{ks:List aC}(ok:bQ P w H h)(e:H a=some (.tup (ks.map kV))):(tupleKind (cY P w)).is h ks a:=by obtain⟨_,its,r,o,h1,h2,n,h3⟩:=(show bY P w H h a (.tup (ks.map kV)) from ok a _ e);exact⟨o,its.toArray,n,h1,h2,h3,by simpa using Jp r⟩
theorem uK{kvs:List (List aC×V)}(ok:bQ P w H h)(e:Rd H a (.dT kvs)):kvs.length<=sizeLine/\(a==sysModules)=false /\
  ∃xs,KT H kvs xs/\h.DictOfH (tupleKind (cY P w)) a xs:=by
 obtain⟨z,y,xs,r,o,es,ep,h1,h2,h3,h4,h5⟩:=(show bY P w H h a (.dT kvs) from Oq ok e);refine⟨z,y,xs,r,o,es,ep,h1,h2,h3,h4,λx hx=>?_,h5⟩;have all:∀{l:List (List aC×V)} {m:List (List aC×Addr×Value)},KT H l m->∀x∈m,(tupleKind (cY P w)).is h x.1 x.2.1:=by
  intro l m q;induction q with
  |nil=>intro x hx;exact nomatch hx|@cons p q ps qs hq t ih=>
   intro x hx;rcases List.mem_cons.mp hx with e|hx
   .subst e;exact uV ok (by rw[<- hq.1];exact hq.2.1)
   .exact ih x hx
 exact all r x hx
theorem Vb{kvs:List (List aC×V)}(ok:bQ P w H h)(e:H a=some (.dT kvs)):kvs.length<=sizeLine/\(a==sysModules)=false /\
 ∃xs,KT H kvs xs/\h.DictOfH (tupleKind (cY P w)) a xs:=uK ok (.inl e)
end
def fO(H:Hp)(a:Addr)(y:V)(r:Option V):Prop:=
 (∃kvs k,Rd H a (.dK kvs)/\y=kV k/\r=cO kvs k)\/∃kvs k b,Rd H a (.dT kvs)/\y = .ref b/\H b=some (.tup (k.map kV))/\r=cO kvs k
def yW(H:Hp)(a:Addr)(y v:V)(H':Hp):Prop:=
 (∃kvs k,H a=some (.dK kvs)/\y=kV k/\kvs.length<sizeLine/\H'=aG H a (.dK (eS kvs k v))) \/
 ∃kvs k b,H a=some (.dT kvs)/\y = .ref b/\H b=some (.tup (k.map kV))/\kvs.length<sizeLine/\H'=aG H a (.dT (eS kvs k v))
theorem fO.k{H:Hp}{a:Addr}{kvs:List (aC×V)}{k:aC}(e:H a=some (.dK kvs)):fO H a (kV k) (cO kvs k):=.inl ⟨kvs,k,.inl e,rfl,rfl⟩
theorem yW.k{H:Hp}{a:Addr}{kvs:List (aC×V)}{k:aC}{v:V}(e:H a=some (.dK kvs))(hl:kvs.length<sizeLine):yW H a (kV k) v (aG H a (.dK (eS kvs k v))):=.inl ⟨kvs,k,e,rfl,hl,rfl⟩
section
variable {X:Cx}{pins:List (Addr×Obj)}{U:St}{H:Hp}{s:Shared}{a:Addr}{y v:V}{u r:Value}{o:Option V}{A:Around}{E:Value->Shared->Prop}
theorem Inv.big(I:Inv X pins U H s):sysModules<s.heap.objs.size:=by have h:mainGlobals<s.heap.objs.size:=(I.mod.glob.keeps I.bk).lt;exact Nat.lt_trans (by decide) h
theorem Ui{Q:Value->Shared->Prop}(hu:A.units+1<cLine)(I:Inv X pins U H s)(g:fO H a y (some v))(ry:RelV y u)(h:∀w' s',Inv X pins U H s'->RelV v w'->Q w' s') :
  wpAny (model X.prog X.w) A (getItem (.ref a) u) Q E s:=by
 rcases g with⟨kvs,k,e,ey,l⟩|⟨kvs,k,b,e,ey,eb,l⟩
 .subst ey;obtain⟨z,hd,vs,rel,dd⟩:=uJ I.aD e;obtain⟨w',hw,rw'⟩:=dW.some_of (v:=v) (o:=valueAt vs k) (by rw[l];exact rel.val k);exact wpAny_getItem_of (mX ry) dd.mapOf hw (h w' _ (I.tok _) rw')
 .subst ey;cases(show u=Value.ref b from ry);obtain⟨z,hd,xs,rel,dd⟩:=uK I.aD e;obtain⟨w',hw,rw'⟩:=dW.some_of (v:=v) (o:=(atKey xs k).map (·.2)) (by rw[l];exact rel.val k);obtain⟨p,hp,hp2⟩:=Option.map_eq_some_iff.mp hw;refine wpAny_getItem_heap (tupleKind_room_in1 hu) (uV I.aD eb) dd hp ?_;rw[hp2];exact h w' _ (I.tok _) rw'
theorem Uj{Q:Value->Shared->Prop}(hu:A.units+1<cLine)(I:Inv X pins U H s)(g:fO H a y o)(ry:RelV y u)(h:∀s',Inv X pins U H s'->Q (.bool o.isSome) s') :
  wpAny (model X.prog X.w) A (compareOp .In u (.ref a)) Q E s:=by
 rcases g with⟨kvs,k,e,ey,l⟩|⟨kvs,k,b,e,ey,eb,l⟩
 .subst ey;obtain⟨z,hd,vs,rel,dd⟩:=uJ I.aD e;refine wpAny_in_of (mX ry) hd dd.mapOf ?_;rw[<- (rel.val k).zX,<- l];exact h _ (I.tok _)
 .subst ey;cases(show u=Value.ref b from ry);obtain⟨z,hd,xs,rel,dd⟩:=uK I.aD e;refine wpAny_in_heap (tupleKind_room_in1 hu) (uV I.aD eb) hd dd ?_;have q:=(rel.val k).zX;rw[Option.isSome_map]at q;rw[<- q,<- l];exact h _ (I.tok _)
theorem Uk{Q:Value->Shared->Prop}(hu:A.units+1<cLine)(I:Inv X pins U H s)(g:fO H a y o)(ry:RelV y u)(h:∀s',Inv X pins U H s'->Q (.bool (!o.isSome)) s') :
  wpAny (model X.prog X.w) A (compareOp .NotIn u (.ref a)) Q E s:=by
 rcases g with⟨kvs,k,e,ey,l⟩|⟨kvs,k,b,e,ey,eb,l⟩
 .subst ey;obtain⟨z,hd,vs,rel,dd⟩:=uJ I.aD e;refine wpAny_notIn_of (mX ry) hd dd.mapOf ?_;rw[<- (rel.val k).zX,<- l];exact h _ (I.tok _)
 .subst ey;cases(show u=Value.ref b from ry);obtain⟨z,hd,xs,rel,dd⟩:=uK I.aD e;refine wpAny_notIn_heap (tupleKind_room_in1 hu) (uV I.aD eb) hd dd ?_;have q:=(rel.val k).zX;rw[Option.isSome_map]at q;rw[<- q,<- l];exact h _ (I.tok _)
theorem ft{h':Heap}{t':Nat}{ob:HO}(I:Inv X pins U H s)(mu:wI (H a))(hs:Heap.SameBut a s.heap h')(he:∃q,h'.get? a=some q)(new:bY X.prog X.w (aG H a ob) h' a ob) :
  Inv X pins U (aG H a ob) { s with heap:=h',toks:=t' }:=
 I.write (x:=a) (e:=a) mu (.inl rfl) (λb q hb z=>(hs.2 b hb).trans z) he new
theorem uw{P:Program}{w:World}{H':Hp}{h':Heap}{kvs:List (aC×V)}{vs:List (aC×Value)}(z:kvs.length<=sizeLine)(hd:(a==sysModules)=false)(rel:KV kvs vs)(dd:h'.DictOf (cY P w) a vs) :
 bY P w H' h' a (.dK kvs):=⟨z,hd,vs,rel,dd⟩
theorem Um{H':Hp}{Q:Unit->Shared->Prop}(hu:A.units+1<cLine)(I:Inv X pins U H s)(g:yW H a y v H')(ry:RelV y u)(rv:RelV v r)(h:∀s',Inv X pins U H' s'->Q () s') :
  wpAny (model X.prog X.w) A (setItem (.ref a) u r) Q E s:=by
 rcases g with⟨kvs,k,e,ey,l,eH⟩|⟨kvs,k,b,e,ey,eb,l,eH⟩
 .subst ey eH;obtain⟨z,hd,vs,rel,dd⟩:=fu I.aD e;have hz:vs.length<=sizeLine:=by rw[<- rel.length];exact z
  have hl:(eS kvs k v).length<=sizeLine:=by have:=we kvs k v;omega
  refine wpAny_setItem_pairs (hsz:=hz) (mX ry) dd λh' dd' hs=>h _ ?_;have he:∃q,h'.get? a=some q:=let ⟨q,_,_,hq,_⟩:=dd';⟨q,hq⟩;exact ft I (by rw[e];exact True.intro) hs he (uw hl hd (rel.put k rv) dd')
 .subst ey eH;cases(show u=Value.ref b from ry);obtain⟨z,hd,xs,rel,dd⟩:=Vb I.aD e;have hz:xs.length<=sizeLine:=by rw[<- Paired.length rel];exact z
  have hl:(eS kvs k v).length<=sizeLine:=by have:=we kvs k v;omega
  refine wpAny_setItem_heap (hsz:=hz) (tupleKind_room_in1 hu) (uV I.aD eb) dd λh' dd' hs=>h _ ?_;obtain⟨q,es,ep,hq,h2,h3,h4,_,h5⟩:=dd';refine ft I (by rw[e];exact True.intro) hs ⟨q,hq⟩ ⟨hl,hd,_,(rel.put k eb rv).keeps λc ys ec=>?_,q,es,ep,hq,h2,h3,h4,h5⟩;rw[aO (kY ec e (λz=>nomatch z))];exact ec
end
section
variable {X:Cx}{pins:List (Addr×Obj)}{U:St}{H:Hp}{s:Shared}{a:Addr}{kvs:List (aC×V)}{k:aC}{u:Value}{A:Around}{E:Value->Shared->Prop}
theorem Hf{v:V}{more:List Value}{Q:Value->Shared->Prop}(I:Inv X pins U H s)(e:H a=some (.dK kvs))(ry:RelV (kV k) u)(l:cO kvs k=some v)(hm:more=[]\/∃x,more=[x])
  (h:∀w' s',Inv X pins U (aG H a (.dK (kW kvs k))) s'->RelV v w'->Q w' s'):wpAny (model X.prog X.w) A (call (.builtin "dict.pop") (.ref a::u::more)) Q E s:=by
 obtain⟨z,hd,vs,rel,dd⟩:=fu I.aD e;obtain⟨w',hw,rw'⟩:=dW.some_of (v:=v) (o:=valueAt vs k) (by rw[<- l];exact rel.val k);have hp:(keyPart u).isSome=true:=by
  cases k with
  |inl i=>obtain⟨t,q⟩:=(show∃t,u=Value.int i t from ry);subst q;rfl|inr x=>obtain⟨t,q⟩:=(show∃t,u=Value.str x t from ry);subst q;rfl
 have ha:argsOk "dict.pop" ⟨.ref a::u::more,[]⟩:=by
  rcases hm with q|⟨x,q⟩
  .subst q;exact PySem.F.args_dict_pop_2 _ _
  .subst q;exact PySem.F.args_dict_pop_3 _ _ _
 refine call_meetsIn PySem.F.slot_dict_pop dd.typeIs PySem.F.entry_dict_pop ha (meets_dict_pop_there (cY X.prog X.w) a (mX ry) more hm hp)
  ⟨vs,w',dd,by rw[<- rel.length];exact z,hw,λh' dd' hs=>h w' _ ?_ rw'⟩
 have he:∃q,h'.get? a=some q:=let ⟨q,_,_,hq,_⟩:=dd';⟨q,hq⟩;exact ft I (by rw[e];exact True.intro) hs he (uw (Nat.le_trans (Uy kvs k) z) hd (rel.drop k) dd')
theorem Ul{r:Value}{Q:Value->Shared->Prop}(I:Inv X pins U H s)(e:H a=some (.dK kvs))(ry:RelV (kV k) u)(l:cO kvs k=none)(h:∀s',Inv X pins U H s'->Q r s') :
  wpAny (model X.prog X.w) A (call (.builtin "dict.pop") [.ref a,u,r]) Q E s:=by
 obtain⟨z,hd,vs,rel,dd⟩:=fu I.aD e;have hn:valueAt vs k=none:=dW.none_of (by rw[<- l];exact rel.val k);have hp:(keyPart u).isSome=true:=by
  cases k with
  |inl i=>obtain⟨t,q⟩:=(show∃t,u=Value.int i t from ry);subst q;rfl|inr x=>obtain⟨t,q⟩:=(show∃t,u=Value.str x t from ry);subst q;rfl
 exact call_meetsIn PySem.F.slot_dict_pop dd.typeIs PySem.F.entry_dict_pop (PySem.F.args_dict_pop_3 _ _ _) (meets_dict_pop_default (cY X.prog X.w) a (mX ry) hd hp r) ⟨vs,dd,hn,h _ (I.tok _)⟩
end
theorem Uv{X:Cx}{pins:List (Addr×Obj)}{U:St}{H:Hp}{s:Shared}{a:Addr}{y:V}{o:Option V}(I:Inv X pins U H s)(g:fO H a y o):s.TypeIs (.ref a) "dict":=by
 rcases g with⟨kvs,k,e,_,_⟩|⟨kvs,k,b,e,_,_,_⟩
 .obtain⟨_,_,vs,_,dd⟩:=uJ I.aD e;exact dd.typeIs
 .obtain⟨_,_,xs,_,dd⟩:=uK I.aD e;exact dd.typeIs
theorem Uw{P:Program}{w:World}{H:Hp}(h:Heap)(hb:sysModules<h.objs.size):bY P w H (h.push { cls:=.type "dict",data:=.dict #[] }) h.objs.size (.dK []):=
 ⟨Nat.zero_le _,beq_eq_false_iff_ne.mpr (Ne.symm (Nat.ne_of_lt hb)),[],.nil,Heap.DictOf.new h⟩
def QM:TE:=λ_ H Q=>∀p,H p=none->Q (.ref p) (aG H p (.dK []))
section
variable {X:Cx}{pos:Pos}
theorem EG:PE X (.Dict [] [] pos) QM:=λpins s U H Q I h=>wpAny_Dict_empty ⟨.ref s.heap.objs.size,_,I.laid (a:=s.heap.objs.size) (o:=.dK []) (t':=s.toks) (λ_ _ q=>Heap.get?_push_of_some _ q) (Nat.le_refl _) (Uw s.heap I.big),rfl,h _ (I.aD.fresh (Nat.le_refl _))⟩
end
section
variable {X:Cx}{pins:List (Addr×Obj)}{U:St}{H:Hp}{s:Shared}{a:Addr}{y d:V}{u r:Value}{o:Option V}{A:Around}{E:Value->Shared->Prop}
theorem Ug{Q:Value->Shared->Prop}(hu:A.units+1<cLine)(I:Inv X pins U H s)(g:fO H a y o)(ry:RelV y u)(h:∀w' s',Inv X pins U H s'->RelV (o.getD .aE) w'->Q w' s') :
  wpAny (model X.prog X.w) A (call (.builtin "dict.get") [.ref a,u]) Q E s:=by
 rcases g with⟨kvs,k,e,ey,l⟩|⟨kvs,k,b,e,ey,eb,l⟩
 .subst ey;obtain⟨z,hd,vs,rel,dd⟩:=uJ I.aD e;refine call_meetsIn PySem.F.slot_dict_get dd.typeIs PySem.F.entry_dict_get (PySem.F.args_dict_get_2 _ _) (meets_dict_get (cY X.prog X.w) a (mX ry) hd) ⟨_,dd.mapOf,h _ _ (I.tok _) ?_⟩;rw[l];exact(rel.val k).getD rfl
 .subst ey;cases(show u=Value.ref b from ry);obtain⟨z,hd,xs,rel,dd⟩:=uK I.aD e;refine call_meetsIn PySem.F.slot_dict_get dd.typeIs PySem.F.entry_dict_get (PySem.F.args_dict_get_2 _ _) (meetsH_dict_get (tupleKind (cY X.prog X.w)) a b hd) ⟨tupleKind_room_in1 hu,k,xs,uV I.aD eb,dd,h _ _ (I.tok _) ?_⟩;rw[l];exact(rel.val k).getD rfl
theorem Uh{Q:Value->Shared->Prop}(hu:A.units+1<cLine)(I:Inv X pins U H s)(g:fO H a y o)(ry:RelV y u)(rd:RelV d r)(h:∀w' s',Inv X pins U H s'->RelV (o.getD d) w'->Q w' s') :
  wpAny (model X.prog X.w) A (call (.builtin "dict.get") [.ref a,u,r]) Q E s:=by
 rcases g with⟨kvs,k,e,ey,l⟩|⟨kvs,k,b,e,ey,eb,l⟩
 .subst ey;obtain⟨z,hd,vs,rel,dd⟩:=uJ I.aD e;refine call_meetsIn PySem.F.slot_dict_get dd.typeIs PySem.F.entry_dict_get (PySem.F.args_dict_get_3 _ _ _) (meets_dict_get_default (cY X.prog X.w) a (mX ry) hd r) ⟨_,dd.mapOf,h _ _ (I.tok _) ?_⟩;rw[l];exact(rel.val k).getD rd
 .subst ey;cases(show u=Value.ref b from ry);obtain⟨z,hd,xs,rel,dd⟩:=uK I.aD e;refine call_meetsIn PySem.F.slot_dict_get dd.typeIs PySem.F.entry_dict_get (PySem.F.args_dict_get_3 _ _ _) (meetsH_dict_get_default (tupleKind (cY X.prog X.w)) a b hd r) ⟨tupleKind_room_in1 hu,k,xs,uV I.aD eb,dd,h _ _ (I.tok _) ?_⟩;rw[l];exact(rel.val k).getD rd
end
theorem bY.get{P:Program}{w:World}{H:Hp}{h:Heap}{a:Addr}{o:HO}(x:bY P w H h a o):∃ob,h.get? a=some ob:=by
 cases o with
 |lst xs=>obtain⟨_,_,_,_,e⟩:=x;exact⟨_,e⟩|tup xs=>obtain⟨_,_,_,ob,e,_⟩:=x;exact⟨_,e⟩|dK kvs=>obtain⟨_,_,_,_,o,_,_,e,_⟩:=x;exact⟨_,e⟩|dT kvs=>obtain⟨_,_,_,_,o,_,_,e,_⟩:=x;exact⟨_,e⟩|set S n=>obtain⟨o,_,_,_,e,_⟩:=x;exact⟨_,e⟩|ins C dx fs=>obtain⟨_,_,_,e,_⟩:=x;exact⟨_,e⟩|own y=>exact x|xd fs=>obtain⟨_,⟨_,_,_,e,_⟩,_⟩:=x;exact⟨_,e⟩|pj lo hi=>obtain⟨_,_,_,e⟩:=x;exact⟨_,e⟩|bC ob u=>obtain⟨e,_⟩:=x;exact⟨_,e⟩|tV ps=>exact⟨_,show h.get? a=some _ from x⟩|met f y=>exact⟨_,show h.get? a=some _ from x⟩|ext φ=>obtain⟨_,e,_⟩:=x;exact e
def dk(B:Heap)(fs:List Addr)(h0:Heap)(H':Hp)(h:Heap):Prop:=∀b o,h.get? b=some o->b∉fs->((∃u,h0.get? b=some u)\/H' b≠none)->B.get? b=some o
def cD(P:Program)(w:World):gK:=λouter H s E e s'=>
 ∃(a:Addr) (cls:Value) (H':Hp) (B:Heap) (a0:Value),e = .ref a/\s'.os=s.os/\AllBare s'.gens/\Un (bW outer) [] H H' s.heap s'.heap/\bQ P w H' s'.heap /\
  Heap.FlyingW B outer a cls a0 s'.heap/\dk B (bW outer) s.heap H' s'.heap/\E cls none H'
theorem bQ.eI{P:Program}{w:World}{H':Hp}{h h' h0 B:Heap}{fs:List Addr}(x:bQ P w H' h)(c:dk B fs h0 H' h)(k:B.StaysIn h')(nf:∀b∈fs,H' b=none):bQ P w H' h':=λa o e=>
 (x a o e).gI (λb u hb q=>by
  have ht:H' b≠none:=by
   rcases hb with rfl|hb
   .rw[e];intro z;cases z
   .rw[hb];intro z;cases z
  exact k b u (c b u q (λz=>ht (nf b z)) (.inr ht))) (λ_ q=>q) λ_ _ q=>q
section
variable {X:Cx}{pins:List (Addr×Obj)}{U:St}{H1:Hp}{s1 s':Shared}{E:XK}{e:Value}
theorem Xi(I:Inv X pins U H1 s1)(hx:X.ex=[])(hs:X.stack=X.env::X.outer)(hf:X.env.frame=some X.env.locals)(h:cD X.prog X.w X.stack H1 s1 E e s'){M:Model}{E':Value->Shared->Prop} :
  wpAny M X.A (leaving X.env e) (λ_ s''=>cD X.prog X.w X.outer X.H₀ X.s₀ E e s'') E' s':=by
 obtain⟨a,cls,H',B,a0,rfl,os,bare,un,aD,eI,calm,q⟩:=h;have hfr:X.A.frames=some (X.env::X.outer):=by rw[<- hs];exact I.ok.frames
 rw[hs]at eI;refine wpAny_leaves_onW hfr hf eI λh' fly' up=>?_;have nin:∀b o,X.s₀.heap.get? b=some o->b≠X.env.locals:=λb o e z=>by have:=Heap.lt_size e;rw[z]at this;exact absurd (Nat.lt_of_lt_of_le this I.ok.above) (Nat.lt_irrefl _)
 have fst:∀b,b∈bW X.stack->b=X.env.locals\/b∈X.fs:=λb hb=>List.mem_cons.mp (I.cx b hb);have nst:∀b o,X.s₀.heap.get? b=some o->b∉X.fs->b∉bW X.stack:=λb o e n z=>by
  rcases fst b z with z|z
  .exact nin b o e z
  .exact n z
 have sub:∀b∈X.fs,b∈bW X.stack:=λb hb=>by rw[hs];unfold bW;rw[List.filterMap_cons,hf];exact List.mem_cons_of_mem _ hb
 have nx:∀b:Addr,b∉X.ex:=λb z=>by rw[hx]at z;cases z
 have n0:∀b:Addr,b∉([]:List Addr):=λb z=>by cases z
 have nf:∀b∈bW X.stack,H' b=none:=λb hb=>by obtain⟨_,o,ho,_⟩:=I.stack.mem hb;exact un.free b o ho (I.yO b hb) (n0 b)
 have old:∀b o,X.s₀.heap.get? b=some o->∃u,s1.heap.get? b=some u:=λb o e=>I.base.there b o e (nx b);have inB:∀b o o',X.s₀.heap.get? b=some o->b∉X.fs->s'.heap.get? b=some o'->B.get? b=some o':=λb o o' e n e'=>calm b o' e' (nst b o e n) (.inl (old b o e));have slots:∀b∈X.fs,∀o,s'.heap.get? b=some o->∃sl,h'.get? b=some { o with slots:=sl }:=λb hb o e=>by obtain⟨_,o',ho,hd⟩:=eI.2.2.1.mem (by rw[<- hs];exact sub b hb);rw[e]at ho;cases ho;exact up b o e hd
 refine⟨a,cls,H',B,a0,rfl,os.trans I.os,bare,⟨λb o e n hb _=>?_,λb o e n hb _=>?_,λb o e n _=>?_,λb o e _=>?_,λb xs z=>un.gX b xs (I.base.gX b xs z),λb o u z=>un.fQ b o u (I.base.fQ b o u z),λb ps z=>?_⟩,aD.eI calm fly'.1 nf,fly',λb o e n w=>?_,q⟩
 .have e1:=I.base.keep b o e n hb (nx b);have e2:=un.keep b o e1 (I.base.free b o e n (nx b)) (nst b o e hb) (n0 b);exact fly'.1 b o (inB b o o e hb e2)
 .obtain⟨sl,e1⟩:=I.base.slot b o e n hb (nx b);obtain⟨sl2,e2⟩:=un.slot b _ e1 (I.base.free b o e n (nx b)) (sub b hb) (n0 b);obtain⟨sl3,e3⟩:=slots b hb _ e2;exact⟨sl3,e3⟩
 .obtain⟨u,e1⟩:=old b o e;exact un.free b u e1 (I.base.free b o e n (nx b)) (n0 b)
 .obtain⟨u,e1⟩:=old b o e;obtain⟨u2,e2⟩:=un.there b u e1 (n0 b);by_cases hb:b∈X.fs
  .obtain⟨sl,e3⟩:=slots b hb u2 e2;exact⟨_,e3⟩
  .exact⟨u2,fly'.1 b u2 (inB b o u2 e hb e2)⟩
 .obtain⟨m1,e1⟩:=I.base.gU b ps z;obtain⟨m2,e2⟩:=un.gU b _ e1;exact⟨m1++m2,by rw[e2,Array.append_assoc]⟩
 .have:∃o',s'.heap.get? b=some o'/\B.get? b=some o':=by
   rcases w with⟨u,w⟩|w
   .obtain⟨u1,e1⟩:=old b u w;obtain⟨u2,e2⟩:=un.there b u1 e1 (n0 b);exact⟨u2,e2,inB b u u2 w n e2⟩
   .cases hh:H' b with
    |none=>exact absurd hh w|some y=>obtain⟨u2,e2⟩:=(aD b y hh).get;exact⟨u2,e2,calm b u2 e2 (λz=>w (nf b z)) (.inr w)⟩
  obtain⟨o',_,e2⟩:=this;have q2:=fly'.1 b o' e2;rw[e]at q2;cases q2;exact e2
end
theorem jl{P:Program}{w:World}{K:W.Frag}{mg:Str->Option Value}{base:Heap}{N:List Str}{qual:Str}{scope:Scope}{f:Addr}{cd:Value}{A:Around}{outer:List Env}{s:Shared}{H:Hp}{E:XK} :
 mR (cD P w) (oK (cD P w) P w K mg base N qual scope f cd A outer s H E) E:=λpins U H1 s1 e s' I h=>Xi I rfl rfl rfl h
section
variable {X:Cx}{pins:List (Addr×Obj)}{U:St}{H:Hp}{s:Shared}{E:XK}{e:Addr}{h1:Heap}{cls:Value}{vs:List Value}
theorem Xh(I:Inv X pins U H s)(hx:X.ex=[])(hs:X.stack=X.env::X.outer)(hf:X.env.frame=some X.env.locals)(m:Heap.MadeExcOf s.heap h1 e cls vs)(q:E cls none H){M:Model}{E':Value->Shared->Prop} :
  wpAny M X.A (leaving X.env (.ref e)) (λ_ s''=>cD X.prog X.w X.outer X.H₀ X.s₀ E (.ref e) s'') E' { s with heap:=h1 }:=by
 have hfr:X.A.frames=some (X.env::X.outer):=by rw[<- hs];exact I.ok.frames
 have hin:∀env∈(X.env::X.outer),∀b,env.frame=some b->b∈bW X.stack:=λenv he b hb=>by rw[hs];exact List.mem_filterMap.mpr ⟨env,he,hb⟩
 have fV:=I.stack;rw[hs]at fV;refine wpAny_leaves_madeW (s:={ s with heap:=h1 }) (base:=W.hideAll s.heap (bW X.stack)) hfr hf (λb o z=>W.of_hideAll _ z) (W.funFrames_hide fV hin) m λh' t fly' _ _ up=>?_;have nin:∀b o,X.s₀.heap.get? b=some o->b≠X.env.locals:=λb o e z=>by have:=Heap.lt_size e;rw[z]at this;exact absurd (Nat.lt_of_lt_of_le this I.ok.above) (Nat.lt_irrefl _)
 have nst:∀b o,X.s₀.heap.get? b=some o->b∉X.fs->b∉bW X.stack:=λb o e n z=>by
  rcases List.mem_cons.mp (I.cx b z)with z|z
  .exact nin b o e z
  .exact n z
 have sub:∀b∈X.fs,b∈bW X.stack:=λb hb=>by rw[hs];unfold bW;rw[List.filterMap_cons,hf];exact List.mem_cons_of_mem _ hb
 have nx:∀b:Addr,b∉X.ex:=λb z=>by rw[hx]at z;cases z
 have hB:∀b o,s.heap.get? b=some o->b∉bW X.stack->(W.hideAll s.heap (bW X.stack)).get? b=some o:=λb o z n=>W.hideAll_get _ z n;have slots:∀b∈X.fs,∀o,s.heap.get? b=some o->∃sl,h'.get? b=some { o with slots:=sl }:=λb hb o z=>by obtain⟨_,o',ho,hd⟩:=I.stack.mem (sub b hb);rw[z]at ho;cases ho;exact up b o (m.keeps b o z) hd
 have calm:dk (W.hideAll s.heap (bW X.stack)) (bW X.stack) X.s₀.heap H s.heap:=λb o z n _=>hB b o z n;refine⟨e,cls,H,_,_,rfl,I.os,I.bare,⟨λb o z n hb _=>?_,λb o z n hb _=>?_,λb o z n _=>I.base.free b o z n (nx b),λb o z _=>?_,I.base.gX,I.base.fQ,I.base.gU⟩,I.aD.eI calm fly'.1 I.yO,fly',λb o z n w=>?_,q⟩
 .exact fly'.1 b o (hB b o (I.base.keep b o z n hb (nx b)) (nst b o z hb))
 .obtain⟨sl,e1⟩:=I.base.slot b o z n hb (nx b);obtain⟨sl3,e3⟩:=slots b hb _ e1;exact⟨sl3,e3⟩
 .obtain⟨u,e1⟩:=I.base.there b o z (nx b);by_cases hb:b∈X.fs
  .obtain⟨sl,e3⟩:=slots b hb u e1;exact⟨_,e3⟩
  .exact⟨u,fly'.1 b u (hB b u e1 (nst b o z hb))⟩
 .have:∃o',(W.hideAll s.heap (bW X.stack)).get? b=some o':=by
   rcases w with⟨u,w⟩|w
   .obtain⟨u1,e1⟩:=I.base.there b u w (nx b);exact⟨u1,hB b u1 e1 (nst b u w n)⟩
   .cases hh:H b with
    |none=>exact absurd hh w|some y=>obtain⟨u2,e2⟩:=(I.aD b y hh).get;exact⟨u2,hB b u2 e2 λz=>w (I.yO b z)⟩
  obtain⟨o',e2⟩:=this;have q2:=fly'.1 b o' e2;rw[z]at q2;cases q2;exact e2
end
theorem DV{K:W.Frag}{h₀:Heap}{C:Addr}{bmB:List Value}{newId:String}(X:K.In h₀)(q:W.excIn K C bmB newId=true) :
  ∃bm N nm q bs hdct sn sub ab col dd k0 k1 k2 k3 k5 mN,h₀.get? C=some (excClassObj nm q C N bs bm hdct sn sub ab col dd k0 k1 k2 k3 k5 newId)/\h₀.Ns N mN/\mN "__init__"=none/\OwnTail h₀ bmB bm:=by
 unfold W.excIn at q;split at q
 .rename_i dd cd sl ho;split at q
  .rename_i C' bm k0 k1 k2 k3 n k5 hm hs;simp only[Bool.and_eq_true,beq_iff_eq,Bool.not_eq_true']at q;obtain⟨⟨⟨⟨⟨rfl,rfl⟩,hdel⟩,ht⟩,aD⟩,hni⟩:=q;obtain⟨nm,bs,mro,ns,qn,hd,sn,sub,ab,col,jE⟩:=cd;dsimp only at hm hdel aD hni;subst hm hdel;have hsl:sl=#[k0,k1,k2,k3,some (.builtin n),k5]:=by obtain⟨l⟩:=sl;simp only at hs;rw[hs]
   subst hsl;exact⟨bm,ns,nm,qn,bs,hd,sn,sub,ab,col,dd,k0,k1,k2,k3,k5,_,X _ _ ho,.of_isNs (W.isNs_of_in X aD),W.nsMap_none_of_in X aD hni,W.tail_of_in X ht⟩
  .cases q
 .cases q
section
variable {X:Cx}{x:Str}{C:Addr}{bmB:List Value}{Bn newId initId:String}{np cpos pos:Pos}{e₀:Expr}{rest:List Expr}{ta:TA}{E:XK}
def dy(X:Cx)(E:XK):Prop:=∀(pins:List (Addr×Obj)) (U:St) (H:Hp) (s:Shared) (e:Addr) (h1:Heap) (cls:Value) (vs:List Value),Inv X pins U H s->Heap.MadeExcOf s.heap h1 e cls vs->E cls none H->X.xe (.ref e) { s with heap:=h1 }
def RE(C:Addr)(E:XK)(ta:TA):TS:=λ_ U H=>ta U H λvs H1=>vs.length<=sizeLine/\E (.ref C) none H1
theorem GN(hc:X.calm=true)(hg:Gl X x)(hm:X.mg x=some (.ref C))(q:W.excIn X.K C bmB newId=true)(FB:ExcBaseFacts Bn newId initId bmB)(hX:dy X E)(ha:PA X (e₀::rest) ta)
  (hdb:(x==("__debug__":Str))=false:=by decide)
  (he:starEach (e₀::rest) X.env=(false,eval e₀ X.env)::starEach rest X.env:=by rfl) (hpl:(backTo cpos (starEach rest X.env)).any (·.1)=false:=by rfl) :
  PS X (.Raise (some (.Call (.Name x np) (e₀::rest) [] cpos)) none pos) (RE C E ta):=by
 intro pins s U H D I h;obtain⟨bm,N,nm,qn,bs,hdct,sn,sub,ab,col,dd,k0,k1,k2,k3,k5,mN,hC,hN,hni,TL⟩:=DV I.mod.rN q;refine wpAny_Raise_call_subT (C:=C) (nm:=nm) (q:=qn) (N:=N) (bs:=bs) (bm:=bm) (hdct:=hdct) (sn:=sn) (sub:=sub) (ab:=ab) (col:=col) (dd:=dd) (k0:=k0) (k1:=k1) (k2:=k2) (k3:=k3) (k5:=k5)
  FB (mN:=mN) (TL.hasType FB.hasBase) (I.ok.hd hc) (by rw[he];show(false||(backTo cpos (starEach rest X.env)).any (·.1))=false;rw[hpl];rfl) hni (rP I hg hm ⟨rfl,?_⟩ hdb)
 have h2:=ha cpos pins s U H _ I h;rw[he]at h2 ⊢;refine Calls.evalArgs_plain (wpAny_mono h2 (λus s₂ ⟨vs,H1,I1,r,l,z⟩=>⟨rfl,by rw[<- r.length];exact l,I1.bk _ _ hC,hN.keeps I1.bk,TL.keeps I1.bk,λh' e m=>hX pins U H1 s₂ e h' _ _ I1 m z⟩) λ_ _ y=>y)
end
theorem MS{P:Program}{w:World}{K:W.Frag}{mg:Str->Option Value}{base:Heap}{N:List Str}{qual:Str}{scope:Scope}{f:Addr}{cd:Value}{A:Around}{outer:List Env}{s:Shared}{H:Hp}{E:XK} :
 dy (oK (cD P w) P w K mg base N qual scope f cd A outer s H E) E:=λpins U H1 s1 e h1 cls vs I m q=>Xh I rfl rfl rfl m q
def iY(a:Addr)(cls:Value)(h:Heap):Prop:=∃ob,h.get? a=some ob/\ob.cls=cls
abbrev Cx.held(X:Cx)(a:Addr):Cx:={ X with A:=X.A.mark (some (.ref a)),calm:=false,xe:=λ_ _=>False }
section
variable {X:Cx}{pins:List (Addr×Obj)}{U:St}{H H':Hp}{s s':Shared}{a:Addr}{cls a0:Value}{B h5:Heap}
theorem Inv.Dk(I:Inv X pins U H s):Inv (X.held a) pins U H s:=
 ⟨⟨I.ok.mod,I.ok.kind,I.ok.glob,I.ok.blt,I.ok.above,I.ok.inj,I.ok.has,I.ok.oI,λz=>Bool.noConfusion z,I.ok.frames,I.ok.fV,I.ok.oQ,I.ok.bs,I.ok.gL,I.ok.oZ,I.ok.mS,I.ok.fG,I.ok.jF⟩,I.os,I.bare,I.base,I.loc,I.cell,I.free,I.eX,I.pin,I.aD,I.len⟩
theorem Inv.rS(ok:X.Ok)(I:Inv (X.held a) pins U H s):Inv X pins U H s:=⟨ok,I.os,I.bare,I.base,I.loc,I.cell,I.free,I.eX,I.pin,I.aD,I.len⟩
theorem Inv.Gh(I:Inv X pins U H s)(os:s'.os=s.os)(bare:AllBare s'.gens)(un:Un (bW X.stack) [] H H' s.heap s'.heap)(aD:bQ X.prog X.w H' s'.heap)
  (eI:Heap.FlyingW B X.stack a cls a0 s'.heap) (calm:dk B (bW X.stack) s.heap H' s'.heap) (k:B.StaysIn h5) (up:s'.heap.UpToSlots h5) (there:iY a cls h5) :
  H' a=none/\Inv X pins U (aG H' a (.ext (iY a cls))) { s' with heap:=h5 }:=by
 have n0:∀b:Addr,b∉([]:List Addr):=λb z=>by cases z
 have nas:a∉bW X.stack:=λz=>by obtain⟨_,o,ho,hd⟩:=eI.2.2.1.mem z;obtain⟨oe,vs,he,_,hv,_⟩:=eI.first;rw[ho]at he;cases he;exact hd vs hv
 have naB:B.get? a=none:=eI.2.1;have naH:H' a=none:=by
  cases q:H' a with
  |none=>rfl|some y=>obtain⟨o,ho⟩:=(aD a y q).get;have:=calm a o ho nas (.inr (by rw[q];intro z;cases z));rw[naB]at this;cases this
 have na:∀b o,s.heap.get? b=some o->b≠a:=λb o e z=>by subst z;obtain⟨o',e'⟩:=un.there b o e (n0 b);have:=calm b o' e' nas (.inl ⟨o,e⟩);rw[naB]at this;cases this
 have nf:∀b∈bW X.stack,H' b=none:=λb hb=>by obtain⟨_,o,ho,_⟩:=I.stack.mem hb;exact un.free b o ho (I.yO b hb) (n0 b)
 have nt:∀{b:Addr} {o:HO},H' b=some o->b≠a:=λ{b o} e=>dI e naH;have slots:∀b∈bW X.stack,∀o,s'.heap.get? b=some o->∃sl,h5.get? b=some { o with slots:=sl }:=λb hb o e=>by obtain⟨_,o',ho,hd⟩:=eI.2.2.1.mem hb;rw[e]at ho;cases ho;exact up b o e hd
 refine⟨naH,I.Gg (s':={ s' with heap:=h5 }) (ch:=[]) os ⟨λb o e n hb _=>?_,λb o e n hb _=>?_,λb o e n _=>?_,λb o e _=>?_,λb xs e=>?_,λb o u e=>?_,λb ps e=>?_⟩ ?_ bare λb z=>absurd z (n0 b)⟩
 .have e2:=un.keep b o e n hb (n0 b);exact k b o (calm b o e2 hb (.inl ⟨o,e⟩))
 .obtain⟨sl,e2⟩:=un.slot b o e n hb (n0 b);obtain⟨sl3,e3⟩:=slots b hb _ e2;exact⟨sl3,e3⟩
 .rw[aO (na b o e)];exact un.free b o e n (n0 b)
 .obtain⟨u2,e2⟩:=un.there b o e (n0 b);by_cases hb:b∈bW X.stack
  .obtain⟨sl,e3⟩:=slots b hb u2 e2;exact⟨_,e3⟩
  .exact⟨u2,k b u2 (calm b u2 e2 hb (.inl ⟨o,e⟩))⟩
 .have:=un.gX b xs e;rw[aO (nt this)];exact this
 .have:=un.fQ b o u e;rw[aO (nt this)];exact this
 .obtain⟨m2,e2⟩:=un.gU b ps e;exact⟨m2,by rw[aO (nt e2)];exact e2⟩
 .have ok5:=aD.eI calm k nf;intro b u q;by_cases hb:b=a
  .subst hb;rw[cQ]at q;cases q;obtain⟨ob,h1,h2⟩:=there;exact⟨⟨ob,h1,h2⟩,⟨ob,h1⟩,λh1 h2 ⟨o,g1,g2⟩ kk=>⟨o,kk o g1,g2⟩⟩
  .rw[aO hb]at q;exact(ok5 b u q).gI (λ_ _ _ z=>z) (λc z=>by rw[aO (nt z)];exact z) λc xs z=>by rw[aO (nt z)];exact z
theorem fz{M:Model}{A:Around}{E:Value->Shared->Prop}{i:Nat}{n:Str}{pos:Pos}{Q:Unit->Shared->Prop}(I:Inv X pins U H s)(hN:X.N.Nodup)(hi:X.N[i]?=some n)(hk:X.env.kindOf n=some .local)
  (h:∀s',Inv X pins (U.set i none) H s'->Q () s'):wpAny M A (do bindName X.env n .none;unbindBehindTheSuite X.env n pos) Q E s:=by
 obtain⟨m,hn,hl⟩:=id I.loc;have hcls:(X.env.scope.kind == .class||(X.env.scope.kind == .module&&X.env.locals != X.env.globals))=false:=by rw[I.ok.kind];rfl
 have kR:=I.kR;refine wpAny_nameGoes_keeps hk hn hcls λh' v hn' hs=>?_;obtain⟨oL,_,_,hoL,_⟩:=id hn;have old:∀b o,X.s₀.heap.get? b=some o->b≠X.env.locals:=λb o e=>Nat.ne_of_lt (Nat.lt_of_lt_of_le (Heap.lt_size e) I.ok.above);refine h _ ⟨I.ok,I.os,I.bare,⟨λb o e n hb hx=>(hs.2 b (old b o e)).trans (I.base.keep b o e n hb hx),λb o e n hb hx=>?_,I.base.free,λb o e hx=>?_,I.base.gX,I.base.fQ,I.base.gU⟩,⟨_,hn',λj y v' e1 e2 e3=>?_⟩,λy c e=>?_,I.free,I.eX,λp hp=>?_,λb ob e=>?_,by simpa using I.len⟩
 .obtain⟨sl,e1⟩:=I.base.slot b o e n hb hx;exact⟨sl,(hs.2 b (old b o e)).trans e1⟩
 .obtain⟨o',e1⟩:=I.base.there b o e hx;exact⟨o',(hs.2 b (old b o e)).trans e1⟩
 .by_cases hj:j=i
  .subst hj;by_cases hlt:j<U.length
   .rw[List.getElem?_set_self hlt]at e2;cases e2
   .rw[List.getElem?_eq_none (by simpa using hlt)]at e2;cases e2
  .rw[List.getElem?_set_ne (Ne.symm hj)]at e2;obtain⟨u',r',q⟩:=hl j y v' e1 e2 e3;refine⟨u',r',?_⟩;rcases q with⟨k,e⟩|⟨k,c,e,z⟩
   .refine .inl ⟨k,?_⟩;have:y≠n:=λe=>hj (xf hN e1 (e▸hi));simp[this,e]
   .exact .inr ⟨k,c,e,z.sameBut hs (kR y c e)⟩
 .obtain⟨w',z⟩:=I.cell y c e;exact⟨w',z.sameBut hs (kR y c e)⟩
 .obtain⟨e,n,ne,nf,d⟩:=I.pin p hp;exact⟨(hs.2 p.1 ne).trans e,n,ne,nf,d⟩
 .refine(I.aD b ob e).gI (λc w' hc q=>(hs.2 c ?_).trans q) (λ_ q=>q) λ_ _ q=>q;rintro rfl
  have hfree:=I.free;rcases hc with rfl|hc
  .rw[hfree]at e;cases e
  .rw[hfree]at hc;cases hc
end
def clsIn(K:W.Frag)(C:Addr):Bool:=match K.lookup C with
 |some ⟨.type "type",_,.cls cd,sl⟩=>(match cd.mro,sl.toList with
  |.ref C'::bm,[_,_,_,_,some (.builtin _),_]=>C'==C && !cd.hasDel&&bm.contains (.type "BaseException")
  |_,_=>false)
 |_=>false
def mroOf(K:W.Frag)(C:Addr):List Value:=match K.lookup C with
 |some ⟨_,_,.cls cd,_⟩=>cd.mro
 |_=>[]
theorem Gr{K:W.Frag}{h₀:Heap}{C:Addr}(X:K.In h₀)(q:clsIn K C=true) :
  ∃bm N nm q bs hdct sn sub ab col dd k0 k1 k2 k3 k5 newId,h₀.get? C=some (excClassObj nm q C N bs bm hdct sn sub ab col dd k0 k1 k2 k3 k5 newId)/\mroOf K C = .ref C::bm/\bm.contains (.type "BaseException")=true:=by
 unfold clsIn at q;split at q
 .rename_i dd cd sl ho;have hmro:mroOf K C=cd.mro:=by unfold mroOf;rw[ho]
  split at q
  .rename_i C' bm k0 k1 k2 k3 n k5 hm hs;simp only[Bool.and_eq_true,beq_iff_eq,Bool.not_eq_true']at q;obtain⟨⟨rfl,hdel⟩,hb⟩:=q;rw[hm]at hmro;obtain⟨nm,bs,mro,ns,qn,hd,sn,sub,ab,col,jE⟩:=cd;dsimp only at hm hdel;subst hm hdel;have hsl:sl=#[k0,k1,k2,k3,some (.builtin n),k5]:=by obtain⟨l⟩:=sl;simp only at hs;rw[hs]
   subst hsl;exact⟨bm,ns,nm,qn,bs,hd,sn,sub,ab,col,dd,k0,k1,k2,k3,k5,n,X _ _ ho,hmro,hb⟩
  .cases q
 .cases q
section
variable {M:Model}{A:Around}{E:Value->Shared->Prop}
variable {nm q nm' q':Str}{C N D N':Addr}{bs bm bs' bm':List Value}{hdct hdct':Bool}{sn sn':List Str}{sub sub':List Value}{ab ab':Bool}{col col':Option Bool}{dd dd':Option Addr}{k0 k1 k2 k3 k5 j0 j1 j2 j3 j5:Option Value}{newId newId':String}
theorem Hs{b:Bool}{h:Heap}{g:Array GenState}{d:Drawn}{t:Nat}{os:OsState}{e:Addr}{oe:Obj}{Q:Bool->Shared->Prop}
  (hC:h.get? C=some (excClassObj nm q C N bs bm hdct sn sub ab col dd k0 k1 k2 k3 k5 newId)) (hD:h.get? D=some (excClassObj nm' q' D N' bs' bm' hdct' sn' sub' ab' col' dd' j0 j1 j2 j3 j5 newId'))
  (he:h.get? e=some oe) (hcls:oe.cls = .ref C) (hbase:bm'.contains (.type "BaseException")=true) (hsub:(Value.ref C::bm).contains (.ref D)=b)
  (hq:Q b ⟨h,g,d,t,os⟩):wpAny M A (excMatches (.ref e) (.ref D)) Q E ⟨h,g,d,t,os⟩:=by
 have hcB:(Value.ref D::bm').contains (.type "BaseException")=true:=by rw[List.contains_cons,hbase,Bool.or_true]
 have f:=tc_notTuple;unfold excMatches;cases b<;>repeat (first|(with_reducible refine wpAny_loadPart_at he ?_;rw[hcls])|with_reducible refine wpAny_loadPart_at hD ?_|(with_reducible refine wpAny_isSubtype_exc hD ?_;rw[hcB])|(with_reducible refine wpAny_isSubtype_exc hC ?_;rw[hsub])|wp_step|exact hq)
end
def wJ(CX:gK)(X:Cx)(EE:St->XK):Prop:=∀(pins:List (Addr×Obj)) (U:St) (H:Hp) (s:Shared) (e:Value) (s':Shared),Inv X pins U H s->CX X.stack H s (EE U) e s'->X.xe e s'
abbrev Cx.dB(X:Cx)(pn:List (Addr×Obj))(E1:Value->Shared->Prop):Cx:={ X with pn:=pn,xe:=E1 }
section
variable {X:Cx}{pins pins' pn:List (Addr×Obj)}{U:St}{H:Hp}{s:Shared}{E1:Value->Shared->Prop}
theorem Inv.RZ(I:Inv X pins U H s):Inv (X.dB (X.pn++pins) E1) [] U H s:=
 ⟨⟨I.ok.mod,I.ok.kind,I.ok.glob,I.ok.blt,I.ok.above,I.ok.inj,I.ok.has,I.ok.oI,I.ok.hd,I.ok.frames,I.ok.fV,I.ok.oQ,I.ok.bs,I.ok.gL,I.ok.oZ,I.ok.mS,I.ok.fG,I.ok.jF⟩,I.os,I.bare,I.base,I.loc,I.cell,I.free,I.eX,
  λp hp=>I.pin p (by rw[List.append_nil]at hp;exact hp),I.aD,I.len⟩
theorem Inv.ae(I:Inv (X.dB (X.pn++pins) E1) pins' U H s):Inv X pins U H s:=
 ⟨⟨I.ok.mod,I.ok.kind,I.ok.glob,I.ok.blt,I.ok.above,I.ok.inj,I.ok.has,I.ok.oI,I.ok.hd,I.ok.frames,I.ok.fV,I.ok.oQ,I.ok.bs,I.ok.gL,I.ok.oZ,I.ok.mS,I.ok.fG,I.ok.jF⟩,I.os,I.bare,I.base,I.loc,I.cell,I.free,I.eX,
  λp hp=>I.pin p (List.mem_append_left _ hp),I.aD,I.len⟩
end
structure Hd where
 Dc:Addr
 i:Option Nat
 ts:TS
def Yb(D:Ends):Option Nat->Ends
 |none=>D
 |some i=>{ nx:=λU H=>D.nx (U.set i none) H,rt:=D.rt,bk:=λU H=>D.bk (U.set i none) H,ct:=λU H=>D.ct (U.set i none) H }
def Yc(U:St)(a:Addr):Option Nat->St
 |none=>U
 |some i=>U.set i (some (.ref a))
def rK(K:W.Frag)(C:Addr)(D:Ends)(U:St)(a:Addr)(H:Hp):List Hd->Prop
 |[]=>False
 |d::ds=>if(mroOf K C).contains (.ref d.Dc)=true then d.ts (Yb D d.i) (Yc U a d.i) H else rK K C D U a H ds
def Dg(K:W.Frag)(D:Ends)(ds:List Hd):St->XK:=λU cls _ H=>∃C,cls = .ref C/\clsIn K C=true/\∀a,H a=none->rK K C D U a (aG H a (.ext (iY a (.ref C)))) ds
def RH(K:W.Frag)(ds:List Hd)(tb:List (Addr×Obj)->(Value->Shared->Prop)->(St->XK)->TS):TS:=λD U H=>∀pn E1,tb pn E1 (Dg K D ds) D U H
inductive du(X:Cx):Option Str->Option Nat->Prop
 |no:du X none none
 |as {n:Str} {i:Nat} (hi:X.N[i]?=some n) (hk:X.env.kindOf n=some .local):du X (some n) (some i)
inductive wH(X:Cx):List ExceptHandler->List Hd->Prop
 |nil:wH X [] []
 |cons {x:Str} {np hpos:Pos} {Dc:Addr} {nm:Option Str} {i:Option Nat} {b₀:Stmt} {suite:List Stmt} {ts:TS} {hs:List ExceptHandler} {ds:List Hd} (hg:Gl X x) (hm:X.mg x=some (.ref Dc)) (hD:clsIn X.K Dc=true) (hdb:(x==("__debug__":Str))=false)
  (hn:du X nm i) (hsu:∀a,jA (X.held a) (b₀::suite) ts) (t:wH X hs ds):wH X (.ExceptHandler (some (.Name x np)) nm (b₀::suite) hpos::hs) (⟨Dc,i,ts⟩::ds)
section
variable {X:Cx}{body:List Stmt}{pos:Pos}{ds:List Hd}{h₀:ExceptHandler}{hs:List ExceptHandler}{D:Ends}{tb:List (Addr×Obj)->(Value->Shared->Prop)->(St->XK)->TS}{pins:List (Addr×Obj)}{U:St}{H:Hp}{s s':Shared}{e:Value}
theorem Zw(I:Inv X pins U H s)(h:cD X.prog X.w X.stack H s (Dg X.K D ds U) e s') :
  ∃a B C a0 H',e = .ref a/\Heap.FlyingW B X.stack a (.ref C) a0 s'.heap/\clsIn X.K C=true/\rK X.K C D U a (aG H' a (.ext (iY a (.ref C)))) ds /\
   ∀h5,B.StaysIn h5->s'.heap.UpToSlots h5->iY a (.ref C) h5->Inv X pins U (aG H' a (.ext (iY a (.ref C)))) { s' with heap:=h5 }:=by
 obtain⟨a,cls,H',B,a0,rfl,os,bare,un,aD,eI,calm,C,rfl,hC,q⟩:=h;have na:H' a=none:=(I.Gh os bare un aD eI calm eI.1 (Heap.UpToSlots.refl _) eI.there).1;exact⟨a,B,C,a0,H',rfl,eI,hC,q a na,λh5 k up th=>(I.Gh os bare un aD eI calm k up th).2⟩
theorem Yd{B:Heap}{C a:Addr}{a0:Value}{H2:Hp}(ok:X.Ok)(hN:X.N.Nodup)(hC:clsIn X.K C=true)
  (inv:∀h5,B.StaysIn h5->s'.heap.UpToSlots h5->iY a (.ref C) h5->Inv X pins U H2 { s' with heap:=h5 }) (o:wH X hs ds) :
  ∀{h5:Heap},Heap.FlyingW B X.stack a (.ref C) a0 h5->s'.heap.UpToSlots h5->rK X.K C D U a H2 ds->wpAny (model X.prog X.w) X.A (handleBy (.ref a) X.env hs) (SP X pins D) X.xe { s' with heap:=h5 }:=by
 induction o with
 |nil=>intro h5 _ _ z;exact z.elim|@cons x np hpos Dc nm i b₀ suite ts hs ds hg hm hD hdb hn hsu t ih=>
  intro h5 fly5 up5 q;have J5:=(inv h5 fly5.1 up5 fly5.there).Dk (a:=a);refine wpAny_handleBy_cons (codeAny_handlers_test (rP (X:=X.held a) J5 hg hm ?_ hdb)) (by intro q;cases q);obtain⟨bm,N,nm,qn,bs,hdct,sn,sub,ab,col,dd,k0,k1,k2,k3,k5,nid,hCo,hmro,_⟩:=Gr J5.bK hC;obtain⟨bm',N',nm',qn',bs',hdct',sn',sub',ab',col',dd',j0,j1,j2,j3,j5,nid',hDo,_,hbase⟩:=Gr J5.bK hD;obtain⟨ob,hob,hobc⟩:=fly5.there;have hmro:mroOf X.K C=_:=hmro;unfold rK at q;cases hb:(mroOf X.K C).contains (.ref Dc) with
  |false=>rw[if_neg (by rw[hb];exact Bool.false_ne_true)]at q;rw[hmro]at hb;exact Hs hCo hDo hob hobc hbase hb (ih fly5 up5 q)
  |true=>
   rw[if_pos hb]at q;rw[hmro]at hb;refine Hs hCo hDo hob hobc hbase hb ?_;cases hn with
   |no=>
    refine codeAny_handlers_suite (lands_againW fly5 λh6 fly6 up6=>?_);have J6:=(inv h6 fly6.1 (up5.trans up6) fly6.there).Dk (a:=a);refine wpAny_mono (hsu a pins _ _ _ _ J6 q) (λf s8 hf8=>?_) λ_ _ z=>z.elim;cases f with
    |next=>obtain⟨U2,H2,J,d⟩:=hf8;exact⟨_,_,J.rS ok,d⟩|brk=>obtain⟨U2,H2,J,d⟩:=hf8;exact⟨_,_,J.rS ok,d⟩|cont=>obtain⟨U2,H2,J,d⟩:=hf8;exact⟨_,_,J.rS ok,d⟩|ret u=>obtain⟨v,U2,H2,J,r,d⟩:=hf8;exact⟨v,_,_,J.rS ok,r,d⟩
   |as hi hk=>
    refine codeAny_handlers_suite_as (lands_againW fly5 λh6 fly6 up6=>?_);have J6:=(inv h6 fly6.1 (up5.trans up6) fly6.there).Dk (a:=a);refine qe (X:=X.held a) (v:=.ref a) J6 hN hi (.inl hk) (show Value.ref a=Value.ref a from rfl) (λs7 J7=>?_) (.inr hk);refine wpAny_mono (hsu a pins s7 _ _ _ J7 q) (λf s8 hf8=>?_) λ_ _ z=>z.elim;cases f with
    |next=>obtain⟨U2,H2,J,d⟩:=hf8;exact fz (J.rS ok) hN hi hk λs9 J9=>⟨_,_,J9,d⟩|brk=>obtain⟨U2,H2,J,d⟩:=hf8;exact fz (J.rS ok) hN hi hk λs9 J9=>⟨_,_,J9,d⟩|cont=>obtain⟨U2,H2,J,d⟩:=hf8;exact fz (J.rS ok) hN hi hk λs9 J9=>⟨_,_,J9,d⟩|ret u=>obtain⟨v,U2,H2,J,r,d⟩:=hf8;exact fz (J.rS ok) hN hi hk λs9 J9=>⟨v,_,_,J9,r,d⟩
theorem GS(hst:X.stack=X.env::X.outer)(hf:X.env.frame=some X.env.locals)(hN:X.N.Nodup)(o:wH X (h₀::hs) ds)
  (hb:∀pn E1 EE,wJ (cD X.prog X.w) (X.dB pn E1) EE->jA (X.dB pn E1) body (tb pn E1 EE)):PS X (.Try body (h₀::hs) [] [] pos) (RH X.K ds tb):=by
 intro pins s U H D I h;have hfr:X.A.frames=some (X.env::X.outer):=by rw[<- hst];exact I.ok.frames
 refine wpAny_Try_except (wpAny_mono (hb (X.pn++pins) (λe s'=>∃U' H1 s1,Inv X pins U' H1 s1/\cD X.prog X.w X.stack H1 s1 (Dg X.K D ds U') e s') _
  (λpins' U' H1 s1 e s' I' h'=>⟨U',H1,s1,I'.ae,h'⟩) [] s U H D I.RZ (h _ _)) (λf s1 hf1=>?_) λe s' ⟨U',H1,s1,I1,h1⟩=>?_)
 .cases f with
  |next=>obtain⟨U',H',J,d⟩:=hf1;exact wpAny_execs_nil ⟨U',H',J.ae,d⟩
  |brk=>obtain⟨U',H',J,d⟩:=hf1;exact⟨U',H',J.ae,d⟩|cont=>obtain⟨U',H',J,d⟩:=hf1;exact⟨U',H',J.ae,d⟩|ret u=>obtain⟨v,U',H',J,r,d⟩:=hf1;exact⟨v,U',H',J.ae,r,d⟩
 .obtain⟨a,B,C,a0,H',rfl,eI,hC,q,inv⟩:=Zw I1 h1;rw[hst]at eI;refine wpAny_looks_onW hfr hf eI λh4 held4 up4=>?_;refine wpAny_landsW held4 λh5 fly5 up5=>?_;rw[<- hst]at fly5;exact Yd I.ok hN hC inv o fly5 (up4.trans up5) q
end
section
variable {X:Cx}{CX:gK}{k:Nat}{f:Addr}{fd:FuncData}{ps:List Str}{sp:Sp}{EE:St->XK}{x:Str}{p pos:Pos}{e:Expr}{es:List Expr}{t:TA}
theorem PA.gQ{es:List Expr}{t:TA}(h:PA X.gQ es t):PA X es t:=λpos pins s U H Q I hw=>wpAny_mono (h pos pins s U H Q (I.oA _) hw) (λ_ _ ⟨vs,H',I',r,q⟩=>⟨vs,H',I'.qq,r,q⟩) λ_ _ z=>False.elim z
theorem PE.of{e:Expr}{t t':TE}(h:PE X e t)(f:∀U H Q,t' U H Q->t U H Q):PE X e t':=λpins s U H Q I q=>h pins s U H Q I (f U H Q q)
def QK(sp:Sp)(EE:St->XK)(t:TA):TE:=λU H Q=>t U H λvs H1=>sp vs H1 Q (EE U)
theorem Cv{pins:List (Addr×Obj)}{U:St}{H:Hp}{s:Shared}{Q:VK}{us:List Value}{vs:List V}(F:dD X.prog X.w X.K X.mg X.base CX k f fd ps sp)(hr:bU k X.A)(hb:Binds X.K fd ps [])(hx:wJ CX X EE)
  (I:Inv X pins U H s) (r:Vals vs us) (h:sp vs H Q (EE U)):wpAny (model X.prog X.w) X.A (call (.ref f) us) (EP X pins U Q) X.xe s:=by
 have hl:(us++[]).length=ps.length:=by rw[List.append_nil,<- r.length];exact F.len _ _ _ _ h
 have hb':=hb s us I.bK hl;rw[List.append_nil]at hb';refine wpAny_call (codeAny_mono (F.run X.A X.stack s H ⟨us,[]⟩ us vs Q (EE U) hr I.gb hb' r h) λr s' hq=>?_);cases r with
 |error e=>exact hx pins U H s e s' I hq|ok fl=>
  cases fl with
  |ret u=>exact I.after hq|next=>exact False.elim hq|brk=>exact False.elim hq|cont=>exact False.elim hq
theorem DZ(F:dD X.prog X.w X.K X.mg X.base CX k f fd ps sp)(hr:bU k X.A)(hg:Gl X x)(hm:X.mg x=some (.ref f))(hk:W.keepIn X.K (.ref f)=true)(hb:Binds X.K fd ps [])(hx:wJ CX X EE)
  (ha:PA X (e::es) t) (hdb:(x==("__debug__":Str))=false:=by decide) (he:starEach (e::es) X.env=(false,eval e X.env)::starEach es X.env:=by rfl) (hpl:(backTo pos (starEach es X.env)).any (·.1)=false:=by rfl) :
  PE X (.Call (.Name x p) (e::es) [] pos) (QK sp EE t):=by
 intro pins s U H Q I h;refine wpAny_Call_Name_kw (rP I hg hm ?_ hdb);refine W.callWith_K (h₀:=X.base) I.ok.mod.rN hk (aI (ha pos pins s U H _ I h) λus s1 ⟨vs,H1,I1,r,q⟩=>⟨I1.bK,?_⟩) he hpl;exact Cv F hr hb hx I1 r q
end
end L2
namespace PySem.W
open PySem PySem.Spec PySem.Calls PyProof.Rows
open PySem PySem.Calls PyProof.Rows Builtin Builtin.ObjectAttr
open PySem PySem.Calls PyProof.Rows Builtin Builtin.ObjectAttr Builtin.Getset_descriptor
section
variable {prog:Program}{w:World}{A:Around}{E:Value->Shared->Prop}{s:Shared}{K:Frag}{x D:Addr}{name:Str}
theorem XC{M:Model} {h:Heap} {a g:Value} (X:K.In h) (ha:findIn K (.ref D) name=some (some a)) (hg:specialIn K a "__get__"=some (some g)) (ht:takesIn K a=some true):Looks M h (find (.ref x) (.ref D) name) (.bind g a):=by have L1:=looks_findIn (M:=M) X ha;have L2:Looks M h (getOf (some a)) (some g):=looks_specialIn X hg;have L3:=looks_takesIn (M:=M) X ht;refine L1.andThen (L2.andThen ?_);exact(show Looks M h (dataDescriptor? (some a) (some g)) (some (g,a)) from L3.andThen .now).andThen (Looks.tag .now)
theorem XD{R:Result->Shared->Prop} {tp:Value} (X:K.In s.heap) (L0:∀M,Looks M s.heap (typeOf (.ref x)) (.ref D)) (hm:mroIn K D (.type "object")=some true)
  (h:R (.ok (.ret (.ref D))) s):codeAny (model prog w) A (.call (.builtin "getset_descriptor.__get__") ⟨[.builtin "object.__class__",.ref x,tp],[]⟩) R s:=by
 obtain⟨hh,g,dr,t,os⟩:=s;have L0:=L0 (model prog w);have L1:=looks_mroIn (M:=model prog w) X hm;refine codeAny_call_builtin KF.slot_gs.plain KF.entry_gs (KF.slot_gs.check _ _ _ _ _ _ _ _ KF.type_class (KF.args_gs _ _ _) ?_);unfold Builtin.«getset_descriptor.__get__» descrGet;rw[dga_obj];refine wpAny_bind (wpAny_pure ?_);unfold descrGetter descrCheckInstance descrNameAndClass isInstance;simp only[KF.owner_class];repeat lk
 refine⟨Code.quiet_builtin _ (by decide +kernel),codeAny_builtin KF.entry_class ?_⟩;unfold Builtin.«object.__class__» shownTypeOf;repeat lk
 exact h
theorem XH{Q:Option Value->Shared->Prop} (X:K.In s.heap) (L0:∀M,Looks M s.heap (typeOf (.ref x)) (.ref D)) (hga:findIn K (.ref D) "__getattribute__"=some (some (.builtin "BaseException.__getattribute__"))) (hk:findIn K (.ref D) "__getattr__"=some none)
  (h:codeAny (model prog w) A (.call (.builtin "BaseException.__getattribute__") ⟨[.ref x,.str name s.toks],[]⟩) (λr s'=>match r with | .ok (.ret v)=>handedIn v=true/\Q (some v) s'|_=>False) { s with toks:=s.toks+1 }) :
  wpAny (model prog w) A (getAttr? (.ref x) name) Q E s:=by
 obtain⟨hh,g,d,t,os⟩:=s;have L0:=L0 (model prog w);have L1:=looks_findIn (M:=model prog w) X hga;have L2:=looks_findIn (M:=model prog w) X hk;unfold getAttr? getAttrBy? getAttrBy;refine wpAny_bind (wpAny_mkText (wpAny_bind (wpAny_attempt (wpAny_holding (wpAny_bind (L0.at (wpAny_bind (L1.at ?_))))))));show wpAny _ _ (getAttrByItsOwn _ _ _ _ _ _) _ _ _;unfold getAttrByItsOwn;refine wpAny_bind (show wpAny _ _ (typeLookup (.ref D) "__getattr__") _ _ _ from L2.at ?_);refine wpAny_bind (wpAny_attempt (wpAny_holding ?_));show wpAny _ _ (boundAndCalled _ _ _) _ _ _;unfold boundAndCalled;have f3:=PySem.F.excAttr_ValueError.ga.bind (.ref x);rw[f3];refine wpAny_bind (wpAny_pure ?_);refine wpAny_call (codeAny_mono h λr s' z=>?_);rcases r with e|(_|_|_|v)
 .exact z.elim
 .exact z.elim
 .exact z.elim
 .exact z.elim
 .dsimp only at z ⊢;rw[handedOut_of z.1];exact wpAny_pure (wpAny_pure z.2)
theorem XG{tk:Tok} {Q:Fin->Shared->Prop} (X:K.In s.heap) (L0:∀M,Looks M s.heap (typeOf (.ref x)) (.ref D)) (ha:findIn K (.ref D) "__class__"=some (some (.builtin "object.__class__")))
  (hn:specialIn K (.builtin "object.__class__") "__get__"=some (some (.builtin "getset_descriptor.__get__"))) (htk:takesIn K (.builtin "object.__class__")=some true) (hm:mroIn K D (.type "object")=some true)
  (hq:Q (.done (.ret (.ref D))) s):wpAny (model prog w) A (Builtin.«object.__getattribute__» ⟨[.ref x,.str "__class__" tk],[]⟩) Q E s:=by
 obtain⟨hh,g,d,t,os⟩:=s;have L1:=λM=>XC (M:=M) (x:=x) X ha hn htk;have L0':=L0 (model prog w);have L1':=L1 (model prog w);unfold Builtin.«object.__getattribute__»;refine wpAny_bind (wpAny_pure (wpAny_bind (wpAny_pure (wpAny_bind (L0'.at (wpAny_bind (L1'.at ?_)))))));show wpAny _ _ (bindTo _ _ _ _) _ _ _;unfold bindTo;dsimp only;refine wpAny_bind (wpAny_holding (wpAny_call (XD X L0 hm ?_)));exact wpAny_pure hq
theorem XF{M:Model} {nameV:Value} {Q:Unit->Shared->Prop} (X:K.In s.heap) (L0:∀M,Looks M s.heap (typeOf (.ref x)) (.ref D)) (hm:mroIn K D (.type "BaseException")=some true) (hq:Q () s) :
  wpAny M A (checkBuiltinCall "BaseException.__getattribute__" ⟨[.ref x,nameV],[]⟩) Q E s:=by
 have hk:builtinKind "BaseException.__getattribute__"=some .slot:=by decide +kernel
 have hsplit:splitId "BaseException.__getattribute__"=some ("BaseException","__getattribute__"):=by decide +kernel
 have ha:=F.args_bexc_ga (.ref x) nameV;obtain⟨hh,g,d,t,os⟩:=s;have LI:Looks M hh (isInstance (.ref x) (.type "BaseException")) true:=(L0 M).andThen (looks_mroIn X hm);simp only[checkBuiltinCall,hk,hsplit];refine wpAny_bind (LI.at ?_);repeat (first|assumption|wp_step)
 all_goals exact hq
def tX(K:Frag)(D:Addr):Bool:=
 findIn K (.ref D) "__getattribute__"==some (some (.builtin "BaseException.__getattribute__"))&&findIn K (.ref D) "__getattr__"==some none&&findIn K (.ref D) "__class__"==some (some (.builtin "object.__class__")) &&
 specialIn K (.builtin "object.__class__") "__get__"==some (some (.builtin "getset_descriptor.__get__"))&&takesIn K (.builtin "object.__class__")==some true&&mroIn K D (.type "object")==some true&&(clsIn K D).isSome &&
 mroIn K D (.type "BaseException")==some true
theorem XE(q:tX K D=true):KitX K (.ref x) (.ref D) (L2.iY x (.ref D)):=by
 simp only[tX,Bool.and_eq_true,beq_iff_eq]at q;obtain⟨⟨⟨⟨⟨⟨⟨q1,q2⟩,q3⟩,q4⟩,q5⟩,q6⟩,q7⟩,q8⟩:=q;have L0:∀(M:Model) (h:Heap),L2.iY x (.ref D) h->Looks M h (typeOf (.ref x)) (.ref D):=λM h ⟨ob,h1,h2⟩=>h2▸(Looks.ld h1).andThen .now;refine⟨λM h _ p=>L0 M h p,λM h X p=>?_,λh tp dd its n sl X ht=>?_,λ{prog w A E Q s} X p hq=>?_⟩
 .obtain⟨cd,hc⟩:=Option.isSome_iff_exists.mp q7;unfold clsIn at hc;split at hc
  .rename_i ho;intro A' Q' E' s' k q;unfold isType loadHead;exact wpAny_bind (wpAny_loadPart (k _ _ (X _ _ ho)) (wpAny_pure q))
  .cases hc
 .obtain⟨cd,hc⟩:=Option.isSome_iff_exists.mp q7;refine Bool.eq_false_iff.mpr λz=>?_;cases beq_iff_eq.mp z;unfold clsIn at hc;split at hc
  .rename_i ho;have:=X _ _ ho;rw[ht]at this;cases this
  .cases hc
 .exact XH X (λM=>L0 M _ p) q1 q2 (codeAny_call_builtin PySem.F.excAttr_ValueError.ga.plain F.entry_bexc_ga (XF (s:={ s with toks:=s.toks+1 }) X (λM=>L0 M _ p) q8
   (XG (s:={ s with toks:=s.toks+1 }) X (λM=>L0 M _ p) q3 q4 q5 q6 ⟨rfl,hq⟩)))
end
end PySem.W
namespace L2
open PySem PySem.Spec PyProof.Rows
def kQ(cells:List (Str×Addr))(x:Str×NameKind)(cs:List (Str×Addr)):List (Str×Addr):=if(x.2==NameKind.free)=true then(match cells.lookup x.1 with
 |some c=>(x.1,c)::cs
 |none=>cs) else cs
def qE(scope:Scope)(env:Env):List (Str×Addr):=scope.names.foldl (λcs x=>kQ env.cells x cs) []
theorem Ia{α β:Type}{st:α->β->β}:∀{l:List α} {f:α->β->Sem (ForInStep β)} (c:β),(∀x∈l,∀c,f x c=pure (.yield (st x c)))->forIn l c f=pure (l.foldl (λc x=>st x c) c)
 |[],f,c,h=>rfl|x::l,f,c,h=>by rw[List.forIn_cons,h x List.mem_cons_self,pure_bind];exact Ia (st x c) λy hy=>h y (List.mem_cons_of_mem _ hy)
theorem Tq{scope:Scope}{env:Env}(h:∀x∈scope.names,x.2 = .free->∃c,env.cells.lookup x.1=some c):closureFor scope env=pure (qE scope env):=by
 simp only[closureFor];rw[Ia (st:=kQ env.cells) [] (λx hx c=>by
  obtain⟨n,kind⟩:=x;by_cases hk:kind = .free
  .obtain⟨a,ha⟩:=h _ hx hk;subst hk;simp[kQ,cellOf,ha]
  .have:(kind==NameKind.free)=false:=by simpa using hk
   simp[kQ,this])]
 rfl
theorem Gn{cells:List (Str×Addr)}:∀(l:List (Str×NameKind)) (cs:List (Str×Addr)),(∀x c,cs.lookup x=some c->cells.lookup x=some c)->∀x c,(l.foldl (λcs x=>kQ cells x cs) cs).lookup x=some c->cells.lookup x=some c
 |[],cs,h=>h
 |y::l,cs,h=>Gn l _ (by
  intro x c e;change (kQ cells y cs).lookup x=some c at e;unfold kQ at e;split at e
  .split at e
   .rename_i c' hc';rw[List.lookup_cons]at e;split at e
    .rename_i q;have:=eq_of_beq q;subst this;rw[hc'];exact e
    .exact h x c e
   .exact h x c e
  .exact h x c e)
theorem Gm{cells:List (Str×Addr)}:∀(l:List (Str×NameKind)) (cs:List (Str×Addr)) (x:Str),((∃c,cs.lookup x=some c)\/((x,NameKind.free)∈l/\∃c,cells.lookup x=some c))->∃c,(l.foldl (λcs x=>kQ cells x cs) cs).lookup x=some c
 |[],cs,x,h=>by
  rcases h with h|⟨h,_⟩
  .exact h
  .cases h
 |y::l,cs,x,h=>by
  refine Gm l _ x ?_;rcases h with⟨c,e⟩|⟨hm,c,e⟩
  .left;change ∃c,(kQ cells y cs).lookup x=some c;unfold kQ;split
   .split
    .rename_i c' _;rw[List.lookup_cons];split
     .exact⟨c',rfl⟩
     .exact⟨c,e⟩
    .exact⟨c,e⟩
   .exact⟨c,e⟩
  .rcases List.mem_cons.mp hm with q|q
   .left;subst q;simp[kQ,e]
   .exact .inr ⟨q,c,e⟩
theorem Kh{env:Env}(hk:env.scope.kind = .function):∀{names:List (Str×NameKind)} {x:Str},names.lookup x=some .free->env.kindOf x=some .cell ->
  (names.map λ(n,k)=>if(k==NameKind.free&&env.scope.kind == .function&&env.kindOf n==some .cell) then(n,NameKind.cell) else(n,k)).lookup x=some .cell
 |[],_,h,_=>by simp at h
 | (n,k)::r,x,h,hc=>by
  have ih:=@Kh env hk r x;show List.lookup x ((if(k==NameKind.free&&env.scope.kind == .function&&env.kindOf n==some .cell)=true then(n,NameKind.cell) else(n,k))::_)=_;cases hx:x==n with
  |true=>simp only[List.lookup_cons,hx]at h;cases h;have:=eq_of_beq hx;subst this;simp[List.lookup_cons,hk,hc]
  |false=>
   simp only[List.lookup_cons,hx]at h;by_cases hq:(k==NameKind.free&&env.scope.kind == .function&&env.kindOf n==some .cell)=true
   .rw[if_pos hq];simp only[List.lookup_cons,hx];exact ih h hc
   .rw[if_neg hq];simp only[List.lookup_cons,hx];exact ih h hc
theorem wj{env:Env}:∀{names:List (Str×NameKind)} {x:Str} {k:NameKind},(∀y∈names,y.2 ≠ .cell) ->
  (names.map λ(n,k)=>if(k==NameKind.free&&env.scope.kind == .function&&env.kindOf n==some .cell) then(n,NameKind.cell) else(n,k)).lookup x=some k->k = .cell\/k = .free->(x,NameKind.free)∈names
 |[],_,_,_,h,_=>by simp at h
 | (n,k)::r,x,k',hn,h,hk=>by
  have ih:=@wj env r x k' λy hy=>hn y (List.mem_cons_of_mem _ hy);have h':List.lookup x ((if(k==NameKind.free&&env.scope.kind == .function&&env.kindOf n==some .cell)=true then(n,NameKind.cell) else(n,k))::(r.map λ(n,k)=>if(k==NameKind.free&&env.scope.kind == .function&&env.kindOf n==some .cell) then(n,NameKind.cell) else(n,k)))=some k':=h;cases hx:x==n with
  |true=>
   have e:=eq_of_beq hx;subst e;by_cases hq:(k==NameKind.free&&env.scope.kind == .function&&env.kindOf x==some .cell)=true
   .have:k = .free:=by simp only[Bool.and_eq_true]at hq;exact eq_of_beq hq.1.1
    subst this;exact List.mem_cons_self
   .rw[if_neg hq]at h';simp only[List.lookup_cons,hx]at h';cases h';rcases hk with hk|hk
    .exact absurd hk (hn _ List.mem_cons_self)
    .have hk:k = .free:=hk;subst hk;exact List.mem_cons_self
  |false=>
   have h2:(r.map λ(n,k)=>if(k==NameKind.free&&env.scope.kind == .function&&env.kindOf n==some .cell) then(n,NameKind.cell) else(n,k)).lookup x=some k':=by
    by_cases hq:(k==NameKind.free&&env.scope.kind == .function&&env.kindOf n==some .cell)=true
    .rw[if_pos hq]at h';simpa only[List.lookup_cons,hx]using h'
    .rw[if_neg hq]at h';simpa only[List.lookup_cons,hx]using h'
   exact List.mem_cons_of_mem _ (ih h2 hk)
def Cx.comp(X:Cx)(N':List Str)(scope:Scope)(s3:Shared)(H3:Hp)(C:Addr)(fp:List Addr):Cx:=
 { X with N:=N',s₀:=s3,H₀:=H3,env:=compEnvC scope (qE scope X.env) C X.env,outer:=X.stack,ex:=fp,fn:=λ_=>false,pn:=[],xe:=λ_ _=>False }
structure iZ(X:Cx)(N':List Str)(scope:Scope):Prop where
 kind:scope.kind = .function
 xc:∀y∈scope.names,y.2 ≠ .cell
 Ke:∀y∈scope.names,y.2 = .local->scope.names.lookup y.1=some .local
 free:∀y∈scope.names,y.2 = .free->X.env.scope.names.lookup y.1=some .cell
section
variable {X:Cx}{N':List Str}{scope:Scope}{pins:List (Addr×Obj)}{U U':St}{H:Hp}{s:Shared}{fp:List Addr}{C:Addr}
theorem iZ.Gq(hs:iZ X N' scope)(ok:X.Ok):closureFor scope X.env=pure (qE scope X.env):=
 Tq λx hx hk=>ok.has x.1 (.inl (hs.free x hx hk))
theorem wR{x:Str}{c:Addr}(h:(qE scope X.env).lookup x=some c):X.env.cells.lookup x=some c:=Gn _ [] (λx c e=>by simp at e) x c h
theorem iZ.has(hs:iZ X N' scope)(ok:X.Ok){x:Str}(h:(x,NameKind.free)∈scope.names):∃c,(qE scope X.env).lookup x=some c:=
 Gm _ [] x (.inr ⟨h,ok.has x (.inl (hs.free _ h rfl))⟩)
theorem Inv.oJ(I:Inv X pins U H s)(hs:iZ X N' scope)(hf:∀b∈fp,eW X pins H b/\b≠C)(hC:s.heap.objs.size<=C):(X.comp N' scope s H C fp).Ok where
 mod:=I.ok.mod
 kind:=hs.kind
 glob:=I.ok.glob
 blt:=I.ok.blt
 above:=hC
 inj:=λx y c e1 e2=>I.ok.inj x y c (wR e1) (wR e2)
 has:=λx hx=>by
  rcases hx with hx|hx
  .exact hs.has I.ok (wj hs.xc hx (.inl rfl))
  .exact hs.has I.ok (wj hs.xc hx (.inr rfl))
 oI:=λx c h=>by cases h
 hd:=I.ok.hd
 frames:=I.ok.frames
 fV:=.inl rfl
 oQ:=λb hb=>⟨(hf b hb).2,λx c e=>(hf b hb).1.2.2.2.2.1 x c (wR e)⟩
 bs:=λb o e=>I.bs b o e
 gL:=Nat.le_trans I.ok.gL I.sz
 oZ:=λb o e hb=>by
  rcases(hf b hb).1.2.2.2.1 with z|z
  .exact I.ok.oZ b o e z
  .exact absurd (Nat.lt_of_lt_of_le (Nat.lt_of_lt_of_le (Heap.lt_size e) I.ok.gL) z) (Nat.lt_irrefl _)
 mS:=λb hb hz=>by
  rcases List.mem_cons.mp (I.cx b hz)with e|e
  .exact(hf b hb).1.2.1 e
  .exact(hf b hb).1.2.2.1 e
 fG:=I.stack
 jF:=I.yO
theorem Inv.comp{h4:Heap}{t:Nat}{m0:Str->Option Value}(I:Inv X pins U H s)(hs:iZ X N' scope)(hf:∀b∈fp,eW X pins H b/\b≠C)(hC:s.heap.objs.size<=C)
  (k:∀b o,s.heap.get? b=some o->h4.get? b=some o) (hn:h4.Ns C m0) (hl:U'.length=N'.length)
  (hU:∀(i:Nat) x v,N'[i]?=some x->U'[i]?=some (some v)->scope.names.lookup x=some .free/\(x,NameKind.free)∈scope.names/\∃j:Nat,X.N[j]?=some x/\U[j]?=some (some v)) :
  Inv (X.comp N' scope s H C fp) [] U' H { s with heap:=h4,toks:=t } where
 ok:=I.oJ hs hf hC
 os:=rfl
 bare:=I.bare
 base:=Un.kept k
 loc:=⟨m0,hn,λi x v e1 e2 _=>by
  obtain⟨hx,hm,j,e3,e4⟩:=hU i x v e1 e2;obtain⟨m,_,hl⟩:=I.loc;have hk:=hs.free _ hm rfl;obtain⟨u,r,lk⟩:=hl j x v e3 e4 (.inr (.inl hk));refine⟨u,r,.inr ⟨.inl (Kh I.ok.kind hx hk),?_⟩⟩;rcases lk with⟨z,_⟩|⟨_,c,ec,hc⟩
  .rw[show X.env.kindOf x=some .cell from hk]at z;cases z
  .obtain⟨c',e'⟩:=hs.has I.ok hm;have:=wR e';rw[ec]at this;cases this;obtain⟨o,ho,hd⟩:=hc;exact⟨c,e',o,k _ _ ho,hd⟩⟩
 cell:=λx c e=>by obtain⟨v,o,ho,hd⟩:=I.cell x c (wR e);exact⟨v,o,k _ _ ho,hd⟩
 free:=I.aD.fresh hC
 eX:=λx c e=>I.eX x c (wR e)
 pin:=λp hp=>by cases hp
 aD:=I.aD.kept k
 len:=hl
end
noncomputable abbrev gP(us:List Value)(k:Nat):Obj:={ cls:=.type "list",data:=.seq us.toArray k }
theorem ql{α:Type}{M:Model}{A:Around}{t:Sem α}{Q:α->Shared->Prop}{E:Value->Shared->Prop}{s:Shared}(h:wpAny M A t Q (λ_ _=>False) s):wpAny M A t Q E s:=wpAny_mono h (λ_ _ q=>q) λ_ _ z=>z.elim
section
variable {X:Cx}{N':List Str}{scope:Scope}{pins:List (Addr×Obj)}{U U':St}{H H2:Hp}{s s2:Shared}{fp:List Addr}{it:Addr}{tn:Nat->Heap->Prop}{J:It}{elt tg bD:Expr}{pos:Pos}
theorem Inv.SA{D:Addr}{ys:List V}{us:List Value}{k:Nat}(I:Inv X pins U H s)(hD:eW X pins H D)(ho:s.heap.get? D=some (gP us k))(r:Vals ys us)(hz:ys.length<=sizeLine):Inv X pins U (aG H D (.lst ys)) s:=by
 have hn:=hD.1;show Inv X pins U (aG H D (.lst ys)) { s with heap:=s.heap,gens:=s.gens,drawn:=s.drawn,toks:=s.toks };refine I.step (ch:=[D]) (λb hb=>?_) (λb o _ _ _ e _=>e) (λb o _ _ _ e _=>⟨o.slots,e⟩) (λb o hc e n=>?_) (λb o _ e=>⟨o,e⟩) (λb xs e=>by rw[aO (dI e hn)];exact e) (λb o u e=>by rw[aO (dI e hn)];exact e) (λb ps e=>⟨#[],by rw[aO (dI e hn),e];simp⟩) (λm hm=>hm) (λb u e=>?_) I.bare
 .have e:b=D:=by simpa using hb
  subst e;exact⟨hD.2.2.2.1,hD.2.1,hD.2.2.2.2.1,hD.2.2.2.2.2⟩
 .rw[aO (λz=>hc (by simp[z]))];exact n
 .by_cases hb:b=D
  .subst hb;rw[cQ]at e;cases e;exact⟨hz,us,k,r,ho⟩
  .rw[aO hb]at e;exact(I.aD b u e).gI (λc v hc q=>q) (λc q=>by rw[aO (dI q hn)];exact q) λc xs q=>by rw[aO (dI q hn)];exact q
theorem Gv{ct:Option Expr}{g:TG}{tc:TT}{te:TE}{R:List V->Hp->Prop}{W:Nat->Nat->List V->St->Hp->Prop}{m0:Nat}{RR:Value->Addr->Result->Shared->Prop}{E:Value->Shared->Prop}
  (hsc:iZ X N' scope) (hcalm:X.calm=true) (I2:Inv X pins U H2 s2) (T:Turn X.prog X.w X.K tg J fp it tn) (st2:tn 0 s2.heap) (f2:∀b∈fp,eW X pins H2 b)
  (hg:∀s H C fp,PG (X.comp N' scope s H C fp) tg g) (hct:∀c,ct=some c->∀s H C fp,PT (X.comp N' scope s H C fp) c tc) (hct0:ct=none->∀U H Q,tc U H Q->Q true H) (he:∀s H C fp,PE (X.comp N' scope s H C fp) elt te)
  (hl:U'.length=N'.length) (hU:∀(i:Nat) x v,N'[i]?=some x->U'[i]?=some (some v)->scope.names.lookup x=some .free/\(x,NameKind.free)∈scope.names/\∃j:Nat,X.N[j]?=some x/\U[j]?=some (some v))
  (w0:W 0 m0 [] U' H2)
  (turn:∀i m ys U H,W i m ys U H->(J.stop i H/\R ys H)\/(J.go i H/\∀x H',J.dj i H x H'->g x U H' λU2 H2=>tc U2 H2 λb H3=>if b=true then te U2 H3 λy H4=>ys.length<sizeLine/\∃m',m'<m/\W (i+1) m' (ys++[y]) U2 H4 else∃m',m'<m/\W (i+1) m' ys U2 H3))
  (hRR:∀D C s' H' m ys,Inv X pins U (aG H' D (.lst ys)) s'->H' D=none->s'.heap.Ns C m->eW X pins (aG H' D (.lst ys)) C->R ys H'->RR (.ref D) C (.ok .next) s') :
  wpAny (model X.prog X.w) X.A (newList []) (λacc s₃=>wpAny (model X.prog X.w) X.A (newFunctionEnv scope X.env.globals (qE scope X.env) [] X.env.qual none .none (some X.env)) (λcenv s₄=>codeAny (model X.prog X.w) X.A (.compStart (.ListComp elt [⟨tg,bD,ct.toList,0⟩] scope pos) 0 (.ref it) acc { cenv with scope:=relabel scope X.env }) (RR acc cenv.locals) s₄) E s₃) E s2:=by
 refine wpAny_newObj_type (wpAny_newFunctionEnv hsc.xc (by intro y hy;simp at hy) (λh₁ hns₁ hsb₁=>?_) hsc.kind);dsimp only at hns₁ hsb₁ ⊢;generalize hH2:s2.heap.push { cls:=.type "list",dict:=none,data:=.seq ([]:List Value).toArray }=hp2 at hns₁ hsb₁ ⊢;have hC:hp2.objs.size=s2.heap.objs.size+1:=by rw[<- hH2,Heap.size_push]
 have hDC:s2.heap.objs.size≠hp2.objs.size:=by rw[hC];exact Nat.ne_of_lt (Nat.lt_succ_self _)
 have hCle:s2.heap.objs.size<=hp2.objs.size:=by rw[hC];exact Nat.le_succ _
 have below:∀b,b<s2.heap.objs.size->b≠hp2.objs.size/\b≠s2.heap.objs.size:=λb hb=>⟨by rw[hC];exact Nat.ne_of_lt (Nat.lt_succ_of_lt hb),Nat.ne_of_lt hb⟩;have old:∀b o,s2.heap.get? b=some o->h₁.get? b=some o:=λb o e=>hsb₁.extBut b o (below b (Heap.lt_size e)).1 (Heap.get?_push_of_some _ (hH2▸Heap.get?_push_of_some _ e));have hacc:h₁.get? s2.heap.objs.size=some (gP [] 0):=hsb₁.extBut _ _ hDC (Heap.get?_push_of_some _ (hH2▸Heap.get?_push_size _ rfl));have fD:eW X pins H2 s2.heap.objs.size:=I2.mV (Nat.le_refl _) (I2.aD.fresh (Nat.le_refl _));have lfp:∀b∈fp,b<s2.heap.objs.size:=λb hb=>by obtain⟨o,e,_⟩:=T.obj 0 _ st2 b hb;exact Heap.lt_size e
 have hf':∀b∈s2.heap.objs.size::fp,eW X pins H2 b/\b≠hp2.objs.size:=λb hb=>by
  rcases List.mem_cons.mp hb with rfl|hb
  .exact⟨fD,hDC⟩
  .exact⟨f2 b hb,(below b (lfp b hb)).1⟩
 have IY:=I2.comp (t:=s2.toks+([]:List (Str×Value)).length) hsc hf' hCle old hns₁ hl hU;generalize hDd:s2.heap.objs.size=D at *;generalize hCd:hp2.objs.size=C at *;have fnD:∀b∈fp,b≠D:=λb hb=>(below b (lfp b hb)).2;have ok:=IY.ok;have hg':=hg s2 H2 C (D::fp);have hct':=λc e=>hct c e s2 H2 C (D::fp);have he':=he s2 H2 C (D::fp);have fY:∀{pl:List (Addr×Obj)} {H':Hp} {b:Addr},b∈D::fp->H' b=none->(∀p∈pl,p.1≠b)->eW (X.comp N' scope s2 H2 C (D::fp)) pl H' b:=λ{pl H' b} hb hn hp=>
  ⟨hn,(ok.oQ b hb).1,ok.mS b hb,.inl hb,(ok.oQ b hb).2,λp h=>hp p (by simpa[Cx.comp]using h)⟩
 let Iv:Nat->Shared->Prop:=λn s'=>∃(i:Nat) (ys:List V) (us:List Value) (k:Nat) (U':St) (H':Hp),Inv (X.comp N' scope s2 H2 C (D::fp)) [] U' H' s'/\tn i s'.heap/\(∀b∈D::fp,H' b=none)/\s'.heap.get? D=some (gP us k)/\Vals ys us/\ys.length<=sizeLine/\W i n ys U' H'
 have turnA:∀(n:Nat) (s':Shared),Iv n s'->∀(K:Shared->Prop) (E':Value->Shared->Prop),
   (∀(i:Nat) (ys:List V) (us:List Value) (k:Nat) (pl:List (Addr×Obj)) (U6:St) (H6:Hp) (s6:Shared),Inv (X.comp N' scope s2 H2 C (D::fp)) ([(D,gP us k)]++pl) U6 H6 s6 ->
    (∀h7:Heap,(∀p∈pl,h7.get? p.1=some p.2)->tn (i+1) h7)->(∀b∈fp,∃o,(b,o)∈pl)->(∀p∈pl,p.1∈fp)->Vals ys us->ys.length<=sizeLine ->
    (tc U6 H6 λb H3=>if b=true then te U6 H3 λy H4=>ys.length<sizeLine/\∃m',m'<n/\W (i+1) m' (ys++[y]) U6 H4 else∃m',m'<n/\W (i+1) m' ys U6 H3)->K s6) ->
   wpAny (model X.prog X.w) X.A (pyNext (.ref it)) (λr s1=>match r with
    |none=>RR (.ref D) C (.ok .next) s1
    |some v=>wpAny (model X.prog X.w) X.A (letOwnedTupleGo tg (.ref it) v) (λ_ s0=>wpAny (model X.prog X.w) X.A (assign tg (compEnvC scope (qE scope X.env) C X.env) v) (λ_ s2=>K s2) E' s0) E' s1) E' s':=by
  rintro n s' ⟨i,ys,us,k,U3,H3,I3,st3,fr3,hD3,rv3,hz3,w3⟩ K E' hK
  have I3':Inv (X.comp N' scope s2 H2 C (D::fp)) [(D,gP us k)] U3 H3 s':=I3.nC λp hp=>by
   have e:p=(D,gP us k):=by simpa using hp
   subst e;exact⟨hD3,fr3 D List.mem_cons_self,(ok.oQ D List.mem_cons_self).1,ok.mS D List.mem_cons_self,λv z=>by cases z⟩
  have fp3:∀{H':Hp},(∀b∈fp,H' b=none)->∀b∈fp,eW (X.comp N' scope s2 H2 C (D::fp)) [(D,gP us k)] H' b:=λhn b hb=>fY (List.mem_cons_of_mem _ hb) (hn b hb) λp hp=>by
   have e:p=(D,gP us k):=by simpa using hp
   subst e;exact Ne.symm (fnD b hb)
  have fr3':∀b∈fp,H3 b=none:=λb hb=>fr3 b (List.mem_cons_of_mem _ hb);rcases turn i n ys U3 H3 w3 with⟨stop,hR⟩|⟨go,step⟩
  .refine aI (T.done (X.comp N' scope s2 H2 C (D::fp)) rfl rfl rfl hcalm i _ s' U3 H3 E' I3' (fp3 fr3') st3 stop) λr s4 ⟨hr,I4⟩=>?_;subst hr;obtain⟨gD,nD,_⟩:=I4.pin (D,gP us k) (List.mem_append_right _ List.mem_cons_self);obtain⟨m,hn,_⟩:=id I4.loc;have IX:Inv X pins U H3 s4:=I2.Gg (ch:=D::fp) I4.os I4.base I4.aD I4.bare λb hb=>⟨(hf' b hb).1.2.2.2.1,(hf' b hb).1.2.1,(hf' b hb).1.2.2.2.2.1,(hf' b hb).1.2.2.2.2.2⟩;refine hRR D C s4 H3 m ys (IX.SA ⟨nD,fD.2⟩ gD rv3 hz3) nD hn ⟨by rw[aO (Ne.symm hDC)];exact I4.free,?_⟩ hR;have fC:eW X pins H3 C:=I2.mV (by rw[hDd];exact hCle) I4.free;exact fC.2
  .refine aI (T.item (X.comp N' scope s2 H2 C (D::fp)) rfl rfl rfl hcalm i _ s' U3 H3 E' I3' (fp3 fr3') st3 go) λr s4 ⟨u,hr,h4⟩=>?_;subst hr;refine aI h4 λ_ s5 ⟨x,H5,I5,r5,y5,st5,fr5⟩=>?_;have I5':=I5.pinned (fp3 fr5) (T.obj _ _ st5);refine ql (aI (hg' _ s5 U3 H5 x u _ I5' r5 (step x H5 y5)) λ_ s6 ⟨U6,H6,I6,q6⟩=>?_);refine hK i ys us k _ U6 H6 s6 I6 (λh7 h=>T.keep _ _ _ st5 λb hb o e=>h (b,o) (ja hb e)) (λb hb=>?_) (λp hp=>(Kr hp).1) rv3 hz3 q6;obtain⟨o,e,_⟩:=T.obj _ _ st5 b hb;exact⟨o,ja hb e⟩
 have back:∀{n i:Nat} {ys:List V} {us:List Value} {k:Nat} {pl:List (Addr×Obj)} {U6:St} {H6:Hp} {s6:Shared},Inv (X.comp N' scope s2 H2 C (D::fp)) ([(D,gP us k)]++pl) U6 H6 s6 ->
   (∀h7:Heap,(∀p∈pl,h7.get? p.1=some p.2)->tn (i+1) h7)->(∀b∈fp,∃o,(b,o)∈pl)->Vals ys us->ys.length<=sizeLine->(∃m',m'<n/\W (i+1) m' ys U6 H6)->∃m',m'<n/\Iv m' s6:=by
  intro n i ys us k pl U6 H6 s6 I6 ht hall rv hz ⟨m',hm,w⟩;obtain⟨gD,nD,_⟩:=I6.pin (D,gP us k) (List.mem_append_right _ (List.mem_append_left _ List.mem_cons_self));refine⟨m',hm,i+1,ys,us,k,U6,H6,I6.nC λp hp=>(by cases hp),ht _ λp hp=>(I6.pin p (List.mem_append_right _ (List.mem_append_right _ hp))).1,λb hb=>?_,gD,rv,hz,w⟩;rcases List.mem_cons.mp hb with rfl|hb
  .exact nD
  .obtain⟨o,ho⟩:=hall b hb;exact(I6.pin _ (List.mem_append_right _ (List.mem_append_right _ ho))).2.1
 have app:∀{n i:Nat} {ys:List V} {us:List Value} {k:Nat} {pl:List (Addr×Obj)} {U6:St} {H7:Hp} {s7:Shared} {y:V} {v:Value} {E':Value->Shared->Prop},Inv (X.comp N' scope s2 H2 C (D::fp)) ([(D,gP us k)]++pl) U6 H7 s7 ->
   (∀h7:Heap,(∀p∈pl,h7.get? p.1=some p.2)->tn (i+1) h7)->(∀b∈fp,∃o,(b,o)∈pl)->(∀p∈pl,p.1∈fp)->Vals ys us->RelV y v->ys.length<sizeLine->(∃m',m'<n/\W (i+1) m' (ys++[y]) U6 H7) ->
   wpAny (model X.prog X.w) X.A (call (.builtin "list.append") [.ref D,v]) (λ_ s8=>∃m',m'<n/\Iv m' s8) E' s7:=by
  intro n i ys us k pl U6 H7 s7 y v E' I7 ht hall hpl rv ry hz ⟨m',hm,w⟩;obtain⟨gD,nD,_⟩:=I7.pin (D,gP us k) (List.mem_append_right _ (List.mem_append_left _ List.mem_cons_self));have hus:us.length<sizeLine:=by rw[<- rv.length];exact hz
  refine append_at (hsz:=by rw[List.size_toArray];exact Nat.le_of_lt hus) gD λh8 hs8 g8=>?_;have nb:∀b∈D::fp,H7 b=none:=λb hb=>by
   rcases List.mem_cons.mp hb with rfl|hb
   .exact nD
   .obtain⟨o,ho⟩:=hall b hb;exact(I7.pin _ (List.mem_append_right _ (List.mem_append_right _ ho))).2.1
  have f8:=fY (pl:=[]) (H':=H7) (b:=D) List.mem_cons_self nD (λp hp=>by cases hp);refine⟨m',hm,i+1,ys++[y],us++[v],k+1,U6,H7,(I7.nC (pins':=[]) λp hp=>(by cases hp)).turned (t':=s7.toks) (it:=D) (λb o hb e=>hs8.extBut b o hb e) nD f8.2.1 f8.2.2.2.1 f8.2.2.2.2.1 f8.2.2.2.2.2,
   ht _ λp hp=>?_,nb,?_,rv.append (.cons ry .nil),?_,w⟩
  .exact hs8.extBut _ _ (fnD _ (hpl p hp)) (I7.pin p (List.mem_append_right _ (List.mem_append_right _ hp))).1
  .show h8.get? D=_;rw[g8];simp[gP]
  .rw[List.length_append];exact hz
 have i0:Iv m0 { s2 with heap:=h₁,toks:=s2.toks+([]:List (Str×Value)).length }:=⟨0,[],[],0,U',H2,IY,T.keep _ _ _ st2 λb _ o e=>old b o e,λb hb=>(hf' b hb).1.1,hacc,.nil,Nat.zero_le _,w0⟩;have loop:codeAny (model X.prog X.w) X.A (.compLoop (.ListComp elt [⟨tg,bD,ct.toList,0⟩] scope pos) 0 (.ref it) (.ref D) (compEnvC scope (qE scope X.env) C X.env)) (RR (.ref D) C) { s2 with heap:=h₁,toks:=s2.toks+([]:List (Str×Value)).length }:=by
  cases ct with
  |none=>refine PySem.W.kcp_loop Iv (λn s' hI=>turnA n s' hI _ _ ?_) m0 i0;intro i ys us k pl U6 H6 s6 I6 ht hall hpl rv hz q6;have q7:=hct0 rfl U6 H6 _ q6;rw[if_pos rfl]at q7;refine ql (aI (he' _ s6 U6 H6 _ I6 q7) λv s7 ⟨y,H7,I7,r7,hz7,w7⟩=>?_);exact app I7 ht hall hpl rv r7 hz7 w7
  |some c=>
   refine PySem.W.kct_loop Iv (λn s' hI=>turnA n s' hI _ _ ?_) m0 i0;intro i ys us k pl U6 H6 s6 I6 ht hall hpl rv hz q6;refine ql (aI (hct' c rfl _ s6 U6 H6 _ I6 q6) λb s7 ⟨H7,I7,q7⟩=>?_);cases b with
   |true=>rw[if_pos rfl]at q7 ⊢;refine ql (aI (he' _ s7 U6 H7 _ I7 q7) λv s8 ⟨y,H8,I8,r8,hz8,w8⟩=>?_);exact app I8 ht hall hpl rv r8 hz8 w8
   |false=>rw[if_neg Bool.false_ne_true]at q7 ⊢;exact back I7 ht hall rv hz q7
 exact codeAny_compStart_list loop (T.self _ 0 _ _ _ (T.keep _ _ _ st2 λb _ o e=>old b o e) loop)
def De(wi:TI)(imp:St->St)(g:TG)(tc:TT)(te:TE):TE:=λU H Q=>wi U H λJ H1=>∃(W:Nat->Nat->List V->St->Hp->Prop) (m0:Nat),W 0 m0 [] (imp U) H1/\∀i m ys U' H',W i m ys U' H' ->
 (J.stop i H'/\∀D,H' D=none->Q (.ref D) (aG H' D (.lst ys)))\/(J.go i H'/\∀x H2,J.dj i H' x H2->g x U' H2 λU3 H3=>tc U3 H3 λb H4=>if b=true then te U3 H4 λy H5=>ys.length<sizeLine/\∃m',m'<m/\W (i+1) m' (ys++[y]) U3 H5 else∃m',m'<m/\W (i+1) m' ys U3 H4)
variable {ct:Option Expr}{wi:TI}{imp:St->St}{g:TG}{tc:TT}{te:TE}
theorem ED(hsc:iZ X N' scope)(hcalm:X.calm=true)(hi:PI X tg bD wi)
  (hg:∀s H C fp,PG (X.comp N' scope s H C fp) tg g) (hct:∀c,ct=some c->∀s H C fp,PT (X.comp N' scope s H C fp) c tc) (hct0:ct=none->∀U H Q,tc U H Q->Q true H) (he:∀s H C fp,PE (X.comp N' scope s H C fp) elt te)
  (himp:∀U:St,(imp U).length=N'.length)
  (hU:∀(U:St) (i:Nat) x v,N'[i]?=some x->(imp U)[i]?=some (some v)->scope.names.lookup x=some .free/\(x,NameKind.free)∈scope.names/\∃j:Nat,X.N[j]?=some x/\U[j]?=some (some v))
  (hset:∀x,foldedSetIterable bD X.env x=pure x):PE X (.ListComp elt [⟨tg,bD,ct.toList,0⟩] scope pos) (De wi imp g tc te):=by
 intro pins s U H Q I h;rw[eval_ListComp];refine wpAny_comprehension_free (use:=none) (g:=⟨tg,bD,ct.toList,0⟩) (gs:=[]) rfl hset (hsc.Gq I.ok) hsc.kind hsc.Ke ?_;refine aI (hi pins s U H _ I h) λv s1 h1=>aI h1 λitv s2 h2=>?_;obtain⟨it,fp,tn,J,H2,e,I2,T,st2,f2,W,m0,w0,turn⟩:=h2;subst e;refine Gv (R:=λys H'=>∀D,H' D=none->Q (.ref D) (aG H' D (.lst ys))) hsc hcalm I2 T st2 f2 hg hct hct0 he (himp U) (hU U) w0 turn ?_;intro D C s' H' m ys I' hD hn fC hR;exact⟨m,hn,λh' hs'=>⟨.ref D,_,I'.turned (t':=s'.toks) (λb o hb e=>hs'.extBut b o hb e) fC.1 fC.2.1 fC.2.2.2.1 fC.2.2.2.2.1 fC.2.2.2.2.2,rfl,hR D hD⟩⟩
theorem GQ{i:Nat}{y:Str}{py spos:Pos}(hN:X.N.Nodup)(hi':X.N[i]?=some y)(hy:X.env.scope.names.lookup y=some .local)
  (hsw:swapsWith (.ListComp elt [⟨tg,bD,ct.toList,0⟩] scope pos) (some (.Name y py)) spos.line X.env=pure true) (hsc:iZ X N' scope) (hcalm:X.calm=true) (hi:PI X tg bD wi)
  (hg:∀s H C fp,PG (X.comp N' scope s H C fp) tg g) (hct:∀c,ct=some c->∀s H C fp,PT (X.comp N' scope s H C fp) c tc) (hct0:ct=none->∀U H Q,tc U H Q->Q true H) (he:∀s H C fp,PE (X.comp N' scope s H C fp) elt te)
  (himp:∀U:St,(imp U).length=N'.length)
  (hU:∀(U:St) (i:Nat) x v,N'[i]?=some x->(imp U)[i]?=some (some v)->scope.names.lookup x=some .free/\(x,NameKind.free)∈scope.names/\∃j:Nat,X.N[j]?=some x/\U[j]?=some (some v))
  (hset:∀x,foldedSetIterable bD X.env x=pure x):PS X (.Assign [.Name y py] (.ListComp elt [⟨tg,bD,ct.toList,0⟩] scope pos) spos) (qg (De wi imp g tc te) (gp i)):=by
 intro pins s U H D I h;rw[exec_Assign_Name_used _ _ _ _ hsw];refine wpAny_bind (wpAny_standAt (wpAny_bind ?_));show wpAny _ _ (do let _ <- comprehension (.ListComp elt [⟨tg,bD,ct.toList,0⟩] scope pos) scope X.env _ (newList []) false (eval bD X.env) (some (assign (.Name y py) X.env))) _ _ s;refine wpAny_bind (wpAny_mono (wpAny_comprehension_free (use:=some (assign (.Name y py) X.env)) (Q:=λ_ s'=>SP X pins D .next s') (g:=⟨tg,bD,ct.toList,0⟩) (gs:=[]) rfl hset (hsc.Gq I.ok) hsc.kind hsc.Ke ?_)
  (λ_ s' hq=>wpAny_pure (wpAny_pure hq)) λ_ _ e=>e)
 refine aI (hi pins s U H _ I h) λv s1 h1=>aI h1 λitv s2 h2=>?_;obtain⟨it,fp,tn,J,H2,e,I2,T,st2,f2,W,m0,w0,turn⟩:=h2;subst e;refine Gv (R:=λys H'=>∀d,H' d=none->D.nx (U.set i (some (.ref d))) (aG H' d (.lst ys))) hsc hcalm I2 T st2 f2 hg hct hct0 he (himp U) (hU U) w0 turn ?_;intro d C s' H' m ys I' hD hn fC hR;obtain⟨oC,es,ep,hoC,hd1,rC⟩:=id hn;have I'':Inv X (pins++[(C,oC)]) U (aG H' d (.lst ys)) s':=I'.nC λp hp=>(List.mem_append.mp hp).elim (λz=>I'.pin p (List.mem_append_right _ z)) λz=>by
  have e:p=(C,oC):=by simpa using z
  subst e;exact⟨hoC,fC.1,fC.2.1,fC.2.2.1,λv z=>by rw[hd1]at z;cases z⟩
 refine wpAny_assign_Name (qe I'' hN hi' (.inl hy) (v:=.ref d) rfl (λs3 I3=>?_) (.inr hy));have p3:=(I3.pin (C,oC) (List.mem_append_right _ (List.mem_append_right _ List.mem_cons_self))).1;exact⟨m,⟨oC,es,ep,p3,hd1,rC⟩,λh' hs'=>⟨_,_,I3.qp.turned (t':=s3.toks) (λb o hb e=>hs'.extBut b o hb e) fC.1 fC.2.1 fC.2.2.2.1 fC.2.2.2.2.1 fC.2.2.2.2.2,hR d hD⟩⟩
end
end L2
namespace AM
open PySem PySem.Spec PyProof.Rows L2
section
variable {X:Cx}
def MM:R2:=λx y H Q=>∃a v,x = .ref a/\fO H a y (some v)/\Q v H
theorem Ze(hu:X.A.units+1<cLine):kN X MM:=by
 intro value slice pins s U H x y o i Q I rx ry h hs;obtain⟨a,v,rfl,g,q⟩:=h;cases rx;have hT:=Uv I g;have hl:=PySem.F.slot_dict_getitem.lookup;have h2:wpAny (model X.prog X.w) X.A (getItem (.ref a) i) (EP X pins U Q) X.xe s:=Ui hu I g ry λw' s3 I3 rw'=>⟨v,H,I3,rw',q⟩;unfold subscriptTail;refine wpAny_bind ?_;rw[getitemInPython_of_ne hT.not_modules];refine wpAny_bind (wpAny_specialOf hT hl ?_);have fin:wpAny (model X.prog X.w) X.A (subscripted slice false (.ref a) i) (λr s₃=>wpAny (model X.prog X.w) X.A (letTemporaryGo value (.ref a) r>>=λ_=>pure r) (EP X pins U Q) X.xe s₃) X.xe s:=by rw[hs];exact wpAny_operating (wpAny_mono h2 (λr s₃ h₃=>wpAny_bind (wpAny_letTemporaryGo (wpAny_pure h₃))) λ_ _ x=>x)
 first
  |exact wpAny_pure (wpAny_bind fin)|exact wpAny_bind (wpAny_pure (wpAny_bind fin))|exact wpAny_bind fin
def Og(neg:Bool):R2:=λy x H Q=>∃a o,x = .ref a/\fO H a y o/\Q (.bl (if neg then !o.isSome else o.isSome)) H
theorem CB(hu:X.A.units+1<cLine):bE X (compareOp .In) (Og false):=by intro pins s U H x y v u Q I rx ry h;obtain⟨a,o,rfl,g,q⟩:=h;cases ry;exact Uj hu I g rx λs3 I3=>⟨.bl o.isSome,H,I3,rfl,q⟩
theorem CK(hu:X.A.units+1<cLine):bE X (compareOp .NotIn) (Og true):=by intro pins s U H x y v u Q I rx ry h;obtain⟨a,o,rfl,g,q⟩:=h;cases ry;exact Uk hu I g rx λs3 I3=>⟨.bl (!o.isSome),H,I3,rfl,q⟩
def MP:V->V->V->Hp->(Hp->Prop)->Prop:=λo i v H Q=>∃a H',o = .ref a/\yW H a i v H'/\Q H'
theorem OL(hu:X.A.units+1<cLine):si X (λo i v H Q=>Ol o i v H Q\/MP o i v H Q):=by
 intro pins s U H o i v ov iv u Q I ro ri rv h;rcases h with h|⟨a,H',rfl,g,q⟩
 .exact OM pins s U H o i v ov iv u Q I ro ri rv h
 .cases ro;exact Um hu I g ri rv λs4 I4=>⟨_,I4,q⟩
end
section
variable {X:Cx}
def Oc:V->List V->Hp->VK->Prop:=λx vs H Q=>∃a y o,x = .ref a/\fO H a y o/\((vs=[y]/\Q (o.getD .aE) H)\/∃z,vs=[y,z]/\Q (o.getD z) H)
theorem BB(hu:X.A.units+1<cLine):tY X "dict.get" Oc:=by
 intro pins s U H x vs v us Q I rx rv h;obtain⟨a,y,o,rfl,g,h⟩:=h;cases rx;rcases h with⟨rfl,q⟩|⟨z,rfl,q⟩
 .obtain⟨u,rfl,ru⟩:=rv.one;exact Ug hu I g ru λw' s3 I3 rw'=>⟨_,H,I3,rw',q⟩
 .obtain⟨u1,u2,rfl,r1,r2⟩:=pS rv;exact Uh hu I g r1 r2 λw' s3 I3 rw'=>⟨_,H,I3,rw',q⟩
def Od:V->List V->Hp->VK->Prop:=λx vs H Q=>∃a kvs k,x = .ref a/\H a=some (.dK kvs) /\
 ((vs=[kV k]/\∃v,cO kvs k=some v/\Q v (aG H a (.dK (kW kvs k))))\/∃z,vs=[kV k,z]/\(∀v,cO kvs k=some v->Q v (aG H a (.dK (kW kvs k))))/\(cO kvs k=none->Q z H))
theorem BC:tY X "dict.pop" Od:=by
 intro pins s U H x vs v us Q I rx rv h;obtain⟨a,kvs,k,rfl,e,h⟩:=h;cases rx;rcases h with⟨rfl,v,l,q⟩|⟨z,rfl,q1,q2⟩
 .obtain⟨u,rfl,ru⟩:=rv.one;exact Hf I e ru l (.inl rfl) λw' s3 I3 rw'=>⟨v,_,I3,rw',q⟩
 .obtain⟨u1,u2,rfl,r1,r2⟩:=pS rv;cases l:cO kvs k with
  |some v=>exact Hf I e r1 l (.inr ⟨_,rfl⟩) λw' s3 I3 rw'=>⟨v,_,I3,rw',q1 v l⟩|none=>exact Ul I e r1 l λs3 I3=>⟨z,H,I3,r2,q2 l⟩
def Oe:V->List V->Hp->VK->Prop:=λx vs H Q=>∃a kvs k z,x = .ref a/\H a=some (.dK kvs)/\vs=[kV k,z]/\kvs.length<sizeLine/\(∀v,cO kvs k=some v->Q v H)/\(cO kvs k=none->Q z (aG H a (.dK (eS kvs k z))))
theorem BD:tY X "dict.setdefault" Oe:=by
 intro pins s U H x vs v us Q I rx rv h;obtain⟨a,kvs,k,z,rfl,e,rfl,hz,q1,q2⟩:=h;cases rx;obtain⟨u1,u2,rfl,r1,r2⟩:=pS rv;obtain⟨zl,hd,ws,rel,dd⟩:=fu I.aD e;refine call_meetsIn PySem.F.slot_dict_setdefault dd.typeIs PySem.F.entry_dict_setdefault (PySem.F.args_dict_setdefault_3 _ _ _) (kt_meets_setdefault (cY X.prog X.w) a (mX r1) hd u2)
  ⟨ws,dd,by rw[<- rel.length];exact zl,λw' hw=>?_,λhn h' dd' hs=>?_⟩
 .cases l:cO kvs k with
  |none=>have:valueAt ws k=none:=dW.none_of (by rw[<- l];exact rel.val k);rw[this]at hw;cases hw
  |some v=>obtain⟨w2,h2,r3⟩:=dW.some_of (v:=v) (o:=valueAt ws k) (by rw[<- l];exact rel.val k);rw[h2]at hw;cases hw;exact⟨v,H,I.tok _,r3,q1 v l⟩
 .have l:cO kvs k=none:=by
   cases l:cO kvs k with
   |none=>rfl|some v=>obtain⟨w2,h2,r3⟩:=dW.some_of (v:=v) (o:=valueAt ws k) (by rw[<- l];exact rel.val k);rw[h2]at hn;cases hn
  have he:∃q,h'.get? a=some q:=let ⟨q,_,_,hq,_⟩:=dd';⟨q,hq⟩;refine⟨z,_,ft I (by rw[e];exact True.intro) hs he (uw (kvs:=eS kvs k z) ?_ hd (rel.put k r2) dd'),r2,q2 l⟩;have:=we kvs k z;omega
end
theorem Jt{k:aC}{v:Value}(h:uU k v=true):RelV (kV k) v:=by
 rcases mY h with⟨i,t,rfl,rfl⟩|⟨x,t,rfl,rfl⟩
 .exact⟨t,rfl⟩
 .exact⟨t,rfl⟩
theorem Jy{kvs:List (aC×V)}{vs:List (aC×Value)}(r:KV kvs vs):∀{i:Nat} {k:aC} {x:Value},vs[i]?=some (k,x)->∃v,kvs[i]?=some (k,v):=by
 unfold KV at r;induction r with
 |nil=>intro i k x e;simp at e|@cons p q ps qs h t ih=>
  intro i k x e;cases i with
  |zero=>simp at e;subst e;exact⟨p.2,by simp;exact Prod.ext h.1 rfl⟩
  |succ i=>simpa using ih (i:=i) (by simpa using e)
def NF(X:Cx)(a:Addr):Prop:=∀o u,X.H₀ a≠some (.bC o u)
section
variable {X:Cx}{pins:List (Addr×Obj)}{U:L2.St}{H:Hp}{s:Shared}{a:Addr}{kvs:List (aC×V)}{o:Obj}{tg:Expr}
theorem zV(I:Inv X pins U H s)(e:H a=some (.dK kvs)):NF X a:=λo u z=>by have:=I.base.fQ a o u z;rw[e]at this;cases this
theorem Yx(I:Inv X pins U H s)(e:H a=some (.dK kvs)):∃o,s.heap.get? a=some o/\Inv X pins U (aG H a (.bC o (.dK kvs))) s:=by
 have k:=I.aD a _ e;obtain⟨z,y,vs,r,ob,es,ep,eo,c⟩:=id k;have mu:wI (H a):=by rw[e];exact True.intro
 have ob':bY X.prog X.w (aG H a (.bC ob (.dK kvs))) s.heap a (.bC ob (.dK kvs)):=⟨eo,z,y,vs,r,ob,es,ep,eo,c⟩;have:=I.un (t':=s.toks) (h':=s.heap) (Un.write (o:=.bC ob (.dK kvs)) mu (.inl rfl) (λ_ _ _ q=>q) ⟨ob,eo⟩) (bQ.write (e:=a) I.aD mu (.inl rfl) (λ_ _ _ q=>q) ⟨ob,eo⟩ ob');exact⟨ob,eo,this⟩
theorem zW(I:Inv X pins U H s)(e:H a=some (.bC o (.dK kvs)))(nf:NF X a):Inv X pins U (aG H a (.dK kvs)) s:=by
 have ne0:∀b,H b=none->b≠a:=λb n z=>by rw[z,e]at n;cases n
 refine⟨I.ok,I.os,I.bare,⟨I.base.keep,I.base.slot,λb u q n hx=>?_,I.base.there,λb xs q=>?_,λb x u q=>?_,λb ps q=>?_⟩,I.loc,I.cell,?_,λx c q=>?_,λp hp=>?_,λb u q=>?_,I.len⟩
 .have:=I.base.free b u q n hx;rw[aO (ne0 b this)];exact this
 .have h1:=I.base.gX b xs q;rw[aO (λz=>by rw[z,e]at h1;cases h1)];exact h1
 .rw[aO (λz=>by rw[z]at q;exact nf x u q)];exact I.base.fQ b x u q
 .obtain⟨m,h1⟩:=I.base.gU b ps q;exact⟨m,by rw[aO (λz=>by rw[z,e]at h1;cases h1)];exact h1⟩
 .rw[aO (ne0 _ I.free)];exact I.free
 .rw[aO (ne0 _ (I.eX x c q))];exact I.eX x c q
 .obtain⟨h1,h2,h3⟩:=I.pin p hp;exact⟨h1,by rw[aO (ne0 _ h2)];exact h2,h3⟩
 .by_cases hb:b=a
  .subst hb;rw[cQ]at q;cases q;exact(I.aD b _ e).2
  .rw[aO hb]at q;exact(I.aD b u q).gI (λ_ _ _ r=>r) (λc r=>by rw[aO (λz=>by rw[z,e]at r;cases r)];exact r) λc xs r=>by rw[aO (λz=>by rw[z,e]at r;cases r)];exact r
def rj(a:Addr)(o:Obj)(kvs:List (aC×V)):It:=
 ⟨λi H=>H a=some (.bC o (.dK kvs))/\i<kvs.length,λi H x H'=>H'=H/\∃k v,kvs[i]?=some (k,v)/\x=kV k,λi H=>H a=some (.bC o (.dK kvs))/\kvs.length=i⟩
theorem Ic(I:Inv X pins U H s)(e:H a=some (.bC o (.dK kvs))){es:Array DictEntry}{ep:Nat}(hd:o.data = .dict es ep):∃vs,KV kvs vs/\Heap.DictAt (cY X.prog X.w) s.heap a vs ep:=by obtain⟨eo,z,y,vs,r,ob,es',ep',eo',c1,c2,c3⟩:=I.aD a _ e;rw[eo]at eo';cases eo';rw[hd]at c2;cases c2;exact⟨vs,r,o,es,eo,c1,hd,c3⟩
theorem SJ{P:Program}{w:World}{K:W.Frag}(a it:Addr)(hai:a≠it){es:Array DictEntry}{ep:Nat}(hd:o.data = .dict es ep):Turn P w K tg (rj a o kvs) [it] it (λi h=>h.IsKeyIter it a i kvs.length ep) where
 mem:=by simp
 obj:=λi h st b hb=>by
  have e:b=it:=by simpa using hb
  subst e;obtain⟨o,e,c,d⟩:=st;exact⟨o,e,λv z=>by rw[d]at z;cases z⟩
 keep:=λi h h' st k=>by obtain⟨o,e,c,d⟩:=st;exact⟨o,k it (by simp) o e,c,d⟩
 item:=by intro X hP hw hK hc i pins s U H E I hf st hg;subst hP hw hK;obtain⟨e,hi⟩:=hg;obtain⟨vs,r,da⟩:=Ic I e hd;have hl:kvs.length=vs.length:=r.length;obtain⟨f0,f1,f2,f3,f4,f5⟩:=hf it (by simp);have W:=Walks.dictKeys (prog:=X.prog) (w:=X.w) (knd:=cY X.prog X.w) (A:=X.A) (I.ok.hd hc) it a hai vs ep;refine W.item i s _ _ (by omega) ⟨by rw[<- hl];exact st,da⟩ λv h' tk hv st' kk=>?_;obtain⟨k,x,hk,hv⟩:=hv;obtain⟨y,hy⟩:=Jy r hk;have I1:Inv X pins U H { s with heap:=h',toks:=tk }:=I.turned (λb o hb e=>kk b o (by simpa using hb) e) f0 f1 f3 f4 f5;obtain⟨st1,_⟩:=st';rw[<- hl]at st1;obtain⟨oi,ei,ci,di⟩:=id st1;exact⟨v,rfl,ic (s:={ s with heap:=h',toks:=tk }) ei ci di (by decide) ⟨kV k,H,I1,Jt hv,⟨rfl,k,y,hy,rfl⟩,st1,λb hb=>(hf b hb).1⟩⟩
 done:=by intro X hP hw hK hc i pins s U H E I hf st hg;subst hP hw hK;obtain⟨e,hi⟩:=hg;obtain⟨vs,r,da⟩:=Ic I e hd;have hl:kvs.length=vs.length:=r.length;obtain⟨f0,f1,f2,f3,f4,f5⟩:=hf it (by simp);have W:=Walks.dictKeys (prog:=X.prog) (w:=X.w) (knd:=cY X.prog X.w) (A:=X.A) (I.ok.hd hc) it a hai vs ep;refine W.done s _ _ ⟨by rw[<- hl];rw[<- hi]at st;exact st,da⟩ λh' tk kk=>?_;exact⟨rfl,I.turned (λb o hb e=>kk b o (by simpa using hb) e) f0 f1 f3 f4 f5⟩
 self:=λA i s Q E st h=>by obtain⟨o,e,c,d⟩:=st;exact wpAny_pyIter_keyiter ⟨o,e,c,d⟩ h
def Yg(tl:TE):TI:=λU H R=>tl U H λx H1=>∃a kvs,x = .ref a/\H1 a=some (.dK kvs)/\∀o,R (rj a o kvs) (aG H1 a (.bC o (.dK kvs)))
theorem FF{l:Expr}{tl:TE}(hl:PE X l tl):PI X tg l (Yg tl):=by
 intro pins s U H R I h;refine aI (hl pins s U H _ I h) λv s1 ⟨x,H1,I1,r1,q1⟩=>?_;obtain⟨a,kvs,e,ha,q⟩:=q1;subst e;cases r1;obtain⟨o,eo,I2⟩:=Yx I1 ha;obtain⟨z,y,vs,r,ob,es,ep,eo',c1,c2,c3⟩:=I1.aD a _ ha;rw[eo]at eo';cases eo';have hl:kvs.length=vs.length:=r.length;refine wpAny_pyIter_dict (knd:=cY X.prog X.w) (kvs:=vs) (ep:=ep) y ⟨o,es,eo,c1,c2,c3⟩ ?_;have hlt:a<s1.heap.objs.size:=Heap.lt_size eo;refine⟨s1.heap.objs.size,[s1.heap.objs.size],_,_,_,rfl,I2.kept (t':=s1.toks) λb o e=>Heap.get?_push_of_some _ e,SJ a _ (Nat.ne_of_lt hlt) c2,⟨_,Heap.get?_push_size _ rfl,rfl,by rw[hl];rfl⟩,λb hb=>?_,q o⟩;have e:b=s1.heap.objs.size:=by simpa using hb
 subst e;exact I2.mV (Nat.le_refl _) (I2.aD.fresh (Nat.le_refl _))
def Tw(H0:Hp)(Q:Hp->Prop)(H:Hp):Prop:=∃a k0 o kvs,H0 a=some (.dK k0)/\H a=some (.bC o (.dK kvs))/\Q (aG H a (.dK kvs))
theorem EU{e:Expr}{t:TE}(h:PE X e t):PE X e (λU H Q=>t U H λx=>Tw H (Q x)):=by intro pins s U H Q I q;refine aI (h pins s U H _ I q) λv s1 ⟨x,H1,I1,r1,a,k0,o,kvs,e0,ea,q1⟩=>?_;exact⟨x,_,zW I1 ea (zV I e0),r1,q1⟩
def Ho(H:Hp)(D:Ends):Ends:=⟨λU=>Tw H (D.nx U),λv=>Tw H (D.rt v),λU=>Tw H (D.bk U),λU=>Tw H (D.ct U)⟩
theorem GR{st:Stmt}{t:TS}(h:PS X st t):PS X st (λD U H=>t (Ho H D) U H):=by
 intro pins s U H D I q;refine aI (h pins s U H _ I q) λf s1 h1=>?_;cases f with
 |next=>obtain⟨U',H1,I1,a,k0,o,kvs,e0,ea,q1⟩:=h1;exact⟨U',_,zW I1 ea (zV I e0),q1⟩|brk=>obtain⟨U',H1,I1,a,k0,o,kvs,e0,ea,q1⟩:=h1;exact⟨U',_,zW I1 ea (zV I e0),q1⟩|cont=>obtain⟨U',H1,I1,a,k0,o,kvs,e0,ea,q1⟩:=h1;exact⟨U',_,zW I1 ea (zV I e0),q1⟩|ret u=>obtain⟨v,U',H1,I1,r1,a,k0,o,kvs,e0,ea,q1⟩:=h1;exact⟨v,U',_,zW I1 ea (zV I e0),r1,q1⟩
end
theorem SY{bs:List Bool}:∀{us:List Value},Vals (bs.map V.bl) us->us=bs.map Value.bool:=by
 induction bs with
 |nil=>intro us r;cases r;rfl|cons b bs ih=>
  intro us r;cases r with
  |cons h t=>have h':_=Value.bool b:=h;subst h';rw[ih t];rfl
theorem Ds{ns:List Int}:∀{us:List Value},Vals (ns.map V.int) us->IntsAre us ns:=by
 induction ns with
 |nil=>intro us r;cases r;exact .nil|cons n ns ih=>
  intro us r;cases r with
  |cons h t=>obtain⟨k,rfl⟩:=(show∃k,_=Value.int n k from h);exact .cons n k (ih t)
theorem ip:∀{us:List Value} {ns:List Int},IntsAre us ns->Vals (ns.map V.int) us
 |_,_,.nil=>.nil
 |_,_,.cons n t r=>.cons ⟨t,rfl⟩ (ip r)
theorem MT(bs:List Bool):(List.range bs.length).any (λi=>(bs[i]?).getD false)=bs.any id:=by
 rw[Bool.eq_iff_iff,List.any_eq_true,List.any_eq_true];constructor
 .rintro ⟨i,hi,h⟩
  have hi':=List.mem_range.mp hi;rw[List.getElem?_eq_getElem hi']at h;exact⟨bs[i],List.getElem_mem hi',h⟩
 .rintro ⟨b,hb,h⟩
  obtain⟨i,hi,e⟩:=List.getElem_of_mem hb;exact⟨i,List.mem_range.mpr hi,by rw[List.getElem?_eq_getElem hi,e];exact h⟩
def fN(rev:Bool)(ns:List Int):List Int:=ns.mergeSort (λa b=>if rev then decide (b<=a) else decide (a<=b))
theorem cv{rev:Bool}{ns ns':List Int}(hp:ns'.Perm ns)(ho:Ordered rev ns'):ns'=fN rev ns:=by
 have hs:List.Pairwise (λa b=>(if rev then decide (b<=a) else decide (a<=b))=true) (fN rev ns):=by
  refine List.pairwise_mergeSort ?_ ?_ ns
  .intro a b c;cases rev<;>simp<;>omega
  .intro a b;cases rev<;>simp<;>omega
 refine List.Perm.eq_of_pairwise (le:=λa b=>(if rev then decide (b<=a) else decide (a<=b))=true) ?_ ?_ hs (hp.trans (List.mergeSort_perm _ _).symm)
 .intro a b _ _;cases rev<;>simp<;>omega
 .unfold Ordered at ho;cases rev with
  |true=>exact List.Pairwise.imp (λh=>by simpa using h) (by simpa using ho)|false=>exact List.Pairwise.imp (λh=>by simpa using h) (by simpa using ho)
section
variable {X:Cx}{pins:List (Addr×Obj)}{U:L2.St}{H:Hp}{s:Shared}
theorem Sl(hc:X.calm=true):dM X (.builtin "any") (λxs H Q=>∃(a:Addr) (bs:List Bool),xs=[.ref a]/\bG X.K H a (bs.map V.bl)/\Q (.bl (bs.any id)) H):=by
 intro pins s U H xs us Q I r h;obtain⟨a,bs,rfl,hq,q⟩:=h;obtain⟨u,rfl,ru⟩:=r.one;cases ru;obtain⟨its,rv,p,hz⟩:=I.list hq;have e:=SY rv;subst e;have hh:X.A.in1.handled=none:=I.ok.hd hc;obtain⟨ob,h1,h2,n,h3⟩:=p.isList;refine call_any_walk (wpAny_pyIter_list p.isList ?_);refine⟨s.heap.objs.size,_,_,_,_,_,λi=>(bs[i]?).getD false,rfl,Walks.list hh s.heap.objs.size a (Nat.ne_of_lt (Heap.lt_size h1)) (bs.map Value.bool).toArray,⟨⟨_,Heap.get?_push_size _ rfl,rfl,rfl⟩,⟨ob,Heap.get?_push_of_some _ h1,h2,n,h3⟩⟩,λi v s' Q' E' hP hQ=>?_,λh' tk k=>?_⟩
 .dsimp only at hP hQ;rw[List.getElem?_toArray,List.getElem?_map]at hP;cases e:bs[i]? with
  |none=>rw[e]at hP;cases hP|some b=>rw[e]at hP hQ;have hP':Value.bool b=v:=Option.some.inj hP;subst hP';exact wpAny_truthy_bool hQ
 .have hl:(bs.map Value.bool).toArray.size=bs.length:=by simp
  rw[hl,MT];refine⟨.bl _,H,I.kept (t':=tk) λb o e=>k b o ?_ (Heap.get?_push_of_some _ e),rfl,q⟩;intro hb;have e':b=s.heap.objs.size:=by simpa using hb
  subst e';exact absurd (Heap.lt_size e) (Nat.lt_irrefl _)
theorem Tf(b:Bool){l:Addr}{ns:List Int}{Q:VK}(I:Inv X pins U H s)(hq:bG X.K H l (ns.map V.int))(hn:ns.length<64)(q:∀D,H D=none->Q (.ref D) (aG H D (.lst ((fN b ns).map V.int)))) :
  wpAny (model X.prog X.w) X.A (call (.builtin "sorted") [.ref l] [(Str.ofString "reverse",.bool b)]) (EP X pins U Q) X.xe s:=by
 obtain⟨its,rv,p,hz⟩:=I.list hq;have hl:its.length=ns.length:=by have:=rv.length;simpa using this.symm
 refine sorted_ints_rev p.isList (Ds rv) (by omega) λout ns' ia hp ho=>?_;have e:=cv hp ho;subst e;obtain⟨e2,h2⟩:=sortedAll_at s.heap its out;refine⟨.ref _,_,I.laid (o:=.lst ((fN b ns).map V.int)) (t':=s.toks) (λb u z=>sortedAll_old z) (Nat.le_succ _) ⟨?_,out.toList,e2,ip ia,by rw[h2]⟩,rfl,q _ (I.aD.fresh (Nat.le_succ _))⟩;have:=hp.length_eq;rw[List.length_map,this];have:(64:Nat)<=sizeLine:=by decide
 omega
theorem Kl(l:Addr)(d:Value):Builtin.min { pos:=[.ref l],kw:=[(Str.ofString "default",d)] }=(do
   let it <- pyIter (.ref l)
   let S <- newList []
   again (.builtin "min.loop" { pos:=[it,.none,S],kw:=[(Str.ofString "default",d)] })):=by
  with_unfolding_all rfl
theorem Gk(a d:Value):checkBuiltinCall "min" { pos:=[a],kw:=[(Str.ofString "default",d)] }=pure ():=by with_unfolding_all rfl
theorem AW(I S:Addr)(d:Value)(n:Str):∃k:Option (Array Value)->Sem PySem.Fin,Builtin.«min.loop» { pos:=[.ref I,.none,.ref S],kw:=[(n,d)] }=(seqItems? (.ref S)>>=k) /\
  ∃(h:Value->Sem (Option Value)) (k2:Option Value->Sem PySem.Fin),k (some #[])=((tryCatch (pyNext (.ref I)) h)>>=k2)/\k2 none=(rule "min.default">>=λ_=>ret d):=by
 refine⟨_,by with_unfolding_all rfl,_,_,by with_unfolding_all rfl,by with_unfolding_all rfl⟩
theorem Ta(hc:X.calm=true){l:Addr}{d:Value}{v:V}{Q:VK}(I:Inv X pins U H s)(hq:bG X.K H l [])(rd:RelV v d)(q:Q v H) :
  wpAny (model X.prog X.w) X.A (call (.builtin "min") [.ref l] [(Str.ofString "default",d)]) (EP X pins U Q) X.xe s:=by
 obtain⟨its,rv,p,hz⟩:=I.list hq;cases rv;have hh:X.A.handled=none:=I.ok.hd hc;obtain⟨ob,h1,h2,n,h3⟩:=p.isList;refine wpAny_call (codeAny_call_builtin PySem.F.plain_min PySem.F.entry_min ?_);rw[Gk];refine wpAny_pure ?_;rw[Kl];refine wpAny_bind (wpAny_pyIter_list p.isList (wpAny_bind (wpAny_newList ?_)));refine wpAny_pure ⟨Code.quiet_builtin _ (by decide +kernel),codeAny_builtin PySem.F.entry_min_loop ?_⟩;obtain⟨k,e1,hd,k2,e2,e3⟩:=AW s.heap.objs.size (s.heap.push { cls:=.type "list_iterator",data:=.fields #[.ref l,.int 0 0] }).objs.size d (Str.ofString "default");rw[e1];refine wpAny_bind (wpAny_seqItems (Heap.get?_push_size _ rfl) rfl ?_);show wpAny _ _ (k (some #[])) _ _ _;rw[e2];refine wpAny_bind (wpAny_tryCatch (wpAny_pyNext_list_end (items:=#[]) (l:=l) (i:=0) hh ?_ ?_ rfl λh' eb=>?_))
 .exact⟨_,Heap.get?_push_of_some _ (Heap.get?_push_size _ rfl),rfl,rfl⟩
 .exact⟨ob,Heap.get?_push_of_some _ (Heap.get?_push_of_some _ h1),h2,n,h3⟩
 .rw[e3];refine wpAny_bind (wpAny_rule (wpAny_pure ?_));refine⟨v,H,I.kept (t':=s.toks) λb o e=>eb b o ?_ (Heap.get?_push_of_some _ (Heap.get?_push_of_some _ e)),rd,q⟩;intro hb;subst hb;exact absurd (Heap.lt_size e) (Nat.lt_irrefl _)
theorem xi{x nm:Str}{id:String}{p pos kp:Pos}{e kc:Expr}{t:TE}{z:V}{r:V->Hp->VK->Prop}(hc:∀pins s U H v u zu Q,Inv X pins U H s->RelV v u->RelV z zu->r v H Q->wpAny (model X.prog X.w) X.A (call (.builtin id) [u] [(nm,zu)]) (EP X pins U Q) X.xe s)
  (hg:Gl X x) (hm:X.mg x=none) (hv:bootBuiltins x=some (.builtin id)) (ha:PE X e t) (hk:PE X kc (tC z)) (hs:starEach [e] X.env=[(false,eval e X.env)]) (hn:x≠"__name__":=by decide) (hdb:(x==("__debug__":Str))=false:=by decide) :
  PE X (.Call (.Name x p) [e] [⟨some nm,kc,kp⟩] pos) (λU H Q=>t U H λv H1=>r v H1 Q):=by
 intro pins s U H Q I h;refine wpAny_Call_Name_kw (rO I hg hm hv ?_ hn hdb);have pa:PA X [e] (qh t pR):=jL ha pC hs;have pk:PK X [⟨some nm,kc,kp⟩] (qh (tC z) pR):=FR hk FT;obtain⟨y,rest,hs'⟩:∃y rest,backTo pos (starEach [e] X.env)=(false,y)::rest:=by rw[hs];exact⟨_,_,rfl⟩
 have ha1:(backTo pos (starEach [e] X.env)).any (·.1)=false:=by rw[hs];rfl
 refine callWith_builtin_kwB ha1 rfl ?_;have h1:=pa pos pins s U H (λvs H1=>match vs with
  |[v]=>r v H1 Q
  |_=>False) I h
 rw[hs']at h1 ⊢;refine evalArgs_kw rfl ?_;refine aI h1 λus s1 ⟨vs,H1,I1,r1,q1⟩=>?_;obtain⟨v,rfl⟩:∃v,vs=[v]:=by
  match vs,q1 with
  |[v],_=>exact⟨v,rfl⟩
 obtain⟨u,rfl,ru⟩:=r1.one;refine aI (pk pos pins s1 U H1 (λzs H2=>zs=[z]/\H2=H1) I1 ⟨rfl,rfl⟩) λws s2 ⟨zs,H2,I2,rz,ez,eH⟩=>?_;subst ez eH;obtain⟨zu,rfl,rzu⟩:=rz.one;exact hc pins s2 U H2 v u zu Q I2 ru rzu q1
end
def rR:List Int->Int
 |[]=>0
 |n::r=>r.foldl (λm x=>if x<m then x else m) n
theorem wt:∀(r:List Int) (n:Int),(r.foldl (λm x=>if x<m then x else m) n∈n::r)/\∀a∈n::r,r.foldl (λm x=>if x<m then x else m) n<=a
 |[],n=>by simp
 |x::r,n=>by
  obtain⟨h1,h2⟩:=wt r (if x<n then x else n);rw[List.foldl_cons];refine⟨?_,λa ha=>?_⟩
  .rcases List.mem_cons.mp h1 with e|e
   .rw[e];split<;>simp
   .exact List.mem_cons_of_mem _ (List.mem_cons_of_mem _ e)
  .have h3:=h2 _ (List.mem_cons_self ..);have h4:(if x<n then x else n)<=x/\(if x<n then x else n)<=n:=by split<;>omega
   rcases List.mem_cons.mp ha with rfl|ha
   .exact Int.le_trans h3 h4.2
   .rcases List.mem_cons.mp ha with rfl|ha
    .exact Int.le_trans h3 h4.1
    .exact h2 a (List.mem_cons_of_mem _ ha)
theorem AR{ns:List Int}(h:ns≠[]):rR ns∈ns:=by
 cases ns with
 |nil=>exact absurd rfl h|cons n r=>exact(wt r n).1
theorem AQ{ns:List Int}{a:Int}(h:a∈ns):rR ns<=a:=by
 cases ns with
 |nil=>cases h|cons n r=>exact(wt r n).2 a h
theorem AO{ns:List Int}{M:Int}(h1:M∈ns)(h2:∀a∈ns,M<=a):M=rR ns:=by have h3:=AQ h1;have h4:=h2 _ (AR (List.ne_nil_of_mem h1));omega
section
variable {prog:Program}{w:World}{A:Around}{R:Result->Shared->Prop}{I:Addr}{fp wr:List Addr}{n:Nat}{P:Nat->Value->Prop}{St:Nat->Heap->Prop}
theorem AS(nm:Str)(d:Value)(W:Walks prog w A.in1 I fp wr n P St)(bt:Nat->Nat->Bool)(hcmp:CmpOf prog w A.in1 .Lt P bt)(S:Addr)(hSf:S∉fp) :
  ∀(k j:Nat) (s:Shared) (vb:Value) (c:Nat),n-(j+1)=k->j+1<=n->St (j+1) s.heap->P (argBest bt j) vb->s.heap.get? S=some { cls:=.type "list",dict:=none,data:=.seq #[vb,vb] c,slots:=#[] } ->
  (∀v h' tk,P (argBest bt (n-1)) v->(∀b o,b∉wr->b≠S->s.heap.get? b=some o->h'.get? b=some o)->R (.ok (.ret v)) { s with heap:=h',toks:=tk }) ->
  codeAny (model prog w) A (.builtin "min.loop" ⟨[.ref I,.none,.ref S],[(nm,d)]⟩) R s:=by
 have hSw:S∉wr:=λh=>hSf (W.sub _ h);have hname:(toString "min"++toString ".loop":String)="min.loop":=by decide
 intro k;induction k with
 |zero=>
  intro j s vb c hk hj hst hPb hS hR;have hin:j+1=n:=by omega
  refine codeAny_builtin PySem.F.entry_min_loop ?_;rw[Around.under_plainId PySem.F.plain_min_loop _];show wpAny _ A.in1 (seqItems? (.ref S)>>=_) _ _ s;refine wpAny_bind (wpAny_seqItems hS rfl ?_);show wpAny _ A.in1 (tryCatch (pyNext (.ref I)) _>>=_) _ _ s;refine wpAny_bind (wpAny_tryCatch (W.done s _ _ (hin▸hst) λh' tk hk'=>?_));have hS':=hk' S _ hSw hS;show wpAny _ A.in1 (updateSeq S (λ_=>#[])>>=_) _ _ _;refine wpAny_bind ?_;refine wpAny_updateSeq hS' rfl (wpAny_bind (wpAny_letGo (wpAny_pure ?_)));exact hR vb _ tk (by rw[<- hin];exact hPb) λb o hbw hbS e=>(Heap.get?_update_other _ _ (Ne.symm hbS)).trans (hk' b o hbw e)
 |succ k ih=>
  intro j s vb c hk hj hst hPb hS hR;have hlt:j+1<n:=by omega
  refine codeAny_builtin PySem.F.entry_min_loop ?_;rw[Around.under_plainId PySem.F.plain_min_loop _];show wpAny _ A.in1 (seqItems? (.ref S)>>=_) _ _ s;refine wpAny_bind (wpAny_seqItems hS rfl ?_);show wpAny _ A.in1 (tryCatch (pyNext (.ref I)) _>>=_) _ _ s;refine wpAny_bind (wpAny_tryCatch (W.item (j+1) s _ _ hlt hst λv h' tk hP hst' hk'=>?_));have hS':=hk' S _ hSw hS;show wpAny _ A.in1 (tryCatch (holding [v,v] (richCompare .Lt v vb>>=_)) _>>=_) _ _ _;refine wpAny_bind (wpAny_tryCatch (wpAny_holding (wpAny_bind (hcmp (j+1) (argBest bt j) v vb _ _ _ hP hPb ?_))));refine wpAny_bind (wpAny_holding (wpAny_truthy_bool ?_));refine wpAny_bind (wpAny_letGo (wpAny_pure ?_));cases hb:bt (j+1) (argBest bt j) with
  |true=>
   simp only[if_true];refine wpAny_bind ?_;refine wpAny_updateSeq hS' rfl (wpAny_bind (wpAny_letGo ?_));rw[hname];refine wpAny_pure ⟨plainId_quiet PySem.F.plain_min_loop _,ih (j+1) _ v _ (by omega) hlt (W.frame _ _ _ hst' λb hbf o e=>?_) (by simp only[argBest,hb,if_true];exact hP) (Heap.get?_update_self _ hS' rfl) λv' h'' tk'' hP' hk''=>?_⟩
   .exact(Heap.get?_update_other _ _ (λh:S=b=>hSf (by rw[h];exact hbf))).trans e
   .exact hR v' h'' tk'' hP' λb o hbw hbS e=>hk'' b o hbw hbS ((Heap.get?_update_other _ _ (Ne.symm hbS)).trans (hk' b o hbw e))
  |false=>simp only[Bool.false_eq_true,if_false];refine wpAny_bind (wpAny_letGo ?_);rw[hname];refine wpAny_pure ⟨plainId_quiet PySem.F.plain_min_loop _,ih (j+1) _ vb c (by omega) hlt hst' (by simp only[argBest,hb,Bool.false_eq_true,if_false];exact hPb) hS' λv' h'' tk'' hP' hk''=>?_⟩;exact hR v' h'' tk'' hP' λb o hbw hbS e=>hk'' b o hbw hbS (hk' b o hbw e)
theorem AU(nm:Str)(d:Value)(W:Walks prog w A.in1 I fp wr n P St)(bt:Nat->Nat->Bool)(hcmp:CmpOf prog w A.in1 .Lt P bt)(S:Addr)(hSf:S∉fp)(hn:0<n){s:Shared}{c:Nat}(hst:St 0 s.heap)
  (hS:s.heap.get? S=some { cls:=.type "list",dict:=none,data:=.seq #[] c,slots:=#[] })
  (hR:∀v h' tk,P (argBest bt (n-1)) v->(∀b o,b∉wr->b≠S->s.heap.get? b=some o->h'.get? b=some o)->R (.ok (.ret v)) { s with heap:=h',toks:=tk }) :
  codeAny (model prog w) A (.builtin "min.loop" ⟨[.ref I,.none,.ref S],[(nm,d)]⟩) R s:=by
 have hSw:S∉wr:=λh=>hSf (W.sub _ h);have hname:(toString "min"++toString ".loop":String)="min.loop":=by decide
 refine codeAny_builtin PySem.F.entry_min_loop ?_;rw[Around.under_plainId PySem.F.plain_min_loop _];show wpAny _ A.in1 (seqItems? (.ref S)>>=_) _ _ s;refine wpAny_bind (wpAny_seqItems hS rfl ?_);show wpAny _ A.in1 (tryCatch (pyNext (.ref I)) _>>=_) _ _ s;refine wpAny_bind (wpAny_tryCatch (W.item 0 s _ _ hn hst λv h' tk hP hst' hk'=>?_));have hS':=hk' S _ hSw hS;show wpAny _ A.in1 (updateSeq S (λ_=>#[v,v])>>=_) _ _ _;refine wpAny_bind ?_;refine wpAny_updateSeq hS' rfl ?_;rw[hname];refine wpAny_pure ⟨plainId_quiet PySem.F.plain_min_loop _,AS nm d W bt hcmp S hSf _ 0 _ v _ rfl hn (W.frame _ _ _ hst' λb hbf o e=>?_) hP (Heap.get?_update_self _ hS' rfl) λv' h'' tk'' hP' hk''=>?_⟩
 .exact(Heap.get?_update_other _ _ (λh:S=b=>hSf (by rw[h];exact hbf))).trans e
 .exact hR v' h'' tk'' hP' λb o hbw hbS e=>hk'' b o hbw hbS ((Heap.get?_update_other _ _ (Ne.symm hbS)).trans (hk' b o hbw e))
end
section
variable {X:Cx}{pins:List (Addr×Obj)}{U:L2.St}{H:Hp}{s:Shared}
theorem Tc(hc:X.calm=true){l:Addr}{d:Value}{ns:List Int}{Q:VK}(I:Inv X pins U H s)(hq:bG X.K H l (ns.map V.int))(hne:ns≠[])(q:Q (.int (rR ns)) H) :
  wpAny (model X.prog X.w) X.A (call (.builtin "min") [.ref l] [(Str.ofString "default",d)]) (EP X pins U Q) X.xe s:=by
 obtain⟨its,rv,p,hz⟩:=I.list hq;have hi:=Ds rv;have hh:X.A.handled=none:=I.ok.hd hc;obtain⟨xs,e⟩:=hi.allInts.items;have hns:ns=xs.toList.map (·.1):=by rw[<- hi.numsOf,<- nums_intItems,<- e]
 have hsz:0<xs.size:=by have:ns.length≠0:=λz=>hne (List.eq_nil_of_length_eq_zero z);rw[hns,List.length_map,Array.length_toList]at this;omega
 have hl:s.heap.IsList l (intItems xs):=by rw[<- e];exact p.isList
 obtain⟨ob,h1,h2,n,h3⟩:=id hl;refine wpAny_call (codeAny_call_builtin PySem.F.plain_min PySem.F.entry_min ?_);rw[Gk];refine wpAny_pure ?_;rw[Kl];refine wpAny_bind (wpAny_pyIter_list hl (wpAny_bind (wpAny_newList ?_)));have hlt:=Heap.lt_size h1;refine wpAny_pure ⟨Code.quiet_builtin _ (by decide +kernel),?_⟩;refine AU (Str.ofString "default") d (Walks.list (A:=X.A.in1) hh s.heap.objs.size l (Nat.ne_of_lt hlt) (intItems xs)) (λi j=>decide (numAt xs i<numAt xs j)) (CmpOf.ints_lt (numAt xs) (λ_ _=>intItems_at)) _ ?_ (by simpa[intItems]using hsz) ?_ (Heap.get?_push_size _ rfl) λv h' tk hP hk=>?_
 .intro hm;have hs2:(s.heap.push { cls:=.type "list_iterator",data:=.fields #[.ref l,.int 0 0] }).objs.size=s.heap.objs.size+1:=Heap.size_push ..;rw[hs2]at hm;simp only[List.mem_cons,List.not_mem_nil,or_false]at hm;rcases hm with hm|hm
  .exact absurd hm (Nat.ne_of_gt (Nat.lt_succ_self _))
  .exact absurd hm (Nat.ne_of_gt (Nat.lt_succ_of_lt hlt))
 .exact⟨⟨_,Heap.get?_push_of_some _ (Heap.get?_push_size _ rfl),rfl,rfl⟩,ob,Heap.get?_push_of_some _ (Heap.get?_push_of_some _ h1),h2,n,h3⟩
 .have hP':(intItems xs)[argBest (λi j=>decide (numAt xs i<numAt xs j)) (xs.size-1)]?=some v:=by simpa[intItems]using hP
  obtain⟨t,rfl⟩:=intItems_at hP';obtain⟨b1,b2⟩:=argBest_lt (numAt xs) (xs.size-1);have em:numAt xs (argBest (λi j=>decide (numAt xs i<numAt xs j)) (xs.size-1))=rR ns:=by
   refine AO ?_ λa ha=>?_
   .rw[hns,numAt_eq];exact getD_mem (by rw[List.length_map,Array.length_toList];omega)
   .rw[hns]at ha;obtain⟨j,hj,rfl⟩:=mem_getD ha;rw[List.length_map,Array.length_toList]at hj;rw[<- numAt_eq];exact b2 j (by omega)
  rw[em];refine⟨.int (rR ns),H,I.kept (t':=tk) λb o e=>hk b o ?_ ?_ (Heap.get?_push_of_some _ (Heap.get?_push_of_some _ e)),⟨t,rfl⟩,q⟩
  .intro hm;simp only[List.mem_cons,List.not_mem_nil,or_false]at hm;exact absurd hm (Nat.ne_of_lt (Heap.lt_size e))
  .have:=Heap.lt_size e;have hs2:(s.heap.push { cls:=.type "list_iterator",data:=.fields #[.ref l,.int 0 0] }).objs.size=s.heap.objs.size+1:=Heap.size_push ..;rw[hs2];exact Nat.ne_of_lt (Nat.lt_succ_of_lt this)
theorem Jl:∀{us:List Value} {ns:List Int},us.length=ns.length->(∀(j:Nat) v n,us[j]?=some v->ns[j]?=some n->∃t,v=Value.int n t)->IntsAre us ns
 |[],[],_,_=>.nil
 |u::us,n::ns,hl,h=>by obtain⟨t,rfl⟩:=h 0 u n rfl rfl;exact .cons n t (Jl (by simpa using hl) λj v m e1 e2=>h (j+1) v m (by simpa using e1) (by simpa using e2))
 |[],_::_,hl,_=>by simp at hl
 |_::_,[],hl,_=>by simp at hl
theorem Td(hc:X.calm=true):dM X (.builtin "sorted") (λxs H Q=>∃(a:Addr) (kvs:List (aC×V)) (ns:List Int),xs=[.ref a]/\H a=some (.dK kvs)/\kvs.map (·.1)=ns.map Sum.inl/\ns.length<64/\∀D,H D=none->Q (.ref D) (aG H D (.lst ((fN false ns).map V.int)))):=by
 intro pins s U H xs us Q I r h;obtain⟨a,kvs,ns,rfl,ha,hks,hn,q⟩:=h;obtain⟨u,rfl,ru⟩:=r.one;cases ru;obtain⟨z,y,vs,rk,ob,es,ep,eo,c1,c2,c3⟩:=I.aD a _ ha;have da:Heap.DictAt (cY X.prog X.w) s.heap a vs ep:=⟨ob,es,eo,c1,c2,c3⟩;have hlk:kvs.length=ns.length:=by simpa using congrArg List.length hks
 have hlv:kvs.length=vs.length:=rk.length;have hh:X.A.handled=none:=I.ok.hd hc;have h64:(64:Nat)<=sizeLine:=by decide
 refine Calls.call_function_entry kind_sorted plain_sorted entry_sorted (args_sorted1 _) ?_;unfold Builtin.«sorted»;refine wpAny_bind (m:=checkCount "sorted" 1 1 _) (wpAny_pure ?_);refine wpAny_bind (W.kdu_collect (A:=X.A.in1) (W.kdl_dict (knd:=cY X.prog X.w) (kvs:=vs) (ep:=ep) y) hh da (by omega) λh' tk acc hk hacc=>?_);have hi:IntsAre acc.toList ns:=Jl (by rw[Array.length_toList,hacc.1];omega) λj v n e1 e2=>by
  obtain⟨k,x,e3,e4⟩:=hacc.2 j v (by rw[<- Array.getElem?_toList];exact e1);obtain⟨yv,e5⟩:=Jy rk e3;have e6:(kvs.map (·.1))[j]?=some k:=by rw[List.getElem?_map,e5];rfl
  rw[hks,List.getElem?_map,e2]at e6;have e7:k=Sum.inl n:=(Option.some.inj e6).symm;subst e7;exact Jt (k:=Sum.inl n) (v:=v) e4
 have hlen:acc.toList.length=ns.length:=hi.length;refine wpAny_bind (wpAny_newList ?_ (by omega));have hoL:(h'.push (seqObj "list" acc.toList.toArray 0)).get? h'.objs.size=some (seqObj "list" acc.toList.toArray 0):=Heap.get?_push_size _ rfl;refine wpAny_bind (wpAny_holding (wpAny_call_entry slot_list_sort ⟨_,hoL,rfl⟩ entry_list_sort (list_sort_tree hoL hi (by omega) λout ns' a1 a2 a3=>⟨_,rfl,?_⟩) (args_list_sort _)));have e:=cv (rev:=false) a2 (show Ordered false ns' from by unfold Ordered;simpa using a3);subst e;obtain⟨e2,he2⟩:=sortedHeap_at (out:=out) hoL;have I1:Inv X pins U H { s with heap:=h',toks:=tk }:=I.kept hk;refine wpAny_pure ⟨_,rfl,.ref _,_,I1.laid (o:=.lst ((fN false ns).map V.int)) (t':=tk) (λb u h1=>?_) (Nat.le_refl _) ⟨?_,out.toList,e2,ip a1,by rw[he2]⟩,rfl,q _ (I1.aD.fresh (Nat.le_refl _))⟩
 .have h1:h'.get? b=some u:=h1;rw[sortedHeap_old (Nat.ne_of_lt (Heap.lt_size h1)) (by rw[size_push'];exact Nat.lt_succ_of_lt (Heap.lt_size h1)),Heap.get?_push_of_some _ h1]
 .have:=a2.length_eq;rw[List.length_map,this];omega
theorem Th:dM X (.builtin "sorted") (λxs H Q=>∃(a:Addr) (ns:List Int),xs=[.ref a]/\bG X.K H a (ns.map V.int)/\ns.length<64/\∀D,H D=none->Q (.ref D) (aG H D (.lst ((fN false ns).map V.int)))):=by
 intro pins s U H xs us Q I r h;obtain⟨l,ns,rfl,hq,hn,q⟩:=h;obtain⟨u,rfl,ru⟩:=r.one;cases ru;obtain⟨its,rv,p,hz⟩:=I.list hq;have hl:its.length=ns.length:=by have:=rv.length;simpa using this.symm
 refine sorted_ints p.isList (Ds rv) (by omega) λout ns' ia hp ho=>?_;have e:=cv (rev:=false) hp (show Ordered false ns' from by unfold Ordered;simpa using ho);subst e;obtain⟨e2,h2⟩:=sortedAll_at s.heap its out;refine⟨.ref _,_,I.laid (o:=.lst ((fN false ns).map V.int)) (t':=s.toks) (λb u z=>sortedAll_old z) (Nat.le_succ _) ⟨?_,out.toList,e2,ip ia,by rw[h2]⟩,rfl,q _ (I.aD.fresh (Nat.le_succ _))⟩;have:=hp.length_eq;rw[List.length_map,this];have:(64:Nat)<=sizeLine:=by decide
 omega
def eV{α:Type}(ks:List Int)(xs:List α):List α:=((ks.zip xs).mergeSort (λp q=>decide (p.1<=q.1))).map (·.2)
theorem qa{α β:Type}{R:α->β->Prop}{ks:List Int}{xs:List α}{us:List β}(r:Paired R xs us):Paired R (eV ks xs) (eV ks us):=by
 have hl:=r.length;have hm:∀p∈xs.zip us,R p.1 p.2:=by
  clear hl;induction r with
  |nil=>intro p hp;simp at hp|cons h t ih=>
   intro p hp;rcases List.mem_cons.mp hp with rfl|hp
   .exact h
   .exact ih p hp
 have e1:ks.zip xs=(ks.zip (xs.zip us)).map (λt=>(t.1,t.2.1)):=by rw[show xs=(xs.zip us).map (·.1) from(List.map_fst_zip (by omega)).symm,List.zip_map_right];simp only[List.map_fst_zip (show xs.length<=us.length by omega)];rfl
 have e2:ks.zip us=(ks.zip (xs.zip us)).map (λt=>(t.1,t.2.2)):=by rw[show us=(xs.zip us).map (·.2) from(List.map_snd_zip (by omega)).symm,List.zip_map_right];simp only[List.map_snd_zip (show us.length<=xs.length by omega)];rfl
 have hs:∀t∈(ks.zip (xs.zip us)).mergeSort (λp q=>decide (p.1<=q.1)),R t.2.1 t.2.2:=λt ht=>hm t.2 (List.of_mem_zip ((List.mergeSort_perm _ _).mem_iff.mp ht)).2;unfold eV;rw[e1,e2,<- List.map_mergeSort (r:=λp q=>decide (p.1<=q.1)) (λ_ _ _ _=>rfl),<- List.map_mergeSort (r:=λp q=>decide (p.1<=q.1)) (λ_ _ _ _=>rfl),List.map_map,List.map_map];generalize (ks.zip (xs.zip us)).mergeSort (λp q=>decide (p.1<=q.1))=ts at hs;induction ts with
 |nil=>exact .nil|cons t ts ih=>exact .cons (hs t (List.mem_cons_self ..)) (ih λx hx=>hs x (List.mem_cons_of_mem _ hx))
theorem Rm{α:Type}{k:Int}{x y:α}:∀{ks:List Int} {xs:List α},ks.Nodup->(k,x)∈ks.zip xs->(k,y)∈ks.zip xs->x=y
 |[],_,_,h,_=>by simp at h
 |_::_,[],_,h,_=>by simp at h
 |c::ks,z::xs,hn,h1,h2=>by
  rw[List.zip_cons_cons]at h1 h2;have hn':=List.nodup_cons.mp hn;rcases List.mem_cons.mp h1 with e1|h3
  .rcases List.mem_cons.mp h2 with e2|h4
   .cases e1;cases e2;rfl
   .cases e1;exact absurd (List.of_mem_zip h4).1 hn'.1
  .rcases List.mem_cons.mp h2 with e2|h4
   .cases e2;exact absurd (List.of_mem_zip h3).1 hn'.1
   .exact Rm hn'.2 h3 h4
theorem Cz{α:Type}{ks:List Int}{xs:List α}{ps:List (Int×α)}(hn:ks.Nodup)(hp:ps.Perm (ks.zip xs))(ho:ps.Pairwise λp q=>p.1<=q.1):ps.map (·.2)=eV ks xs:=by
 unfold eV;congr 1
 refine List.Perm.eq_of_pairwise (le:=λp q=>decide (p.1<=q.1)=true) (λp q h1 h2 a b=>?_) (ho.imp λh=>by simpa using h) ?_ (hp.trans (List.mergeSort_perm _ _).symm)
 .have e:p.1=q.1:=by simp only[decide_eq_true_eq]at a b;omega
  obtain⟨k,x⟩:=p;obtain⟨k',y⟩:=q;cases e;rw[Rm hn (hp.mem_iff.mp h1) ((List.mergeSort_perm _ _).mem_iff.mp h2)]
 .refine List.pairwise_mergeSort ?_ ?_ _
  .intro a b c;simp only[decide_eq_true_eq];omega
  .intro a b;simp only[Bool.or_eq_true,decide_eq_true_eq];omega
def xF:XK:=λ_ _ _=>False
theorem Ue{P:Program}{w:World}{outer:List Env}{H:Hp}{s s':Shared}{e:Value}(h:cD P w outer H s xF e s'):False:=by obtain⟨_,_,_,_,_,_,_,_,_,_,_,_,z⟩:=h;exact z
variable {k:Nat}{f:Addr}{fd:FuncData}{ps:List Str}{sp:Sp}
theorem NI{us:List Value}{vs:List V}{Q:VK}(F:dD X.prog X.w X.K X.mg X.base (cD X.prog X.w) k f fd ps sp)(hr:bU (k+1) X.A)(hb:Binds X.K fd ps [])(I:Inv X pins U H s)(r:Vals vs us)(h:sp vs H Q xF) :
  wpAny (model X.prog X.w) X.A.in1.in1 (call (.ref f) us) (EP X pins U Q) (λ_ _=>False) s:=by
 have hl:us.length=ps.length:=by rw[<- r.length];exact F.len _ _ _ _ h
 have hr2:bU k X.A.in1.in1:=⟨hr.hd,by have:=hr.dp;show X.A.depth+3*k+5<_;omega,by have:=hr.un;show X.A.units+1+1+16*k+200<_;omega⟩;have hbb:=hb s us I.bK (by rw[List.append_nil];exact hl);rw[List.append_nil]at hbb;refine wpAny_call (codeAny_mono (F.run X.A.in1.in1 X.stack s H ⟨us,[]⟩ us vs Q xF hr2 I.gb.in1.in1 hbb r h) λr s' hq=>?_);cases r with
 |error e=>exact Ue hq|ok fl=>
  cases fl with
  |ret u=>exact I.after hq|_=>exact False.elim hq
def yP(sp:Sp):List V->Hp->(List Int->Hp->Prop)->Prop
 |[],H,Q=>Q [] H
 |y::r,H,Q=>sp [y] H (λv H1=>∃k,v = .int k/\yP sp r H1 λks H2=>Q (k::ks) H2) xF
def kP(X:Cx)(pins:List (Addr×Obj))(b:Addr):Prop:=X.s₀.heap.objs.size<=b/\(∀x c,X.env.cells.lookup x=some c->c≠b)/\∀p∈X.pn++pins,p.1≠b
theorem rW{pins:List (Addr×Obj)}{p:Addr×Obj}(I:Inv X (p::pins) U H s):s.heap.get? p.1=some p.2/\H p.1=none/\p.1≠X.env.locals/\p.1∉X.fs/\∀v,p.2.data ≠ .cell v:=I.pin p (List.mem_append_right _ (List.mem_cons_self ..))
theorem xl{pins:List (Addr×Obj)}{p:Addr×Obj}(I:Inv X (p::pins) U H s):Inv X pins U H s:=I.nC λq hq=>I.pin q (List.mem_append_right _ (List.mem_cons_of_mem _ hq))
theorem xm{a:Addr} {o:Obj} {h':Heap} {xs:Array Value} {n t':Nat} (I:Inv X ((a,o)::pins) U H s) (hu:kP X pins a) (k:∀b u,b≠a->s.heap.get? b=some u->h'.get? b=some u) (ha:h'.get? a=some (seqObj "list" xs n)) :
  Inv X ((a,seqObj "list" xs n)::pins) U H { s with heap:=h',toks:=t' }:=by
 obtain⟨e1,e2,e3,e4,e5⟩:=rW I;have I1:Inv X pins U H { s with heap:=h',toks:=t' }:=(xl I).turned k e2 e3 (.inr hu.1) hu.2.1 hu.2.2;refine I1.nC λp hp=>?_;rcases List.mem_cons.mp hp with rfl|hp
 .exact⟨ha,e2,e3,e4,λv z=>by cases z⟩
 .exact I1.pin p (List.mem_append_right _ hp)
theorem FP{p q:Addr×Obj}(I:Inv X (p::q::pins) U H s):Inv X (q::p::pins) U H s:=I.nC λz hz=>I.pin z (List.mem_append_right _ (by
 simp only[List.mem_cons]at hz ⊢;rcases hz with h|h|h
 .exact .inr (.inl h)
 .exact .inl h
 .exact .inr (.inr h)))
theorem FQ{a:Addr} {xs:Array Value} {n:Nat} {ys:List V} (I:Inv X ((a,seqObj "list" xs n)::pins) U H s) (hu:kP X pins a) (r:Vals ys xs.toList) (hz:ys.length<=sizeLine):Inv X pins U (aG H a (.lst ys)) s:=by
 obtain⟨e1,e2,e3,e4,e5⟩:=rW I;have I1:=xl I;refine I1.step (h':=s.heap) (g':=s.gens) (d':=s.drawn) (t':=s.toks) (ch:=[a]) (λb hb=>?_) (λb o _ _ hc e _=>e) (λb o _ _ hc e _=>⟨o.slots,e⟩) (λb o hc e n=>?_) (λb o hc e=>⟨o,e⟩)
  (λb zs e=>by rw[aO (dI e e2)];exact e) (λb o u e=>by rw[aO (dI e e2)];exact e) (λb qs e=>⟨#[],by rw[aO (dI e e2),e];simp⟩) (λm hm=>hm) (λb u e=>?_) I1.bare
 .have z:b=a:=by simpa using hb
  subst z;exact⟨.inr hu.1,e3,hu.2.1,hu.2.2⟩
 .rw[aO (λz=>hc (by simp[z]))];exact n
 .by_cases hb:b=a
  .subst hb;rw[cQ]at e;cases e;exact⟨hz,xs.toList,n,r,e1⟩
  .rw[aO hb]at e;exact(I1.aD b u e).gI (λc v hc q=>q) (λc q=>by rw[aO (dI q e2)];exact q) λc zs q=>by rw[aO (dI q e2)];exact q
theorem Kx{a b:Addr}{o:Obj}(h:kP X pins b)(n:a≠b):kP X ((a,o)::pins) b:=⟨h.1,h.2.1,λp hp=>by
 rcases List.mem_append.mp hp with hp|hp
 .exact h.2.2 p (List.mem_append_left _ hp)
 .rcases List.mem_cons.mp hp with rfl|hp
  .exact n
  .exact h.2.2 p (List.mem_append_right _ hp)⟩
variable {a kS:Addr}{us:List Value}{ks:List Int}{keys:Array Value}{e e1:Nat}{A:Around}{E:Value->Shared->Prop}{P:PySem.Fin->Shared->Prop}
theorem Jv{st:SortSt} (I:Inv X ((kS,seqObj "list" keys e)::(a,seqObj "list" #[] e1)::pins) U H s) (hka:kS≠a) (uk:kP X pins kS) (ua:kP X pins a) (hk:IntsAre keys.toList ks) (hl:ks.length=us.length) (h64:us.length<64)
  (hp:(arrOf st).Perm (keys.zip us.toArray)) (hs:SortedTo (arrOf st) (arrOf st).size) (hfl:failedOf st=none) (h:∀out c s',Inv X ((a,seqObj "list" out c)::pins) U H s'->KskOut false ks us out.toList->P (.done (.ret .none)) s') :
  wpAny (model X.prog X.w) A (ksk_tail a false e1 (.ref kS) st) P E s:=by
 have nk:=rW I;have na:=rW (FP I);have hsz:keys.size=us.length:=by have h1:=hk.length;rw[Array.length_toList]at h1;omega
 have hsz2:(arrOf st).size=us.length:=by rw[hp.size_eq,Array.size_zip,hsz,List.size_toArray,Nat.min_self]
 have s1:=Heap.SameBut.update s.heap kS (Obj.mapSeq λ_=>(#[]:Array Value));obtain⟨c1,hc1⟩:∃c1,(s.heap.update kS (Obj.mapSeq λ_=>(#[]:Array Value))).get? kS=some (seqObj "list" #[] c1):=⟨_,get?_update_seq nk.1 λ_=>#[]⟩;have I1:Inv X ((a,seqObj "list" #[] e1)::pins) U H { s with heap:=s.heap.update kS (Obj.mapSeq λ_=>(#[]:Array Value)) }:=xl (xm (t':=s.toks) I (Kx uk hka.symm) (λb u hb q=>(s1.2 b hb).trans q) hc1);have na1:(s.heap.update kS (Obj.mapSeq λ_=>(#[]:Array Value))).get? a=some (seqObj "list" #[] e1):=(rW I1).1;generalize e1h:s.heap.update kS (Obj.mapSeq λ_=>(#[]:Array Value))=h1 at I1 na1;have s2:=Heap.SameBut.update h1 a (Obj.mapSeq λ_=>(arrOf st).map (·.2));obtain⟨c2,hc2⟩:∃c2,(h1.update a (Obj.mapSeq λ_=>(arrOf st).map (·.2))).get? a=some (seqObj "list" ((arrOf st).map (·.2)) c2):=⟨_,get?_update_seq na1 λ_=>(arrOf st).map (·.2)⟩;have I2:Inv X ((a,seqObj "list" ((arrOf st).map (·.2)) c2)::pins) U H { s with heap:=h1.update a (Obj.mapSeq λ_=>(arrOf st).map (·.2)) }:=xm (s:={ s with heap:=h1 }) (t':=s.toks) I1 ua (λb u hb q=>(s2.2 b hb).trans q) hc2;unfold ksk_tail;try dsimp only
 refine wpAny_bind (listUpdate_at nk.1 rfl ?_ (by rw[hsz,sizeLine_eq];omega) (Nat.zero_le _));rw[e1h];refine wpAny_bind (wpAny_letGo ?_);refine wpAny_bind (seqEpoch_at na1 rfl ?_);refine wpAny_bind (listUpdate_at na1 rfl ?_ (Nat.zero_le _) (Nat.le_trans (Nat.le_of_eq (show((arrOf st).map (·.2)).size=us.length by rw[Array.size_map,hsz2])) (by rw[sizeLine_eq];omega)));rw[hfl];simp only[bne_self_eq_false,Bool.false_eq_true,if_false];exact wpAny_pure (h _ _ _ I2 (ksk_out (b:=false) hk hp hs))
theorem Zp(I:Inv X ((kS,seqObj "list" keys e)::(a,seqObj "list" #[] e1)::pins) U H s) (hka:kS≠a) (uk:kP X pins kS) (ua:kP X pins a) (hk:IntsAre keys.toList ks) (hl:ks.length=us.length) (h64:us.length<64)
  (h:∀out c s',Inv X ((a,seqObj "list" out c)::pins) U H s'->KskOut false ks us out.toList->P (.done (.ret .none)) s') :
  wpAny (model X.prog X.w) A (ksk_end a false us.toArray e1 (.ref kS) keys) P E s:=by
 have hsz:keys.size=us.length:=by have h1:=hk.length;rw[Array.length_toList]at h1;omega
 have hzs:(keys.zip us.toArray).size=us.length:=by rw[Array.size_zip,hsz,List.size_toArray,Nat.min_self]
 unfold ksk_end;simp only[Bool.false_eq_true,if_false];by_cases h2:us.toArray.size<2
 .rw[if_pos h2,if_pos h2];refine wpAny_bind (wpAny_pure ?_);rw[StateT.run_pure];refine wpAny_bind (wpAny_pure ?_);refine Jv (st:=SortSt.mk' general' (keys.zip us.toArray) #[] 7 none) I hka uk ua hk hl h64 (Array.Perm.refl _) ?_ rfl h;intro i j hij hj;have hj2:j<(keys.zip us.toArray).size:=hj;rw[hzs]at hj2;rw[List.size_toArray]at h2;have:i=j:=by omega
  subst this;exact Int.le_refl _
 .rw[if_neg h2,if_neg h2];rw[List.size_toArray]at h2;rw[ksk_kind hk (by rw[hsz];omega)];refine wpAny_bind (wpAny_pure ?_);refine wpAny_bind (wpAny_mono (wpS_sortRuns (a₀:=keys.zip us.toArray) (st:=SortSt.mk' oneType' (keys.zip us.toArray) #[] 7 none)
   (Q:=λ_ st'=>(arrOf st').Perm (keys.zip us.toArray)/\failedOf st'=none/\SortedTo (arrOf st') (keys.zip us.toArray).size)
   (ksk_intKeys hk) ⟨Array.Perm.refl _,rfl,rfl,rfl⟩ (by rw[hzs];omega) (by rw[hzs];exact h64) λst' a1 a2 a3=>⟨a1,a2,a3⟩) ?_ λ_ _ e=>e)
  rintro ⟨⟨⟩,st'⟩ s' ⟨rfl,hp,hf,hs⟩
  exact Jv I hka uk ua hk hl h64 hp (by rw[hp.size_eq];exact hs) hf h
theorem Zs{ys:List V} {R:List Int->Hp->Prop} (F:dD X.prog X.w X.K X.mg X.base (cD X.prog X.w) k f fd ps sp) (hr:bU (k+1) X.A) (hb:Binds X.K fd ps []) (I:Inv X ((kS,seqObj "list" #[] 0)::(a,seqObj "list" #[] e1)::pins) U H s) (hka:kS≠a) (uk:kP X pins kS) (ua:kP X pins a)
  (rv:Vals ys us) (h64:us.length<64) (q:yP sp ys H R) (h:∀ks H2 out c s',R ks H2->ks.length=us.length->Inv X ((a,seqObj "list" out c)::pins) U H2 s'->KskOut false ks us out.toList->P (.done (.ret .none)) s') :
  wpAny (model X.prog X.w) X.A.in1.in1 (ksk_rest a (.ref f) false us.toArray e1 (.ref kS)) P E s:=by
 unfold ksk_rest;refine wpAny_bind (wpAny_rule ?_);rw[List.forIn_toArray];refine wpAny_bind (ksk_fold (λi s'=>∃H kA e ks,Inv X ((kS,seqObj "list" kA e)::(a,seqObj "list" #[] e1)::pins) U H s'/\IntsAre kA.toList ks/\ks.length=i/\yP sp (ys.drop i) H λr H2=>R (ks++r) H2) us 0 s ⟨H,#[],0,[],I,.nil,rfl,q⟩ ?step ?done)
 case step=>
  rintro j x s' hx ⟨H1,kA,e,ks,I1,hk,hj,t⟩
  simp only[Nat.zero_add]at hj t ⊢;have hlt:j<us.length:=(List.getElem?_eq_some_iff.mp hx).1;have hly:ys.length=us.length:=rv.length;obtain⟨y,hy⟩:∃y,ys[j]?=some y:=⟨_,List.getElem?_eq_getElem (by omega)⟩;obtain⟨u,hu,ru⟩:=rv.get hy;rw[hx]at hu;cases hu;have ed:ys.drop j=y::ys.drop (j+1):=by obtain⟨hj',rfl⟩:=List.getElem?_eq_some_iff.mp hy;exact List.drop_eq_getElem_cons hj'
  rw[ed]at t;refine wpAny_bind (wpAny_attempt (wpAny_mono (NI F hr hb I1 (.cons ru .nil) t) (λv s'' he=>?_) λ_ _ hF=>hF.elim));obtain⟨v',H2,I2,rv2,z,rfl,t2⟩:=he;obtain⟨tk,rfl⟩:=(show∃tk,v=Value.int z tk from rv2);have nk:=rW I2;have hz:kA.size=j:=by have h1:=hk.length;rw[Array.length_toList]at h1;omega
  have s1:=Heap.SameBut.update s''.heap kS (Obj.mapSeq (·.push (.int z tk)));refine wpAny_bind (listUpdate_at nk.1 rfl ?_ (by rw[sizeLine_eq];omega) (Nat.le_trans (Nat.le_of_eq (Array.size_push ..)) (by rw[sizeLine_eq];omega)));refine wpAny_pure ⟨rfl,H2,kA.push (.int z tk),_,ks++[z],xm (t':=s''.toks) I2 (Kx uk hka.symm) (λb u hb q=>(s1.2 b hb).trans q) (get?_update_seq nk.1 (·.push (.int z tk))),?_,by simp[hj],?_⟩
  .rw[Array.toList_push];exact ksk_snoc hk
  .simpa using t2
 case done=>
  rintro s' ⟨H1,kA,e,ks,I1,hk,hj,t⟩
  have hly:ys.length=us.length:=rv.length;have ed:ys.drop (0+us.length)=[]:=List.drop_eq_nil_of_le (by omega);rw[ed]at t;have t':R (ks++[]) H1:=t;rw[List.append_nil]at t';refine wpAny_bind (listItems_at (rW I1).1 rfl ?_);exact Zp I1 hka uk ua hk (by omega) h64 λout c s' I' ko=>h ks H1 out c s' t' (by omega) I' ko
theorem Te{l:Addr}{ys:List V}{Q:VK}(F:dD X.prog X.w X.K X.mg X.base (cD X.prog X.w) k f fd ps sp)(hr:bU (k+1) X.A)(hb:Binds X.K fd ps [])(I:Inv X pins U H s)(hq:bG X.K H l ys)(hn:ys.length<64)
  (q:yP sp ys H λks H2=>ks.Nodup/\∀D,H2 D=none->Q (.ref D) (aG H2 D (.lst (eV ks ys)))) :
  wpAny (model X.prog X.w) X.A (call (.builtin "sorted") [.ref l] [(Str.ofString "key",.ref f)]) (EP X pins U Q) X.xe s:=by
 obtain⟨us,rv,p,hz⟩:=I.list hq;have hly:ys.length=us.length:=rv.length;have hl:=p.isList;refine call_function_entry_kw kind_sorted plain_sorted entry_sorted (ksk_s1 _ _) ?_;unfold Builtin.«sorted»;refine wpAny_bind (m:=checkCount "sorted" 1 1 _) (wpAny_pure ?_);refine wpAny_bind (collect_list hl ?_ (by rw[sizeLine_eq];omega));refine wpAny_bind (wpAny_newList ?_ (by rw[sizeLine_eq];omega));have hsz:((s.heap.push (seqObj "list" #[] 0)).update s.heap.objs.size (Obj.mapSeq (·++us.toArray))).objs.size=s.heap.objs.size+1:=by rw[Heap.size_update,size_push']
 have hoL:(((s.heap.push (seqObj "list" #[] 0)).update s.heap.objs.size (Obj.mapSeq (·++us.toArray))).push (seqObj "list" us.toArray 0)).get? (s.heap.objs.size+1)=some (seqObj "list" us.toArray 0):=by rw[<- hsz];exact Heap.get?_push_size _ rfl
 have keep:∀b o,s.heap.get? b=some o->(((s.heap.push (seqObj "list" #[] 0)).update s.heap.objs.size (Obj.mapSeq (·++us.toArray))).push (seqObj "list" us.toArray 0)).get? b=some o:=λb o q=>by have hlt:b<s.heap.objs.size:=Heap.lt_size q;rw[Heap.get?_push_ne _ _ _ (by rw[hsz];exact Nat.ne_of_lt (Nat.lt_succ_of_lt hlt)),Heap.get?_update_ne _ _ _ _ (Nat.ne_of_lt hlt),Heap.get?_push_ne _ _ _ (Nat.ne_of_lt hlt)];exact q
 show wpAny _ _ _ _ _ { s with heap:=((s.heap.push (seqObj "list" #[] 0)).update s.heap.objs.size (Obj.mapSeq (·++us.toArray))).push (seqObj "list" us.toArray 0) };rw[hsz];have hsz1:(((s.heap.push (seqObj "list" #[] 0)).update s.heap.objs.size (Obj.mapSeq (·++us.toArray))).push (seqObj "list" us.toArray 0)).objs.size=s.heap.objs.size+1+1:=by rw[size_push',hsz]
 generalize ((s.heap.push (seqObj "list" #[] 0)).update s.heap.objs.size (Obj.mapSeq (·++us.toArray))).push (seqObj "list" us.toArray 0)=h1 at hoL keep hsz1;refine wpAny_bind (wpAny_holding (wpAny_call_entry_kw slot_list_sort ⟨_,hoL,rfl⟩ entry_list_sort ?body (ksk_l1 _ _)))
 case body=>
  show wpAny (model X.prog X.w) X.A.in1.in1 (Builtin.«list.sort» ⟨[.ref (s.heap.objs.size+1)],[(Str.ofString "key",.ref f)]⟩) _ _ _;rw[ksk_t1];have s1:=Heap.SameBut.update h1 (s.heap.objs.size+1) (Obj.mapSeq λ_=>(#[]:Array Value));obtain⟨e1,ho1⟩:∃e1,(h1.update (s.heap.objs.size+1) (Obj.mapSeq λ_=>(#[]:Array Value))).get? (s.heap.objs.size+1)=some (seqObj "list" #[] e1):=⟨_,get?_update_seq hoL λ_=>#[]⟩;unfold ksk_tree;refine wpAny_bind (listItems_at hoL rfl ?_);refine wpAny_bind (listUpdate_at hoL rfl ?_ (by rw[List.size_toArray,sizeLine_eq];omega) (Nat.zero_le _));refine wpAny_bind (seqEpoch_at ho1 rfl ?_);refine wpAny_bind (wpAny_newTuple ?_ (by show us.length<=_;rw[sizeLine_eq];omega));refine wpAny_bind (wpAny_newList ?_ (Nat.zero_le _));refine wpAny_holding ?_;have hkS:((h1.update (s.heap.objs.size+1) (Obj.mapSeq λ_=>(#[]:Array Value))).push (seqObj "tuple" us.toArray 0)).objs.size=s.heap.objs.size+3:=by rw[size_push',Heap.size_update,hsz1]
  have ours:∀b,s.heap.objs.size<=b->kP X pins b:=λb hb=>by obtain⟨_,_,_,f3,f4,f5⟩:=I.mV hb (I.aD.fresh hb);exact⟨Nat.le_trans I.sz hb,f4,f5⟩
  have I1:Inv X pins U H { s with heap:=((h1.update (s.heap.objs.size+1) (Obj.mapSeq λ_=>(#[]:Array Value))).push (seqObj "tuple" us.toArray 0)).push (seqObj "list" #[] 0) }:=I.kept (t':=s.toks) λb u q=>
   Heap.get?_push_of_some _ (Heap.get?_push_of_some _ ((s1.2 b (Nat.ne_of_lt (Nat.lt_succ_of_lt (Heap.lt_size q)))).trans (keep b u q)))
  have I2:Inv X ((s.heap.objs.size+3,seqObj "list" #[] 0)::(s.heap.objs.size+1,seqObj "list" #[] e1)::pins) U H { s with heap:=((h1.update (s.heap.objs.size+1) (Obj.mapSeq λ_=>(#[]:Array Value))).push (seqObj "tuple" us.toArray 0)).push (seqObj "list" #[] 0) }:=by
   refine I1.nC λp hp=>?_;have fr:∀b,s.heap.objs.size<=b->H b=none/\b≠X.env.locals/\b∉X.fs:=λb hb=>⟨I.aD.fresh hb,Nat.ne_of_gt (Nat.lt_of_lt_of_le I.lt hb),I.Kq hb⟩;rcases List.mem_cons.mp hp with rfl|hp
   .obtain⟨a1,a2,a3⟩:=fr (s.heap.objs.size+3) (Nat.le_add_right _ _);refine⟨?_,a1,a2,a3,λv z=>by cases z⟩;show Heap.get? _ _=_;rw[<- hkS];exact Heap.get?_push_size _ rfl
   .rcases List.mem_cons.mp hp with rfl|hp
    .obtain⟨a1,a2,a3⟩:=fr (s.heap.objs.size+1) (Nat.le_add_right _ _);exact⟨Heap.get?_push_of_some _ (Heap.get?_push_of_some _ ho1),a1,a2,a3,λv z=>by cases z⟩
    .exact I1.pin p (List.mem_append_right _ hp)
  have key:=Zs (P:=λfin s'=>∃v,fin = .done (.ret v)/\EP X pins U Q (.ref (s.heap.objs.size+1)) s') (E:=X.xe) F hr hb I2 (show s.heap.objs.size+3≠s.heap.objs.size+1 by omega) (ours _ (Nat.le_add_right _ _)) (ours _ (Nat.le_add_right _ _)) rv (by omega) q λks H2 out c s' ⟨hnd,hQ⟩ hlk I3 ko=>by
   refine⟨_,rfl,?_⟩;obtain⟨pl,hpp,ho,hs⟩:=ko;have eo:out.toList=eV ks us:=by rw[ho];exact Cz hnd hpp (by simpa using hs)
   have hlen:(eV ks ys).length<=sizeLine:=by unfold eV;rw[List.length_map,(List.mergeSort_perm _ _).length_eq,List.length_zip];exact Nat.le_trans (Nat.min_le_right _ _) hz
   exact⟨.ref _,_,FQ I3 (ours _ (Nat.le_add_right _ _)) (by rw[eo];exact qa rv) hlen,rfl,hQ _ (rW I3).2.1⟩
  rw[<- hkS]at key;refine wpAny_mono key (λfin s' z=>?_) λ_ _ e=>e;obtain⟨v,rfl,z⟩:=z;exact⟨v,rfl,wpAny_pure ⟨_,rfl,z⟩⟩
end
section
variable {cmp:Nat->Nat->(Bool->Shared->Prop)->Shared->Prop}{n:Nat}{k:Nat->Int}{s:Shared}
def rg(n:Nat):Array Nat:=List.toArray (List.range n)
theorem tT{n i:Nat}(h:i<n):(rg n).getD i 0=i:=by unfold rg;simp[Array.getD,h]
theorem Ow{n:Nat}:(rg n).size=n:=by unfold rg;simp
theorem Em(hc:∀i j C,i<n->j<n->i≠j->C (decide (k i<k j)) s->cmp i j C s)(hk:∀i,i+1<n-1->k i<k (i+1)){Q:Nat->Shared->Prop}(q1:¬k (n-1)<k (n-2)->Q n s)(q2:k (n-1)<k (n-2)->Q (n-1) s) :
  ∀f a,1<=a->a+f=n->f≠0->(W.kas_asc (rg n) f a).kasWp cmp Q s
 |0,_,_,_,h=>absurd rfl h
 |f+1,a,h1,h2,_=>by
  show cmp ((rg n).getD a 0) ((rg n).getD (a-1) 0) _ s;rw[tT (by omega),tT (by omega)];refine hc _ _ _ (by omega) (by omega) (by omega) ?_;by_cases hf:f=0
  .subst hf;have ea:a=n-1:=by omega
   subst ea;by_cases hl:k (n-1)<k (n-1-1)
   .rw[decide_eq_true hl];exact q2 hl
   .rw[decide_eq_false hl];show Q (n-1+1) s;rw[show n-1+1=n by omega];exact q1 hl
  .have hl:¬k a<k (a-1):=by have:=hk (a-1) (by omega);rw[show a-1+1=a by omega]at this;omega
   rw[decide_eq_false hl];exact Em hc hk q1 q2 f (a+1) (by omega) (by omega) hf
theorem xn(hc:∀i j C,i<n->j<n->i≠j->C (decide (k i<k j)) s->cmp i j C s)(hd:∀i,i<n-1->k i≠k (n-1))(h2:2<=n)(hk:∀i j,i<j->j<n-1->k i<k j){Q:Nat->Shared->Prop}(q:∀l,l<=n-1->(∀i,i<l->k i<k (n-1))->(∀i,l<=i->i<n-1->k (n-1)<k i)->Q l s) :
  ∀f l r,r-l<=f->l<=r->r<=n-1->(∀i,i<l->k i<k (n-1))->(∀i,r<=i->i<n-1->k (n-1)<k i)->(W.kas_place (rg n) (n-1) f l r).kasWp cmp Q s
 |0,l,r,hf,hlr,hr,g1,g2=>by
  show Q l s;have:l=r:=by omega
  subst this;exact q l hr g1 g2
 |f+1,l,r,hf,hlr,hr,g1,g2=>by
  unfold W.kas_place;by_cases hge:l ≥ r
  .rw[if_pos hge];show Q l s;have:l=r:=by omega
   subst this;exact q l hr g1 g2
  .rw[if_neg hge];show cmp ((rg n).getD (n-1) 0) ((rg n).getD ((l+r) / 2) 0) _ s;rw[tT (by omega),tT (by omega)];refine hc _ _ _ (by omega) (by omega) (by omega) ?_;by_cases hl:k (n-1)<k ((l+r) / 2)
   .rw[decide_eq_true hl];refine xn hc hd h2 hk q f l ((l+r) / 2) (by omega) (by omega) (by omega) g1 λi h3 h4=>?_;by_cases e:i=(l+r) / 2
    .rw[e];exact hl
    .have:=hk ((l+r) / 2) i (by omega) h4;omega
   .rw[decide_eq_false hl];have hne:=hd ((l+r) / 2) (by omega);refine xn hc hd h2 hk q f ((l+r) / 2+1) r (by omega) (by omega) hr (λi h3=>?_) g2;by_cases e:i=(l+r) / 2
    .rw[e];omega
    .have:=hk i ((l+r) / 2) (by omega) (by omega);omega
theorem SD(h2:2<=n)(hc:∀i j C,i<n->j<n->i≠j->C (decide (k i<k j)) s->cmp i j C s)(hk:∀i j,i<j->j<n-1->k i<k j)(hd:∀i,i<n-1->k i≠k (n-1)){G:Array Nat->Shared->Prop}
  (hG:∀p:Array Nat,p.Perm (rg n)->(∀i j,i<j->j<n->k (p.getD i 0)<k (p.getD j 0))->G p s):(W.kas_sort n).kasWp cmp G s:=by
 unfold W.kas_sort;rw[W.KasT.kasWp_bind];unfold W.kas_count;rw[W.KasT.kasWp_bind];refine Em hc (λi hi=>hk i (i+1) (by omega) (by omega)) (λhl=>?_) (λhl=>?_) (n-1) 1 (Nat.le_refl _) (by omega) (by omega)
 .rw[if_pos (beq_self_eq_true n)];show W.KasT.kasWp cmp (if n<n then _ else _) G s;rw[if_neg (Nat.lt_irrefl _)];refine hG _ (Array.Perm.refl _) λi j hij hj=>?_;show k ((rg n).getD i 0)<k ((rg n).getD j 0);rw[tT (by omega),tT hj];by_cases e:j=n-1
  .subst e;have h3:=hd (n-2) (by omega);by_cases e2:i=n-2
   .subst e2;omega
   .have:=hk i (n-2) (by omega) (by omega);omega
  .exact hk i j hij (by omega)
 .have hne:((n-1==n)=true)=False:=by rw[beq_iff_eq];exact eq_false (by omega)
  rw[if_neg (by rw[hne];exact id)];by_cases hn:n-1 > 1
  .rw[if_pos hn];show cmp ((rg n).getD 0 0) ((rg n).getD (n-1-1) 0) _ s;rw[tT (by omega),tT (by omega)];refine hc _ _ _ (by omega) (by omega) (by omega) ?_;rw[decide_eq_true (hk 0 (n-1-1) (by omega) (by omega))];show W.KasT.kasWp cmp (if n-1<n then W.kas_bin (n-max (n-1) 1) (rg n) (max (n-1) 1) else _) G s;rw[if_pos (by omega),show max (n-1) 1=n-1 by omega,show n-(n-1)=1 by omega];unfold W.kas_bin;rw[W.KasT.kasWp_bind];refine xn hc hd h2 hk (λl hl2 g1 g2=>?_) (n-1) 0 (n-1) (by omega) (Nat.zero_le _) (Nat.le_refl _) (λi h=>absurd h (Nat.not_lt_zero _)) (λi h3 h4=>absurd h3 (by omega));show G (bubble (rg n) (n-1) (n-1-l)) s;have hs:n-1<(rg n).size:=by rw[Ow];omega
   have at_:∀i,i<n->(bubble (rg n) (n-1) (n-1-l)).getD i 0=if i=l then n-1 else if l<i then i-1 else i:=λi hi=>by
    have e:=getElem?_bubble hs (n-1-l) (by omega) i;have hb:i<(bubble (rg n) (n-1) (n-1-l)).size:=by rw[bubble_size,Ow];exact hi
    have r:∀m,m<n->(rg n)[m]?=some m:=λm hm=>by unfold rg;simp[hm]
    rw[Array.getD_eq_getD_getElem?,e];have e1:n-1-(n-1-l)=l:=by omega
    rw[e1];by_cases c1:i=l
    .rw[if_pos c1,if_pos c1,r _ (by omega)];rfl
    .rw[if_neg c1,if_neg c1];by_cases c2:l<i
     .rw[if_pos ⟨c2,by omega⟩,if_pos c2,r _ (by omega)];rfl
     .rw[if_neg (by omega),if_neg c2,r _ hi];rfl
   refine hG _ (bubble_perm ..) λi j hij hj=>?_;rw[at_ i (by omega),at_ j hj];by_cases c1:i=l
   .rw[if_pos c1,if_neg (show¬j=l by omega),if_pos (show l<j by omega)];exact g2 (j-1) (by omega) (by omega)
   .rw[if_neg c1];by_cases c2:l<i
    .rw[if_pos c2,if_neg (show¬j=l by omega),if_pos (show l<j by omega)];exact hk _ _ (by omega) (by omega)
    .rw[if_neg c2];by_cases c3:j=l
     .rw[if_pos c3];exact g1 i (by omega)
     .rw[if_neg c3];by_cases c4:l<j
      .rw[if_pos c4];by_cases c5:j-1=i
       .omega
       .exact hk _ _ (by omega) (by omega)
      .rw[if_neg c4];exact hk _ _ hij (by omega)
  .rw[if_neg hn];have e:n=2:=by omega
   subst e;have er:W.kas_rev (rg 2) 0 2=#[1,0]:=by decide
   show W.KasT.kasWp cmp (if 2<2 then _ else W.KasT.ret (W.kas_rev (rg 2) 0 2)) G s;rw[if_neg (Nat.lt_irrefl _),er];show G #[1,0] s;refine hG _ (Array.perm_iff_toList_perm.mpr (List.Perm.swap 0 1 [])) λi j hij hj=>?_;have e1:i=0:=by omega
   have e2:j=1:=by omega
   subst e1 e2;exact hl
end
section
variable {prog:Program}{w:World}{A:Around}{E:Value->Shared->Prop}{s:Shared}
def dt(ks:List Int):Prop:=(∀i j,i<j->j<ks.length-1->ks.getD i 0<ks.getD j 0)/\∀i,i<ks.length-1->ks.getD i 0≠ks.getD (ks.length-1) 0
def xD(ks:List Int):Bool:=decide (ks.dropLast.Pairwise (·<·))&&decide (ks.getLastD 0∉ks.dropLast)
theorem BI{ks:List Int}(h:xD ks=true):dt ks:=by
 unfold xD at h;rw[Bool.and_eq_true,decide_eq_true_eq,decide_eq_true_eq]at h;rcases List.eq_nil_or_concat ks with rfl|⟨l,x,rfl⟩
 .exact⟨λi j _ hj=>absurd hj (by simp),λi hi=>absurd hi (by simp)⟩
 .rw[List.concat_eq_append]at h ⊢;rw[List.dropLast_concat]at h;have hg:(l++[x]).getLastD 0=x:=by simp
  rw[hg]at h;have gl:∀i (hi:i<l.length),(l++[x]).getD i 0=l[i]:=λi hi=>by simp[List.getElem?_append_left hi,hi]
  have gx:(l++[x]).getD ((l++[x]).length-1) 0=x:=by simp
  have hlen:(l++[x]).length-1=l.length:=by simp
  refine⟨λi j hij hj=>?_,λi hi=>?_⟩
  .rw[hlen]at hj;rw[gl i (by omega),gl j hj];exact List.pairwise_iff_getElem.mp h.1 i j (by omega) hj hij
  .rw[gx];rw[hlen]at hi;rw[gl i hi];exact λe=>h.2 (e▸List.getElem_mem hi)
theorem Ko{ks:List Int}(h:dt ks):ks.Nodup:=by
 unfold List.Nodup;rw[List.pairwise_iff_getElem];intro i j hi hj hij;have g:∀m (hm:m<ks.length),ks.getD m 0=ks[m]:=λm hm=>by simp[hm]
 by_cases e:j=ks.length-1
 .have:=h.2 i (by omega);rw[<- e,g i hi,g j hj]at this;exact this
 .have:=h.1 i j hij (by omega);rw[g i hi,g j hj]at this;omega
def zF(h:Heap)(v:Value)(k:Int):Prop:=∃(x:Addr) (o:Obj) (xs:Array Value) (m:Nat) (t:Tok),v = .ref x/\h.get? x=some o/\o.cls = .type "tuple"/\o.data = .seq xs m/\xs[0]?=some (.int k t)
theorem SI{vs:List Value}{ks:List Int}(hl:ks.length=vs.length)(ht:∀(i:Nat) v k,vs[i]?=some v->ks[i]?=some k->zF s.heap v k)(hn:ks.Nodup) :
  ∀i j C,i<vs.length->j<vs.length->i≠j->C (decide (ks.getD i 0<ks.getD j 0)) s->W.kas_ask prog w A (tuples' true) vs i j C s:=by
 intro i j C hi hj hij hC;unfold W.kas_ask;have gv:∀m (hm:m<vs.length),vs.getD m Value.none=vs[m]:=λm hm=>by simp[hm]
 have gk:∀m (hm:m<ks.length),ks.getD m 0=ks[m]:=λm hm=>by simp[hm]
 rw[gv i hi,gv j hj];rw[gk i (by omega),gk j (by omega)]at hC;obtain⟨x,o,xs,m,t,e1,e2,e3,e4,e5⟩:=ht i _ _ (List.getElem?_eq_getElem hi) (List.getElem?_eq_getElem (by omega));obtain⟨y,o',ys,m',t',f1,f2,f3,f4,f5⟩:=ht j _ _ (List.getElem?_eq_getElem hj) (List.getElem?_eq_getElem (by omega));have hne:ks[i]'(by omega)≠ks[j]'(by omega):=λz=>by
  have hn':=List.pairwise_iff_getElem.mp hn;rcases Nat.lt_or_gt_of_ne hij with y|y
  .exact hn' i j (by omega) (by omega) y z
  .exact hn' j i (by omega) (by omega) y z.symm
 rw[e1,f1];refine W.kat_lt e2 e4 f2 f4 ?_;obtain⟨r,er⟩:∃r,xs.toList = .int (ks[i]'(by omega)) t::r:=by
  rw[<- Array.getElem?_toList]at e5;cases q:xs.toList with
  |nil=>rw[q]at e5;cases e5|cons u r=>rw[q]at e5;exact⟨r,by rw[Option.some.inj e5]⟩
 obtain⟨r',er'⟩:∃r,ys.toList = .int (ks[j]'(by omega)) t'::r:=by
  rw[<- Array.getElem?_toList]at f5;cases q:ys.toList with
  |nil=>rw[q]at f5;cases f5|cons u r=>rw[q]at f5;exact⟨r,by rw[Option.some.inj f5]⟩
 rw[er,er',List.zip_cons_cons];refine W.kat_cons (wpAny_eqBool_int ?_);rw[show((ks[i]'(by omega))==(ks[j]'(by omega)))=false from beq_eq_false_iff_ne.mpr hne];exact W.kat_no (oneLt_int hC)
theorem Jx{h:Heap}:∀{vs:List Value} {ks:List Int},ks.length=vs.length->(∀(i:Nat) v k,vs[i]?=some v->ks[i]?=some k->zF h v k)->∃fs,W.KatTups h vs fs/\fs.length=vs.length/\∀f∈fs,∃k t,f=Value.int k t
 |[],[],_,_=>⟨[],W.KatTups.nil,rfl,λf hf=>(nomatch hf)⟩
 |v::vs,k::ks,hl,ht=>by
  obtain⟨fs,f1,f2,f3⟩:=Jx (vs:=vs) (ks:=ks) (by simpa using hl) λi u z a b=>ht (i+1) u z (by simpa using a) (by simpa using b);obtain⟨x,o,xs,m,t,rfl,e2,e3,e4,e5⟩:=ht 0 v k rfl rfl;refine⟨_,W.KatTups.cons e2 e3 e4 e5 f1,by simp[f2],λf hf=>?_⟩;rcases List.mem_cons.mp hf with rfl|hf
  .exact⟨k,t,rfl⟩
  .exact f3 f hf
 |[],_::_,hl,_=>by simp at hl
 |_::_,[],hl,_=>by simp at hl
theorem AB{a:Addr} {vs:List Value} {ks:List Int} {n:Nat} {P:PySem.Fin->Shared->Prop} (ho:s.heap.get? a=some (seqObj "list" vs.toArray n)) (hl:ks.length=vs.length) (ht:∀(i:Nat) v k,vs[i]?=some v->ks[i]?=some k->zF s.heap v k) (hk:dt ks) (h64:vs.length<64)
  (h:∀out:Array Value,KskOut false ks vs out.toList->P (.done (.ret .none)) { s with heap:=sortedHeap s.heap a vs out }):wpAny (model prog w) A (Builtin.«list.sort» ⟨[.ref a],[]⟩) P E s:=by
 rw[list_sort_plain];have ha:a<s.heap.objs.size:=Heap.lt_size ho;refine wpAny_bind (listItems_at ho rfl ?_);refine wpAny_bind (listUpdate_at ho rfl ?_);obtain⟨e1,ho1⟩:∃e1,(s.heap.update a (Obj.mapSeq λ_=>#[])).get? a=some (seqObj "list" #[] e1):=⟨_,get?_update_seq ho (λ_=>#[])⟩;refine wpAny_bind (seqEpoch_at ho1 rfl ?_);refine wpAny_bind (wpAny_newTuple ?_);refine wpAny_bind (wpAny_newList ?_);refine wpAny_holding ?_;have ho6:(((s.heap.update a (Obj.mapSeq λ_=>#[])).push (seqObj "tuple" vs.toArray 0)).push (seqObj "list" #[] 0)).get? a=some (seqObj "list" #[] e1):=Heap.get?_push_of_some _ (Heap.get?_push_of_some _ ho1);have s1:=Heap.SameBut.update s.heap a (Obj.mapSeq λ_=>(#[]:Array Value));have ht6:∀(i:Nat) v k,vs[i]?=some v->ks[i]?=some k->zF (((s.heap.update a (Obj.mapSeq λ_=>#[])).push (seqObj "tuple" vs.toArray 0)).push (seqObj "list" #[] 0)) v k:=λi v k a1 a2=>by
  obtain⟨x,o,xs,m,t,b1,b2,b3,b4,b5⟩:=ht i v k a1 a2;have hx:x≠a:=λz=>by rw[z,ho]at b2;cases b2;exact absurd (Value.type.inj b3) (by decide)
  exact⟨x,o,xs,m,t,b1,Heap.get?_push_of_some _ (Heap.get?_push_of_some _ ((s1.2 x hx).trans b2)),b3,b4,b5⟩
 show wpAny (model prog w) A _ P E { s with heap:=((s.heap.update a (Obj.mapSeq λ_=>#[])).push (seqObj "tuple" vs.toArray 0)).push (seqObj "list" #[] 0) };dsimp only;by_cases h2:vs.toArray.size<2
 .rw[if_pos h2,if_pos h2];refine wpAny_bind (wpAny_pure ?_);rw[StateT.run_pure];refine wpAny_bind (wpAny_pure ?_);dsimp only;refine wpAny_bind (seqEpoch_at ho6 rfl ?_);have eo:(arrOf (SortSt.mk' general' (vs.toArray.zip vs.toArray) #[] 7 none)).map (·.2)=vs.toArray:=by show(vs.toArray.zip vs.toArray).map (·.2)=vs.toArray;apply Array.toList_inj.mp;rw[Array.toList_map,ksk_zip,List.map_snd_zip (by simp)]
  rw[eo];refine wpAny_bind (listUpdate_at ho6 rfl ?_ (hsz2:=by show vs.toArray.size<=_;rw[List.size_toArray,sizeLine_eq];omega));simp only[bne_self_eq_false,Bool.false_eq_true,if_false];refine wpAny_pure (h vs.toArray ⟨ks.zip vs,.refl _,by rw[List.map_snd_zip (by omega)],?_⟩);rw[List.size_toArray]at h2;have:(ks.zip vs).length<2:=by rw[List.length_zip];omega
  match ks.zip vs,this with
  |[],_=>exact .nil|[_],_=>simp
 .rw[if_neg h2,if_neg h2];rw[List.size_toArray]at h2;obtain⟨fs,f1,f2,f3⟩:=Jx hl ht6;refine wpAny_bind (W.kat_kind (T:=.type "int") f1 (by omega) (λv hv=>?_) rfl ?_)
  .obtain⟨k,t,rfl⟩:=f3 v hv;exact W.Looks.now
  have hd:=Ko hk;refine wpAny_bind (wpAny_mono (W.kat_run (κ:=tuples' true) (ks:=vs) (vs:=vs) (Q:=λst' s'=>s'={ s with heap:=((s.heap.update a (Obj.mapSeq λ_=>#[])).push (seqObj "tuple" vs.toArray 0)).push (seqObj "list" #[] 0) }/\∃p:Array Nat,p.size=vs.length/\arrOf st'=p.map (W.kas_item (vs.toArray.zip vs.toArray))/\failedOf st'=none/\p.Perm (rg vs.length)/\∀i j,i<j->j<vs.length->ks.getD (p.getD i 0) 0<ks.getD (p.getD j 0) 0)
   (G:=λp s'=>s'={ s with heap:=((s.heap.update a (Obj.mapSeq λ_=>#[])).push (seqObj "tuple" vs.toArray 0)).push (seqObj "list" #[] 0) }/\p.Perm (rg vs.length)/\∀i j,i<j->j<vs.length->ks.getD (p.getD i 0) 0<ks.getD (p.getD j 0) 0) rfl (by omega) h64 (λp st' s' a1 a2 a3 a4=>⟨a4.1,p,a1,a2,a3,a4.2⟩) ?tree) ?_ λ_ _ e=>e)
  case tree=>exact SD (k:=λi=>ks.getD i 0) (by omega) (SI hl ht6 hd) (λi j a1 a2=>hk.1 i j a1 (by omega)) (λi a1=>by have:=hk.2 i (by omega);rw[hl]at this;exact this) λp a1 a2=>⟨rfl,a1,a2⟩
  rintro ⟨⟨⟩,st'⟩ s' ⟨rfl,p,hp,har,hf,pp,ps⟩
  dsimp only;have hout:=W.kat_snds (ks:=vs) (vs:=vs) rfl har;rw[hout];refine wpAny_bind (seqEpoch_at ho6 rfl ?_);refine wpAny_bind (listUpdate_at ho6 rfl ?_ (hsz2:=by rw[List.size_toArray,List.length_map,Array.length_toList,hp,sizeLine_eq];omega));rw[hf];simp only[bne_self_eq_false,Bool.false_eq_true,if_false];refine wpAny_pure (h _ ⟨p.toList.map λi=>(ks.getD i 0,vs.getD i Value.none),?_,?_,?_⟩)
  .have e:(rg vs.length).toList.map (λi=>(ks.getD i 0,vs.getD i Value.none))=ks.zip vs:=by
    unfold rg;apply List.ext_getElem?;intro i;by_cases hi:i<vs.length
    .have hi':i<ks.length:=by omega
     have e1:(ks.zip vs)[i]?=some (ks[i],vs[i]):=by rw[List.getElem?_zip_eq_some];exact⟨List.getElem?_eq_getElem hi',List.getElem?_eq_getElem hi⟩
     rw[e1];simp[hi,hi']
    .rw[List.getElem?_eq_none (by simp;omega),List.getElem?_eq_none (by rw[List.length_zip];omega)]
   rw[<- e];exact(Array.perm_iff_toList_perm.mp pp).map _
  .rw[List.map_map];simp
  .rw[List.pairwise_map,List.pairwise_iff_getElem];intro i j hi hj hij;rw[Array.length_toList,hp]at hj;have g:∀m (hm:m<p.toList.length),p.toList[m]=p.getD m 0:=λm hm=>by
    have hm':m<p.size:=by rw[<- Array.length_toList];exact hm
    simp[Array.getD,hm']
   have:=ps i j hij hj;rw[g,g];simp only[Bool.false_eq_true,if_false];omega
end
section
variable {X:Cx}{pins:List (Addr×Obj)}{U:L2.St}{H:Hp}{s:Shared}
theorem Ti:dM X (.builtin "sorted") (λxs H Q=>∃(l:Addr) (ys:List V) (ks:List Int),xs=[.ref l]/\bG X.K H l ys/\ys.length<64/\ks.length=ys.length/\dt ks/\(∀(i:Nat) y k,ys[i]?=some y->ks[i]?=some k->∃a zs,y = .ref a/\bV X.K H a (.int k::zs))/\∀D,H D=none->Q (.ref D) (aG H D (.lst (eV ks ys)))):=by
 intro pins s U H xs us Q I r h;obtain⟨l,ys,ks,rfl,hq,hn,hk,hk2,ht,q⟩:=h;obtain⟨u,rfl,ru⟩:=r.one;cases ru;obtain⟨vs,rv,p,hz⟩:=I.list hq;have hly:ys.length=vs.length:=rv.length;have hl:=p.isList;refine Calls.call_function_entry kind_sorted plain_sorted entry_sorted (args_sorted1 _) ?_;unfold Builtin.«sorted»;refine wpAny_bind (m:=checkCount "sorted" 1 1 _) (wpAny_pure ?_);refine wpAny_bind (collect_list hl ?_ (by rw[sizeLine_eq];omega));refine wpAny_bind (wpAny_newList ?_ (by rw[sizeLine_eq];omega));have hsz:((s.heap.push (seqObj "list" #[] 0)).update s.heap.objs.size (Obj.mapSeq (·++vs.toArray))).objs.size=s.heap.objs.size+1:=by rw[Heap.size_update,size_push']
 have hoL:(((s.heap.push (seqObj "list" #[] 0)).update s.heap.objs.size (Obj.mapSeq (·++vs.toArray))).push (seqObj "list" vs.toArray 0)).get? (s.heap.objs.size+1)=some (seqObj "list" vs.toArray 0):=by rw[<- hsz];exact Heap.get?_push_size _ rfl
 have keep:∀b o,s.heap.get? b=some o->(((s.heap.push (seqObj "list" #[] 0)).update s.heap.objs.size (Obj.mapSeq (·++vs.toArray))).push (seqObj "list" vs.toArray 0)).get? b=some o:=λb o q=>by have hlt:b<s.heap.objs.size:=Heap.lt_size q;rw[Heap.get?_push_ne _ _ _ (by rw[hsz];exact Nat.ne_of_lt (Nat.lt_succ_of_lt hlt)),Heap.get?_update_ne _ _ _ _ (Nat.ne_of_lt hlt),Heap.get?_push_ne _ _ _ (Nat.ne_of_lt hlt)];exact q
 show wpAny _ _ _ _ _ { s with heap:=((s.heap.push (seqObj "list" #[] 0)).update s.heap.objs.size (Obj.mapSeq (·++vs.toArray))).push (seqObj "list" vs.toArray 0) };rw[hsz];have hti:∀(i:Nat) v k,vs[i]?=some v->ks[i]?=some k->zF (((s.heap.push (seqObj "list" #[] 0)).update s.heap.objs.size (Obj.mapSeq (·++vs.toArray))).push (seqObj "list" vs.toArray 0)) v k:=λi v k a1 a2=>by
  have hi:=(List.getElem?_eq_some_iff.mp a1).1;obtain⟨y,hy⟩:∃y,ys[i]?=some y:=⟨_,List.getElem?_eq_getElem (by omega)⟩;obtain⟨v',b1,b2⟩:=rv.get hy;rw[a1]at b1;cases b1;obtain⟨a,zs,rfl,hT⟩:=ht i y k hy a2;cases b2;obtain⟨its,rv2,p2,_⟩:=I.tuple hT;obtain⟨o,g1,g2,m,g3⟩:=(show s.heap.IsTuple a its.toArray from p2);cases rv2 with
  |cons c1 c2=>obtain⟨t,rfl⟩:=(show∃t,_=Value.int k t from c1);exact⟨a,o,_,m,t,rfl,keep _ _ g1,g2,g3,rfl⟩
 refine wpAny_bind (wpAny_holding (wpAny_call_entry slot_list_sort ⟨_,hoL,rfl⟩ entry_list_sort (AB hoL (hk.trans hly) hti hk2 (by omega) λout ko=>⟨_,rfl,?_⟩) (args_list_sort _)));obtain⟨pl,hpp,hout,hs⟩:=ko;have eo:out.toList=eV ks vs:=by rw[hout];exact Cz (Ko hk2) hpp (by simpa using hs)
 have hlen:(eV ks ys).length<=sizeLine:=by unfold eV;rw[List.length_map,(List.mergeSort_perm _ _).length_eq,List.length_zip];exact Nat.le_trans (Nat.min_le_right _ _) hz
 obtain⟨e2,h2⟩:=sortedAll_at s.heap vs out;refine wpAny_pure ⟨_,rfl,.ref _,_,I.laid (o:=.lst (eV ks ys)) (t':=s.toks) (λb u z=>sortedAll_old z) (Nat.le_succ _) ⟨hlen,out.toList,e2,by rw[eo];exact qa rv,by show(sortedAll s.heap vs out).get? (s.heap.objs.size+1)=_;rw[h2]⟩,rfl,q _ (I.aD.fresh (Nat.le_succ _))⟩
end
inductive AV where
 |aE|bl (b:Bool)|int (i:Int)|str (x:Str)|tup (xs:List AV)|ref (n:Nat)|jG (kvs:List (Str×Int))
 deriving Inhabited
inductive cP where
 |lst (mu:Bool) (xs:List AV)
 |aL (kvs:List (aC×AV))
 |bJ (kvs:List (aC×AV))
 |ins (c:Nat) (fs:List (Str×AV))
 |xo (c:Nat)
def cP.mu:cP->Bool
 |.lst m _=>m
 |_=>true
structure AH where
 nx:Nat
 ob:Nat->Option cP
def AH.put(h:AH)(n:Nat)(o:cP):AH:=⟨h.nx,λm=>if m=n then some o else h.ob m⟩
def AH.new(h:AH)(o:cP):AH:=⟨h.nx+1,λm=>if m=h.nx then some o else h.ob m⟩
inductive Res(α:Type) where
 |ok (a:α) (h:AH)
 |exc (c:Nat) (x:AV) (h:AH)
 |bad
abbrev M(α:Type):=AH->Res α
def M.ret{α:Type}(a:α):M α:=λh=>.ok a h
def M.bad{α:Type}:M α:=λ_=>.bad
def M.bind{α β:Type}(m:M α)(k:α->M β):M β:=λh=>match m h with
 |.ok a h'=>k a h'
 |.exc c x h'=>.exc c x h'
 |.bad=>.bad
def M.guard{α:Type}(p:Prop) [Decidable p] (m:M α):M α:=λh=>if p then m h else .bad
structure Tab where
 K:W.Frag
 G:List (Str×Int)->Addr->Prop
 C:Nat->Option Addr
mutual
inductive aF(T:Tab)(Z:List Addr)(H:Hp):AV->V->Prop where
 |aE:aF T Z H .aE .aE
 |bl (b:Bool):aF T Z H (.bl b) (.bl b)
 |int (i:Int):aF T Z H (.int i) (.int i)
 |str (x:Str):aF T Z H (.str x) (.str x)
 |tup {a:Addr} {xs:List AV} {ys:List V} (hq:bV T.K H a ys) (hr:aH T Z H xs ys):aF T Z H (.tup xs) (.ref a)
 |ref {n:Nat} {a:Addr} (e:Z[n]?=some a):aF T Z H (.ref n) (.ref a)
 |jG {kvs:List (Str×Int)} {a:Addr} (e:T.G kvs a):aF T Z H (.jG kvs) (.ref a)
inductive aH(T:Tab)(Z:List Addr)(H:Hp):List AV->List V->Prop where
 |nil:aH T Z H [] []
 |cons {x:AV} {y:V} {xs:List AV} {ys:List V} (h:aF T Z H x y) (hs:aH T Z H xs ys):aH T Z H (x::xs) (y::ys)
end
structure Ext(Z:List Addr)(H:Hp)(Z':List Addr)(H':Hp):Prop where
 pre:∀(n:Nat) a,Z[n]?=some a->Z'[n]?=some a
 tup:∀b xs,H b=some (.tup xs)->H' b=some (.tup xs)
 bC:∀b o u,H b=some (.bC o u)->H' b=some (.bC o u)
theorem Ext.refl{Z:List Addr}{H:Hp}:Ext Z H Z H:=⟨λ_ _ e=>e,λ_ _ e=>e,λ_ _ _ e=>e⟩
theorem Ext.trans{Z Z1 Z2:List Addr}{H H1 H2:Hp}(a:Ext Z H Z1 H1)(b:Ext Z1 H1 Z2 H2):Ext Z H Z2 H2:=
 ⟨λn x e=>b.pre n x (a.pre n x e),λn x e=>b.tup n x (a.tup n x e),λn x u e=>b.bC n x u (a.bC n x u e)⟩
theorem Ext.cw{K:W.Frag}{Z Z':List Addr}{H H':Hp}(e:Ext Z H Z' H'){a:Addr}{xs:List V}(h:bV K H a xs):bV K H' a xs:=by
 rcases h with(h|⟨o,h⟩)|h
 .exact .inl (.inl (e.tup _ _ h))
 .exact .inl (.inr ⟨o,e.bC _ _ _ h⟩)
 .exact .inr h
mutual
theorem aF.ext{T:Tab}{Z Z':List Addr}{H H':Hp}(e:Ext Z H Z' H'):∀{x:AV} {y:V},aF T Z H x y->aF T Z' H' x y
 |_,_,.aE=>.aE
 |_,_,.bl b=>.bl b
 |_,_,.int i=>.int i
 |_,_,.str x=>.str x
 |_,_,.tup hq hr=>.tup (e.cw hq) (aH.ext e hr)
 |_,_,.ref q=>.ref (e.pre _ _ q)
 |_,_,.jG q=>.jG q
theorem aH.ext{T:Tab}{Z Z':List Addr}{H H':Hp}(e:Ext Z H Z' H'):∀{xs:List AV} {ys:List V},aH T Z H xs ys->aH T Z' H' xs ys
 |_,_,.nil=>.nil
 |_,_,.cons h hs=>.cons (aF.ext e h) (aH.ext e hs)
end
theorem aH.length{T:Tab}{Z:List Addr}{H:Hp}:∀{xs:List AV} {ys:List V},aH T Z H xs ys->xs.length=ys.length
 |_,_,.nil=>rfl|_,_,.cons _ hs=>congrArg (·+1) hs.length
theorem aH.get{T:Tab}{Z:List Addr}{H:Hp}:∀{xs:List AV} {ys:List V} {i:Nat} {x:AV},aH T Z H xs ys->xs[i]?=some x->∃y,ys[i]?=some y/\aF T Z H x y
 |_,_,_,_,.nil,e=>by simp at e
 |_,_,0,_,.cons h _,e=>by simp at e;subst e;exact⟨_,rfl,h⟩
 |_,_,i+1,x,.cons _ hs,e=>by obtain⟨y,h1,h2⟩:=aH.get (i:=i) (x:=x) hs (by simpa using e);exact⟨y,by simpa using h1,h2⟩
theorem aH.append{T:Tab}{Z:List Addr}{H:Hp}:∀{xs zs:List AV} {ys ws:List V},aH T Z H xs ys->aH T Z H zs ws->aH T Z H (xs++zs) (ys++ws)
 |_,_,_,_,.nil,s=>s
 |_,_,_,_,.cons h hs,s=>.cons h (aH.append hs s)
theorem aH.set{T:Tab}{Z:List Addr}{H:Hp}{x:AV}{y:V}(r:aF T Z H x y):∀{xs:List AV} {ys:List V} (i:Nat),aH T Z H xs ys->aH T Z H (xs.set i x) (ys.set i y)
 |_,_,_,.nil=>.nil
 |_,_,0,.cons _ t=>.cons r t
 |_,_,i+1,.cons q t=>.cons q (aH.set r i t)
theorem aH.take{T:Tab}{Z:List Addr}{H:Hp}:∀{xs:List AV} {ys:List V} (n:Nat),aH T Z H xs ys->aH T Z H (xs.take n) (ys.take n)
 |_,_,0,_=>.nil
 |_,_,_+1,.nil=>.nil
 |_,_,n+1,.cons r t=>.cons r (aH.take n t)
theorem aH.drop{T:Tab}{Z:List Addr}{H:Hp}:∀{xs:List AV} {ys:List V} (n:Nat),aH T Z H xs ys->aH T Z H (xs.drop n) (ys.drop n)
 |_,_,0,r=>r
 |_,_,_+1,.nil=>.nil
 |_,_,n+1,.cons _ t=>aH.drop n t
theorem aH.ints{T:Tab}{Z:List Addr}{H:Hp}:∀(ns:List Int),aH T Z H (ns.map AV.int) (ns.map V.int)
 |[]=>.nil
 |n::ns=>.cons (.int n) (aH.ints ns)
def kM(K:W.Frag)(H:Hp)(a:Addr)(xs:List V):Prop:=
 (∃o,H a=some (.bC o (.lst xs))) \/
  ∃(o:Obj) (its:Array Value) (n:Nat),K.lookup a=some o/\o.cls = .type "list"/\o.dict=none/\o.data = .seq its n/\its.size<=sizeLine/\Vals xs its.toList
theorem kM.sq{K:W.Frag}{H:Hp}{a:Addr}{xs:List V}(h:kM K H a xs):bG K H a xs:=by
 rcases h with h|h
 .exact .inl (.inr h)
 .exact .inr h
theorem kM.ext{K:W.Frag}{Z Z':List Addr}{H H':Hp}{a:Addr}{xs:List V}(e:Ext Z H Z' H')(h:kM K H a xs):kM K H' a xs:=by
 rcases h with⟨o,h⟩|h
 .exact .inl ⟨o,e.bC _ _ _ h⟩
 .exact .inr h
def hJ(T:Tab)(Z:List Addr)(H:Hp)(a:Addr):cP->Prop
 |.lst true xs=>∃ys,H a=some (.lst ys)/\aH T Z H xs ys
 |.lst false xs=>∃ys,kM T.K H a ys/\aH T Z H xs ys
 |.aL kvs=>∃ks ys,H a=some (.dK (ks.zip ys))/\ks=kvs.map (·.1)/\aH T Z H (kvs.map (·.2)) ys
 |.bJ kvs=>∃o ks ys,H a=some (.bC o (.dK (ks.zip ys)))/\ks=kvs.map (·.1)/\aH T Z H (kvs.map (·.2)) ys
 |.ins c fs=>∃C dx ks ys,T.C c=some C/\H a=some (.ins C dx (ks.zip ys))/\ks=fs.map (·.1)/\aH T Z H (fs.map (·.2)) ys
 |.xo c=>∃C,T.C c=some C/\H a=some (.ext (iY a (.ref C)))
theorem hJ.ext{T:Tab}{Z Z':List Addr}{H H':Hp}{a:Addr}{o:cP}(r:hJ T Z H a o)(e:Ext Z H Z' H')(k:o.mu=true->H' a=H a):hJ T Z' H' a o:=by
 cases o with
 |lst m xs=>
  cases m with
  |true=>obtain⟨ys,h,r⟩:=r;exact⟨ys,by rw[k rfl];exact h,r.ext e⟩|false=>obtain⟨ys,h,r⟩:=r;exact⟨ys,h.ext e,r.ext e⟩
 |aL kvs=>obtain⟨ks,ys,h,e1,r⟩:=r;exact⟨ks,ys,by rw[k rfl];exact h,e1,r.ext e⟩|bJ kvs=>obtain⟨o,ks,ys,h,e1,r⟩:=r;exact⟨o,ks,ys,by rw[k rfl];exact h,e1,r.ext e⟩|ins c fs=>obtain⟨C,dx,ks,ys,hc,h,e1,r⟩:=r;exact⟨C,dx,ks,ys,hc,by rw[k rfl];exact h,e1,r.ext e⟩|xo c=>obtain⟨C,hc,h⟩:=r;exact⟨C,hc,by rw[k rfl];exact h⟩
structure aM(T:Tab)(Z:List Addr)(h:AH)(H:Hp):Prop where
 len:Z.length=h.nx
 kU:∀(n:Nat) o,h.ob n=some o->n<h.nx
 obj:∀(n:Nat) o a,h.ob n=some o->Z[n]?=some a->hJ T Z H a o
 inj:∀(n m:Nat) a o u,h.ob n=some o->h.ob m=some u->o.mu=true->u.mu=true->Z[n]?=some a->Z[m]?=some a->n=m
section
variable {T:Tab}{Z:List Addr}{h:AH}{H H':Hp}
theorem aM.at(R:aM T Z h H){n:Nat}{o:cP}(e:h.ob n=some o):∃a,Z[n]?=some a/\hJ T Z H a o:=by have hn:=R.kU n o e;rw[<- R.len]at hn;exact⟨Z[n],by simp[hn],R.obj n o _ e (by simp[hn])⟩
theorem wy{a:Addr}{o:cP}(r:hJ T Z H a o)(m:o.mu=true):∃u,H a=some u:=by
 cases o with
 |lst k xs=>
  cases k with
  |true=>obtain⟨ys,h,_⟩:=r;exact⟨_,h⟩|false=>cases m
 |aL kvs=>obtain⟨ks,ys,h,_⟩:=r;exact⟨_,h⟩|bJ kvs=>obtain⟨o,ks,ys,h,_⟩:=r;exact⟨_,h⟩|ins c fs=>obtain⟨C,dx,ks,ys,_,h,_⟩:=r;exact⟨_,h⟩|xo c=>obtain⟨C,_,h⟩:=r;exact⟨_,h⟩
theorem Ext.fA{a:Addr}{o:HO}(hn:H a=none):Ext Z H Z (aG H a o):=
 ⟨λ_ _ e=>e,λb xs e=>by rw[aO (dI e hn)];exact e,λb u xs e=>by rw[aO (dI e hn)];exact e⟩
theorem aM.keep(R:aM T Z h H){a:Addr}{o:HO}(hn:H a=none):aM T Z h (aG H a o):=
 ⟨R.len,R.kU,λn u b e q=>(R.obj n u b e q).ext (.fA hn) λm=>by obtain⟨w,hw⟩:=wy (R.obj n u b e q) m;rw[aO (dI hw hn)],R.inj⟩
theorem aM.alloc(R:aM T Z h H){a:Addr}{o:cP}{O:HO}(hn:H a=none)(ho:hJ T (Z++[a]) (aG H a O) a o):aM T (Z++[a]) (h.new o) (aG H a O)/\Ext Z H (Z++[a]) (aG H a O):=by
 have ex:Ext Z H (Z++[a]) (aG H a O):=⟨λn x e=>by have hl:=(List.getElem?_eq_some_iff.mp e).1;rw[List.getElem?_append_left hl];exact e,(Ext.fA (Z:=Z) hn).tup,(Ext.fA (Z:=Z) hn).bC⟩
 have old:∀{n:Nat} {b:Addr},n<h.nx->(Z++[a])[n]?=some b->Z[n]?=some b:=λ{n b} hl e=>by rw[List.getElem?_append_left (by rw[R.len];exact hl)]at e;exact e
 have at_:∀{b:Addr},(Z++[a])[h.nx]?=some b->b=a:=λ{b} e=>by rw[<- R.len]at e;simp at e;exact e.symm
 refine⟨⟨by simp[AH.new,R.len],λn u e=>?_,λn u b e q=>?_,λn m b u v e1 e2 m1 m2 q1 q2=>?_⟩,ex⟩
 .simp only[AH.new]at e ⊢;by_cases hx:n=h.nx
  .omega
  .rw[if_neg hx]at e;have:=R.kU n u e;omega
 .simp only[AH.new]at e;by_cases hx:n=h.nx
  .rw[if_pos hx]at e;cases e;subst hx;rw[at_ q];exact ho
  .rw[if_neg hx]at e;have q':=old (R.kU n u e) q;refine(R.obj n u b e q').ext ex λm=>?_;obtain⟨w,hw⟩:=wy (R.obj n u b e q') m;rw[aO (dI hw hn)]
 .simp only[AH.new]at e1 e2;have no:∀{k:Nat} {y:cP},h.ob k=some y->y.mu=true->(Z++[a])[k]?=some b->b≠a:=λ{k y} e m q=>by obtain⟨w,hw⟩:=wy (R.obj k y b e (old (R.kU k y e) q)) m;exact dI hw hn
  by_cases hx:n=h.nx
  .subst hx;by_cases hy:m=h.nx
   .exact hy.symm
   .rw[if_neg hy]at e2;exact absurd (at_ q1) (no e2 m2 q2)
  .rw[if_neg hx]at e1;by_cases hy:m=h.nx
   .subst hy;exact absurd (at_ q2) (no e1 m1 q1)
   .rw[if_neg hy]at e2;exact R.inj n m b u v e1 e2 m1 m2 (old (R.kU n u e1) q1) (old (R.kU m v e2) q2)
theorem aM.write(R:aM T Z h H){n:Nat}{a:Addr}{o o':cP}{O O':HO}(e:h.ob n=some o)(m:o.mu=true)(m':o'.mu=true)(q:Z[n]?=some a)(hO:H a=some O)(nt:∀xs,O ≠ .tup xs)(nf:∀x u,O ≠ .bC x u)
  (ho:hJ T Z (aG H a O') a o'):aM T Z (h.put n o') (aG H a O')/\Ext Z H Z (aG H a O'):=by
 have ex:Ext Z H Z (aG H a O'):=⟨λ_ _ z=>z,λb xs z=>by
   rw[aO (kY z hO λw=>nt xs w.symm)];exact z,λb x u z=>by
   rw[aO (kY z hO λw=>nf x u w.symm)];exact z⟩
 refine⟨⟨R.len,λk u z=>?_,λk u b z w=>?_,λk l b u v z1 z2 m1 m2 w1 w2=>?_⟩,ex⟩
 .simp only[AH.put]at z;by_cases hx:k=n
  .subst hx;exact R.kU _ _ e
  .rw[if_neg hx]at z;exact R.kU k u z
 .simp only[AH.put]at z;by_cases hx:k=n
  .rw[if_pos hx]at z;cases z;subst hx;rw[q]at w;cases w;exact ho
  .rw[if_neg hx]at z;refine(R.obj k u b z w).ext ex λmu=>?_;rw[aO];rintro rfl
   exact hx (R.inj k n b u o z e mu m w q)
 .simp only[AH.put]at z1 z2;have back:∀{j:Nat} {y:cP},(if j=n then some o' else h.ob j)=some y->y.mu=true->∃y',h.ob j=some y'/\y'.mu=true:=λ{j y} z mu=>by
   by_cases hx:j=n
   .subst hx;exact⟨o,e,m⟩
   .rw[if_neg hx]at z;exact⟨y,z,mu⟩
  obtain⟨u',g1,k1⟩:=back z1 m1;obtain⟨v',g2,k2⟩:=back z2 m2;exact R.inj k l b u' v' g1 g2 k1 k2 w1 w2
end
structure pW(Z:List Addr)(H H':Hp):Prop where
 cw:∀K b xs,bV K H b xs->bV K H' b xs
 Xq:∀K b xs,kM K H b xs->kM K H' b xs
mutual
theorem aF.ext2{T:Tab}{Z:List Addr}{H H':Hp}(e:pW Z H H'):∀{x:AV} {y:V},aF T Z H x y->aF T Z H' x y
 |_,_,.aE=>.aE
 |_,_,.bl b=>.bl b
 |_,_,.int i=>.int i
 |_,_,.str x=>.str x
 |_,_,.tup hq hr=>.tup (e.cw _ _ _ hq) (aH.ext2 e hr)
 |_,_,.ref q=>.ref q
 |_,_,.jG q=>.jG q
theorem aH.ext2{T:Tab}{Z:List Addr}{H H':Hp}(e:pW Z H H'):∀{xs:List AV} {ys:List V},aH T Z H xs ys->aH T Z H' xs ys
 |_,_,.nil=>.nil
 |_,_,.cons h hs=>.cons (aF.ext2 e h) (aH.ext2 e hs)
end
theorem hJ.ext2{T:Tab}{Z:List Addr}{H H':Hp}{a:Addr}{o:cP}(r:hJ T Z H a o)(e:pW Z H H')(k:o.mu=true->H' a=H a):hJ T Z H' a o:=by
 cases o with
 |lst m xs=>
  cases m with
  |true=>obtain⟨ys,h,r⟩:=r;exact⟨ys,by rw[k rfl];exact h,r.ext2 e⟩|false=>obtain⟨ys,h,r⟩:=r;exact⟨ys,e.Xq _ _ _ h,r.ext2 e⟩
 |aL kvs=>obtain⟨ks,ys,h,e1,r⟩:=r;exact⟨ks,ys,by rw[k rfl];exact h,e1,r.ext2 e⟩|bJ kvs=>obtain⟨o,ks,ys,h,e1,r⟩:=r;exact⟨o,ks,ys,by rw[k rfl];exact h,e1,r.ext2 e⟩|ins c fs=>obtain⟨C,dx,ks,ys,hc,h,e1,r⟩:=r;exact⟨C,dx,ks,ys,hc,by rw[k rfl];exact h,e1,r.ext2 e⟩|xo c=>obtain⟨C,hc,h⟩:=r;exact⟨C,hc,by rw[k rfl];exact h⟩
theorem Ht{Z:List Addr}{H:Hp}{a:Addr}{o:Obj}{kz:List (aC×V)}(hO:H a=some (.bC o (.dK kz))):pW Z H (aG H a (.dK kz)):=by
 have ne:∀b u,H b=some u->(∀x y,u ≠ .bC x (.dK y))->b≠a:=λb u e n z=>by rw[z,hO]at e;cases e;exact n _ _ rfl
 refine⟨λK b xs h=>?_,λK b xs h=>?_⟩
 .rcases h with(h|⟨x,h⟩)|h
  .exact .inl (.inl (by rw[aO (ne b _ h λ_ _ z=>by cases z)];exact h))
  .exact .inl (.inr ⟨x,by rw[aO (ne b _ h λ_ _ z=>by cases z)];exact h⟩)
  .exact .inr h
 .rcases h with⟨x,h⟩|h
  .exact .inl ⟨x,by rw[aO (ne b _ h λ_ _ z=>by cases z)];exact h⟩
  .exact .inr h
theorem aM.RV{T:Tab}{Z:List Addr}{h:AH}{H:Hp}(R:aM T Z h H){n:Nat}{a:Addr}{kvs:List (aC×AV)}(e:h.ob n=some (.bJ kvs))(q:Z[n]?=some a) :
  ∃o kz,H a=some (.bC o (.dK kz))/\aM T Z (h.put n (.aL kvs)) (aG H a (.dK kz)):=by
 obtain⟨o,ks,ys,hO,ek,rv⟩:=R.obj n _ a e q;have ex:=Ht (Z:=Z) hO;refine⟨o,_,hO,⟨R.len,λk u z=>?_,λk u b z w=>?_,λk l b u v z1 z2 m1 m2 w1 w2=>?_⟩⟩
 .simp only[AH.put]at z;by_cases hx:k=n
  .subst hx;exact R.kU _ _ e
  .rw[if_neg hx]at z;exact R.kU k u z
 .simp only[AH.put]at z;by_cases hx:k=n
  .rw[if_pos hx]at z;cases z;subst hx;rw[q]at w;cases w;exact⟨ks,ys,cQ,ek,rv.ext2 ex⟩
  .rw[if_neg hx]at z;refine(R.obj k u b z w).ext2 ex λmu=>?_;rw[aO];rintro rfl
   exact hx (R.inj k n b u _ z e mu rfl w q)
 .simp only[AH.put]at z1 z2;have back:∀{j:Nat} {y:cP},(if j=n then some (.aL kvs) else h.ob j)=some y->y.mu=true->∃y',h.ob j=some y'/\y'.mu=true:=λ{j y} z mu=>by
   by_cases hx:j=n
   .subst hx;exact⟨_,e,rfl⟩
   .rw[if_neg hx]at z;exact⟨y,z,mu⟩
  obtain⟨u',g1,k1⟩:=back z1 m1;obtain⟨v',g2,k2⟩:=back z2 m2;exact R.inj k l b u' v' g1 g2 k1 k2 w1 w2
abbrev Rl(α β:Type):=List Addr->Hp->α->β->Prop
def W{α β:Type}(T:Tab)(Rp:Rl α β)(r:Res α)(Z:List Addr)(H:Hp)(Q:β->Hp->Prop)(E:XK):Prop:=match r with
 |.ok a h=>∀Z' b H',Ext Z H Z' H'->aM T Z' h H'->Rp Z' H' a b->Q b H'
 |.exc c _ h=>∀Z' H',Ext Z H Z' H'->aM T Z' h H'->∃C,T.C c=some C/\E (.ref C) none H'
 |.bad=>False
section
variable {T:Tab}{α β γ δ:Type}{Rp:Rl α β}{Rq:Rl γ δ}{Z Z':List Addr}{H H':Hp}{E:XK}{Q:β->Hp->Prop}{h:AH}
theorem W.ext{r:Res α}(w:W T Rp r Z H Q E)(e:Ext Z H Z' H'):W T Rp r Z' H' Q E:=by
 cases r with
 |ok a h=>exact λZ2 b H2 x R q=>w Z2 b H2 (e.trans x) R q|exc c x h=>exact λZ2 H2 x R=>w Z2 H2 (e.trans x) R|bad=>exact w
theorem W.bind{m:M α}{k:α->M γ}{Q2:δ->Hp->Prop}(w:W T Rq (M.bind m k h) Z H Q2 E)
  (f:∀Z1 x y h1 H1,Ext Z H Z1 H1->aM T Z1 h1 H1->Rp Z1 H1 x y->W T Rq (k x h1) Z1 H1 Q2 E->Q y H1):W T Rp (m h) Z H Q E:=by
 unfold M.bind at w;cases e:m h with
 |ok a h1=>rw[e]at w;exact λZ1 y H1 x R q=>f Z1 a y h1 H1 x R q (w.ext x)
 |exc c x h1=>rw[e]at w;exact w|bad=>rw[e]at w;exact w
theorem W.ok{a:α}{b:β}(w:W T Rp (.ok a h) Z H Q E)(e:Ext Z H Z' H')(R:aM T Z' h H')(q:Rp Z' H' a b):Q b H':=w Z' b H' e R q
theorem W.here{a:α}{b:β}(w:W T Rp (.ok a h) Z H Q E)(R:aM T Z h H)(q:Rp Z H a b):Q b H:=w Z b H .refl R q
end
abbrev aA:=List (Option AV)
def aV(T:Tab)(Z:List Addr)(H:Hp)(U:aA)(U':L2.St):Prop:=U.length=U'.length/\∀(i:Nat) v,U[i]?=some (some v)->∃v',U'[i]?=some (some v')/\aF T Z H v v'
theorem aV.ext{T:Tab}{Z Z':List Addr}{H H':Hp}{U:aA}{U':L2.St}(S:aV T Z H U U')(e:Ext Z H Z' H'):aV T Z' H' U U':=
 ⟨S.1,λi v q=>let ⟨v',a,b⟩:=S.2 i v q;⟨v',a,b.ext e⟩⟩
theorem aV.set{T:Tab}{Z:List Addr}{H:Hp}{U:aA}{U':L2.St}(S:aV T Z H U U'){v:AV}{v':V}(r:aF T Z H v v')(i:Nat):aV T Z H (U.set i (some v)) (U'.set i (some v')):=by
 refine⟨by simp[S.1],λj u q=>?_⟩;by_cases hj:i=j
 .subst hj;by_cases hl:i<U.length
  .rw[List.getElem?_set_self hl]at q;cases q;exact⟨v',List.getElem?_set_self (by rw[<- S.1];exact hl),r⟩
  .rw[List.getElem?_eq_none (by simpa using hl)]at q;cases q
 .rw[List.getElem?_set_ne hj]at q;obtain⟨w,a,b⟩:=S.2 j u q;exact⟨w,by rw[List.getElem?_set_ne hj];exact a,b⟩
def QE(X:Cx)(T:Tab)(E:XK)(e:Expr)(m:aA->M AV):Prop:=
 ∃t,PE X e t/\∀Z U U' h H Q,aM T Z h H->aV T Z H U U'->W T (aF T) (m U h) Z H Q E->t U' H Q
def QA(X:Cx)(T:Tab)(E:XK)(es:List Expr)(m:aA->M (List AV)):Prop:=
 ∃t,PA X es t/\∀Z U U' h H Q,aM T Z h H->aV T Z H U U'->W T (aH T) (m U h) Z H Q E->t U' H Q
abbrev RB:Rl Bool Bool:=λ_ _ a b=>a=b
def QT(X:Cx)(T:Tab)(E:XK)(e:Expr)(m:aA->M Bool):Prop:=
 ∃t,PT X e t/\∀Z U U' h H Q,aM T Z h H->aV T Z H U U'->W T RB (m U h) Z H Q E->t U' H Q
def QW(X:Cx)(T:Tab)(E:XK)(e:Expr)(m:aA->M Bool):Prop:=
 ∃t,PW X e t/\∀Z U U' h H Q,aM T Z h H->aV T Z H U U'->W T RB (m U h) Z H Q E->t U' H Q
theorem QW.qt{X:Cx}{T:Tab}{E:XK}{e:Expr}{m:aA->M Bool}(h:QW X T E e m):QT X T E e m:=let ⟨t,a,b⟩:=h;⟨t,a.pt,b⟩
def bR(X:Cx)(T:Tab)(E:XK)(f:Value->Value->Sem Value)(g:AV->AV->M AV):Prop:=
 ∃r,bE X f r/\∀Z h H x y x' y' Q,aM T Z h H->aF T Z H x x'->aF T Z H y y'->W T (aF T) (g x y h) Z H Q E->r x' y' H Q
def Ee(X:Cx)(T:Tab)(E:XK)(f:Value->Sem Value)(g:AV->M AV):Prop:=
 ∃r,dz X f r/\∀Z h H x x' Q,aM T Z h H->aF T Z H x x'->W T (aF T) (g x h) Z H Q E->r x' H Q
def dq(X:Cx)(T:Tab)(E:XK)(g:AV->AV->M AV):Prop:=
 ∃r,kN X r/\∀Z h H x y x' y' Q,aM T Z h H->aF T Z H x x'->aF T Z H y y'->W T (aF T) (g x y h) Z H Q E->r x' y' H Q
def mO(X:Cx)(T:Tab)(E:XK)(f:Value)(g:List AV->M AV):Prop:=
 ∃r,dM X f r/\∀Z h H xs aX Q,aM T Z h H->aH T Z H xs aX->W T (aF T) (g xs h) Z H Q E->r aX H Q
def xC(i j:Int):Bool:=decide (i.natAbs<2 ^ 64)||decide (j.natAbs<2 ^ 64)||(decide (i.natAbs<2 ^ 1000)&&decide (j.natAbs<2 ^ 1000))
def rB(j:Int):Bool:=decide (0<j)&&decide (j<2 ^ 1000)
def aj(i j:Int):Bool:=decide (0<=j)&&decide (j<=1000000)&&decide (i.natAbs<2 ^ 64)
def fH:AV->AV->M AV
 |.int i,.int j=>M.ret (.int (i+j))
 |.str i,.str j=>M.guard (i.length+j.length<=sizeLine) (M.ret (.str (i++j)))
 |.tup xs,.tup ys=>M.guard (xs.length+ys.length<=sizeLine) (M.ret (.tup (xs++ys)))
 |.ref n,.ref m=>λh=>match h.ob n,h.ob m with
  |some (.lst true xs),some (.lst true ys)=>if xs.length+ys.length<=sizeLine then .ok (.ref h.nx) (h.new (.lst true (xs++ys))) else .bad
  |_,_=>.bad
 |_,_=>M.bad
def gO(p:Int->Int->Bool)(f:Int->Int->Int):AV->AV->M AV
 |.int i,.int j=>λh=>if p i j=true then .ok (.int (f i j)) h else .bad
 |_,_=>M.bad
def gy:AV->AV->M AV:=gO (λ_ _=>true) (· - ·)
def Iw:AV->AV->M AV:=gO xC (·*·)
def Ih:AV->AV->M AV:=gO (λ_ j=>rB j) (· / ·)
def Iu:AV->AV->M AV:=gO (λ_ j=>decide (0<j)) (·%·)
def Iz:AV->AV->M AV:=gO aj λi j=>i ^ j.toNat
def Ja:AV->AV->M AV:=gO aj λi j=>i*2 ^ j.toNat
def Jb:AV->AV->M AV:=gO (λ_ j=>decide (0<=j)) λi j=>i / 2 ^ j.toNat
def Ie:AV->AV->M AV:=gO (λ_ _=>true) Builtin.bitAnd
def Iy:AV->AV->M AV:=gO (λ_ _=>true) Builtin.bitOr
def Jc:AV->AV->M AV:=gO (λ_ _=>true) Builtin.bitXor
def zO(f:Int->Int->Bool):AV->AV->M AV
 |.int i,.int j=>M.ret (.bl (f i j))
 |_,_=>M.bad
def Io:AV->AV->M AV:=zO λi j=>decide (i<j)
def Im:AV->AV->M AV:=zO λi j=>decide (i<=j)
def Ij:AV->AV->M AV:=zO λi j=>decide (j<i)
def Ii:AV->AV->M AV:=zO λi j=>decide (j<=i)
def rD:AV->AV->Option Bool
 |.aE,.aE=>some true | .aE,.int _=>some false | .int _,.aE=>some false | .aE,.bl _=>some false | .bl _,.aE=>some false | .aE,.str _=>some false | .str _,.aE=>some false
 |.int i,.int j=>some (decide (i=j)) | .bl i,.bl j=>some (decide (i=j)) | .str i,.str j=>some (decide (i=j))
 |.int _,.str _=>some false | .str _,.int _=>some false | .bl _,.str _=>some false | .str _,.bl _=>some false
 |_,_=>none
def gA:AV->Bool
 |.aE=>true | .bl _=>true | .int _=>true | .str _=>true
 |_=>false
def uz:AV->AV->Bool
 |.aE,.aE=>true
 |.bl a,.bl b=>a==b
 |.bl a,.int b=>(if a then 1 else 0)==b
 |.int a,.bl b=>a==(if b then 1 else 0)
 |.int a,.int b=>a==b
 |.str a,.str b=>a==b
 |_,_=>false
def zQ(x y:AV):M AV:=λh=>match rD x y with
 |some b=>.ok (.bl b) h
 |none=>.bad
def zS(x y:AV):M AV:=λh=>match rD x y with
 |some b=>.ok (.bl (!b)) h
 |none=>.bad
def oW:AV->Bool
 |.aE=>true
 |_=>false
def vj(x y:AV):M AV:=if oW y=true then M.ret (.bl (oW x)) else M.bad
def vk(x y:AV):M AV:=if oW y=true then M.ret (.bl (!oW x)) else M.bad
def uS(x:AV)(xs:List AV):Bool:=xs.any λy=>uz y x
def cM(h:AH):AV->Option (List AV)
 |.tup xs=>some xs
 |.ref n=>match h.ob n with
  |some (.lst _ xs)=>some xs
  |_=>none
 |_=>none
def dH:AV->Option aC
 |.int i=>some (.inl i)
 |.str s=>some (.inr s)
 |_=>none
def cX(h:AH):AV->Option (List (aC×AV))
 |.ref n=>match h.ob n with
  |some (.aL kvs)=>some kvs
  |_=>none
 |_=>none
def bT(kvs:List (aC×AV))(k:aC):Option AV:=(kvs.find? λkv=>decide (kv.1=k)).map (·.2)
def pD(kvs:List (aC×AV))(k:aC)(v:AV):List (aC×AV):=
 if(kvs.any λkv=>decide (kv.1=k))=true then kvs.map (λkv=>if kv.1=k then(kv.1,v) else kv) else kvs++[(k,v)]
def oN(kvs:List (aC×AV))(k:aC):List (aC×AV):=kvs.filter λkv=>decide (kv.1≠k)
def rF(neg:Bool)(x y:AV):M AV:=λh=>match cM h y with
 |some xs=>if(gA x&&xs.all gA)=true then .ok (.bl (if neg then !uS x xs else uS x xs)) h else .bad
 |none=>.bad
def mW(neg:Bool)(x y:AV):M AV:=λh=>match cX h y with
 |some kvs=>match dH x with
  |some k=>.ok (.bl (if neg then !(bT kvs k).isSome else(bT kvs k).isSome)) h
  |none=>.bad
 |none=>rF neg x y h
def gq:AV->M AV
 |.int i=>M.ret (.int (-i))
 |_=>M.bad
def wY(x y:AV):M AV:=λh=>match y with
 |.int i=>match x with
  |.str z=>if z.length<=sizeLine then match dF z.cps.toList i with
   |some c=>.ok (.str ⟨#[c]⟩) h
   |none=>.bad
   else .bad
  |x=>match (cM h x).bind λxs=>dF xs i with
   |some v=>.ok v h
   |none=>.bad
 |_=>.bad
def uI(h:AH):AV->Option (List (aC×AV))
 |.ref n=>match h.ob n with
  |some (.bJ kvs)=>some kvs
  |_=>none
 |_=>none
def gj(x y:AV):M AV:=λh=>match uI h x with
 |some kvs=>match (dH y).bind (bT kvs) with
  |some v=>.ok v h
  |none=>.bad
 |none=>wY x y h
def oS(x y:AV):M AV:=λh=>match cX h x with
 |some kvs=>match (dH y).bind (bT kvs) with
  |some v=>.ok v h
  |none=>.bad
 |none=>gj x y h
def yQ(h:AH):AV->Option Bool
 |.aE=>some false
 |.bl b=>some b
 |.int i=>some (i != 0)
 |.str y=>if y.length<=sizeLine then some ((y.length:Int) != 0) else none
 |.tup xs=>some (!xs.isEmpty)
 |.ref n=>match h.ob n with
  |some (.lst _ xs)=>some (!xs.isEmpty)
  |some (.aL kvs)=>some (!kvs.isEmpty)
  |_=>none
 |_=>none
def bF(x:AV):M Bool:=λh=>match yQ h x with
 |some b=>.ok b h
 |none=>.bad
section
variable {X:Cx}{T:Tab}{E:XK}(hK:X.K=T.K)
theorem uR{α β:Type}{Rp:Rl α β}{p:Prop} [Decidable p] {m:M α}{Z:List Addr}{H:Hp}{h:AH}{Q:β->Hp->Prop}(w:W T Rp (M.guard p m h) Z H Q E):p/\W T Rp (m h) Z H Q E:=by
 unfold M.guard at w;by_cases hp:p
 .rw[if_pos hp]at w;exact⟨hp,w⟩
 .rw[if_neg hp]at w;exact w.elim
theorem nB{f:Value->Value->Sem Value}{C:Int->Int->Prop}{p:Int->Int->Bool}{g:Int->Int->Int}(ho:bE X f (rI C λi j=>.int (g i j)))(hc:∀i j,p i j=true->C i j):bR X T E f (gO p g):=by
 refine⟨_,ho,λZ h H x y x' y' Q R rx ry w=>?_⟩;cases x with
 |int i=>
  cases y with
  |int j=>
   cases rx;cases ry;simp only[gO]at w;by_cases hp:p i j=true
   .rw[if_pos hp]at w;exact⟨i,j,rfl,rfl,hc i j hp,w.here R (.int _)⟩
   .rw[if_neg hp]at w;exact w.elim
  |_=>exact w.elim
 |_=>exact w.elim
theorem ji{f:Value->Value->Sem Value}{g:Int->Int->Bool}(ho:bE X f (iV λi j=>.bl (g i j))):bR X T E f (zO g):=by
 refine⟨_,ho,λZ h H x y x' y' Q R rx ry w=>?_⟩;cases x with
 |int i=>
  cases y with
  |int j=>cases rx;cases ry;exact⟨i,j,rfl,rfl,W.here w R (.bl _)⟩
  |_=>exact w.elim
 |_=>exact w.elim
theorem pf{f:Value->Value->Sem Value}{g:Int->Int->V}(h:bE X f (iV g)):bE X f (rI (λ_ _=>True) g):=
 λpins s U H x y v u Q I rx ry ⟨i,j,a,b,_,q⟩=>h pins s U H x y v u Q I rx ry ⟨i,j,a,b,q⟩
theorem DT:bR X T E (binaryOp .Sub) gy:=nB (pf CU) λ_ _ _=>trivial
theorem CY:bR X T E (binaryOp .BitAnd) Ie:=nB (pf BS) λ_ _ _=>trivial
theorem DP:bR X T E (binaryOp .BitOr) Iy:=nB (pf CO) λ_ _ _=>trivial
theorem DU:bR X T E (binaryOp .BitXor) Jc:=nB (pf CV) λ_ _ _=>trivial
theorem DK:bR X T E (binaryOp .Mod) Iu:=nB CH λ_ _ h=>of_decide_eq_true h
theorem Lf{i j:Int}(h:aj i j=true):qz i j:=by simp only[aj,Bool.and_eq_true,decide_eq_true_eq]at h;exact⟨h.1.1,h.1.2,h.2⟩
theorem DQ:bR X T E (binaryOp .Pow) Iz:=nB CP λ_ _ h=>Lf h
theorem DR:bR X T E (binaryOp .LShift) Ja:=nB CQ λ_ _ h=>Lf h
theorem DS:bR X T E (binaryOp .RShift) Jb:=nB CS λ_ _ h=>of_decide_eq_true h
theorem BF{i j:Int}(h:xC i j=true):IntMulOk i j:=by
 simp only[xC,Bool.or_eq_true,Bool.and_eq_true,decide_eq_true_eq]at h;rcases h with(h|h)|⟨h1,h2⟩
 .exact .of_left (intBits_le h)
 .exact .of_right (intBits_le h)
 .exact .of_bits (Nat.le_trans (intBits_le h1) (by decide)) (Nat.le_trans (intBits_le h2) (by decide))
theorem CI:bE X (binaryOp .Mult) (rI IntMulOk λi j=>.int (i*j)):=xH λ_ _ _ _ _ _ _ hc q=>mul_int q hc
theorem DL:bR X T E (binaryOp .Mult) Iw:=nB CI λ_ _ h=>BF h
theorem log2_lt{j:Int}(h:j<2 ^ 1000)(h0:0<j):j.natAbs.log2<9000:=by
 have hn:j.natAbs<2 ^ 1000:=by omega
 have:j.natAbs.log2<1000:=(Nat.log2_lt (by omega)).mpr hn;omega
theorem BY:bE X (binaryOp .FloorDiv) (rI (λ_ j=>0<j/\j<2 ^ 1000) λi j=>.int (i / j)):=xH λi j _ _ _ _ _ hc q=>by have h1:(0:Int)<j:=hc.1;exact floordiv_int (by omega) (by rw[Int.fdiv_eq_ediv_of_nonneg i (by omega)];exact q) (.inl (PyProof.noPylong_of_log2 (log2_lt hc.2 hc.1)))
theorem Hm{j:Int}(h:rB j=true):0<j/\j<2 ^ 1000:=by simp only[rB,Bool.and_eq_true,decide_eq_true_eq]at h;exact h
theorem DB:bR X T E (binaryOp .FloorDiv) Ih:=nB BY λ_ _ h=>Hm h
theorem DJ:bR X T E (compareOp .Lt) Io:=ji CG
theorem DI:bR X T E (compareOp .LtE) Im:=ji CF
theorem DD:bR X T E (compareOp .Gt) Ij:=ji CA
theorem DC:bR X T E (compareOp .GtE) Ii:=ji BZ
theorem Hq{Z:List Addr}{H:Hp}{x y:AV}{x' y':V}{b:Bool}(rx:aF T Z H x x')(ry:aF T Z H y y')(e:rD x y=some b):pv x' y'=true/\decide (x'=y')=b:=by cases rx<;>cases ry<;>simp[rD]at e<;>(subst e)<;>simp[pv]
theorem va{Z:List Addr}{H:Hp}{x:AV}{x':V}(r:aF T Z H x x')(f:gA x=true):mT x'=true:=by cases r<;>first|rfl|cases f
theorem vc{Z:List Addr}{H:Hp}:∀{xs:List AV} {ys:List V},aH T Z H xs ys->xs.all gA=true->ys.all mT=true
 |_,_,.nil,_=>rfl|_,_,.cons h hs,f=>by rw[List.all_cons,Bool.and_eq_true]at f ⊢;exact⟨va h f.1,vc hs f.2⟩
theorem Wd{Z:List Addr}{H:Hp}{x y:AV}{x' y':V}(rx:aF T Z H x x')(ry:aF T Z H y y')(fx:gA x=true)(fy:gA y=true):oP x' y'=uz x y:=by
 cases rx<;>first|cases fx;done|skip
 all_goals (cases ry<;>first|rfl|cases fy)
theorem DA:bR X T E (compareOp .Eq) zQ:=by
 refine⟨_,BX,λZ h H x y x' y' Q R rx ry w=>?_⟩;unfold zQ at w;cases e:rD x y with
 |none=>rw[e]at w;exact w.elim|some b=>rw[e]at w;obtain⟨h1,h2⟩:=Hq rx ry e;exact⟨h1,by rw[h2];exact w.here R (.bl _)⟩
theorem DM:bR X T E (compareOp .NotEq) zS:=by
 refine⟨_,CJ,λZ h H x y x' y' Q R rx ry w=>?_⟩;unfold zS at w;cases e:rD x y with
 |none=>rw[e]at w;exact w.elim|some b=>rw[e]at w;obtain⟨h1,h2⟩:=Hq rx ry e;exact⟨h1,by rw[h2];exact w.here R (.bl _)⟩
theorem iq{Z:List Addr}{H:Hp}{x:AV}{x':V}(r:aF T Z H x x'):decide (x' = .aE)=oW x:=by cases r<;>simp[oW]
theorem DG:bR X T E (compareOp .Is) vj:=by
 refine⟨_,CD,λZ h H x y x' y' Q R rx ry w=>?_⟩;unfold vj at w;by_cases e:oW y=true
 .rw[if_pos e]at w;rw[<- iq ry]at e;exact⟨of_decide_eq_true e,by rw[iq rx];exact W.here w R (.bl _)⟩
 .rw[if_neg e]at w;exact w.elim
theorem DH:bR X T E (compareOp .IsNot) vk:=by
 refine⟨_,CM,λZ h H x y x' y' Q R rx ry w=>?_⟩;unfold vk at w;by_cases e:oW y=true
 .rw[if_pos e]at w;rw[<- iq ry]at e;exact⟨of_decide_eq_true e,by rw[iq rx];exact W.here w R (.bl _)⟩
 .rw[if_neg e]at w;exact w.elim
theorem SX:Ee X T E (unaryOp .USub) gq:=by
 refine⟨_,SV,λZ h H x x' Q R rx w=>?_⟩;cases x with
 |int i=>cases rx;exact⟨i,rfl,W.here w R (.int _)⟩|_=>exact w.elim
theorem vx{Z:List Addr}{H:Hp}{x:AV}{x':V}(rx:aF T Z H x x')(fx:gA x=true):∀{xs:List AV} {ys:List V},aH T Z H xs ys->xs.all gA=true->ig x' ys=uS x xs
 |_,_,.nil,_=>rfl|_,_,.cons h hs,f=>by rw[List.all_cons,Bool.and_eq_true]at f;have:=vx rx fx hs f.2;unfold ig uS at this ⊢;rw[List.any_cons,List.any_cons,this,Wd h rx f.1 fx]
theorem iE{Z:List Addr}{h:AH}{H:Hp}{n:Nat}{m:Bool}{xs:List AV}{a:Addr}(R:aM T Z h H)(e:h.ob n=some (.lst m xs))(q:Z[n]?=some a):∃ys,bG T.K H a ys/\aH T Z H xs ys:=by
 have r:=R.obj n _ a e q;cases m with
 |true=>obtain⟨ys,h1,h2⟩:=r;exact⟨ys,.of h1,h2⟩|false=>obtain⟨ys,h1,h2⟩:=r;exact⟨ys,h1.sq,h2⟩
theorem yM{Z:List Addr}{h:AH}{H:Hp}{x:AV}{x':V}{xs:List AV}(R:aM T Z h H)(r:aF T Z H x x')(e:cM h x=some xs):∃p ys,x' = .ref p/\(bG T.K H p ys\/bV T.K H p ys)/\aH T Z H xs ys:=by
 cases r with
 |tup hq hr=>cases e;exact⟨_,_,rfl,.inr hq,hr⟩|@ref n a q=>
  simp only[cM]at e;cases o:h.ob n with
  |none=>rw[o]at e;cases e|some u=>
   rw[o]at e;cases u with
   |lst m ys=>cases e;obtain⟨zs,h1,h2⟩:=iE R o q;exact⟨_,zs,rfl,.inl h1,h2⟩
   |aL kvs=>cases e|bJ _=>cases e|ins c fs=>cases e|xo c=>cases e
 |_=>cases e
inductive dU(T:Tab)(Z:List Addr)(H:Hp):List (aC×AV)->List (aC×V)->Prop where
 |nil:dU T Z H [] []
 |cons {k:aC} {v:AV} {y:V} {xs:List (aC×AV)} {ys:List (aC×V)} (h:aF T Z H v y) (t:dU T Z H xs ys):dU T Z H ((k,v)::xs) ((k,y)::ys)
theorem Cs{Z:List Addr}{H:Hp}:∀{kvs:List (aC×AV)} {ys:List V},aH T Z H (kvs.map (·.2)) ys->dU T Z H kvs ((kvs.map (·.1)).zip ys)
 |[],_,.nil=>.nil
 | (k,v)::kvs,_,.cons h t=>.cons h (Cs t)
theorem MZ{Z:List Addr}{H:Hp}{kvs:List (aC×AV)}{us:List (aC×V)}(r:dU T Z H kvs us):∃ys,us=(kvs.map (·.1)).zip ys/\aH T Z H (kvs.map (·.2)) ys:=by
 induction r with
 |nil=>exact⟨[],rfl,.nil⟩|cons h t ih=>obtain⟨ys,e,r⟩:=ih;exact⟨_::ys,by rw[e];rfl,.cons h r⟩
theorem Oz{Z:List Addr}{H:Hp}{kvs:List (aC×AV)}{us:List (aC×V)}(r:dU T Z H kvs us):kvs.length=us.length:=by
 induction r with
 |nil=>rfl|cons h t ih=>rw[List.length_cons,List.length_cons,ih]
theorem vY{Z:List Addr}{H:Hp}{kvs:List (aC×AV)}{us:List (aC×V)}{k:aC}(r:dU T Z H kvs us):(∀v,bT kvs k=some v->∃y,cO us k=some y/\aF T Z H v y)/\(bT kvs k=none->cO us k=none):=by
 induction r with
 |nil=>exact⟨(λv h=>by cases h),λ_=>rfl⟩|@cons k' v y xs ys h t ih=>
  by_cases e:k'=k
  .subst e;refine⟨λv' h'=>?_,λh'=>?_⟩
   .simp[bT]at h';subst h';exact⟨y,by simp[cO],h⟩
   .simp[bT]at h'
  .have e1:bT ((k',v)::xs) k=bT xs k:=by simp[bT,e]
   have e2:cO ((k',y)::ys) k=cO ys k:=by simp[cO,e]
   rw[e1,e2];exact ih
theorem Pb{Z:List Addr}{H:Hp}{kvs:List (aC×AV)}{us:List (aC×V)}{k:aC}(r:dU T Z H kvs us):(cO us k).isSome=(bT kvs k).isSome:=by
 obtain⟨h1,h2⟩:=vY (k:=k) r;cases e:bT kvs k with
 |none=>rw[h2 e];rfl|some v=>obtain⟨y,e2,_⟩:=h1 v e;rw[e2];rfl
theorem MX{Z:List Addr}{H:Hp}{kvs:List (aC×AV)}{us:List (aC×V)}{k:aC}(r:dU T Z H kvs us):(kvs.any λkv=>decide (kv.1=k))=us.any λkv=>decide (kv.1=k):=by
 induction r with
 |nil=>rfl|cons h t ih=>rw[List.any_cons,List.any_cons,ih]
theorem MY{Z:List Addr}{H:Hp}{kvs:List (aC×AV)}{us:List (aC×V)}{k:aC}{v:AV}{y:V}(r:dU T Z H kvs us)(h:aF T Z H v y):dU T Z H (kvs++[(k,v)]) (us++[(k,y)]):=by
 induction r with
 |nil=>exact .cons h .nil|cons h' t ih=>exact .cons h' ih
theorem NB{Z:List Addr}{H:Hp}{kvs:List (aC×AV)}{us:List (aC×V)}{k:aC}{v:AV}{y:V}(r:dU T Z H kvs us)(h:aF T Z H v y):dU T Z H (kvs.map λkv=>if kv.1=k then(kv.1,v) else kv) (us.map λkv=>if kv.1=k then(kv.1,y) else kv):=by
 induction r with
 |nil=>exact .nil|@cons k' v' y' xs ys h' t ih=>
  by_cases e:k'=k
  .simp only[List.map_cons,e,if_true];exact .cons h ih
  .simp only[List.map_cons,e,if_false];exact .cons h' ih
theorem Pa{Z:List Addr}{H:Hp}{kvs:List (aC×AV)}{us:List (aC×V)}{k:aC}{v:AV}{y:V}(r:dU T Z H kvs us)(h:aF T Z H v y):dU T Z H (pD kvs k v) (eS us k y):=by
 unfold pD eS;rw[MX r];split
 .exact NB r h
 .exact MY r h
theorem NA{Z:List Addr}{H:Hp}{kvs:List (aC×AV)}{us:List (aC×V)}{k:aC}(r:dU T Z H kvs us):dU T Z H (oN kvs k) (kW us k):=by
 induction r with
 |nil=>exact .nil|@cons k' v' y' xs ys h' t ih=>
  unfold oN kW;by_cases e:k'=k
  .simp only[List.filter_cons,e,ne_eq,not_true_eq_false,decide_false,Bool.false_eq_true,if_false];exact ih
  .simp only[List.filter_cons,e,ne_eq,not_false_eq_true,decide_true,if_true];exact .cons h' ih
theorem dU.ext{Z Z':List Addr}{H H':Hp}{kvs:List (aC×AV)}{us:List (aC×V)}(r:dU T Z H kvs us)(e:Ext Z H Z' H'):dU T Z' H' kvs us:=by
 induction r with
 |nil=>exact .nil|cons h t ih=>exact .cons (h.ext e) ih
theorem rA{Z:List Addr}{h:AH}{H:Hp}{x:AV}{x':V}{kvs:List (aC×AV)}(R:aM T Z h H)(r:aF T Z H x x')(e:cX h x=some kvs):∃n a us,x = .ref n/\Z[n]?=some a/\h.ob n=some (.aL kvs)/\x' = .ref a/\H a=some (.dK us)/\dU T Z H kvs us:=by
 cases r with
 |@ref n a q=>
  simp only[cX]at e;cases o:h.ob n with
  |none=>rw[o]at e;cases e|some u=>
   rw[o]at e;cases u with
   |aL kvs'=>cases e;obtain⟨ks,ys,h1,rfl,h3⟩:=R.obj n _ a o q;exact⟨n,a,_,rfl,q,o,rfl,h1,Cs h3⟩
   |_=>cases e
 |_=>cases e
theorem Ur{Z:List Addr}{h:AH}{H:Hp}{x:AV}{x':V}{kvs:List (aC×AV)}(R:aM T Z h H)(r:aF T Z H x x')(e:uI h x=some kvs):∃a us,x' = .ref a/\Rd H a (.dK us)/\dU T Z H kvs us:=by
 cases r with
 |@ref n a q=>
  simp only[uI]at e;cases o:h.ob n with
  |none=>rw[o]at e;cases e|some u=>
   rw[o]at e;cases u with
   |bJ kvs'=>cases e;obtain⟨ob,ks,ys,h1,rfl,h3⟩:=R.obj n _ a o q;exact⟨a,_,rfl,.inr ⟨ob,h1⟩,Cs h3⟩
   |_=>cases e
 |_=>cases e
theorem uv{Z:List Addr}{H:Hp}{a:Addr}{kvs:List (aC×AV)}{us:List (aC×V)}(e:H a=some (.dK us))(r:dU T Z H kvs us):hJ T Z H a (.aL kvs):=by obtain⟨ys,e2,r2⟩:=MZ r;subst e2;exact⟨_,ys,e,rfl,r2⟩
theorem mZ{Z:List Addr}{H:Hp}{x:AV}{x':V}{k:aC}(r:aF T Z H x x')(e:dH x=some k):x'=kV k:=by cases r<;>simp[dH]at e<;>(subst e)<;>rfl
include hK in
theorem DF:bR X T E (compareOp .In) (rF false):=by
 refine⟨_,CC,λZ h H x y x' y' Q R rx ry w=>?_⟩;unfold rF at w;cases e:cM h y with
 |none=>rw[e]at w;exact w.elim|some xs=>
  rw[e]at w;by_cases f:(gA x&&xs.all gA)=true
  .simp only[if_pos f]at w;rw[Bool.and_eq_true]at f;obtain⟨p,ys,e1,h1,h2⟩:=yM R ry e;refine⟨p,ys,e1,by rw[hK];exact h1,va rx f.1,vc h2 f.2,?_⟩;rw[vx rx f.1 h2 f.2];exact w.here R (.bl _)
  .simp only[if_neg f]at w;exact w.elim
include hK in
theorem DO:bR X T E (compareOp .NotIn) (rF true):=by
 refine⟨_,CL,λZ h H x y x' y' Q R rx ry w=>?_⟩;unfold rF at w;cases e:cM h y with
 |none=>rw[e]at w;exact w.elim|some xs=>
  rw[e]at w;by_cases f:(gA x&&xs.all gA)=true
  .simp only[if_pos f]at w;rw[Bool.and_eq_true]at f;obtain⟨p,ys,e1,h1,h2⟩:=yM R ry e;refine⟨p,ys,e1,by rw[hK];exact h1,va rx f.1,vc h2 f.2,?_⟩;rw[vx rx f.1 h2 f.2];exact w.here R (.bl _)
  .simp only[if_neg f]at w;exact w.elim
theorem Sb{Z:List Addr}{H:Hp}{xs:List AV}{ys:List V}{i:Int}{v:AV}(r:aH T Z H xs ys)(e:dF xs i=some v):∃v',dF ys i=some v'/\aF T Z H v v':=by
 unfold dF at e ⊢;rw[<- r.length];cases q:jI xs.length i with
 |none=>rw[q]at e;cases e|some j=>rw[q]at e;exact r.get e
include hK in
theorem Zk:dq X T E wY:=by
 refine⟨_,Zg,λZ h H x y x' y' Q R rx ry w=>?_⟩;cases y with
 |int i=>
  cases ry;have seqc:∀(xs:List AV) (v:AV),cM h x=some xs->dF xs i=some v->(W T (aF T) (.ok v h) Z H Q E)->Cm X.K x' (.int i) H Q:=λxs v e1 e2 w=>by
   obtain⟨p,ys,rfl,hq,hr⟩:=yM R rx e1;obtain⟨v',e3,rv⟩:=Sb hr e2;rcases hq with hq|hq
   .exact .inl ⟨p,ys,i,v',rfl,rfl,by rw[hK];exact hq,e3,w.here R rv⟩
   .exact .inr (.inl ⟨p,ys,i,v',rfl,rfl,by rw[hK];exact hq,e3,w.here R rv⟩)
  have go:(match (cM h x).bind λxs=>dF xs i with
   |some v=>Res.ok v h
   |none=>Res.bad)=wY x (.int i) h->Cm X.K x' (.int i) H Q:=λe=>by
    rw[<- e]at w;cases s:cM h x with
    |none=>rw[s]at w;exact w.elim|some xs=>
     rw[s]at w;simp only[Option.bind_some]at w;cases q:dF xs i with
     |none=>rw[q]at w;exact w.elim|some v=>rw[q]at w;exact seqc xs v s q w
  cases x with
  |str z=>
   cases rx;simp only[wY]at w;by_cases hz:z.length<=sizeLine
   .rw[if_pos hz]at w;cases q:dF z.cps.toList i with
    |none=>rw[q]at w;exact w.elim|some c=>rw[q]at w;exact .inr (.inr ⟨z,i,c,rfl,rfl,hz,q,w.here R (.str _)⟩)
   .rw[if_neg hz]at w;exact w.elim
  |aE=>exact go rfl|bl b=>exact go rfl|int j=>exact go rfl|tup xs=>exact go rfl|ref n=>exact go rfl|jG n=>exact go rfl
 |_=>exact w.elim
include hK in
theorem DE(hu:X.A.units+1<cLine):bR X T E (compareOp .In) (mW false):=by
 obtain⟨r0,p0,q0⟩:=(DF hK:bR X T E (compareOp .In) (rF false));refine⟨_,p0.or (CB hu),λZ h H x y x' y' Q R rx ry w=>?_⟩;unfold mW at w;cases d:cX h y with
 |none=>simp only[d]at w;exact .inl (q0 Z h H _ _ _ _ Q R rx ry w)|some kvs=>
  simp only[d]at w;cases k:dH x with
  |none=>simp only[k]at w;exact w.elim|some k'=>simp only[k]at w;obtain⟨n,a,us,rfl,_,_,rfl,g,r⟩:=rA R ry d;refine .inr ⟨a,_,rfl,(mZ rx k)▸fO.k g,?_⟩;rw[Pb r];exact W.here w R (.bl _)
include hK in
theorem DN(hu:X.A.units+1<cLine):bR X T E (compareOp .NotIn) (mW true):=by
 obtain⟨r0,p0,q0⟩:=(DO hK:bR X T E (compareOp .NotIn) (rF true));refine⟨_,p0.or (CK hu),λZ h H x y x' y' Q R rx ry w=>?_⟩;unfold mW at w;cases d:cX h y with
 |none=>simp only[d]at w;exact .inl (q0 Z h H _ _ _ _ Q R rx ry w)|some kvs=>
  simp only[d]at w;cases k:dH x with
  |none=>simp only[k]at w;exact w.elim|some k'=>simp only[k]at w;obtain⟨n,a,us,rfl,_,_,rfl,g,r⟩:=rA R ry d;refine .inr ⟨a,_,rfl,(mZ rx k)▸fO.k g,?_⟩;rw[Pb r];exact W.here w R (.bl _)
include hK in
theorem Zj(hu:X.A.units+1<cLine):dq X T E oS:=by
 obtain⟨r0,p0,q0⟩:=(Zk hK:dq X T E wY);refine⟨_,p0.or (Ze hu),λZ h H x y x' y' Q R rx ry w=>?_⟩;unfold oS at w;cases d:cX h x with
 |none=>
  simp only[d]at w;unfold gj at w;cases d2:uI h x with
  |none=>simp only[d2]at w;exact .inl (q0 Z h H _ _ _ _ Q R rx ry w)|some kvs=>
   simp only[d2]at w;cases k:dH y with
   |none=>simp only[k,Option.bind_none]at w;exact w.elim|some k'=>
    simp only[k,Option.bind_some]at w;cases l:bT kvs k' with
    |none=>simp only[l]at w;exact w.elim|some v=>simp only[l]at w;obtain⟨a,us,rfl,g,r⟩:=Ur R rx d2;obtain⟨y1,l2,ry2⟩:=(vY (k:=k') r).1 v l;refine .inr ⟨a,y1,rfl,?_,W.here w R ry2⟩;rw[mZ ry k,<- l2];exact .inl ⟨us,k',g,rfl,rfl⟩
 |some kvs=>
  simp only[d]at w;cases k:dH y with
  |none=>simp only[k,Option.bind_none]at w;exact w.elim|some k'=>
   simp only[k,Option.bind_some]at w;cases l:bT kvs k' with
   |none=>simp only[l]at w;exact w.elim|some v=>simp only[l]at w;obtain⟨n,a,us,rfl,_,_,rfl,g,r⟩:=rA R rx d;obtain⟨y1,l2,ry2⟩:=(vY (k:=k') r).1 v l;refine .inr ⟨a,y1,rfl,?_,W.here w R ry2⟩;rw[mZ ry k,<- l2];exact fO.k g
def MJ(K:W.Frag):R2:=λx y H Q=>∃a b ys,x = .ref a/\y = .ref b/\bV K H a []/\bV K H b ys/\Q (.ref b) H
theorem BW:bE X (binaryOp .Add) (MJ X.K):=by
 intro pins s U H x y v u Q I rx ry h;obtain⟨a,b,ys,rfl,rfl,ha,hb,q⟩:=h;cases rx;cases ry;obtain⟨its,r1,p1,_⟩:=I.tuple ha;obtain⟨its2,r2,p2,_⟩:=I.tuple hb;cases r1;obtain⟨⟨cls,dd,data,sl⟩,ho,hc,n,hd⟩:=id p1;obtain⟨⟨cls2,dd2,data2,sl2⟩,ho2,hc2,n2,hd2⟩:=id p2;simp only at hc hd hc2 hd2;subst hc hd hc2 hd2;exact concat_meets ⟨_,ho,rfl⟩ ⟨_,ho2,rfl⟩ noFill_tuple_add seq_tuple_add PySem.F.slot_tuple_add PySem.F.entry_tuple_add (PySem.F.args_tuple_add_2 _ _)
  (tuple_addW0 a b _ _ n n2 dd dd2 sl sl2 (by simp)) ⟨ho,ho2,⟨.ref b,H,I,rfl,q⟩⟩
include hK in
theorem CW:bR X T E (binaryOp .Add) fH:=by
 refine⟨_,BQ.or (BR.or (BV.or (BW.or BU))),λZ h H x y x' y' Q R rx ry w=>?_⟩;cases x with
 |int i=>
  cases y with
  |int j=>cases rx;cases ry;exact .inl ⟨i,j,rfl,rfl,W.here w R (.int _)⟩|_=>exact w.elim
 |str i=>
  cases y with
  |str j=>cases rx;cases ry;obtain⟨hz,w⟩:=uR w;exact .inr (.inl ⟨i,j,rfl,rfl,hz,W.here w R (.str _)⟩)
  |_=>exact w.elim
 |tup xs=>
  cases y with
  |tup ys=>
   obtain⟨h2,w⟩:=uR w;cases rx with
   |@tup a _ aX hq hr=>
    cases ry with
    |@tup b _ ys' hq2 hr2=>
     have l1:=hr.length;have l2:=hr2.length;by_cases h1:xs.length=0
     .have e0:xs=[]:=List.eq_nil_of_length_eq_zero h1;subst e0;have e0:aX=[]:=List.eq_nil_of_length_eq_zero l1.symm;subst e0;exact .inr (.inr (.inr (.inl ⟨a,b,ys',rfl,rfl,by rw[hK];exact hq,by rw[hK];exact hq2,W.here w R (.tup hq2 hr2)⟩)))
     refine .inr (.inr (.inl ⟨a,b,aX,ys',rfl,rfl,by rw[hK];exact hq,by rw[hK];exact hq2,λz=>?_,by omega,λz=>?_,λz p hp=>?_⟩))
     .rw[z]at l1;exact h1 l1
     .subst z;have e0:ys=[]:=by cases ys with|nil=>rfl|cons _ _=>cases l2
      subst e0;rw[List.append_nil]at w;exact W.here w R (.tup hq hr)
     .refine W.ok w (.fA hp) (R.keep hp) (.tup (.of cQ) ?_);exact((hr.append hr2).ext (.fA hp))
  |_=>exact w.elim
 |ref n=>
  cases y with
  |ref m=>
   cases rx with
   |@ref _ a q=>
    cases ry with
    |@ref _ b q2=>
     have go:∀xs ys,h.ob n=some (.lst true xs)->h.ob m=some (.lst true ys)->Ob (.ref a) (.ref b) H Q:=λxs ys e1 e2=>by
      simp only[fH,e1,e2]at w;by_cases hz:xs.length+ys.length<=sizeLine
      .rw[if_pos hz]at w;obtain⟨aX,g1,r1⟩:=R.obj n _ a e1 q;obtain⟨ys',g2,r2⟩:=R.obj m _ b e2 q2;have l1:=r1.length;have l2:=r2.length;refine⟨a,b,aX,ys',rfl,rfl,g1,g2,by omega,λp hp=>?_⟩;have ho:hJ T (Z++[p]) (aG H p (.lst (aX++ys'))) p (.lst true (xs++ys)):=⟨_,cQ,(r1.append r2).ext ⟨λk z e=>by have hl:=(List.getElem?_eq_some_iff.mp e).1;rw[List.getElem?_append_left hl];exact e,(Ext.fA (Z:=Z) hp).tup,(Ext.fA (Z:=Z) hp).bC⟩⟩
       obtain⟨R',ex⟩:=R.alloc hp ho;exact W.ok w ex R' (.ref (by rw[<- R.len];simp))
      .rw[if_neg hz]at w;exact w.elim
     refine .inr (.inr (.inr (.inr ?_)));cases e1:h.ob n with
     |none=>simp only[fH,e1]at w;exact w.elim|some u=>
      cases e2:h.ob m with
      |none=>simp only[fH,e1,e2]at w;cases u with
       |lst k xs=>cases k<;>exact w.elim|_=>exact w.elim
      |some v=>
       cases u with
       |lst k xs=>
        cases v with
        |lst k2 ys=>
         cases k with
         |true=>
          cases k2 with
          |true=>exact go xs ys e1 e2|false=>simp only[fH,e1,e2]at w;exact w.elim
         |false=>simp only[fH,e1,e2]at w;exact w.elim
        |aL _=>simp only[fH,e1,e2]at w;cases k<;>exact w.elim|bJ _=>simp only[fH,e1,e2]at w;cases k<;>exact w.elim|ins _ _=>simp only[fH,e1,e2]at w;cases k<;>exact w.elim|xo _=>simp only[fH,e1,e2]at w;cases k<;>exact w.elim
       |aL _=>simp only[fH,e1,e2]at w;exact w.elim|bJ _=>simp only[fH,e1,e2]at w;exact w.elim|ins _ _=>simp only[fH,e1,e2]at w;exact w.elim|xo _=>simp only[fH,e1,e2]at w;exact w.elim
  |_=>exact w.elim
 |_=>exact w.elim
theorem Qj(hK:X.K=T.K){Z:List Addr}{h:AH}{H:Hp}{x:AV}{x':V}{b:Bool}(R:aM T Z h H)(r:aF T Z H x x')(e:yQ h x=some b):uC X.K x' H b:=by
 have emp:∀{xs:List AV} {ys:List V},aH T Z H xs ys->(!xs.isEmpty) = !ys.isEmpty:=λr=>by cases r<;>rfl
 cases r with
 |aE=>cases e;rfl|bl c=>cases e;rfl|int i=>cases e;rfl|str y=>
  simp only[yQ]at e;by_cases hy:y.length<=sizeLine
  .rw[if_pos hy]at e;cases e;exact⟨hy,rfl⟩
  .rw[if_neg hy]at e;cases e
 |tup hq hr=>cases e;exact .inr (.inl ⟨_,by rw[hK];exact hq,emp hr⟩)|@ref n a q=>
  simp only[yQ]at e;cases o:h.ob n with
  |none=>rw[o]at e;cases e|some u=>
   rw[o]at e;cases u with
   |lst m ys=>cases e;obtain⟨zs,h1,h2⟩:=iE R o q;exact .inl ⟨zs,by rw[hK];exact h1,emp h2⟩
   |aL kvs=>
    cases e;obtain⟨ks,ys,h1,h2,h3⟩:=R.obj n _ a o q;refine .inr (.inr ⟨_,h1,?_⟩);subst h2;cases kvs with
    |nil=>rfl|cons p r=>cases h3;rfl
   |bJ _=>cases e|ins c fs=>cases e|xo c=>cases e
 |jG q=>cases e
end
def oT(i:Nat):aA->M AV:=λU h=>match U[i]? with
 |some (some v)=>.ok v h
 |_=>.bad
def Ek(m k:M AV):M AV:=m.bind λx=>(bF x).bind λb=>if b=true then k else M.ret x
def Kv(m k:M AV):M AV:=m.bind λx=>(bF x).bind λb=>if b=true then M.ret x else k
def Ej(m k:M Bool):M Bool:=m.bind λb=>if b=true then k else M.ret false
def Ku(m k:M Bool):M Bool:=m.bind λb=>if b=true then M.ret true else k
def iu{α:Type}(c:M Bool)(a b:M α):M α:=c.bind λt=>if t=true then a else b
def fg:AV->Option Bool
 |.bl b=>some b
 |_=>none
def wQ(g g':AV->AV->M AV)(a b c:M AV):M AV:=a.bind λx=>b.bind λy=>(g x y).bind λz h=>match fg z with
 |some true=>(c.bind λw=>g' y w) h
 |some false=>.ok (.bl false) h
 |none=>.bad
def Gz(a:M AV)(r:M (List AV)):M (List AV):=a.bind λx=>r.bind λxs=>M.ret (x::xs)
def Dn(r:M (List AV)):M AV:=r.bind λxs=>M.guard (xs.length<=sizeLine) (M.ret (.tup xs))
def eB(xs:List AV):M AV:=λh=>.ok (.ref h.nx) (h.new (.lst true xs))
def oX(r:M (List AV)):M AV:=r.bind λxs=>M.guard (xs.length<=sizeLine) (eB xs)
def pB(g:AV->AV->M AV)(a b:M AV):M AV:=a.bind λx=>b.bind λy=>g x y
def aP:Expr->Bool
 |.Name ..=>true | .Constant ..=>true | .BinOp ..=>true | .UnaryOp ..=>true | .Compare ..=>true | .BoolOp ..=>true | .IfExp ..=>true
 |.Tuple ..=>true | .List ..=>true | .Subscript ..=>true | .Call ..=>true | .Attribute ..=>true | .ListComp ..=>true
 |.Dict ..=>true
 |_=>false
def jH:Expr->Bool
 |.ListComp ..=>true
 |_=>false
def ai:Expr->Bool
 |.Name ..=>true | .Constant ..=>true | .BinOp ..=>true | .Subscript ..=>true | .Call ..=>true | .Attribute ..=>true | .Tuple ..=>true | .List ..=>true | .ListComp ..=>true
 |.Dict ..=>true
 |_=>false
theorem bX{e:Expr}{es:List Expr}{env:Env}(h:aP e=true):starEach (e::es) env=(false,eval e env)::starEach es env:=by cases e<;>first|rfl|cases h
theorem OO{e:Expr}(h:aP e=true):sj e:=λo i=>by cases e<;>first|rfl|cases h
theorem px{e:Expr}{t:Option Expr}{n:Nat}{env:Env}(h:aP e=true)(hl:jH e=false):swapsWith e t n env=pure false:=by cases e<;>first|rfl|(cases hl;done)|(cases h;done)
theorem Cw{e:Expr}{env:Env}{x:Value}(h:aP e=true):foldedSetIterable e env x=pure x:=by cases e<;>first|rfl|cases h
theorem pw{e:Expr}{op:CmpOp}(h:aP e=true):behindInMarks op e=false:=by cases e<;>first|rfl|cases h
theorem FW{e:Expr}{env:Env}(h:ai e=true):∀whole,isTrue e env whole=(do let v <- whole;standAt e.pos;holding [v] (truthy v)):=λ_=>by cases e<;>first|rfl|cases h
theorem kJ{es:List Expr}{pos:Pos}{env:Env}(h:es.all aP=true):(backTo pos (starEach es env)).any (·.1)=false:=by
 induction es with
 |nil=>rfl|cons e es ih=>rw[List.all_cons,Bool.and_eq_true]at h;rw[bX h.1];have:=ih h.2;simp only[backTo,List.map_cons,List.any_cons]at this ⊢;rw[Bool.false_or];exact this
section
variable {X:Cx}{T:Tab}{E:XK}{a b c e:Expr}{es:List Expr}{ma mb mc m:aA->M AV}{mr:aA->M (List AV)}{mt mu:aA->M Bool}{pos:Pos}
theorem Lo{i:Nat} {x:Str} (hN:X.N[i]?=some x) (hv:zG X.env.scope x) (hd:(x==("__debug__":Str))=false) (hcd:(x==("__classdict__":Str))=false):QE X T E (.Name x pos) (oT i):=by
 refine⟨_,EX hN hv hd hcd,λZ U U' h H Q R S w=>?_⟩;unfold oT at w;cases q:U[i]? with
 |none=>rw[q]at w;exact w.elim|some o=>
  cases o with
  |none=>rw[q]at w;exact w.elim|some v=>rw[q]at w;obtain⟨v',e1,r⟩:=S.2 i v q;exact⟨v',e1,w.here R r⟩
theorem iG{v:AV}{v':V}(hp:PE X e (tC v'))(r:∀Z H,aF T Z H v v'):QE X T E e (λ_=>M.ret v):=
 ⟨_,hp,λZ _ _ h H Q R _ w=>W.here w R (r Z H)⟩
theorem ak:QE X T E e (λ_=>M.bad):=⟨λ_ _ _=>False,λ_ _ _ _ _ _ h=>h.elim,λ_ _ _ _ _ _ _ _ w=>w⟩
theorem Cj:QT X T E e (λ_=>M.bad):=⟨λ_ _ _=>False,λ_ _ _ _ _ _ h=>h.elim,λ_ _ _ _ _ _ _ _ w=>w⟩
theorem yR{α β:Type}{Rp:Rl α β}{ta tb:TE}(ra:∀Z U U' h H Q,aM T Z h H->aV T Z H U U'->W T (aF T) (ma U h) Z H Q E->ta U' H Q)(rb:∀Z U U' h H Q,aM T Z h H->aV T Z H U U'->W T (aF T) (mb U h) Z H Q E->tb U' H Q)
  {Z:List Addr} {U:aA} {U':L2.St} {h:AH} {H:Hp} {g:AV->AV->M α} {Q:β->Hp->Prop} {F:V->V->Hp->Prop} (R:aM T Z h H) (S:aV T Z H U U') (w:W T Rp ((ma U).bind (λx=>(mb U).bind λy=>g x y) h) Z H Q E)
  (f:∀Z2 x y x' y' h2 H2,Ext Z H Z2 H2->aM T Z2 h2 H2->aF T Z2 H2 x x'->aF T Z2 H2 y y'->aV T Z2 H2 U U'->W T Rp (g x y h2) Z2 H2 Q E->F x' y' H2):ta U' H λx H1=>tb U' H1 λy H2=>F x y H2:=
 ra Z U U' h H _ R S (W.bind w λZ1 x x' h1 H1 e1 R1 q1 w1=>rb Z1 U U' h1 H1 _ R1 (S.ext e1) (W.bind w1 λZ2 y y' h2 H2 e2 R2 q2 w2=>f Z2 x y x' y' h2 H2 (e1.trans e2) R2 (q1.ext e2) q2 ((S.ext e1).ext e2) w2))
theorem IJ{op:Operator}{g:AV->AV->M AV}(ho:bR X T E (binaryOp op) g)(ha:QE X T E a ma)(hb:QE X T E b mb):QE X T E (.BinOp a op b pos) (λU=>pB g (ma U) (mb U)):=by obtain⟨r,hr,hg⟩:=ho;obtain⟨ta,pa,ra⟩:=ha;obtain⟨tb,pb,rb⟩:=hb;exact⟨_,ER hr pa pb,λZ U U' h H Q R S w=>yR ra rb R S w λZ2 x y x' y' h2 H2 _ R2 q1 q2 _ w2=>hg Z2 h2 H2 x y x' y' Q R2 q1 q2 w2⟩
theorem IB{g:AV->AV->M AV}(ho:dq X T E g)(ha:QE X T E a ma)(hb:QE X T E b mb)(hs:sj b):QE X T E (.Subscript a b pos) (λU=>pB g (ma U) (mb U)):=by obtain⟨r,hr,hg⟩:=ho;obtain⟨ta,pa,ra⟩:=ha;obtain⟨tb,pb,rb⟩:=hb;exact⟨_,EJ hr pa pb hs,λZ U U' h H Q R S w=>yR ra rb R S w λZ2 x y x' y' h2 H2 _ R2 q1 q2 _ w2=>hg Z2 h2 H2 x y x' y' Q R2 q1 q2 w2⟩
theorem HU{op:CmpOp}{g:AV->AV->M AV}(ho:bR X T E (compareOp op) g)(ha:QE X T E a ma)(hb:QE X T E b mb)(hm:behindInMarks op b=false):QE X T E (.Compare a [op] [b] pos) (λU=>pB g (ma U) (mb U)):=by obtain⟨r,hr,hg⟩:=ho;obtain⟨ta,pa,ra⟩:=ha;obtain⟨tb,pb,rb⟩:=hb;exact⟨_,EC hr pa pb hm,λZ U U' h H Q R S w=>yR ra rb R S w λZ2 x y x' y' h2 H2 _ R2 q1 q2 _ w2=>hg Z2 h2 H2 x y x' y' Q R2 q1 q2 w2⟩
theorem IU{op:PySem.UnaryOp}{g:AV->M AV}(ho:Ee X T E (unaryOp op) g)(ha:QE X T E a ma):QE X T E (.UnaryOp op a pos) (λU=>(ma U).bind g):=by obtain⟨r,hr,hg⟩:=ho;obtain⟨ta,pa,ra⟩:=ha;exact⟨_,EW hr pa,λZ U U' h H Q R S w=>ra Z U U' h H _ R S (W.bind w λZ1 x x' h1 H1 e1 R1 q1 w1=>hg Z1 h1 H1 x x' Q R1 q1 w1)⟩
theorem vo(hK:X.K=T.K){γ δ:Type}{Rq:Rl γ δ}{Z:List Addr}{h:AH}{H:Hp}{x:AV}{x':V}{k:Bool->M γ}{Q:δ->Hp->Prop}(R:aM T Z h H)(r:aF T Z H x x')(w:W T Rq ((bF x).bind k h) Z H Q E) :
  ∃d,uC X.K x' H d/\W T Rq (k d h) Z H Q E:=by
 unfold M.bind bF at w;cases e:yQ h x with
 |none=>rw[e]at w;exact w.elim|some d=>rw[e]at w;exact⟨d,Qj hK R r e,w⟩
theorem HX(hc:QT X T E c mt)(ha:QE X T E a ma)(hb:QE X T E b mb):QE X T E (.IfExp c a b pos) (λU=>iu (mt U) (ma U) (mb U)):=by
 obtain⟨tc,pc,rc⟩:=hc;obtain⟨ta,pa,ra⟩:=ha;obtain⟨tb,pb,rb⟩:=hb;refine⟨_,EI pc pa pb,λZ U U' h H Q R S w=>rc Z U U' h H _ R S (W.bind w λZ1 d d' h1 H1 e1 R1 q1 w1=>?_)⟩;have q1':d=d':=q1;subst q1';cases d with
 |true=>exact ra Z1 U U' h1 H1 Q R1 (S.ext e1) w1|false=>exact rb Z1 U U' h1 H1 Q R1 (S.ext e1) w1
def QD(K:W.Frag)(ta tb:TE):TE:=λU H Q=>ta U H λx H1=>∃c,uC K x H1 c/\if c=true then tb U H1 Q else Q x H1
def RC(K:W.Frag)(ta tb:TE):TE:=λU H Q=>ta U H λx H1=>∃c,uC K x H1 c/\if c=true then Q x H1 else tb U H1 Q
def QZ(K:W.Frag)(ta:TE):TE:=λU H Q=>ta U H λx H1=>∃c,uC K x H1 c/\Q (.bl (!c)) H1
variable {ta tb:TE}{rest:List Expr}
theorem DW(ha:PE X a ta)(hb:PE X (.BoolOp .And (b::rest) pos) tb):PE X (.BoolOp .And (a::b::rest) pos) (QD X.K ta tb):=by
 intro pins s U H Q I h;refine BoolOp_and (aI (ha pins s U H _ I h) λv s1 ⟨x,H1,I1,r1,c,ht,q1⟩=>?_);refine aI (qo pins s1 U H1 x v (λd H2=>d=c/\H2=H1) I1 r1 ⟨c,ht,rfl,rfl⟩) λd s2 ⟨H2,I2,e1,e2⟩=>?_;subst e1;subst e2;cases d with
 |true=>exact hb pins s2 U H2 Q I2 q1|false=>exact⟨x,H2,I2,r1,q1⟩
theorem ES(ha:PE X a ta)(hb:PE X (.BoolOp .Or (b::rest) pos) tb):PE X (.BoolOp .Or (a::b::rest) pos) (RC X.K ta tb):=by
 intro pins s U H Q I h;refine BoolOp_or (aI (ha pins s U H _ I h) λv s1 ⟨x,H1,I1,r1,c,ht,q1⟩=>?_);refine aI (qo pins s1 U H1 x v (λd H2=>d=c/\H2=H1) I1 r1 ⟨c,ht,rfl,rfl⟩) λd s2 ⟨H2,I2,e1,e2⟩=>?_;subst e1;subst e2;cases d with
 |false=>exact hb pins s2 U H2 Q I2 q1|true=>exact⟨x,H2,I2,r1,q1⟩
theorem EN(ha:PE X a ta):PE X (.UnaryOp .Not a pos) (QZ X.K ta):=by intro pins s U H Q I h;refine UnaryOp_ (aI (ha pins s U H _ I h) λv s1 ⟨x,H1,I1,r1,c,ht,q1⟩=>?_);refine not_of (aI (qo pins s1 U H1 x v (λd H2=>d=c/\H2=H1) I1 r1 ⟨c,ht,rfl,rfl⟩) λd s2 ⟨H2,I2,e1,e2⟩=>?_);subst e1;subst e2;exact⟨.bl (!d),H2,I2,rfl,q1⟩
theorem Lm{op:PySem.BoolOp}(ha:QE X T E a ma):QE X T E (.BoolOp op [a] pos) ma:=let ⟨t,p,r⟩:=ha;⟨t,EO p,r⟩
theorem HK(hK:X.K=T.K)(ha:QE X T E a ma)(hb:QE X T E (.BoolOp .And (b::rest) pos) mb):QE X T E (.BoolOp .And (a::b::rest) pos) (λU=>Ek (ma U) (mb U)):=by
 obtain⟨ta,pa,ra⟩:=ha;obtain⟨tb,pb,rb⟩:=hb;refine⟨_,DW pa pb,λZ U U' h H Q R S w=>ra Z U U' h H _ R S (W.bind w λZ1 x x' h1 H1 e1 R1 q1 w1=>?_)⟩;obtain⟨d,td,w2⟩:=vo hK R1 q1 w1;refine⟨d,td,?_⟩;cases d with
 |true=>exact rb Z1 U U' h1 H1 Q R1 (S.ext e1) w2|false=>exact W.here w2 R1 q1
theorem IK(hK:X.K=T.K)(ha:QE X T E a ma)(hb:QE X T E (.BoolOp .Or (b::rest) pos) mb):QE X T E (.BoolOp .Or (a::b::rest) pos) (λU=>Kv (ma U) (mb U)):=by
 obtain⟨ta,pa,ra⟩:=ha;obtain⟨tb,pb,rb⟩:=hb;refine⟨_,ES pa pb,λZ U U' h H Q R S w=>ra Z U U' h H _ R S (W.bind w λZ1 x x' h1 H1 e1 R1 q1 w1=>?_)⟩;obtain⟨d,td,w2⟩:=vo hK R1 q1 w1;refine⟨d,td,?_⟩;cases d with
 |false=>exact rb Z1 U U' h1 H1 Q R1 (S.ext e1) w2|true=>exact W.here w2 R1 q1
theorem II(hK:X.K=T.K)(ha:QE X T E a ma):QE X T E (.UnaryOp .Not a pos) (λU=>(ma U).bind λx=>(bF x).bind λb=>M.ret (.bl (!b))):=by obtain⟨ta,pa,ra⟩:=ha;refine⟨_,EN pa,λZ U U' h H Q R S w=>ra Z U U' h H _ R S (W.bind w λZ1 x x' h1 H1 e1 R1 q1 w1=>?_)⟩;obtain⟨d,td,w2⟩:=vo hK R1 q1 w1;exact⟨d,td,W.here w2 R1 (.bl _)⟩
theorem Gj{r r':R2}{g g':AV->AV->M AV}{tc:TE}
  (hg:∀Z h H x y x' y' Q,aM T Z h H->aF T Z H x x'->aF T Z H y y'->W T (aF T) (g x y h) Z H Q E->r x' y' H Q)
  (hg':∀Z h H x y x' y' Q,aM T Z h H->aF T Z H x x'->aF T Z H y y'->W T (aF T) (g' x y h) Z H Q E->r' x' y' H Q)
  (ra:∀Z U U' h H Q,aM T Z h H->aV T Z H U U'->W T (aF T) (ma U h) Z H Q E->ta U' H Q) (rb:∀Z U U' h H Q,aM T Z h H->aV T Z H U U'->W T (aF T) (mb U h) Z H Q E->tb U' H Q)
  (rc:∀Z U U' h H Q,aM T Z h H->aV T Z H U U'->W T (aF T) (mc U h) Z H Q E->tc U' H Q) {Z:List Addr} {U:aA} {U':L2.St} {h:AH} {H:Hp} {Q:VK} (R:aM T Z h H) (S:aV T Z H U U')
  (w:W T (aF T) (wQ g g' (ma U) (mb U) (mc U) h) Z H Q E):Dd r r' ta tb tc U' H Q:=by
 refine yR ra rb R S w λZ2 x y x' y' h2 H2 _ R2 q1 q2 S2 w2=>?_;refine hg Z2 h2 H2 x y x' y' _ R2 q1 q2 (W.bind w2 λZ3 z z' h3 H3 e3 R3 q3 w3=>?_);have w4:W T (aF T) (match fg z with
  |some true=>((mc U).bind λw=>g' y w) h3
  |some false=>Res.ok (.bl false) h3
  |none=>.bad) Z3 H3 Q E:=w3
 cases z with
 |bl d=>
  cases q3;refine⟨d,rfl,?_⟩;cases d with
  |true=>exact rc Z3 U U' h3 H3 _ R3 (S2.ext e3) (W.bind (k:=λw=>g' y w) w4 λZ4 u u' h4 H4 e4 R4 q4 w5=>hg' Z4 h4 H4 y u y' u' Q R4 ((q2.ext e3).ext e4) q4 w5)|false=>exact W.here w4 R3 (.bl _)
 |_=>exact w4.elim
theorem HQ{op op':CmpOp}{g g':AV->AV->M AV}(ho:bR X T E (compareOp op) g)(ho':bR X T E (compareOp op') g')(ha:QE X T E a ma)(hb:QE X T E b mb)(hc:QE X T E c mc)
  (hm:lastMarks [op,op'] [b,c]=false):QE X T E (.Compare a [op,op'] [b,c] pos) (λU=>wQ g g' (ma U) (mb U) (mc U)):=by
 obtain⟨r,hr,hg⟩:=ho;obtain⟨r',hr',hg'⟩:=ho';obtain⟨ta,pa,ra⟩:=ha;obtain⟨tb,pb,rb⟩:=hb;obtain⟨tc,pc,rc⟩:=hc;exact⟨_,EB hr hr' pa pb pc hm,λZ U U' h H Q R S w=>Gj hg hg' ra rb rc R S w⟩
theorem iU(hK:X.K=T.K)(ha:QE X T E a ma)(he:ai a=true):QT X T E a (λU=>(ma U).bind bF):=by
 obtain⟨ta,pa,ra⟩:=ha;refine⟨_,GX pa (FW he),λZ U U' h H Q R S w=>ra Z U U' h H _ R S (W.bind w λZ1 x x' h1 H1 e1 R1 q1 w1=>?_)⟩;unfold bF at w1;cases e:yQ h1 x with
 |none=>rw[e]at w1;exact w1.elim|some d=>rw[e]at w1;exact⟨d,Qj hK R1 q1 e,w1.here R1 rfl⟩
theorem Fw{Z:List Addr}{h:AH}{H:Hp}{z:AV}{z':V}{Q:Bool->Hp->Prop}(R:aM T Z h H)(r:aF T Z H z z')(w:W T RB (match fg z with
  |some d=>Res.ok d h
  |none=>.bad) Z H Q E):∃k,z' = .bl k/\Q k H:=by
 cases z with
 |bl d=>cases r;exact⟨d,rfl,W.here w R rfl⟩|_=>exact w.elim
def gf(z:AV):M Bool:=λh=>match fg z with
 |some d=>.ok d h
 |none=>.bad
theorem LX{op:CmpOp}{g:AV->AV->M AV}(ho:bR X T E (compareOp op) g)(ha:QE X T E a ma)(hb:QE X T E b mb)(hm:behindInMarks op b=false):QT X T E (.Compare a [op] [b] pos) (λU=>(pB g (ma U) (mb U)).bind gf):=by obtain⟨r,hr,hg⟩:=ho;obtain⟨ta,pa,ra⟩:=ha;obtain⟨tb,pb,rb⟩:=hb;refine⟨_,GV hr pa pb hm,λZ U U' h H Q R S w=>?_⟩;have w':W T (aF T) (pB g (ma U) (mb U) h) Z H (λx H'=>∃k,x = .bl k/\Q k H') E:=W.bind w λZ1 z z' h1 H1 e1 R1 q1 w1=>Fw R1 q1 w1;exact yR ra rb R S w' λZ2 x y x' y' h2 H2 _ R2 q1 q2 _ w2=>hg Z2 h2 H2 x y x' y' _ R2 q1 q2 w2
theorem LW{op op':CmpOp}{g g':AV->AV->M AV}(ho:bR X T E (compareOp op) g)(ho':bR X T E (compareOp op') g')(ha:QE X T E a ma)(hb:QE X T E b mb)(hc:QE X T E c mc)
  (hm:lastMarks [op,op'] [b,c]=false):QT X T E (.Compare a [op,op'] [b,c] pos) (λU=>(wQ g g' (ma U) (mb U) (mc U)).bind gf):=by
 obtain⟨r,hr,hg⟩:=ho;obtain⟨r',hr',hg'⟩:=ho';obtain⟨ta,pa,ra⟩:=ha;obtain⟨tb,pb,rb⟩:=hb;obtain⟨tc,pc,rc⟩:=hc;refine⟨_,GU hr hr' pa pb pc hm,λZ U U' h H Q R S w=>?_⟩;have w':W T (aF T) (wQ g g' (ma U) (mb U) (mc U) h) Z H (λx H'=>∃k,x = .bl k/\Q k H') E:=W.bind w λZ1 z z' h1 H1 e1 R1 q1 w1=>Fw R1 q1 w1;exact Gj hg hg' ra rb rc R S w'
theorem LZ(ha:QT X T E a mt):QT X T E (.UnaryOp .Not a pos) (λU=>(mt U).bind λb=>M.ret (!b)):=by obtain⟨ta,pa,ra⟩:=ha;refine⟨_,GW pa,λZ U U' h H Q R S w=>ra Z U U' h H _ R S (W.bind w λZ1 x x' h1 H1 e1 R1 q1 w1=>?_)⟩;have q1':x=x':=q1;subst q1';exact W.here w1 R1 rfl
theorem MB(ha:QT X T E a mt):QW X T E (.BoolOp .And [a] pos) mt:=let ⟨t,p,r⟩:=ha;⟨t,HC p,r⟩
theorem MD(ha:QT X T E a mt):QW X T E (.BoolOp .Or [a] pos) mt:=let ⟨t,p,r⟩:=ha;⟨t,HE p,r⟩
theorem MA(ha:QT X T E a mt)(hb:QW X T E (.BoolOp .And (b::rest) pos) mu):QW X T E (.BoolOp .And (a::b::rest) pos) (λU=>Ej (mt U) (mu U)):=by
 obtain⟨ta,pa,ra⟩:=ha;obtain⟨tb,pb,rb⟩:=hb;refine⟨_,HB pa pb,λZ U U' h H Q R S w=>ra Z U U' h H _ R S (W.bind w λZ1 x x' h1 H1 e1 R1 q1 w1=>?_)⟩;have q1':x=x':=q1;subst q1';cases x with
 |true=>exact rb Z1 U U' h1 H1 Q R1 (S.ext e1) w1|false=>exact W.here w1 R1 rfl
theorem MC(ha:QT X T E a mt)(hb:QW X T E (.BoolOp .Or (b::rest) pos) mu):QW X T E (.BoolOp .Or (a::b::rest) pos) (λU=>Ku (mt U) (mu U)):=by
 obtain⟨ta,pa,ra⟩:=ha;obtain⟨tb,pb,rb⟩:=hb;refine⟨_,HD pa pb,λZ U U' h H Q R S w=>ra Z U U' h H _ R S (W.bind w λZ1 x x' h1 H1 e1 R1 q1 w1=>?_)⟩;have q1':x=x':=q1;subst q1';cases x with
 |true=>exact W.here w1 R1 rfl|false=>exact rb Z1 U U' h1 H1 Q R1 (S.ext e1) w1
theorem HG:QA X T E [] (λ_=>M.ret []):=⟨_,pC,λZ _ _ h H Q R _ w=>W.here w R .nil⟩
theorem HF(ha:QE X T E e m)(hr:QA X T E es mr)(hs:aP e=true):QA X T E (e::es) (λU=>Gz (m U) (mr U)):=by obtain⟨ta,pa,ra⟩:=ha;obtain⟨tr,pr,rr⟩:=hr;refine⟨_,jL pa pr (bX hs),λZ U U' h H Q R S w=>ra Z U U' h H _ R S (W.bind w λZ1 x x' h1 H1 e1 R1 q1 w1=>?_)⟩;exact rr Z1 U U' h1 H1 _ R1 (S.ext e1) (W.bind w1 λZ2 xs aX h2 H2 e2 R2 q2 w2=>W.here w2 R2 (.cons (q1.ext e2) q2))
theorem GB{Z:List Addr}{p:Addr}{H:Hp}{O:HO}(hp:H p=none):Ext Z H (Z++[p]) (aG H p O):=⟨λk z e=>by have hl:=(List.getElem?_eq_some_iff.mp e).1;rw[List.getElem?_append_left hl];exact e,(Ext.fA (Z:=Z) hp).tup,(Ext.fA (Z:=Z) hp).bC⟩
theorem oY{Z:List Addr}{h:AH}{H:Hp}{xs:List AV}{aX:List V}{Q:VK}{p:Addr}(R:aM T Z h H)(r:aH T Z H xs aX)(hp:H p=none)(w:W T (aF T) (eB xs h) Z H Q E):Q (.ref p) (aG H p (.lst aX)):=by obtain⟨R',ex⟩:=R.alloc (o:=.lst true xs) (O:=.lst aX) hp ⟨_,cQ,r.ext (GB hp)⟩;exact W.ok w ex R' (.ref (by rw[<- R.len];simp))
theorem jg{Z:List Addr}{h:AH}{H:Hp}{xs:List AV}{aX:List V}{Q:VK}{p:Addr}(R:aM T Z h H)(r:aH T Z H xs aX)(hp:H p=none)(w:W T (aF T) (.ok (.tup xs) h) Z H Q E):Q (.ref p) (aG H p (.tup aX)):=
 W.ok w (.fA hp) (R.keep hp) (.tup (.of cQ) (r.ext (.fA hp)))
theorem IT{k:Nat}(h:QA X T E es mr):QE X T E (.Tuple es k pos) (λU=>Dn (mr U)):=by obtain⟨tr,pr,rr⟩:=h;refine⟨_,EV pr,λZ U U' h H Q R S w=>rr Z U U' h H _ R S (W.bind w λZ1 xs aX h1 H1 e1 R1 q1 w1=>?_)⟩;obtain⟨hz,w1⟩:=uR w1;exact⟨by rw[<- q1.length];exact hz,λp hp=>jg R1 q1 hp w1⟩
theorem IC(h:QA X T E es mr):QE X T E (.List es pos) (λU=>oX (mr U)):=by obtain⟨tr,pr,rr⟩:=h;refine⟨_,EK pr,λZ U U' h H Q R S w=>rr Z U U' h H _ R S (W.bind w λZ1 xs aX h1 H1 e1 R1 q1 w1=>?_)⟩;obtain⟨hz,w1⟩:=uR w1;exact⟨by rw[<- q1.length];exact hz,λp hp=>oY R1 q1 hp w1⟩
def kK(T:Tab)(g:List AV->M AV):Sp:=λvs H Q E=>∃Z h args,aM T Z h H/\aH T Z H args vs/\W T (aF T) (g args h) Z H Q E
structure Fn(X:Cx)(T:Tab)(E:XK)(x:Str)(g:List AV->M AV):Prop where
 ex:∃(k:Nat) (f:Addr) (fd:FuncData) (ps:List Str),dD X.prog X.w X.K X.mg X.base (cD X.prog X.w) k f fd ps (kK T g)/\bU (k+1) X.A/\X.mg x=some (.ref f)/\W.keepIn X.K (.ref f)=true/\Binds X.K fd ps []/\mR (cD X.prog X.w) X E
theorem HP{x:Str} {p:Pos} {g:List AV->M AV} (F:Fn X T E x g) (hg:Gl X x) (hd:(x==("__debug__":Str))=false):QE X T E (.Call (.Name x p) [] [] pos) (λ_=>g []):=by obtain⟨k,f,fd,ps,F,hr,hm,hk,hb,hx⟩:=F.ex;exact⟨_,DY F (hr.mono (Nat.le_succ _)) hg hm hk hb .nil hx hd,λZ U U' h H Q R S w=>⟨Z,h,[],R,.nil,w⟩⟩
theorem HN{x:Str} {p:Pos} {g:List AV->M AV} (F:Fn X T E x g) (hg:Gl X x) (ha:QA X T E (e::es) mr) (hs:(e::es).all aP=true) (hd:(x==("__debug__":Str))=false):QE X T E (.Call (.Name x p) (e::es) [] pos) (λU=>(mr U).bind g):=by obtain⟨k,f,fd,ps,F,hr,hm,hk,hb,hx⟩:=F.ex;obtain⟨tr,pr,rr⟩:=ha;rw[List.all_cons,Bool.and_eq_true]at hs;refine⟨_,DX F (hr.mono (Nat.le_succ _)) hg hm hk hb .nil hx pr hd (bX hs.1) (kJ hs.2),λZ U U' h H Q R S w=>rr Z U U' h H _ R S (W.bind w λZ1 xs aX h1 H1 e1 R1 q1 w1=>?_)⟩;rw[List.append_nil];exact⟨Z1,h1,xs,R1,q1,w1⟩
end
inductive Out where
 |nx (U:aA)|ret (v:AV)|brk (U:aA)|cnt (U:aA)
inductive dJ where
 |nx (U:L2.St)|ret (v:V)|brk (U:L2.St)|cnt (U:L2.St)
def RO(T:Tab):Rl Out dJ:=λZ H a b=>match a,b with
 |.nx U,.nx U'=>aV T Z H U U'
 |.ret v,.ret v'=>aF T Z H v v'
 |.brk U,.brk U'=>aV T Z H U U'
 |.cnt U,.cnt U'=>aV T Z H U U'
 |_,_=>False
def dS(D:Ends):dJ->Hp->Prop
 |.nx U=>D.nx U
 |.ret v=>D.rt v
 |.brk U=>D.bk U
 |.cnt U=>D.ct U
def QS(X:Cx)(T:Tab)(E:XK)(st:Stmt)(m:aA->M Out):Prop:=
 ∃t,PS X st t/\∀Z U U' h H D,aM T Z h H->aV T Z H U U'->W T (RO T) (m U h) Z H (dS D) E->t D U' H
def pZ(X:Cx)(T:Tab)(E:XK)(st:List Stmt)(m:aA->M Out):Prop:=
 ∃t,jA X st t/\∀Z U U' h H D,aM T Z h H->aV T Z H U U'->W T (RO T) (m U h) Z H (dS D) E->t D U' H
def QG(X:Cx)(T:Tab)(E:XK)(tg:Expr)(g:AV->aA->M aA):Prop:=
 ∃t,PG X tg t/\∀Z v v' U U' h H Q,aM T Z h H->aV T Z H U U'->aF T Z H v v'->W T (aV T) (g v U h) Z H Q E->t v' U' H Q
def wK(X:Cx)(T:Tab)(E:XK)(dc:List Expr)(g:List AV->aA->M aA):Prop:=
 ∃t,yZ X dc t/\∀Z vs vs' U U' h H Q,aM T Z h H->aV T Z H U U'->aH T Z H vs vs'->W T (aV T) (g vs U h) Z H Q E->t vs' U' H Q
def Pf(m:M Out)(k:aA->M Out):M Out:=m.bind λo=>match o with
 |.nx U=>k U
 |.ret v=>M.ret (.ret v)
 |.brk U=>M.ret (.brk U)
 |.cnt U=>M.ret (.cnt U)
section
variable {X:Cx}{T:Tab}{E:XK}{a b c e tg:Expr}{es:List Expr}{ma mb mc m:aA->M AV}{mt:aA->M Bool}{ms mk:aA->M Out}{pos:Pos}{st:Stmt}{sts rest:List Stmt}{g:AV->aA->M aA}{gs:List AV->aA->M aA}
theorem cV:QS X T E st (λ_=>M.bad):=⟨_,GK,λ_ _ _ _ _ _ _ _ w=>w⟩
theorem LV:pZ X T E [] (λU=>M.ret (.nx U)):=⟨_,jr,λZ U U' h H D R S w=>W.here (b:=dJ.nx U') w R S⟩
theorem LU(h1:QS X T E st ms)(h2:pZ X T E rest mk):pZ X T E (st::rest) (λU=>Pf (ms U) mk):=by
 obtain⟨t,p,r⟩:=h1;obtain⟨u,q,s⟩:=h2;refine⟨_,jq p q,λZ U U' h H D R S w=>r Z U U' h H _ R S (W.bind w λZ1 o o' h1 H1 e1 R1 q1 w1=>?_)⟩;cases o with
 |nx U1=>cases o' with
  |nx U1'=>exact s Z1 U1 U1' h1 H1 D R1 q1 w1|_=>exact q1.elim
 |ret v=>cases o' with
  |ret v'=>exact(W.here (Q:=dS D) (b:=dJ.ret v') w1 R1 q1:D.rt v' H1)|_=>exact q1.elim
 |brk U1=>cases o' with
  |brk U1'=>exact(W.here (Q:=dS D) (b:=dJ.brk U1') w1 R1 q1:D.bk U1' H1)|_=>exact q1.elim
 |cnt U1=>cases o' with
  |cnt U1'=>exact(W.here (Q:=dS D) (b:=dJ.cnt U1') w1 R1 q1:D.ct U1' H1)|_=>exact q1.elim
theorem Nr:QS X T E (.Pass pos) (λU=>M.ret (.nx U)):=⟨_,GL,λZ U U' h H D R S w=>W.here (b:=dJ.nx U') w R S⟩
theorem LJ:QS X T E (.Break pos) (λU=>M.ret (.brk U)):=⟨_,GD,λZ U U' h H D R S w=>W.here (b:=dJ.brk U') w R S⟩
theorem LK:QS X T E (.Continue pos) (λU=>M.ret (.cnt U)):=⟨_,GF,λZ U U' h H D R S w=>W.here (b:=dJ.cnt U') w R S⟩
theorem LL(he:QE X T E e m)(hs:aP e=true)(hlc:jH e=false):QS X T E (.Expr e pos) (λU=>(m U).bind λ_=>M.ret (.nx U)):=by obtain⟨t,p,r⟩:=he;exact⟨_,Lg p (px hs hlc),λZ U U' h H D R S w=>r Z U U' h H _ R S (W.bind w λZ1 x x' h1 H1 e1 R1 q1 w1=>W.here (b:=dJ.nx U') w1 R1 (S.ext e1))⟩
theorem Nt(he:QE X T E e m):QS X T E (.Return (some e) pos) (λU=>(m U).bind λv=>M.ret (.ret v)):=by obtain⟨t,p,r⟩:=he;exact⟨_,Lh p,λZ U U' h H D R S w=>r Z U U' h H _ R S (W.bind w λZ1 x x' h1 H1 e1 R1 q1 w1=>W.here (b:=dJ.ret x') w1 R1 q1)⟩
theorem Nu:QS X T E (.Return none pos) (λ_=>M.ret (.ret .aE)):=⟨_,GO,λZ U U' h H D R S w=>W.here (b:=dJ.ret .aE) w R .aE⟩
theorem LP(hc:QT X T E c mt)(ha:pZ X T E sts ms)(hb:pZ X T E rest mk):QS X T E (.If c sts rest pos) (λU=>iu (mt U) (ms U) (mk U)):=by
 obtain⟨tc,pc,rc⟩:=hc;obtain⟨ta,pa,ra⟩:=ha;obtain⟨tb,pb,rb⟩:=hb;refine⟨_,GJ pc pa pb,λZ U U' h H D R S w=>rc Z U U' h H _ R S (W.bind w λZ1 d d' h1 H1 e1 R1 q1 w1=>?_)⟩;have q1':d=d':=q1;subst q1';cases d with
 |true=>exact ra Z1 U U' h1 H1 D R1 (S.ext e1) w1|false=>exact rb Z1 U U' h1 H1 D R1 (S.ext e1) w1
theorem pE:QG X T E tg (λ_ _=>M.bad):=⟨λ_ _ _ _=>False,λ_ _ _ _ _ _ _ _ _ h=>h.elim,λ_ _ _ _ _ _ _ _ _ _ _ w=>w⟩
theorem ju{i:Nat}{x:Str}(hN:X.N.Nodup)(hi:X.N[i]?=some x)(hx:oE X.env.scope x)(hf:X.fn x=true\/X.env.scope.names.lookup x=some .local):QG X T E (.Name x pos) (λv U=>M.ret (U.set i (some v))):=
 ⟨_,EZ hN hi hx hf,λZ v v' U U' h H Q R S r w=>W.here w R (S.set r i)⟩
def vq(vs:List AV)(U:aA):M aA:=match vs with
 |[]=>M.ret U
 |_=>M.bad
def vp(g:AV->aA->M aA)(gs:List AV->aA->M aA)(vs:List AV)(U:aA):M aA:=match vs with
 |v::r=>(g v U).bind λU1=>gs r U1
 |[]=>M.bad
def XT(n:Nat)(gs:List AV->aA->M aA)(v:AV)(U:aA):M aA:=λh=>match v with
 |.tup xs=>if xs.length=n then gs xs U h else .bad
 |.ref k=>match h.ob k with
  |some (.lst _ xs)=>if xs.length=n then gs xs U h else .bad
  |_=>.bad
 |_=>.bad
theorem Ls:wK X T E [] vq:=⟨_,FE,λZ vs vs' U U' h H Q R S r w=>by
 cases r with
 |nil=>exact⟨rfl,W.here w R S⟩|cons _ _=>exact w.elim⟩
def kL:Expr->Bool
 |.Name ..=>true | .Tuple ..=>true | .Subscript ..=>true | .Attribute ..=>true
 |_=>false
theorem Di{t:Expr}{ts:List Expr}{env:Env}(h:kL t=true):assignEach (t::ts) env=(false,assign t env)::assignEach ts env:=by cases t<;>first|rfl|cases h
theorem Lr(h1:QG X T E tg g)(h2:wK X T E es gs)(ht:kL tg=true):wK X T E (tg::es) (vp g gs):=by
 obtain⟨t,p,r⟩:=h1;obtain⟨u,q,s⟩:=h2;refine⟨_,FD p q (by rw[Di ht];rfl),λZ vs vs' U U' h H Q R S rv w=>?_⟩;cases rv with
 |nil=>exact w.elim|cons r1 rs=>exact⟨_,_,rfl,r Z _ _ U U' h H _ R S r1 (W.bind w λZ1 U1 U1' h1 H1 e1 R1 q1 w1=>s Z1 _ _ U1 U1' h1 H1 Q R1 q1 (rs.ext e1) w1)⟩
theorem Vy{ts:List Expr}{env:Env}(h:ts.all kL=true):(assignEach ts env).length=ts.length/\(assignEach ts env).findIdx? (·.1)=none:=by
 induction ts with
 |nil=>exact⟨rfl,rfl⟩|cons t ts ih=>rw[List.all_cons,Bool.and_eq_true]at h;rw[Di h.1];obtain⟨h1,h2⟩:=ih h.2;refine⟨by rw[List.length_cons,List.length_cons,h1],?_⟩;rw[List.findIdx?_cons,h2];rfl
end
section
variable {prog:Program}{w:World}{A:Around}{E:Value->Shared->Prop}{s:Shared}
theorem Hn{it l:Addr}{items:Array Value}(hne:l≠it):∀(n i:Nat) (s:Shared) (Q:List Value->Shared->Prop),s.heap.IsListIter it l i->s.heap.IsList l items->i+n<=items.size ->
  (∀h',h'.IsListIter it l (i+n)->Heap.SameBut it s.heap h'->Q ((items.toList.drop i).take n) { s with heap:=h' })->wpAny (model prog w) A (draw (.ref it) n) Q E s
 |0,i,s,Q,hit,_,_,hQ=>by show wpAny _ _ (pure []) Q E s;exact wpAny_pure (by simpa using hQ s.heap hit (Heap.SameBut.refl ..))
 |n+1,i,s,Q,hit,ht,hle,hQ=>by
  have hlt:i<items.size:=by omega
  show wpAny _ _ (pyNext (.ref it)>>=_) Q E s;refine wpAny_bind (wpAny_pyNext_list_item hit ht (x:=items[i]) (by simp[hlt]) λh₁ hit₁ hs₁=>?_);refine wpAny_bind (wpAny_holding (Hn hne n (i+1) _ _ hit₁ (ht.extBut hs₁.extBut hne) (by omega) λh₂ hit₂ hs₂=>wpAny_pure ?_));have hd:items.toList.drop i=items[i]::items.toList.drop (i+1):=by simp[List.drop_eq_getElem_cons,hlt]
  have:=hQ h₂ (by rw[show i+(n+1)=i+1+n by omega];exact hit₂) (hs₁.trans hs₂);rw[hd,List.take_succ_cons]at this;exact this
theorem SW{t:Addr}{items:Array Value}{Q:List Value->Shared->Prop}(hh:A.handled=none)(ht:s.heap.IsList t items)
  (hQ:∀h',Heap.ExtBut s.heap.objs.size s.heap h'->Q items.toList { s with heap:=h' }):wpAny (model prog w) A (unpackItems (.ref t) items.size none) Q E s:=by
 have hlt:t≠s.heap.objs.size:=by obtain⟨o,ho,_⟩:=ht;exact Nat.ne_of_lt (Heap.lt_size ho)
 unfold unpackItems;refine wpAny_bind ?_
 .unfold notIterableAtAll;refine wpAny_bind (wpAny_specialOf ht.typeIs PySem.slot_list_iter.lookup ?_);refine wpAny_pure ?_;simp only[Bool.false_eq_true,if_false];refine wpAny_bind (wpAny_holding (wpAny_pyIter_list ht ?_));have ht0:(s.heap.push { cls:=.type "list_iterator",data:=.fields #[.ref t,.int 0 0] }).IsList t items:=ht.at λo e=>Heap.get?_push_of_some _ e;refine wpAny_bind (wpAny_holding (Hn hlt items.size 0 _ _ ⟨_,Heap.get?_push_size _ rfl,rfl,rfl⟩ ht0 (by omega) λh₁ hit₁ hs₁=>?_));have hall:List.take items.size (List.drop 0 items.toList)=items.toList:=by rw[List.drop_zero];exact List.take_of_length_le (by simp)
  rw[hall];rw[if_neg (by simp)];have ht₁:h₁.IsList t items:=ht0.extBut hs₁.extBut hlt;refine wpAny_bind (wpAny_holding (wpAny_pyNext_list_end hh hit₁ ht₁ (by simp) λh₂ he₂=>?_));simp only[Option.isSome_none,Bool.false_eq_true,if_false];refine wpAny_pure (hQ h₂ λb o hb e=>he₂ b o hb (hs₁.extBut b o hb (Heap.get?_push_of_some _ e)))
theorem Ry{env:Env}{elts:List Expr}{x1}{pos:Pos}{t:Addr}{items:Array Value}{Q:Unit->Shared->Prop}(hh:A.handled=none)(ht:s.heap.IsList t items)
  (hn:(assignEach elts env).length=items.size) (hstar:(assignEach elts env).findIdx? (·.1)=none)
  (h:∀h',Heap.ExtBut s.heap.objs.size s.heap h'->wpAny (model prog w) A (assignInOrder ((assignEach elts env).map (·.2)) items.toList) Q E { s with heap:=h' }) :
  wpAny (model prog w) A (assign (.Tuple elts x1 pos) env (.ref t)) Q E s:=by
 rw[assign_Tuple];refine wpAny_bind (wpAny_standAt ?_);unfold unpack;rw[hn,hstar];exact wpAny_bind (wpAny_holding (SW hh ht h))
end
section
variable {X:Cx}{T:Tab}{E:XK}{a b c e tg:Expr}{es:List Expr}{ma mb mc m:aA->M AV}{mt:aA->M Bool}{ms mk:aA->M Out}{pos:Pos}{st:Stmt}{sts rest:List Stmt}{g:AV->aA->M aA}{gs:List AV->aA->M aA}
def Xu(K:W.Frag)(n:Nat)(t:uB):TG:=λv U H Q=>∃a xs,v = .ref a/\(bG K H a xs\/bV K H a xs)/\xs.length=n/\t xs U H Q
theorem FA{k:Nat}{t:uB}(hc:X.calm=true)(h:yZ X es t)(hs:es.all kL=true):PG X (.Tuple es k pos) (Xu X.K es.length t):=by
 obtain⟨hn,hst⟩:=Vy (env:=X.env) hs;intro pins s U H v u Q I r hw;obtain⟨a,xs,e1,hq,hl,hw⟩:=hw;subst e1;cases r;rcases hq with hq|hq
 .obtain⟨its,rv,ht,hz⟩:=I.list hq;refine Ry (I.ok.hd hc) ht.isList (by simp[hn,<- hl,rv.length]) hst λh' hx=>?_;have I1:Inv X pins U H { s with heap:=h' }:=I.kept (t':=s.toks) λb o e=>hx b o (Nat.ne_of_lt (Heap.lt_size e)) e;exact h pins _ U H xs _ Q I1 (by simpa using rv) hw
 .obtain⟨its,rv,ht,hz⟩:=I.tuple hq;refine assign_Tuple_tuple (I.ok.hd hc) ht (by simp[hn,<- hl,rv.length]) hst λh' hx=>?_;have I1:Inv X pins U H { s with heap:=h' }:=I.kept (t':=s.toks) λb o e=>hx b o (Nat.ne_of_lt (Heap.lt_size e)) e;exact h pins _ U H xs _ Q I1 (by simpa using rv) hw
def uQ(n:Nat)(gs:List AV->aA->M aA)(v:AV)(U:aA):M aA:=λh=>match cM h v with
 |some xs=>if xs.length=n then gs xs U h else .bad
 |none=>.bad
theorem Lq(hK:X.K=T.K)(hc:X.calm=true){k:Nat}(h:wK X T E es gs)(hs:es.all kL=true):QG X T E (.Tuple es k pos) (uQ es.length gs):=by
 obtain⟨t,p,r⟩:=h;refine⟨_,FA hc p hs,λZ v v' U U' h H Q R S rv w=>?_⟩;unfold uQ at w;cases q:cM h v with
 |none=>rw[q]at w;exact w.elim|some xs=>
  rw[q]at w;by_cases hl:xs.length=es.length
  .simp only[if_pos hl]at w;obtain⟨p,ys,rfl,hq,hr⟩:=yM R rv q;exact⟨p,ys,rfl,by rw[hK];exact hq,by rw[<- hr.length];exact hl,r Z xs ys U U' h H Q R S hr w⟩
  .simp only[if_neg hl]at w;exact w.elim
def kX(o i v:AV):M Unit:=λh=>match o,i with
 |.ref n,.int k=>match h.ob n with
  |some (.lst true xs)=>match jI xs.length k with
   |some j=>.ok () (h.put n (.lst true (xs.set j v)))
   |none=>.bad
  |_=>.bad
 |_,_=>.bad
def rG(o i v:AV):M Unit:=λh=>match cX h o with
 |some kvs=>match o,dH i with
  |.ref n,some k=>if kvs.length<sizeLine then .ok () (h.put n (.aL (pD kvs k v))) else .bad
  |_,_=>.bad
 |none=>kX o i v h
theorem IV(hu:X.A.units+1<cLine)(ha:QE X T E a ma)(hb:QE X T E b mb)(hs:aP b=true):QG X T E (.Subscript a b pos) (λv U=>(ma U).bind λo=>(mb U).bind λi=>(rG o i v).bind λ_=>M.ret U):=by
 obtain⟨ta,pa,ra⟩:=ha;obtain⟨tb,pb,rb⟩:=hb;refine⟨_,FC pa pb (OL hu) (by intro v;cases b<;>first|rfl|cases hs),λZ v v' U U' h H Q R S rv w=>?_⟩;refine yR ra rb R S w λZ2 x y x' y' h2 H2 e2 R2 q1 q2 S2 w2=>?_;have rv2:=rv.ext e2;cases d:cX h2 x with
 |some kvs=>
  refine .inr ?_;obtain⟨n,a,us,rfl,q,o,rfl,g,r⟩:=rA R2 q1 d;cases k:dH y with
  |none=>simp only[M.bind,rG,d,k]at w2;exact w2.elim|some k'=>
   by_cases hz:kvs.length<sizeLine
   .simp only[M.bind,rG,d,k,if_pos hz]at w2;have ex:Ext Z2 H2 Z2 (aG H2 a (.dK (eS us k' v'))):=⟨λ_ _ z=>z,λb xs z=>by
     rw[aO (kY z g λw=>by cases w)];exact z,λb x u z=>by
     rw[aO (kY z g λw=>by cases w)];exact z⟩
    obtain⟨R3,e3⟩:=R2.write (o':=.aL (pD kvs k' v)) (O':=.dK (eS us k' v')) o rfl rfl q g (λ_ z=>by cases z) (λ_ _ z=>by cases z) (uv cQ ((Pa r rv2).ext ex));refine⟨a,_,rfl,?_,W.ok w2 e3 R3 (S2.ext e3)⟩;rw[mZ q2 k];exact yW.k g (by rw[<- Oz r];exact hz)
   .simp only[M.bind,rG,d,k,if_neg hz]at w2;exact w2.elim
 |none=>
 refine .inl ?_;have w2:W T (aV T) (((kX x y v).bind λ_=>M.ret U) h2) Z2 H2 Q E:=by
  have e:(rG x y v) h2=kX x y v h2:=by simp only[rG,d]
  simp only[M.bind,e]at w2 ⊢;exact w2
 cases x with
 |ref n=>
  cases y with
  |int k=>
   cases q2;cases q1 with
   |@ref _ p q=>
    cases o:h2.ob n with
    |none=>simp only[M.bind,kX,o]at w2;exact w2.elim|some u=>
     cases u with
     |lst mu xs=>
      cases mu with
      |true=>
       obtain⟨ys,g1,r1⟩:=R2.obj n _ p o q;cases j:jI xs.length k with
       |none=>simp only[M.bind,kX,o,j]at w2;exact w2.elim|some jj=>
        simp only[M.bind,kX,o,j]at w2;obtain⟨R3,e3⟩:=R2.write (o':=.lst true (xs.set jj v)) (O':=.lst (ys.set jj v')) o rfl rfl q g1 (λ_ z=>by cases z) (λ_ _ z=>by cases z) ⟨_,cQ,by
         have:Ext Z2 H2 Z2 (aG H2 p (.lst (ys.set jj v'))):=⟨λ_ _ z=>z,λb xs z=>by
          rw[aO (kY z g1 λw=>by cases w)];exact z,λb x u z=>by
          rw[aO (kY z g1 λw=>by cases w)];exact z⟩
         exact(aH.set rv2 jj r1).ext this⟩
        exact⟨p,ys,k,jj,rfl,rfl,g1,by rw[<- r1.length];exact j,W.ok w2 e3 R3 (S2.ext e3)⟩
      |false=>simp only[M.bind,kX,o]at w2;exact w2.elim
     |aL _=>simp only[M.bind,kX,o]at w2;exact w2.elim|bJ _=>simp only[M.bind,kX,o]at w2;exact w2.elim|ins _ _=>simp only[M.bind,kX,o]at w2;exact w2.elim|xo _=>simp only[M.bind,kX,o]at w2;exact w2.elim
  |_=>exact w2.elim
 |_=>exact w2.elim
theorem PZ{env:Env}{tg:Expr}(h:∀es k p,tg = .Tuple es k p->∀vs k2 p2,e ≠ .Tuple vs k2 p2)(h2:kL tg=true):swappedStores [tg] e env=pure none:=by
 cases tg with
 |Tuple es k p=>
  cases e with
  |Tuple vs k2 p2=>exact absurd rfl (h es k p rfl vs k2 p2)|_=>rfl
 |_=>first|cases h2;done|(cases e<;>rfl)
theorem LH(he:QE X T E e m)(hg:QG X T E tg g)(hs:aP e=true)(hlc:jH e=false)(ht:kL tg=true)(hw:swappedStores [tg] e X.env=pure none):QS X T E (.Assign [tg] e pos) (λU=>(m U).bind λv=>(g v U).bind λU1=>M.ret (.nx U1)):=by obtain⟨te,p,r⟩:=he;obtain⟨t,q,s⟩:=hg;refine⟨_,GC p q (px hs hlc) hw (by rw[Di ht];rfl),λZ U U' h H D R S w=>r Z U U' h H _ R S (W.bind w λZ1 x x' h1 H1 e1 R1 q1 w1=>?_)⟩;exact s Z1 x x' U U' h1 H1 _ R1 (S.ext e1) q1 (W.bind w1 λZ2 U2 U2' h2 H2 e2 R2 q2 w2=>W.here (Q:=dS D) (b:=dJ.nx U2') w2 R2 q2)
theorem Nq(he:QE X T E e m)(hg:QG X T E tg g)(hs:aP e=true)(hlc:jH e=false)(ht:kL tg=true)(hw:∀es k p,tg = .Tuple es k p->∀vs k2 p2,e ≠ .Tuple vs k2 p2):QS X T E (.Assign [tg] e pos) (λU=>(m U).bind λv=>(g v U).bind λU1=>M.ret (.nx U1)):=LH he hg hs hlc ht (PZ hw ht)
abbrev dC:=Nat->AH->Option (Option AV)
def RI(T:Tab):Rl dC It:=λZ H it J=>∀Z' h' H' i,Ext Z H Z' H'->aM T Z' h' H' ->
 (it i h'=some none->J.stop i H')/\∀v,it i h'=some (some v)->J.go i H'/\∀x H2,J.dj i H' x H2->∃Z2,Ext Z' H' Z2 H2/\aM T Z2 h' H2/\aF T Z2 H2 v x
def QI(X:Cx)(T:Tab)(E:XK)(tg bD:Expr)(mi:aA->M dC):Prop:=
 ∃wi,PI X tg bD wi/\∀Z U U' h H R,aM T Z h H->aV T Z H U U'->W T (RI T) (mi U h) Z H R E->wi U' H R
def fF(it:dC)(g:AV->aA->M aA)(body:aA->M Out):Nat->Nat->aA->M Out
 |0,_,_=>M.bad
 |f+1,i,U=>λh=>match it i h with
  |none=>.bad
  |some none=>.ok (.nx U) h
  |some (some v)=>((g v U).bind λU1=>(body U1).bind λo=>match o with
   |.nx U2=>fF it g body f (i+1) U2
   |.cnt U2=>fF it g body f (i+1) U2
   |.brk U2=>M.ret (.nx U2)
   |.ret v=>M.ret (.ret v)) h
def FU:Nat:=1000000
theorem LO{bD:Expr}{mi:aA->M dC}(hp:PassesOwn (model X.prog X.w) X.A X.env X.xe)(hc:X.calm=true)(hi:QI X T E tg bD mi)(hg:QG X T E tg g)(hb:pZ X T E sts ms)(hs:aP bD=true) :
  QS X T E (.For tg bD sts [] pos) (λU=>(mi U).bind λit=>fF it g ms FU 0 U):=by
 obtain⟨wi,pi,ri⟩:=hi;obtain⟨t,q,s⟩:=hg;obtain⟨u,pb,rb⟩:=hb;refine⟨_,GI hp hc pi q pb (λx=>Cw hs),λZ0 U0 U0' h0 H0 D R0 S0 w0=>ri Z0 U0 U0' h0 H0 _ R0 S0 (W.bind w0 λZ1 it J h1 H1 e1 R1 q1 w1=>?_)⟩;refine⟨λi m U' H=>∃Z U h,Ext Z1 H1 Z H/\aM T Z h H/\aV T Z H U U'/\W T (RO T) (fF it g ms m i U h) Z H (dS D) E,⟨FU,Z1,U0,h1,.refl,R1,S0.ext e1,w1⟩,?_⟩;rintro i m U' H ⟨Z,U,h,e,R,S,w⟩
 cases m with
 |zero=>exact w.elim|succ f=>
  simp only[fF]at w;cases hit:it i h with
  |none=>rw[hit]at w;exact w.elim|some o=>
   cases o with
   |none=>rw[hit]at w;exact .inl ⟨(q1 Z h H i e R).1 hit,W.here (Q:=dS D) (b:=dJ.nx U') w R S⟩
   |some v=>
    rw[hit]at w;obtain⟨go,yl⟩:=(q1 Z h H i e R).2 v hit;refine .inr ⟨go,λU2' H2=>∃Z2 U2 h2,Ext Z1 H1 Z2 H2/\aM T Z2 h2 H2/\aV T Z2 H2 U2 U2'/\W T (RO T) (fF it g ms f (i+1) U2 h2) Z2 H2 (dS D) E,λU2' H2 z=>⟨f,Nat.lt_succ_self f,z⟩,λx H2 y=>?_⟩;obtain⟨Z2,e2,R2,rv⟩:=yl x H2 y;refine s Z2 v x U U' h H2 _ R2 (S.ext e2) rv (W.bind (w.ext e2) λZ3 U3 U3' h3 H3 e3 R3 S3 w3=>?_);refine rb Z3 U3 U3' h3 H3 _ R3 S3 (W.bind w3 λZ4 o o' h4 H4 e4 R4 q4 w4=>?_);have eE:=((e.trans e2).trans e3).trans e4;cases o with
    |nx U4=>cases o' with
     |nx U4'=>exact⟨Z4,U4,h4,eE,R4,q4,w4⟩|_=>exact q4.elim
    |cnt U4=>cases o' with
     |cnt U4'=>exact⟨Z4,U4,h4,eE,R4,q4,w4⟩|_=>exact q4.elim
    |brk U4=>cases o' with
     |brk U4'=>exact(W.here (Q:=dS D) (b:=dJ.nx U4') w4 R4 q4:D.nx U4' H4)|_=>exact q4.elim
    |ret v=>cases o' with
     |ret v'=>exact(W.here (Q:=dS D) (b:=dJ.ret v') w4 R4 q4:D.rt v' H4)|_=>exact q4.elim
def Ri(c:aA->M Bool)(body:aA->M Out):Nat->aA->M Out
 |0,_=>M.bad
 |f+1,U=>(c U).bind λb=>if b=true then((body U).bind λo=>match o with
  |.nx U2=>Ri c body f U2
  |.cnt U2=>Ri c body f U2
  |.brk U2=>M.ret (.nx U2)
  |.ret v=>M.ret (.ret v)) else M.ret (.nx U)
end
section
variable {prog:Program}{w:World}{A:Around}{E:Value->Shared->Prop}{s:Shared}
theorem GY{it t:Addr}{i:Nat}{items:Array Value}{x:Value}{Q:Value->Shared->Prop}(hit:s.heap.IsTupleIter it t i)(ht:s.heap.IsTuple t items)(hx:items[i]?=some x)
  (hQ:∀h',h'.IsTupleIter it t (i+1)->Heap.SameBut it s.heap h'->Q x { s with heap:=h' }):wpAny (model prog w) A (Builtin.SmallTypes.nextOf (.ref it)) Q E s:=by
 obtain⟨o,ho,hc,hd⟩:=id hit;obtain⟨ol,hol,_,nl,hdl⟩:=ht;unfold Builtin.SmallTypes.nextOf;refine wpAny_bind (wpAny_callSpecial?_slot (name:=Str.ofString "__next__") hit.typeIs F.slot_tuple_iterator_next (wpAny_call_entry F.slot_tuple_iterator_next hit.typeIs F.entry_tuple_iterator_next ?_ (F.args_tuple_iterator_next_1 _)));show wpAny _ _ (field (.ref it) 0>>=_) _ _ s;refine wpAny_bind (wpAny_field ho hd (x:=.ref t) rfl ?_);show wpAny _ _ (if(Value.ref t==Value.none)=true then _ else _) _ _ s;rw[if_neg (show¬((Value.ref t==Value.none)=true) from Bool.false_ne_true)];show wpAny _ _ (field (.ref it) 1>>=_) _ _ s;refine wpAny_bind (wpAny_field ho hd (x:=.int i 0) rfl ?_);show wpAny _ _ (seqItems? (.ref t)>>=_) _ _ s;refine wpAny_bind (wpAny_seqItems hol hdl ?_);simp only[Int.toNat_natCast,hx];refine wpAny_bind (wpAny_setField ho hd (by simp) (wpAny_pure ⟨x,rfl,wpAny_pure (hQ _ ?_ (Heap.SameBut.update ..))⟩));exact⟨_,Heap.get?_update_self _ ho (Obj.isFreed_of_fields (Obj.data_mapFields hd _)),(Obj.cls_mapFields ..).trans hc,by rw[Obj.data_mapFields hd];simp[rawInt]⟩
theorem GZ{it t:Addr}{i:Nat}{items:Array Value}{Q:Value->Shared->Prop}(hh:A.handled=none)(hit:s.heap.IsTupleIter it t i)(ht:s.heap.IsTuple t items)(hx:items[i]?=none)
  (hE:∀h' e,Heap.ExtBut it s.heap h'->(∃o,h'.get? e=some o/\o.cls = .type "StopIteration")->E (.ref e) { s with heap:=h' }):wpAny (model prog w) A (Builtin.SmallTypes.nextOf (.ref it)) Q E s:=by
 obtain⟨o,ho,hc,hd⟩:=id hit;obtain⟨ol,hol,_,nl,hdl⟩:=ht;unfold Builtin.SmallTypes.nextOf;refine wpAny_bind (wpAny_callSpecial?_slot (name:=Str.ofString "__next__") hit.typeIs F.slot_tuple_iterator_next (wpAny_call_entry F.slot_tuple_iterator_next hit.typeIs F.entry_tuple_iterator_next ?_ (F.args_tuple_iterator_next_1 _)));show wpAny _ _ (field (.ref it) 0>>=_) _ _ s;refine wpAny_bind (wpAny_field ho hd (x:=.ref t) rfl ?_);show wpAny _ _ (if(Value.ref t==Value.none)=true then _ else _) _ _ s;rw[if_neg (show¬((Value.ref t==Value.none)=true) from Bool.false_ne_true)];show wpAny _ _ (field (.ref it) 1>>=_) _ _ s;refine wpAny_bind (wpAny_field ho hd (x:=.int i 0) rfl ?_);show wpAny _ _ (seqItems? (.ref t)>>=_) _ _ s;refine wpAny_bind (wpAny_seqItems hol hdl ?_);simp only[Int.toNat_natCast,hx];refine wpAny_bind (wpAny_rule (wpAny_bind (wpAny_setField ho hd (by simp) ?_)));show wpAny _ _ (newExc (.type "StopIteration") []>>=_) _ _ _;refine wpAny_bind ?_;simp only[newExc,newTuple];refine wpAny_bind (wpAny_newObj_type ?_ (by size_fits));refine wpAny_bind (m:=firstArgMember _ _) (wpAny_of_eq (a:=Value.none) (by first|rfl|(simp only[firstArgMember];rfl)) ?_);refine wpAny_newObj_type ?_ (by size_fits);simp only[raiseNew];refine wpAny_bind (wpAny_handled ?_);first|rw[show A.in1.handled=none from hh] | rw[hh]
 refine wpAny_bind (wpAny_pure (wpAny_throw ?_));exact hE _ _ (((Heap.SameBut.update ..).extBut.push _).push _) ⟨_,Heap.get?_push_size _ rfl,rfl⟩
end
structure eF(prog:Program)(w:World)(A:Around)(it l:Addr)(S:Nat->Heap->Prop)(items:Array Value):Prop where
 keep:∀k h h',S k h->(∀b,b=it\/b=l->∀o,h.get? b=some o->h'.get? b=some o)->S k h'
 live:∀k h,S k h->∃o,h.get? it=some o/\o.cls ≠ .type "zip"/\(∀v,o.data ≠ .cell v)
 item:∀k x (s:Shared) (Q:Value->Shared->Prop) (E:Value->Shared->Prop),S k s.heap->items[k]?=some x->(∀h',S (k+1) h'->Heap.SameBut it s.heap h'->Q x { s with heap:=h' })->wpAny (model prog w) A (Builtin.SmallTypes.nextOf (.ref it)) Q E s
 done:∀k (s:Shared) (Q:Value->Shared->Prop) (E:Value->Shared->Prop),S k s.heap->items[k]?=none->(∀h' e,Heap.ExtBut it s.heap h'->(∃o,h'.get? e=some o/\o.cls = .type "StopIteration")->E (.ref e) { s with heap:=h' })->wpAny (model prog w) A (Builtin.SmallTypes.nextOf (.ref it)) Q E s
theorem eF.list{prog:Program}{w:World}{A:Around}(hh:A.handled=none){it l:Addr}(hne:l≠it)(items:Array Value):eF prog w A it l (λk h=>h.IsListIter it l k/\h.IsList l items) items where
 keep:=λk h h' st hk=>⟨st.1.at λo e=>hk it (.inl rfl) o e,st.2.at λo e=>hk l (.inr rfl) o e⟩
 live:=λk h st=>let ⟨o,ho,hc,hd⟩:=st.1;⟨o,ho,by rw[hc];decide,λv z=>by rw[hd]at z;cases z⟩
 item:=λk x s Q E st hx hQ=>wpAny_nextOf_list_item st.1 st.2 hx λh' hit' hs'=>hQ h' ⟨hit',st.2.extBut hs'.extBut hne⟩ hs'
 done:=λk s Q E st hx hE=>wpAny_nextOf_list_end hh st.1 st.2 hx hE
theorem eF.tuple{prog:Program}{w:World}{A:Around}(hh:A.handled=none){it l:Addr}(hne:l≠it)(items:Array Value):eF prog w A it l (λk h=>h.IsTupleIter it l k/\h.IsTuple l items) items where
 keep:=λk h h' st hk=>⟨st.1.at λo e=>hk it (.inl rfl) o e,let ⟨o,e,r⟩:=st.2;⟨o,hk l (.inr rfl) o e,r⟩⟩
 live:=λk h st=>let ⟨o,ho,hc,hd⟩:=st.1;⟨o,ho,by rw[hc];decide,λv z=>by rw[hd]at z;cases z⟩
 item:=λk x s Q E st hx hQ=>GY st.1 st.2 hx λh' hit' hs'=>hQ h' ⟨hit',let ⟨o,e,r⟩:=st.2;⟨o,hs'.extBut _ _ hne e,r⟩⟩ hs'
 done:=λk s Q E st hx hE=>GZ hh st.1 st.2 hx hE
section
variable {prog:Program}{w:World}{A:Around}{E:Value->Shared->Prop}{s:Shared}{z TI TO i1 i2 l1 l2:Addr}{S1 S2:Nat->Heap->Prop}{xs ys:Array Value}{k:Nat}{a b x y:Value}
theorem jB(P:eF prog w A i1 l1 S1 xs){h h':Heap}{c:Addr}(st:S1 k h)(e:Heap.ExtBut c h h')(n1:i1≠c)(n2:l1≠c):S1 k h':=P.keep k h h' st λb hb o q=>e b o (by rcases hb with rfl|rfl<;>assumption) q
theorem XJ{Q:Value->Shared->Prop}(D:ZipApart z TI TO i1 i2 l1 l2)(P1:eF prog w A i1 l1 S1 xs)(P2:eF prog w A i2 l2 S2 ys)(hz:IsZip s.heap z TI TO .none)(hTI:IsPair s.heap TI (.ref i1) (.ref i2))(hTO:IsPair s.heap TO a b)
  (h1:S1 k s.heap) (h2:S2 k s.heap) (hx:xs[k]?=some x) (hy:ys[k]?=some y)
  (hQ:∀h',IsZip h' z TI TO (rawInt s.heap.objs.size)->IsPair h' TO x y->S1 (k+1) h'->S2 (k+1) h'->IsPair h' s.heap.objs.size x y ->
   (∀c o,c≠z->c≠TO->c≠i1->c≠i2->s.heap.get? c=some o->h'.get? c=some o)->Q (.ref s.heap.objs.size) { s with heap:=h' }) :
  wpAny (model prog w) A (Builtin.«zip.__next__» ⟨[.ref z],[]⟩) (λfin s'=>∃v,fin = .done (.ret v)/\Q v s') E s:=by
 show wpAny _ _ (field (.ref z) 2>>=_) _ _ _;refine wpAny_bind (wpAny_field hz rfl (x:=.bool false) rfl ?_);show wpAny _ _ (field (.ref z) 3>>=_) _ _ _;refine wpAny_bind (wpAny_field hz rfl (x:=.ref TI) rfl (wpAny_bind (wpAny_seqItems hTI rfl ?_)));show wpAny _ _ (Builtin.SmallTypes.ownedTupleIsFree (.ref z)>>=_) _ _ _;refine wpAny_bind ?_;unfold Builtin.SmallTypes.ownedTupleIsFree;refine wpAny_bind (wpAny_field hz rfl (x:=.none) rfl (wpAny_pure ?_));simp only[if_true];refine wpAny_bind (wpAny_rule (wpAny_bind (wpAny_field hz rfl (x:=.ref TO) rfl (wpAny_bind (wpAny_setField_rec hz (by simp) λha za sa=>?_)))));replace za:IsZip ha z TI TO .ellipsis:=za
 refine wpAny_bind ?_;simp only[List.zipIdx_cons,List.zipIdx_nil,List.forIn_cons,List.forIn_nil];refine wpAny_bind (wpAny_bind (wpAny_onRaise ?_));show wpAny _ _ (Builtin.SmallTypes.nextOf (.ref i1)>>=_) _ _ _;refine wpAny_bind (P1.item k x _ _ _ (jB P1 h1 sa.extBut D.i1z D.l1z) hx λhb pb sb=>wpAny_pure ?_);have tb:IsPair hb TO a b:=sb.extBut _ _ D.TOi1 (sa.extBut _ _ D.TOz hTO);refine wpAny_bind (wpAny_seqItems tb rfl (wpAny_bind (wpAny_updateSeq_pair tb λhc tc sc=>?_)));replace tc:IsPair hc TO x b:=tc
 refine wpAny_bind (wpAny_letGo (wpAny_pure (wpAny_bind (wpAny_bind (wpAny_onRaise ?_)))));show wpAny _ _ (Builtin.SmallTypes.nextOf (.ref i2)>>=_) _ _ _;refine wpAny_bind (P2.item k y _ _ _ (jB P2 (jB P2 (jB P2 h2 sa.extBut D.i2z D.l2z) sb.extBut D.i12.symm D.l2i1) sc.extBut D.TOi2.symm D.l2TO) hy λhd pd sd=>wpAny_pure ?_);have td:IsPair hd TO x b:=sd.extBut _ _ D.TOi2 tc;refine wpAny_bind (wpAny_seqItems td rfl (wpAny_bind (wpAny_updateSeq_pair td λhe te se=>?_)));replace te:IsPair he TO x y:=te
 refine wpAny_bind (wpAny_letGo (wpAny_pure (wpAny_pure (wpAny_bind (wpAny_seqItems te rfl (wpAny_bind (wpAny_newTuple ?_)))))));have size:he.objs.size=s.heap.objs.size:=by rw[se.1,sd.1,sc.1,sb.1,sa.1]
 have ze:IsZip he z TI TO .ellipsis:=se.extBut _ _ D.TOz.symm (sd.extBut _ _ D.i2z.symm (sc.extBut _ _ D.TOz.symm (sb.extBut _ _ D.i1z.symm za)));have kept:∀c o,c≠z->c≠TO->c≠i1->c≠i2->s.heap.get? c=some o->he.get? c=some o:=λc o n1 n2 n3 n4 e=>se.extBut _ _ n2 (sd.extBut _ _ n4 (sc.extBut _ _ n2 (sb.extBut _ _ n3 (sa.extBut _ _ n1 e))));have pe:S1 (k+1) he:=jB P1 (jB P1 (jB P1 pb sc.extBut D.TOi1.symm D.l1TO) sd.extBut D.i12 D.l1i2) se.extBut D.TOi1.symm D.l1TO;have re:S2 (k+1) he:=jB P2 pd se.extBut D.TOi2.symm D.l2TO;have zlt:z<he.objs.size:=Heap.lt_size ze;show wpAny _ _ (Builtin.SmallTypes.ownedTupleHandOut (.ref z) (.ref he.objs.size)>>=_) _ _ _;refine wpAny_bind ?_;unfold Builtin.SmallTypes.ownedTupleHandOut;have zf:IsZip (he.push { cls:=.type "tuple",data:=.seq #[x,y] }) z TI TO .ellipsis:=Heap.get?_push_of_some _ ze;refine wpAny_bind (wpAny_setField_rec zf (by simp) λhg zg sg=>?_);replace zg:IsZip hg z TI TO (rawInt he.objs.size):=zg
 refine wpAny_setField_rec zg (by simp) λhh zh sh=>?_;replace zh:IsZip hh z TI TO (rawInt he.objs.size):=zh
 have up:∀c o,c≠z->he.get? c=some o->hh.get? c=some o:=λc o n1 e=>sh.extBut _ _ n1 (sg.extBut _ _ n1 (Heap.get?_push_of_some _ e));have new:IsPair hh he.objs.size x y:=sh.extBut _ _ (Nat.ne_of_gt zlt) (sg.extBut _ _ (Nat.ne_of_gt zlt) (Heap.get?_push_size _ rfl));rw[size]at zh new;refine wpAny_pure ⟨_,rfl,?_⟩;show Q (.ref he.objs.size) _;rw[size];exact hQ hh zh (up _ _ D.TOz te) (P1.keep _ _ _ pe λc hc o e=>up c o (by rcases hc with rfl|rfl;exact D.i1z;exact D.l1z) e) (P2.keep _ _ _ re λc hc o e=>up c o (by rcases hc with rfl|rfl;exact D.i2z;exact D.l2z) e) new
  λc o n1 n2 n3 n4 e=>up c o n1 (kept c o n1 n2 n3 n4 e)
theorem XM{Q:Fin->Shared->Prop}(D:ZipApart z TI TO i1 i2 l1 l2)(P1:eF prog w A i1 l1 S1 xs)(P2:eF prog w A i2 l2 S2 ys)(hz:IsZip s.heap z TI TO .none)(hTI:IsPair s.heap TI (.ref i1) (.ref i2))(hTO:IsPair s.heap TO a b)
  (h1:S1 k s.heap) (h2:S2 k s.heap) (hend:xs[k]?=none\/ys[k]?=none)
  (hE:∀h' e,(∀c o,c≠z->c≠TO->c≠i1->c≠i2->s.heap.get? c=some o->h'.get? c=some o)->(∃o,h'.get? e=some o/\o.cls = .type "StopIteration")->E (.ref e) { s with heap:=h' }) :
  wpAny (model prog w) A (Builtin.«zip.__next__» ⟨[.ref z],[]⟩) Q E s:=by
 show wpAny _ _ (field (.ref z) 2>>=_) _ _ _;refine wpAny_bind (wpAny_field hz rfl (x:=.bool false) rfl ?_);show wpAny _ _ (field (.ref z) 3>>=_) _ _ _;refine wpAny_bind (wpAny_field hz rfl (x:=.ref TI) rfl (wpAny_bind (wpAny_seqItems hTI rfl ?_)));show wpAny _ _ (Builtin.SmallTypes.ownedTupleIsFree (.ref z)>>=_) _ _ _;refine wpAny_bind ?_;unfold Builtin.SmallTypes.ownedTupleIsFree;refine wpAny_bind (wpAny_field hz rfl (x:=.none) rfl (wpAny_pure ?_));simp only[if_true];refine wpAny_bind (wpAny_rule (wpAny_bind (wpAny_field hz rfl (x:=.ref TO) rfl (wpAny_bind (wpAny_setField_rec hz (by simp) λha za sa=>?_)))));replace za:IsZip ha z TI TO .ellipsis:=za
 refine wpAny_bind ?_;simp only[List.zipIdx_cons,List.zipIdx_nil,List.forIn_cons,List.forIn_nil];refine wpAny_bind (wpAny_bind (wpAny_onRaise ?_));show wpAny _ _ (Builtin.SmallTypes.nextOf (.ref i1)>>=_) _ _ _;have sa1:=jB P1 h1 sa.extBut D.i1z D.l1z;cases hx:xs[k]? with
 |none=>
  refine wpAny_bind (P1.done k _ _ _ sa1 hx λhb e sb he=>?_);obtain⟨oe,hoe,hce⟩:=he;have zb:IsZip hb z TI TO .ellipsis:=sb _ _ D.i1z.symm za;have ne:e≠z:=λq=>by subst q;rw[zb]at hoe;cases hoe;simp at hce
  exact wpAny_setField_rec zb (by simp) λhc _ sc=>hE hc e (λc o n1 _ n3 _ q=>sc.extBut _ _ n1 (sb _ _ n3 (sa.extBut _ _ n1 q))) ⟨oe,sc.extBut _ _ ne hoe,hce⟩
 |some x=>
  have hy:ys[k]?=none:=by rcases hend with q|q;rw[hx]at q;cases q;exact q
  refine wpAny_bind (P1.item k x _ _ _ sa1 hx λhb pb sb=>wpAny_pure ?_);have tb:IsPair hb TO a b:=sb.extBut _ _ D.TOi1 (sa.extBut _ _ D.TOz hTO);refine wpAny_bind (wpAny_seqItems tb rfl (wpAny_bind (wpAny_updateSeq_pair tb λhc tc sc=>?_)));refine wpAny_bind (wpAny_letGo (wpAny_pure (wpAny_bind (wpAny_bind (wpAny_onRaise ?_)))));show wpAny _ _ (Builtin.SmallTypes.nextOf (.ref i2)>>=_) _ _ _;refine wpAny_bind (P2.done k _ _ _ (jB P2 (jB P2 (jB P2 h2 sa.extBut D.i2z D.l2z) sb.extBut D.i12.symm D.l2i1) sc.extBut D.TOi2.symm D.l2TO) hy λhd e sd he=>?_);obtain⟨oe,hoe,hce⟩:=he;have zd:IsZip hd z TI TO .ellipsis:=sd _ _ D.i2z.symm (sc.extBut _ _ D.TOz.symm (sb.extBut _ _ D.i1z.symm za));have ne:e≠z:=λq=>by subst q;rw[zd]at hoe;cases hoe;simp at hce
  exact wpAny_setField_rec zd (by simp) λhf _ sf=>hE hf e (λc o n1 n2 n3 n4 q=>sf.extBut _ _ n1 (sd _ _ n4 (sc.extBut _ _ n2 (sb.extBut _ _ n3 (sa.extBut _ _ n1 q))))) ⟨oe,sf.extBut _ _ ne hoe,hce⟩
end
def fW(kd:Bool)(h:Heap)(it l:Addr)(k:Nat):Prop:=if kd=true then h.IsListIter it l k else h.IsTupleIter it l k
def gJ(kd:Bool)(h:Heap)(l:Addr)(items:Array Value):Prop:=if kd=true then h.IsList l items else h.IsTuple l items
def hW(kd:Bool)(K:W.Frag)(H:Hp)(a:Addr)(xs:List V):Prop:=if kd=true then bG K H a xs else bV K H a xs
def uo(kd:Bool):String:=if kd=true then "list_iterator" else "tuple_iterator"
theorem fW.at{kd:Bool}{h h':Heap}{it l:Addr}{k:Nat}(st:fW kd h it l k)(f:∀o,h.get? it=some o->h'.get? it=some o):fW kd h' it l k:=by
 cases kd with
 |true=>exact Heap.IsListIter.at st f|false=>exact Heap.IsTupleIter.at st f
theorem fW.live{kd:Bool}{h:Heap}{it l:Addr}{k:Nat}(st:fW kd h it l k):∃o,h.get? it=some o/\∀v,o.data ≠ .cell v:=by
 cases kd with
 |true=>obtain⟨o,ho,hc,hd⟩:=(show h.IsListIter it l k from st);exact⟨o,ho,λv z=>by rw[hd]at z;cases z⟩|false=>obtain⟨o,ho,hc,hd⟩:=(show h.IsTupleIter it l k from st);exact⟨o,ho,λv z=>by rw[hd]at z;cases z⟩
theorem eF.kd{prog:Program}{w:World}{A:Around}(hh:A.handled=none)(kd:Bool){it l:Addr}(hne:l≠it)(items:Array Value):eF prog w A it l (λk h=>fW kd h it l k/\gJ kd h l items) items:=by
 cases kd with
 |true=>exact eF.list hh hne items|false=>exact eF.tuple hh hne items
theorem Jo(kd:Bool)(h:Heap)(l:Addr):fW kd (h.push { cls:=.type (uo kd),data:=.fields #[.ref l,.int 0 0] }) h.objs.size l 0:=by
 cases kd with
 |true=>exact⟨_,Heap.get?_push_size _ rfl,rfl,rfl⟩|false=>exact⟨_,Heap.get?_push_size _ rfl,rfl,rfl⟩
theorem Jq{prog:Program}{w:World}{A:Around}{E:Value->Shared->Prop}{s:Shared}(kd:Bool){l:Addr}{items:Array Value}{Q:Value->Shared->Prop}(hl:gJ kd s.heap l items)
  (hQ:Q (.ref s.heap.objs.size) { s with heap:=s.heap.push { cls:=.type (uo kd),data:=.fields #[.ref l,.int 0 0] } }):wpAny (model prog w) A (pyIter (.ref l)) Q E s:=by
 cases kd with
 |true=>exact wpAny_pyIter_list hl hQ|false=>exact wpAny_pyIter_tuple hl hQ
theorem gJ.push{kd:Bool}{h:Heap}{l:Addr}{items:Array Value}(hl:gJ kd h l items)(o:Obj):gJ kd (h.push o) l items:=by
 cases kd with
 |true=>exact Heap.IsList.push hl o|false=>obtain⟨ob,e,r⟩:=(show h.IsTuple l items from hl);exact⟨ob,Heap.get?_push_of_some _ e,r⟩
noncomputable abbrev zA(kd:Bool)(h:Heap)(l:Addr):Heap:=h.push { cls:=.type (uo kd),data:=.fields #[.ref l,.int 0 0] }
noncomputable abbrev zB(aW aY:Bool)(h:Heap)(l1 l2:Addr):Heap:=zA aY (zA aW h l1) l2
noncomputable abbrev zC(aW aY:Bool)(h:Heap)(l1 l2:Addr):Heap:=(zB aW aY h l1 l2).push { cls:=.type "tuple",data:=.seq #[.ref h.objs.size,.ref (zA aW h l1).objs.size] }
noncomputable abbrev zD(aW aY:Bool)(h:Heap)(l1 l2:Addr):Heap:=(zC aW aY h l1 l2).push { cls:=.type "tuple",data:=.seq #[.none,.none] }
noncomputable abbrev zE(aW aY:Bool)(h:Heap)(l1 l2:Addr):Heap:=(zD aW aY h l1 l2).push { cls:=.type "zip",data:=.fields #[.none,.bool false,.bool false,.ref (zB aW aY h l1 l2).objs.size,.ref (zC aW aY h l1 l2).objs.size] }
theorem XN(aW aY:Bool)(l1 l2:Addr)(xs ys:Array Value) :
  Meets (Builtin.«zip.__new__» ⟨[.type "zip",.ref l1,.ref l2],[]⟩) (λ_ R s=>gJ aW s.heap l1 xs/\gJ aY s.heap l2 ys/\R (.ok (.ret (.ref (zD aW aY s.heap l1 l2).objs.size))) { s with heap:=zE aW aY s.heap l1 l2 }):=
 .of_wp λprog w A R s h=>by
  obtain⟨hp,g,d,tk,os⟩:=s;obtain⟨hl1,hl2,h⟩:=h;have hsub:=sub_zip;have hL1:gJ aW (Shared.heap ⟨hp,g,d,tk,os⟩) l1 xs:=hl1;have hL2:gJ aY (Shared.heap ⟨zA aW hp l1,g,d,tk,os⟩) l2 ys:=gJ.push hl2 _;wp_walk using Jq aW hL1,Jq aY hL2
  exact⟨_,rfl,h⟩
section
variable {prog:Program}{w:World}{A:Around}{E:Value->Shared->Prop}{s:Shared}
theorem Tn(aW aY:Bool){l1 l2:Addr}{xs ys:Array Value}{Q:Value->Shared->Prop}(hl1:gJ aW s.heap l1 xs)(hl2:gJ aY s.heap l2 ys)
  (h:∀h',IsZip h' (s.heap.objs.size+4) (s.heap.objs.size+2) (s.heap.objs.size+3) .none->IsPair h' (s.heap.objs.size+2) (.ref s.heap.objs.size) (.ref (s.heap.objs.size+1)) ->
   IsPair h' (s.heap.objs.size+3) .none .none->fW aW h' s.heap.objs.size l1 0->fW aY h' (s.heap.objs.size+1) l2 0 ->
   (∀c o,s.heap.get? c=some o->h'.get? c=some o)->Q (.ref (s.heap.objs.size+4)) { s with heap:=h' }):wpAny (model prog w) A (call (.type "zip") [.ref l1,.ref l2]) Q E s:=by
 refine callType_new F.called_zip (by decide) (F.typeCall_zip_2 _ _) (F.newCall_zip_2 _ _) (λobj=>F.args_object_init_3 obj _ _) F.entry_zip_new (XN aW aY l1 l2 xs ys) ⟨hl1,hl2,?_⟩;have z1:(zA aW s.heap l1).objs.size=s.heap.objs.size+1:=Heap.size_push ..;have z2:(zB aW aY s.heap l1 l2).objs.size=s.heap.objs.size+2:=by rw[Heap.size_push,z1]
 have z3:(zC aW aY s.heap l1 l2).objs.size=s.heap.objs.size+3:=by rw[Heap.size_push,z2]
 have z4:(zD aW aY s.heap l1 l2).objs.size=s.heap.objs.size+4:=by rw[Heap.size_push,z3]
 have g5:(zE aW aY s.heap l1 l2).get? (zD aW aY s.heap l1 l2).objs.size=some _:=Heap.get?_push_size _ rfl;have g4:(zE aW aY s.heap l1 l2).get? (zC aW aY s.heap l1 l2).objs.size=some _:=Heap.get?_push_of_some _ (Heap.get?_push_size _ rfl);have g3:(zE aW aY s.heap l1 l2).get? (zB aW aY s.heap l1 l2).objs.size=some _:=Heap.get?_push_of_some _ (Heap.get?_push_of_some _ (Heap.get?_push_size _ rfl));have up:∀c o,(zB aW aY s.heap l1 l2).get? c=some o->(zE aW aY s.heap l1 l2).get? c=some o:=λc o e=>Heap.get?_push_of_some _ (Heap.get?_push_of_some _ (Heap.get?_push_of_some _ e));have i2:fW aY (zE aW aY s.heap l1 l2) (zA aW s.heap l1).objs.size l2 0:=(Jo aY (zA aW s.heap l1) l2).at λo e=>up _ o e;have i1:fW aW (zE aW aY s.heap l1 l2) s.heap.objs.size l1 0:=(Jo aW s.heap l1).at λo e=>up _ o (Heap.get?_push_of_some _ e);show _/\_;rw[z2,z3,z4]at g5;rw[z1,z2]at g3;rw[z3]at g4;rw[z1]at i2;rw[z4];exact⟨⟨_,g5,rfl⟩,h _ g5 g3 g4 i1 i2 λc o e=>up c o (Heap.get?_push_of_some _ (Heap.get?_push_of_some _ e))⟩
variable {z TI TO i1 i2 l1 l2:Addr}{S1 S2:Nat->Heap->Prop}{xs ys:Array Value}{k:Nat}{a b x y:Value}
theorem BJ{Q:Option Value->Shared->Prop}(D:ZipApart z TI TO i1 i2 l1 l2)(P1:eF prog w A.in1 i1 l1 S1 xs)(P2:eF prog w A.in1 i2 l2 S2 ys)(hz:IsZip s.heap z TI TO .none)(hTI:IsPair s.heap TI (.ref i1) (.ref i2))(hTO:IsPair s.heap TO a b)
  (h1:S1 k s.heap) (h2:S2 k s.heap) (hx:xs[k]?=some x) (hy:ys[k]?=some y)
  (hQ:∀h',IsZip h' z TI TO (rawInt s.heap.objs.size)->IsPair h' TO x y->S1 (k+1) h'->S2 (k+1) h'->IsPair h' s.heap.objs.size x y ->
   (∀c o,c≠z->c≠TO->c≠i1->c≠i2->s.heap.get? c=some o->h'.get? c=some o)->Q (some (.ref s.heap.objs.size)) { s with heap:=h' }):wpAny (model prog w) A (pyNext (.ref z)) Q E s:=by
 have hT:s.TypeIs (.ref z) "zip":=⟨_,hz,rfl⟩;unfold pyNext;exact wpAny_bind (wpAny_attempt (wpAny_callSpecial?_slot (name:=Str.ofString "__next__") hT F.slot_zip_next
  (wpAny_call_entry F.slot_zip_next hT F.entry_zip_next (XJ D P1 P2 hz hTI hTO h1 h2 hx hy λh' a1 a2 a3 a4 a5 a6=>wpAny_pure (hQ h' a1 a2 a3 a4 a5 a6)) (F.args_zip_next_1 _))))
theorem Vz{Q:Option Value->Shared->Prop}(D:ZipApart z TI TO i1 i2 l1 l2)(P1:eF prog w A.in1 i1 l1 S1 xs)(P2:eF prog w A.in1 i2 l2 S2 ys)(hz:IsZip s.heap z TI TO .none)(hTI:IsPair s.heap TI (.ref i1) (.ref i2))(hTO:IsPair s.heap TO a b)
  (h1:S1 k s.heap) (h2:S2 k s.heap) (hend:xs[k]?=none\/ys[k]?=none)
  (hQ:∀h',(∀c o,c≠z->c≠TO->c≠i1->c≠i2->s.heap.get? c=some o->h'.get? c=some o)->Q none { s with heap:=h' }):wpAny (model prog w) A (pyNext (.ref z)) Q E s:=by
 have hT:s.TypeIs (.ref z) "zip":=⟨_,hz,rfl⟩;unfold pyNext;refine wpAny_bind (wpAny_attempt (wpAny_callSpecial?_slot (name:=Str.ofString "__next__") hT F.slot_zip_next
  (wpAny_call_entry F.slot_zip_next hT F.entry_zip_next (XM D P1 P2 hz hTI hTO h1 h2 hend λh' e hk he=>?_) (F.args_zip_next_1 _))))
 obtain⟨o,ho,hc⟩:=he;exact wpAny_bind (wpAny_isInstance (T:="StopIteration") (b:=true) ⟨o,ho,hc⟩ isSubtype_stop (wpAny_pure (hQ _ hk)))
end
def dX(n:Nat):dC:=λi h=>match h.ob n with
 |some (.lst _ xs)=>some xs[i]?
 |_=>none
def wB(xs:List AV):dC:=λi _=>some xs[i]?
def tU(lo:Int)(n:Nat):dC:=λi _=>some (if i<n then some (.int (lo+i)) else none)
def oO(it:dC):dC:=λi h=>match it i h with
 |some (some v)=>some (some (.tup [.int i,v]))
 |some none=>some none
 |none=>none
def fR(v:AV):M dC:=λh=>match v with
 |.tup xs=>.ok (wB xs) h
 |.ref n=>match h.ob n with
  |some (.lst _ _)=>.ok (dX n) h
  |_=>.bad
 |_=>.bad
def iW(j:Int):Bool:=decide (-(2 ^ 62)<=j)&&decide (j<2 ^ 62)
def gu(xs:List AV):M dC:=λh=>match xs with
 |[.int j]=>if iW j=true then .ok (tU 0 j.toNat) h else .bad
 |_=>.bad
def vm(xs:List AV):M dC:=λh=>match xs with
 |[.int i,.int j]=>if(iW i&&iW j)=true then .ok (tU i (j-i).toNat) h else .bad
 |_=>.bad
def gg(v:AV):M dC:=λh=>match v with
 |.ref n=>match h.ob n with
  |some (.lst _ _)=>.ok (oO (dX n)) h
  |_=>.bad
 |_=>.bad
section
variable {X:Cx}{T:Tab}{E:XK}{a b c e tg l:Expr}{es:List Expr}{ma mb mc m:aA->M AV}{mr:aA->M (List AV)}{pos p:Pos}{tl:TE}
theorem Ox{Z:List Addr}{H:Hp}{n:Nat}{a:Addr}(q:Z[n]?=some a):RI T Z H (dX n) (rn T.K a):=by
 intro Z' h' H' i e R;have q':=e.pre n a q;unfold dX;cases o:h'.ob n with
 |none=>exact⟨λz=>(by cases z),λv z=>(by cases z)⟩|some u=>
  cases u with
  |lst m xs=>
   obtain⟨ys,h1,r⟩:=iE R o q';refine⟨λz=>⟨ys,h1,?_⟩,λv z=>?_⟩
   .have z':xs[i]?=none:=Option.some.inj z;rw[<- r.length];exact List.getElem?_eq_none_iff.mp z'
   .have z':xs[i]?=some v:=Option.some.inj z;obtain⟨y,h2,rv⟩:=r.get z';refine⟨⟨ys,y,h1,h2⟩,λx H2 yl=>?_⟩;obtain⟨e2,k⟩:=yl;subst e2;have:=k ys h1;rw[h2]at this;cases this;exact⟨Z',.refl,R,rv⟩
  |aL _=>exact⟨λz=>(by cases z),λv z=>(by cases z)⟩|bJ _=>exact⟨λz=>(by cases z),λv z=>(by cases z)⟩|ins _ _=>exact⟨λz=>(by cases z),λv z=>(by cases z)⟩|xo _=>exact⟨λz=>(by cases z),λv z=>(by cases z)⟩
theorem MW{Z:List Addr}{H:Hp}{a:Addr}{xs:List AV}{ys:List V}(hq:bV T.K H a ys)(r:aH T Z H xs ys):RI T Z H (wB xs) (rq T.K a):=by
 intro Z' h' H' i e R;have r':=r.ext e;have hq':=e.cw hq;unfold wB;refine⟨λz=>⟨ys,hq',?_⟩,λv z=>?_⟩
 .have z':xs[i]?=none:=Option.some.inj z;rw[<- r.length];exact List.getElem?_eq_none_iff.mp z'
 .have z':xs[i]?=some v:=Option.some.inj z;obtain⟨y,h2,rv⟩:=r'.get z';refine⟨⟨ys,y,hq',h2⟩,λx H2 yl=>?_⟩;obtain⟨e2,k⟩:=yl;subst e2;have:=k ys hq';rw[h2]at this;cases this;exact⟨Z',.refl,R,rv⟩
theorem Oy{Z:List Addr}{H:Hp}{lo:Int}{n:Nat}:RI T Z H (tU lo n) (yY lo n):=by
 intro Z' h' H' i e R;unfold tU;by_cases hi:i<n
 .rw[if_pos hi];refine⟨λz=>(by cases z),λv z=>⟨hi,λx H2 yl=>?_⟩⟩;cases z;obtain⟨e2,e3⟩:=yl;subst e2;subst e3;exact⟨Z',.refl,R,.int _⟩
 .rw[if_neg hi];exact⟨λ_=>(by show n<=i;omega),λv z=>(by cases z)⟩
def Yk(K:W.Frag)(tl:TE):TI:=λU H R=>tl U H λx H1=>∃a,x = .ref a/\(((∃xs,bG K H1 a xs)/\R (rn K a) H1)\/((∃xs,bV K H1 a xs)/\R (rq K a) H1))
theorem FJ(hl:PE X l tl):PI X tg l (Yk X.K tl):=by
 intro pins s U H R I h;refine aI (hl pins s U H _ I h) λv s1 ⟨x,H1,I1,r1,q1⟩=>?_;obtain⟨a,e,q⟩:=q1;subst e;cases r1;rcases q with⟨⟨xs,hq⟩,q⟩|⟨⟨xs,hq⟩,q⟩
 .obtain⟨its,rv,p,hz⟩:=I1.list hq;refine wpAny_pyIter_list p.isList ?_;refine⟨s1.heap.objs.size,[s1.heap.objs.size],_,_,H1,rfl,I1.kept (t':=s1.toks) λb o e=>Heap.get?_push_of_some _ e,SM a _,⟨_,Heap.get?_push_size _ rfl,rfl,rfl⟩,λb hb=>?_,q⟩;have e:b=s1.heap.objs.size:=by simpa using hb
  subst e;exact I1.mV (Nat.le_refl _) (I1.aD.fresh (Nat.le_refl _))
 .obtain⟨its,rv,p,hz⟩:=I1.tuple hq;refine wpAny_pyIter_tuple (show s1.heap.IsTuple a its.toArray from p) ?_;refine⟨s1.heap.objs.size,[s1.heap.objs.size],_,_,H1,rfl,I1.kept (t':=s1.toks) λb o e=>Heap.get?_push_of_some _ e,SO a _,⟨_,Heap.get?_push_size _ rfl,rfl,rfl⟩,λb hb=>?_,q⟩;have e:b=s1.heap.objs.size:=by simpa using hb
  subst e;exact I1.mV (Nat.le_refl _) (I1.aD.fresh (Nat.le_refl _))
theorem rY:QI X T E tg e (λ_=>M.bad):=⟨λ_ _ _=>False,λ_ _ _ _ _ _ h=>h.elim,λ_ _ _ _ _ _ _ _ w=>w⟩
theorem Lu(hK:X.K=T.K)(ha:QE X T E l m):QI X T E tg l (λU=>(m U).bind fR):=by
 obtain⟨tl,pl,rl⟩:=ha;refine⟨_,FJ pl,λZ U U' h H Q R S w=>rl Z U U' h H _ R S (W.bind w λZ1 x x' h1 H1 e1 R1 q1 w1=>?_)⟩;cases x with
 |tup xs=>
  cases q1 with
  |tup hq hr=>exact⟨_,rfl,.inr ⟨⟨_,by rw[hK];exact hq⟩,by rw[hK];exact W.here w1 R1 (MW hq hr)⟩⟩
 |ref n=>
  cases q1 with
  |@ref _ a q=>
   simp only[fR]at w1;cases o:h1.ob n with
   |none=>rw[o]at w1;exact w1.elim|some u=>
    rw[o]at w1;cases u with
    |lst mu xs=>obtain⟨ys,g1,r1⟩:=iE R1 o q;exact⟨a,rfl,.inl ⟨⟨ys,by rw[hK];exact g1⟩,by rw[hK];exact W.here w1 R1 (Ox q)⟩⟩
    |aL _=>exact w1.elim|bJ _=>exact w1.elim|ins _ _=>exact w1.elim|xo _=>exact w1.elim
 |_=>exact w1.elim
theorem Ct{j:Int}(h:iW j=true):-(2 ^ 62)<=j/\j<2 ^ 62:=by simp only[iW,Bool.and_eq_true,decide_eq_true_eq]at h;exact h
theorem JA(hg:Gl X "range") (hm:X.mg "range"=none) (ha:QA X T E [a] mr) (hs:aP a=true):QI X T E tg (.Call (.Name "range" p) [a] [] pos) (λU=>(mr U).bind gu):=by
 obtain⟨tr,pr,rr⟩:=ha;refine⟨_,FH hg hm pr (by rw[bX hs];rfl),λZ U U' h H Q R S w=>rr Z U U' h H _ R S (W.bind w λZ1 xs aX h1 H1 e1 R1 q1 w1=>?_)⟩;cases q1 with
 |nil=>exact w1.elim|cons r1 rs=>
  cases rs with
  |nil=>
   cases r1 with
   |int j=>
    simp only[gu]at w1;by_cases hj:iW j=true
    .rw[if_pos hj]at w1;obtain⟨h1,h2⟩:=Ct hj;exact⟨j,rfl,h1,h2,W.here w1 R1 Oy⟩
    .rw[if_neg hj]at w1;exact w1.elim
   |_=>exact w1.elim
  |cons r2 rs2=>cases r1<;>exact w1.elim
theorem JB(hg:Gl X "range") (hm:X.mg "range"=none) (ha:QA X T E [a,b] mr) (hs:aP a=true) (hs2:aP b=true):QI X T E tg (.Call (.Name "range" p) [a,b] [] pos) (λU=>(mr U).bind vm):=by
 obtain⟨tr,pr,rr⟩:=ha;refine⟨_,FI hg hm pr (by rw[bX hs,bX hs2];rfl) (by rw[bX hs2];rfl),λZ U U' h H Q R S w=>rr Z U U' h H _ R S (W.bind w λZ1 xs aX h1 H1 e1 R1 q1 w1=>?_)⟩;cases q1 with
 |nil=>exact w1.elim|cons r1 rs=>
  cases rs with
  |nil=>cases r1<;>exact w1.elim|cons r2 rs2=>
   cases rs2 with
   |nil=>
    cases r1 with
    |int i=>
     cases r2 with
     |int j=>
      simp only[vm]at w1;by_cases hj:(iW i&&iW j)=true
      .rw[if_pos hj]at w1;rw[Bool.and_eq_true]at hj;obtain⟨h1,h2⟩:=Ct hj.1;obtain⟨h3,h4⟩:=Ct hj.2;exact⟨i,j,rfl,⟨h1,h2,h3,h4⟩,W.here w1 R1 Oy⟩
      .rw[if_neg hj]at w1;exact w1.elim
     |_=>exact w1.elim
    |_=>exact w1.elim
   |cons _ _=>cases r1<;>first|exact w1.elim|(cases r2<;>exact w1.elim)
def rm(K:W.Frag)(a:Addr):It:=
 ⟨λi H=>∃xs x,bG K H a xs/\xs[i]?=some x,λi H x H'=>∃T y,H T=none/\x = .ref T/\H'=aG H T (.tup [.int i,y])/\∀xs,bG K H a xs->xs[i]?=some y,λi H=>∃xs,bG K H a xs/\xs.length<=i⟩
theorem Qn{pins:List (Addr×Obj)}{U:L2.St}{H:Hp}{s:Shared}{h':Heap}{tk:Nat}{ch:List Addr}{Tt:Addr}{ys:List V}{its:List Value}(I:Inv X pins U H s)(hf:∀b∈ch,eW X pins H b)
  (k:∀b o,b∉ch->s.heap.get? b=some o->h'.get? b=some o) (th:∀b∈ch,∃o,h'.get? b=some o) (hT:s.heap.objs.size<=Tt) (ht:IsTup h' Tt its.toArray) (rv:Vals ys its) (hz:ys.length<=sizeLine) :
  Inv X pins U (aG H Tt (.tup ys)) { s with heap:=h',toks:=tk }:=by
 have hn:H Tt=none:=I.aD.fresh hT;have nch:∀b u,H b=some u->b∉ch:=λb u e hb=>by rw[(hf b hb).1]at e;cases e
 have lch:X.env.locals∉ch:=λhb=>(hf _ hb).2.1 rfl;refine I.step (g':=s.gens) (d':=s.drawn) (ch:=ch) (λb hb=>⟨(hf b hb).2.2.2.1,(hf b hb).2.1,(hf b hb).2.2.2.2.1,(hf b hb).2.2.2.2.2⟩) (λb o _ _ hc e _=>k b o hc e) (λb o _ _ hc e _=>⟨o.slots,k b o hc e⟩)
  (λb o _ e n=>by rw[aO (Nat.ne_of_lt (Nat.lt_of_lt_of_le (Heap.lt_size e) hT))];exact n) (λb o hc e=>⟨o,k b o hc e⟩)
  (λb xs e=>by rw[aO (dI e hn)];exact e) (λb o u e=>by rw[aO (dI e hn)];exact e) (λb ps e=>⟨#[],by rw[aO (dI e hn),e];simp⟩) (λm hm=>?_) (λb u e=>?_) I.bare
 .obtain⟨o,es,ep,ho,r⟩:=hm;exact⟨o,es,ep,k _ o lch ho,r⟩
 .by_cases hb:b=Tt
  .subst hb;rw[cQ]at e;cases e;exact⟨hz,its,rv,ht⟩
  .rw[aO hb]at e;refine(I.aD b u e).gI (λc v hc q=>k c v ?_ q) (λc q=>by rw[aO (dI q hn)];exact q) λc xs q=>by rw[aO (dI q hn)];exact q
   rcases hc with rfl|hc
   .exact nch _ _ e
   .exact nch _ _ hc
theorem Qm{pins:List (Addr×Obj)}{U:L2.St}{H:Hp}{s:Shared}{h':Heap}{tk:Nat}{ch:List Addr}(I:Inv X pins U H s)(hf:∀b∈ch,eW X pins H b)
  (k:∀b o,b∉ch->s.heap.get? b=some o->h'.get? b=some o):Inv X pins U H { s with heap:=h',toks:=tk }:=by
 have nch:∀b u,H b=some u->b∉ch:=λb u e hb=>by rw[(hf b hb).1]at e;cases e
 have lch:X.env.locals∉ch:=λhb=>(hf _ hb).2.1 rfl;refine I.step (g':=s.gens) (d':=s.drawn) (ch:=ch) (λb hb=>⟨(hf b hb).2.2.2.1,(hf b hb).2.1,(hf b hb).2.2.2.2.1,(hf b hb).2.2.2.2.2⟩) (λb o _ _ hc e _=>k b o hc e) (λb o _ _ hc e _=>⟨o.slots,k b o hc e⟩)
  (λb o _ e n=>n) (λb o hc e=>⟨o,k b o hc e⟩) (λb xs e=>e) (λb o u e=>e) (λb ps e=>⟨#[],by rw[e];simp⟩) (λm hm=>?_) (λb u e=>?_) I.bare
 .obtain⟨o,es,ep,ho,r⟩:=hm;exact⟨o,es,ep,k _ o lch ho,r⟩
 .refine(I.aD b u e).gI (λc v hc q=>k c v ?_ q) (λc q=>q) λc xs q=>q;rcases hc with rfl|hc
  .exact nch _ _ e
  .exact nch _ _ hc
theorem SK{P:Program}{w:World}{K:W.Frag}{elts:List Expr}{k:Nat}{tp:Pos}(a en it:Addr)(h1:en≠it)(h2:a≠en)(h3:a≠it) :
  Turn P w K (.Tuple elts k tp) (rm K a) [en,it] en (λi h=>(∃old,IsEnum h en it i old)/\h.IsListIter it a i) where
 mem:=by simp
 obj:=λi h st b hb=>by
  obtain⟨⟨old,he⟩,o,e,c,d⟩:=st;rcases List.mem_cons.mp hb with rfl|hb
  .exact⟨_,he,λv z=>by cases z⟩
  .have e':b=it:=by simpa using hb
   subst e';exact⟨o,e,λv z=>by rw[d]at z;cases z⟩
 keep:=λi h h' st k=>by obtain⟨⟨old,he⟩,hit⟩:=st;exact⟨⟨old,k en (by simp) _ he⟩,hit.at λo e=>k it (by simp) o e⟩
 item:=by
  intro X hP hw hK hc i pins s U H E I hf st hg;subst hP hw hK;obtain⟨xs,x,hq,hx⟩:=hg;obtain⟨its,rv,p,hz⟩:=I.list hq;obtain⟨u,hu,ru⟩:=rv.get hx;have hi:i<its.toArray.size:=by have:=(List.getElem?_eq_some_iff.mp hu).1;simpa using this
  have W:=WalksT.enumerate (prog:=X.prog) (w:=X.w) (I.ok.hd hc) en it a h1 h2 h3 its.toArray;refine W.item i s _ _ hi ⟨st.1,st.2,p.isList⟩ λTt vals h' tk hv hT htup hmid kk=>?_;obtain⟨t,x',hx',rfl⟩:=hv;have ex:x'=u:=by
   have:its.toArray[i]?=some u:=by simpa using hu
   rw[this]at hx';exact(Option.some.inj hx').symm
  subst ex;refine⟨.ref Tt,rfl,?_⟩;refine W.go elts k tp i Tt { s with heap:=h',toks:=tk } _ _ hmid λh'' hst kk2=>?_;obtain⟨he2,hit2,hl2⟩:=hst;have keep2:∀b o,b∉[en,it]->s.heap.get? b=some o->h''.get? b=some o:=λb o hb e=>kk2 b o hb (kk b o hb e);have htup2:IsTup h'' Tt #[.int i t,x']:=by obtain⟨o,e,r⟩:=htup;exact⟨o,kk2 _ _ (W.apart i Tt _ hmid) e,r⟩
  have I2:Inv X pins U (aG H Tt (.tup [.int i,x])) { s with heap:=h'',toks:=tk }:=Qn (its:=[.int i t,x']) I hf keep2 (λb hb=>by
   obtain⟨⟨old,he⟩,o,e,_⟩:=(⟨he2,hit2⟩:(∃old,IsEnum h'' en it (i+1) old)/\h''.IsListIter it a (i+1));rcases List.mem_cons.mp hb with rfl|hb
   .exact⟨_,he⟩
   .have e':b=it:=by simpa using hb
    subst e';exact⟨o,e⟩) hT htup2 (.cons ⟨t,rfl⟩ (.cons ru .nil)) (by show 2<=sizeLine;decide)
  have hn:H Tt=none:=I.aD.fresh hT;refine⟨.ref Tt,_,I2,rfl,⟨Tt,x,hn,rfl,rfl,λzs hzs=>by rw[I.wg hzs hq];exact hx⟩,⟨he2,hit2⟩,λb hb=>?_⟩;have hb':b<s.heap.objs.size:=by
   obtain⟨⟨old,he⟩,o,e,_⟩:=id st;rcases List.mem_cons.mp hb with rfl|hb
   .exact Heap.lt_size he
   .have e':b=it:=by simpa using hb
    subst e';exact Heap.lt_size e
  rw[aO (Nat.ne_of_lt (Nat.lt_of_lt_of_le hb' hT))];exact(hf b hb).1
 done:=by intro X hP hw hK hc i pins s U H E I hf st hg;subst hP hw hK;obtain⟨xs,hq,hx⟩:=hg;obtain⟨its,rv,p,hz⟩:=I.list hq;have hl:=rv.length;obtain⟨⟨old,he⟩,hit⟩:=st;exact wpAny_pyNext_enum_end (I.ok.hd hc) he hit p.isList (by simp;omega) λh' eb=>⟨rfl,Qm (tk:=s.toks) I hf λb o hb e=>eb b o (λz=>hb (by simp[z])) e⟩
 self:=λA i s Q E st h=>by obtain⟨⟨old,he⟩,_⟩:=st;exact wpAny_pyIter_enum he h
def Yh(K:W.Frag)(ta:TA):TI:=λU H R=>ta U H λvs H1=>∃a,vs=[.ref a]/\(∃xs,bG K H1 a xs)/\R (rm K a) H1
theorem FG{elts:List Expr} {k:Nat} {tp:Pos} {ta:TA} (hg:Gl X "enumerate") (hm:X.mg "enumerate"=none) (ha:PA X [a] ta) (hs:starEach [a] X.env=[(false,eval a X.env)]):PI X (.Tuple elts k tp) (.Call (.Name "enumerate" p) [a] [] pos) (Yh X.K ta):=by
 intro pins s U H R I h;refine Call_ (rO I hg hm boot_enumerate (PyProof.Rows.callWith_type1 (aI (ha pos pins s U H _ I h) λus s1 ⟨vs,H1,I1,r1,q1⟩=>?_) hs rfl));obtain⟨a,e,⟨xs,hq⟩,q⟩:=q1;subst e;cases r1 with
 |cons r rr=>
  cases rr;cases r;obtain⟨its,rv,p,hz⟩:=I1.list hq;have ha:a<s1.heap.objs.size:=by obtain⟨o,_,e,_⟩:=p;exact Heap.lt_size e
  refine call_enumerate_list p.isList λh' he hit hsz kk=>?_;have I2:Inv X pins U H1 { s1 with heap:=h' }:=I1.kept (t':=s1.toks) kk;refine wpAny_pyIter_enum he ?_;refine⟨s1.heap.objs.size+1,[s1.heap.objs.size+1,s1.heap.objs.size],_,_,H1,rfl,I2,SK a _ _ (Nat.ne_of_gt (Nat.lt_succ_self _)) (Nat.ne_of_lt (Nat.lt_succ_of_lt ha)) (Nat.ne_of_lt ha),⟨⟨_,he⟩,hit⟩,λb hb=>?_,q⟩;rcases List.mem_cons.mp hb with rfl|hb
  .exact I1.mV (Nat.le_succ _) (I1.aD.fresh (Nat.le_succ _))
  .have e':b=s1.heap.objs.size:=by simpa using hb
   subst e';exact I1.mV (Nat.le_refl _) (I1.aD.fresh (Nat.le_refl _))
theorem MV{Z:List Addr}{H:Hp}{n:Nat}{a:Addr}(q:Z[n]?=some a):RI T Z H (oO (dX n)) (rm T.K a):=by
 intro Z' h' H' i e R;obtain⟨h1,h2⟩:=Ox (T:=T) (H:=H) q Z' h' H' i e R;unfold oO;cases o:dX n i h' with
 |none=>exact⟨λz=>(by cases z),λv z=>(by cases z)⟩|some u=>
  cases u with
  |none=>exact⟨λ_=>h1 o,λv z=>(by cases z)⟩|some v=>refine⟨λz=>(by cases z),λv' z=>?_⟩;cases z;obtain⟨g1,g2⟩:=h2 v o;refine⟨g1,λx H2 yl=>?_⟩;obtain⟨Tt,y,hn,rfl,rfl,k⟩:=yl;obtain⟨Z2,e2,R2,rv⟩:=g2 y H' ⟨rfl,k⟩;exact⟨Z2,⟨e2.pre,(Ext.fA (Z:=Z') hn).tup,(Ext.fA (Z:=Z') hn).bC⟩,R2.keep hn,.tup (.of cQ) (.cons (.int _) (.cons (rv.ext (.fA hn)) .nil))⟩
theorem IZ{elts:List Expr} {k:Nat} {tp:Pos} (hK:X.K=T.K) (hg:Gl X "enumerate") (hm:X.mg "enumerate"=none) (ha:QE X T E a m) (hs:aP a=true) :
  QI X T E (.Tuple elts k tp) (.Call (.Name "enumerate" p) [a] [] pos) (λU=>(m U).bind gg):=by
 obtain⟨ta,pa,ra⟩:=ha;refine⟨_,FG hg hm (jL pa pC (bX hs)) (by rw[bX hs];rfl),λZ U U' h H Q R S w=>ra Z U U' h H _ R S (W.bind w λZ1 x x' h1 H1 e1 R1 q1 w1=>?_)⟩;cases x with
 |ref n=>
  cases q1 with
  |@ref _ a q=>
   simp only[gg]at w1;cases o:h1.ob n with
   |none=>rw[o]at w1;exact w1.elim|some u=>
    rw[o]at w1;cases u with
    |lst mu xs=>obtain⟨ys,g1,r1⟩:=iE R1 o q;exact⟨a,rfl,⟨ys,by rw[hK];exact g1⟩,by rw[hK];exact W.here w1 R1 (MV q)⟩
    |aL _=>exact w1.elim|bJ _=>exact w1.elim|ins _ _=>exact w1.elim|xo _=>exact w1.elim
 |_=>exact w1.elim
def uG(xs:List AV)(lo hi:Option Int):List AV:=(xs.drop (HT.aT xs.length 0 lo)).take (HT.aT xs.length xs.length hi-HT.aT xs.length 0 lo)
theorem He{Z:List Addr}{H:Hp}{xs:List AV}{ys:List V}(r:aH T Z H xs ys)(lo hi:Option Int):aH T Z H (uG xs lo hi) (qF ys lo hi):=by unfold uG qF;rw[<- r.length];exact(r.drop _).take _
def rH(x:AV)(lo hi:Option Int):M AV:=λh=>match x with
 |.ref n=>match h.ob n with
  |some (.lst _ xs)=>eB (uG xs lo hi) h
  |_=>.bad
 |.tup xs=>if HT.aT xs.length 0 lo=0/\HT.aT xs.length xs.length hi=xs.length then .bad else .ok (.tup (uG xs lo hi)) h
 |_=>.bad
def Ro:Rl (Option Int) (Option Int):=λ_ _ a b=>a=b
def QO(X:Cx)(T:Tab)(E:XK)(o:Option Expr)(m:aA->M (Option Int)):Prop:=
 ∃t,PO X o t/\∀Z U U' h H Q,aM T Z h H->aV T Z H U U'->W T Ro (m U h) Z H Q E->t U' H Q
def zT(v:AV):M (Option Int):=λh=>match v with
 |.int i=>.ok (some i) h
 |_=>.bad
theorem LB:QO X T E none (λ_=>M.ret none):=⟨_,FX,λZ U U' h H Q R S w=>W.here w R rfl⟩
theorem LC(ha:QE X T E a m):QO X T E (some a) (λU=>(m U).bind zT):=by
 obtain⟨ta,pa,ra⟩:=ha;refine⟨_,FY pa,λZ U U' h H Q R S w=>ra Z U U' h H _ R S (W.bind w λZ1 x x' h1 H1 e1 R1 q1 w1=>?_)⟩;cases x with
 |int i=>cases q1;exact⟨i,rfl,W.here w1 R1 rfl⟩|_=>exact w1.elim
theorem IQ(hK:X.K=T.K){lo hi:Option Expr}{p2:Pos}{ml mh:aA->M (Option Int)}(ha:QE X T E a m)(hl:QO X T E lo ml)(hh:QO X T E hi mh) :
  QE X T E (.Subscript a (.Slice lo hi none p2) pos) (λU=>(m U).bind λx=>(ml U).bind λl=>(mh U).bind λu=>rH x l u):=by
 obtain⟨ta,pa,ra⟩:=ha;obtain⟨tl,pl,rl⟩:=hl;obtain⟨th,ph,rh⟩:=hh;refine⟨_,ET (OP.or OQ) pa pl ph,λZ U U' h H Q R S w=>ra Z U U' h H _ R S (W.bind w λZ1 x x' h1 H1 e1 R1 q1 w1=>?_)⟩;refine rl Z1 U U' h1 H1 _ R1 (S.ext e1) (W.bind w1 λZ2 l l' h2 H2 e2 R2 q2 w2=>?_);refine rh Z2 U U' h2 H2 _ R2 ((S.ext e1).ext e2) (W.bind w2 λZ3 u u' h3 H3 e3 R3 q3 w3=>?_);cases(show l=l' from q2);cases(show u=u' from q3);have q1':=(q1.ext e2).ext e3;cases x with
 |ref n=>
  cases q1' with
  |@ref _ a q=>
   simp only[rH]at w3;cases o:h3.ob n with
   |none=>rw[o]at w3;exact w3.elim|some ob=>
    rw[o]at w3;cases ob with
    |lst mu xs=>obtain⟨ys,g1,r1⟩:=iE R3 o q;exact .inl ⟨a,ys,rfl,by rw[hK];exact g1,λp hp=>oY R3 (He r1 l u) hp w3⟩
    |aL _=>exact w3.elim|bJ _=>exact w3.elim|ins _ _=>exact w3.elim|xo _=>exact w3.elim
 |tup xs=>
  cases q1' with
  |@tup a _ ys hq hr=>
   simp only[rH]at w3;by_cases hw:HT.aT xs.length 0 l=0/\HT.aT xs.length xs.length u=xs.length
   .rw[if_pos hw]at w3;exact w3.elim
   .rw[if_neg hw]at w3;refine .inr ⟨a,ys,rfl,by rw[hK];exact hq,by rw[<- hr.length];exact hw,λp hp=>jg R3 (He hr l u) hp w3⟩
 |_=>exact w3.elim
def zR(xs:List AV):M AV:=λh=>match xs with
 |[.str z]=>if z.length<=sizeLine then .ok (.int z.length) h else .bad
 |[x]=>match cM h x with
  |some ys=>.ok (.int ys.length) h
  |none=>.bad
 |_=>.bad
def Ik(xs:List AV):M AV:=λh=>match xs with
 |[.int i]=>.ok (.int i) h
 |[.bl k]=>.ok (.int (if k then 1 else 0)) h
 |_=>.bad
def uT:List AV->Option (Int×Int)
 |[.int i,.int j]=>some (i,j)
 |_=>none
def rT:List AV->Option AV
 |[x]=>some x
 |_=>none
def Iq(xs:List AV):M AV:=λh=>match uT xs with
 |some (i,j)=>.ok (.int (if j<i then j else i)) h
 |none=>.bad
def Ip(xs:List AV):M AV:=λh=>match uT xs with
 |some (i,j)=>.ok (.int (if j > i then j else i)) h
 |none=>.bad
def Ig(xs:List AV):M AV:=λh=>match uT xs with
 |some (i,j)=>if rB j=true then .ok (.tup [.int (i / j),.int (i%j)]) h else .bad
 |none=>.bad
def xB:aC->AV
 |.inl i=>.int i
 |.inr x=>.str x
theorem Zl{T:Tab}{Z:List Addr}{H:Hp}(k:aC):aF T Z H (xB k) (kV k):=by
 cases k with
 |inl i=>exact .int i|inr x=>exact .str x
def XQ(h:AH):AV->Option (List AV)
 |.ref n=>match h.ob n with
  |some (.aL kvs)=>some (kvs.map λp=>xB p.1)
  |_=>none
 |_=>none
def gz(xs:List AV):M AV:=λh=>match (rT xs).bind (cM h) with
 |some ys=>.ok (.tup ys) h
 |none=>.bad
def gm(xs:List AV):M AV:=λh=>match (rT xs).bind (cM h) with
 |some ys=>eB ys h
 |none=>.bad
theorem Yv{xs:List AV}{i j:Int}(h:uT xs=some (i,j)):xs=[.int i,.int j]:=by
 unfold uT at h;split at h
 .cases h;rfl
 .cases h
theorem BP{xs:List AV}{x:AV}(h:rT xs=some x):xs=[x]:=by
 unfold rT at h;split at h
 .cases h;rfl
 .cases h
theorem Tx(hK:X.K=T.K):mO X T E (.builtin "len") zR:=by
 refine⟨_,Su.or Sv,λZ h H xs aX Q R r w=>?_⟩;cases r with
 |nil=>exact w.elim|@cons x x' _ _ r1 rs=>
  cases rs with
  |nil=>
   have go:(∀z,x ≠ .str z)->(∃p ys,[x']=[.ref p]/\(bG X.K H p ys\/bV X.K H p ys)/\Q (.int ys.length) H):=λnz=>by
    have w':W T (aF T) (match cM h x with
     |some ys=>Res.ok (.int ys.length) h
     |none=>.bad) Z H Q E:=by
      cases x with
      |str z=>exact absurd rfl (nz z)|_=>exact w
    cases o:cM h x with
    |none=>rw[o]at w';exact w'.elim|some ys=>rw[o]at w';obtain⟨p,zs,e,hq,hr⟩:=yM R r1 o;refine⟨p,zs,by rw[e],by rw[hK];exact hq,?_⟩;rw[<- hr.length];exact w'.here R (.int _)
   cases x with
   |str z=>
    cases r1;simp only[zR]at w;by_cases hz:z.length<=sizeLine
    .rw[if_pos hz]at w;exact .inr ⟨z,rfl,hz,w.here R (.int _)⟩
    .rw[if_neg hz]at w;exact w.elim
   |_=>exact .inl (go λz e=>by cases e)
  |cons r2 rs2=>cases x<;>exact w.elim
theorem Tv:mO X T E (.type "int") Ik:=by
 refine⟨_,So,λZ h H xs aX Q R r w=>?_⟩;cases r with
 |nil=>exact w.elim|cons r1 rs=>
  cases rs with
  |nil=>
   cases r1 with
   |int i=>exact .inl ⟨i,rfl,W.here w R (.int _)⟩|bl k=>exact .inr ⟨k,rfl,W.here w R (.int _)⟩|_=>exact w.elim
  |cons r2 rs2=>cases r1<;>exact w.elim
theorem ur{f:Value}{k:Int->Int->M AV}{r:List V->Hp->VK->Prop}(hr:dM X f r)
  (hw:∀Z h H i j Q,aM T Z h H->W T (aF T) (k i j h) Z H Q E->r [.int i,.int j] H Q):mO X T E f (λxs h=>match uT xs with
   |some (i,j)=>k i j h
   |none=>.bad):=by
 refine⟨_,hr,λZ h H xs aX Q R rr w=>?_⟩;cases o:uT xs with
 |none=>simp only[o]at w;exact w.elim|some q=>
  obtain⟨i,j⟩:=q;simp only[o]at w;have e:=Yv o;subst e;cases rr with
  |cons r1 rs=>
   cases r1;cases rs with
   |cons r2 rs2=>cases r2;cases rs2;exact hw Z h H i j Q R w
theorem Ub(hc:X.calm=true):mO X T E (.builtin "min") Iq:=ur (k:=λi j h=>.ok (.int (if j<i then j else i)) h) (Sz hc) λZ h H i j Q R w=>⟨i,j,rfl,W.here w R (.int _)⟩
theorem Ua(hc:X.calm=true):mO X T E (.builtin "max") Ip:=ur (k:=λi j h=>.ok (.int (if j > i then j else i)) h) (Sy hc) λZ h H i j Q R w=>⟨i,j,rfl,W.here w R (.int _)⟩
theorem Sn:dM X (.builtin "divmod") (λxs H Q=>∃i j,xs=[.int i,.int j]/\(0<j/\j<2 ^ 1000)/\∀p,H p=none->Q (.ref p) (aG H p (.tup [.int (i / j),.int (i%j)]))):=by intro pins s U H xs us Q I r h;obtain⟨i,j,rfl,⟨h1,h2⟩,q⟩:=h;obtain⟨u,w',rfl,⟨t,rfl⟩,⟨t',rfl⟩⟩:=pS r;refine divmod_int (by omega) ?_ (.inl (PyProof.noPylong_of_log2 (log2_lt h2 h1)));rw[Int.fdiv_eq_ediv_of_nonneg i (by omega),Int.fmod_eq_emod_of_nonneg i (by omega)];have hn:H s.heap.objs.size=none:=I.aD.fresh (Nat.le_refl _);refine⟨.ref s.heap.objs.size,_,?_,rfl,q _ hn⟩;refine I.laid (λb o e=>Heap.get?_push_of_some _ e) (Nat.le_refl _) ⟨by simp only[List.length_cons,List.length_nil];rw[sizeLine_eq];decide,[.int (i / j) s.toks,.int (i%j) (s.toks+1)],.cons ⟨_,rfl⟩ (.cons ⟨_,rfl⟩ .nil),?_⟩;exact⟨_,Heap.get?_push_size s.heap rfl,rfl,0,rfl⟩
theorem Tu:mO X T E (.builtin "divmod") Ig:=ur (k:=λi j h=>if rB j=true then .ok (.tup [.int (i / j),.int (i%j)]) h else .bad) Sn λZ h H i j Q R w=>by
 by_cases hj:rB j=true
 .simp only[if_pos hj]at w;exact⟨i,j,rfl,Hm hj,λp hp=>jg R (.cons (.int _) (.cons (.int _) .nil)) hp w⟩
 .simp only[if_neg hj]at w;exact w.elim
theorem Kt{Z:List Addr}{h:AH}{H:Hp}{xs:List AV}{aX:List V}{Q:VK}{k:List AV->M AV}(R:aM T Z h H)(r:aH T Z H xs aX)(w:W T (aF T) ((match (rT xs).bind (cM h) with
  |some ys=>k ys h
  |none=>.bad:Res AV)) Z H Q E):∃p ys zs,aX=[.ref p]/\(bG T.K H p zs\/bV T.K H p zs)/\aH T Z H ys zs/\W T (aF T) (k ys h) Z H Q E:=by
 cases o1:rT xs with
 |none=>rw[o1]at w;exact w.elim|some x=>
  rw[o1]at w;simp only[Option.bind_some]at w;have e:=BP o1;subst e;cases r with
  |cons r1 rs=>
   cases rs;cases o:cM h x with
   |none=>rw[o]at w;exact w.elim|some ys=>rw[o]at w;obtain⟨p,zs,e,hq,hr⟩:=yM R r1 o;exact⟨p,ys,zs,by rw[e],hq,hr,w⟩
theorem Uc(hK:X.K=T.K):mO X T E (.type "tuple") gz:=by
 refine⟨_,Tj,λZ h H xs aX Q R r w=>?_⟩;obtain⟨p,ys,zs,rfl,hq,hr,w'⟩:=Kt (k:=λys h=>.ok (.tup ys) h) R r w;rcases hq with hq|hq
 .exact⟨p,zs,rfl,.inl ⟨by rw[hK];exact hq,λl hl=>jg R hr hl w'⟩⟩
 .exact⟨p,zs,rfl,.inr ⟨by rw[hK];exact hq,W.here w' R (.tup hq hr)⟩⟩
theorem Tz(hK:X.K=T.K)(hc:X.calm=true):mO X T E (.type "list") gm:=by refine⟨_,Sw,λZ h H xs aX Q R r w=>?_⟩;obtain⟨p,ys,zs,rfl,hq,hr,w'⟩:=Kt (k:=λys h=>eB ys h) R r w;exact⟨p,zs,rfl,by rw[hK];exact hq,λl hl=>oY R hr hl w'⟩
theorem js{x:Str} {id:String} {g:List AV->M AV} (hc:mO X T E (.builtin id) g) (hg:Gl X x) (hm:X.mg x=none) (hv:bootBuiltins x=some (.builtin id)) (ha:QA X T E (e::es) mr) (hs:(e::es).all aP=true) (hn:x≠"__name__") (hd:(x==("__debug__":Str))=false) :
  QE X T E (.Call (.Name x p) (e::es) [] pos) (λU=>(mr U).bind g):=by
 obtain⟨r,hr,hgg⟩:=hc;obtain⟨tr,pr,rr⟩:=ha;rw[List.all_cons,Bool.and_eq_true]at hs;exact⟨_,xJ hr hg hm hv pr hn hd (bX hs.1) (kJ hs.2),λZ U U' h H Q R S w=>rr Z U U' h H _ R S (W.bind w λZ1 xs aX h1 H1 e1 R1 q1 w1=>hgg Z1 h1 H1 xs aX Q R1 q1 w1)⟩
theorem xr{x:Str} {id:String} {g:List AV->M AV} (hc:mO X T E (.type id) g) (hg:Gl X x) (hm:X.mg x=none) (hv:bootBuiltins x=some (.type id)) (ha:QA X T E (e::es) mr) (hs:(e::es).all aP=true) (hn:x≠"__name__") (hd:(x==("__debug__":Str))=false) :
  QE X T E (.Call (.Name x p) (e::es) [] pos) (λU=>(mr U).bind g):=by
 obtain⟨r,hr,hgg⟩:=hc;obtain⟨tr,pr,rr⟩:=ha;rw[List.all_cons,Bool.and_eq_true]at hs;exact⟨_,EA hr hg hm hv pr hn hd (bX hs.1) (kJ hs.2),λZ U U' h H Q R S w=>rr Z U U' h H _ R S (W.bind w λZ1 xs aX h1 H1 e1 R1 q1 w1=>hgg Z1 h1 H1 xs aX Q R1 q1 w1)⟩
end
def Ea(aW aY:Bool)(K:W.Frag)(a b:Addr):It:=
  ⟨λi H=>∃xs ys x y,hW aW K H a xs/\hW aY K H b ys/\xs[i]?=some x/\ys[i]?=some y,
   λi H x H'=>∃T u v,H T=none/\x = .ref T/\H'=aG H T (.tup [u,v])/\(∀xs,hW aW K H a xs->xs[i]?=some u)/\∀ys,hW aY K H b ys->ys[i]?=some v,
   λi H=>∃xs ys,hW aW K H a xs/\hW aY K H b ys/\(xs[i]?=none\/ys[i]?=none)⟩
section
variable {X:Cx}{T:Tab}{E:XK}{a b c e tg l:Expr}{es:List Expr}{ma mb m:aA->M AV}{mr:aA->M (List AV)}{pos p:Pos}
theorem yN{pins:List (Addr×Obj)}{U:L2.St}{H:Hp}{s:Shared}{kd:Bool}{l:Addr}{xs:List V}(I:Inv X pins U H s)(h:hW kd X.K H l xs):∃its:List Value,Vals xs its/\gJ kd s.heap l its.toArray:=by
 cases kd with
 |true=>obtain⟨its,rv,p,_⟩:=I.list h;exact⟨its,rv,p.isList⟩|false=>obtain⟨its,rv,p,_⟩:=I.tuple h;exact⟨its,rv,p⟩
theorem Pq{pins:List (Addr×Obj)}{U:L2.St}{H:Hp}{s:Shared}{kd:Bool}{l:Addr}{xs ys:List V}(I:Inv X pins U H s)(h:hW kd X.K H l xs)(h':hW kd X.K H l ys):xs=ys:=by
 cases kd with
 |true=>exact I.wg h h'|false=>exact I.Qk h h'
theorem SQ{P:Program}{w:World}{K:W.Frag}{elts:List Expr}{k:Nat}{tp:Pos}(aW aY:Bool){z TI TO i1 i2 l1 l2:Addr}(D:ZipApart z TI TO i1 i2 l1 l2) :
  Turn P w K (.Tuple elts k tp) (Ea aW aY K l1 l2) [z,TI,TO,i1,i2] z (λi h=>IsZip h z TI TO .none/\IsPair h TI (.ref i1) (.ref i2)/\(∃a b,IsPair h TO a b)/\fW aW h i1 l1 i/\fW aY h i2 l2 i) where
 mem:=by simp
 obj:=λi h st b hb=>by
  obtain⟨hz,hTI,⟨a,b',hTO⟩,h1,h2⟩:=st;simp only[List.mem_cons,List.not_mem_nil,or_false]at hb;rcases hb with rfl|rfl|rfl|rfl|rfl
  .exact⟨_,hz,λv q=>by cases q⟩
  .exact⟨_,hTI,λv q=>by cases q⟩
  .exact⟨_,hTO,λv q=>by cases q⟩
  .exact h1.live
  .exact h2.live
 keep:=λi h h' st kk=>by obtain⟨hz,hTI,⟨a,b',hTO⟩,h1,h2⟩:=st;exact⟨kk z (by simp) _ hz,kk TI (by simp) _ hTI,⟨a,b',kk TO (by simp) _ hTO⟩,h1.at λo e=>kk i1 (by simp) o e,h2.at λo e=>kk i2 (by simp) o e⟩
 item:=by
  intro X hP hw hK hc i pins s U H E I hf st hg;subst hP hw hK;obtain⟨xs,ys,x,y,hq1,hq2,hx,hy⟩:=hg;obtain⟨its1,rv1,p1⟩:=yN I hq1;obtain⟨its2,rv2,p2⟩:=yN I hq2;obtain⟨u1,hu1,ru1⟩:=rv1.get hx;obtain⟨u2,hu2,ru2⟩:=rv2.get hy;obtain⟨hz,hTI,⟨a,b',hTO⟩,h1,h2⟩:=id st;have hh:X.A.in1.handled=none:=I.ok.hd hc;refine BJ D (eF.kd hh aW D.l1i1 its1.toArray) (eF.kd hh aY D.l2i2 its2.toArray) hz hTI hTO ⟨h1,p1⟩ ⟨h2,p2⟩ (x:=u1) (y:=u2) (by simpa using hu1) (by simpa using hu2) λh' z' t' s1 s2 new kk=>?_;refine⟨_,rfl,?_⟩;refine wpAny_letOwnedTupleGo_zip z' λh'' z'' sb=>?_;have lt:∀{c:Addr} {o:Obj},s.heap.get? c=some o->s.heap.objs.size≠c:=λe=>Nat.ne_of_gt (Heap.lt_size e);have keep2:∀c o,c∉[z,TI,TO,i1,i2]->s.heap.get? c=some o->h''.get? c=some o:=λc o hc e=>by simp only[List.mem_cons,List.not_mem_nil,or_false,not_or]at hc;exact sb.extBut _ _ hc.1 (kk c o hc.1 hc.2.2.1 hc.2.2.2.1 hc.2.2.2.2 e)
  have hTI2:IsPair h'' TI (.ref i1) (.ref i2):=sb.extBut _ _ D.TIz (kk _ _ D.TIz D.TITO D.TIi1 D.TIi2 hTI);have hTO2:IsPair h'' TO u1 u2:=sb.extBut _ _ D.TOz t';have s1':fW aW h'' i1 l1 (i+1):=s1.1.at λo e=>sb.extBut _ _ D.i1z e;have s2':fW aY h'' i2 l2 (i+1):=s2.1.at λo e=>sb.extBut _ _ D.i2z e;have new2:IsPair h'' s.heap.objs.size u1 u2:=sb.extBut _ _ (lt hz) new;have I2:Inv X pins U (aG H s.heap.objs.size (.tup [x,y])) { s with heap:=h'' }:=Qn (tk:=s.toks) (its:=[u1,u2]) I hf keep2 (λc hc=>by
   simp only[List.mem_cons,List.not_mem_nil,or_false]at hc;rcases hc with rfl|rfl|rfl|rfl|rfl
   .exact⟨_,z''⟩
   .exact⟨_,hTI2⟩
   .exact⟨_,hTO2⟩
   .exact let ⟨o,e,_⟩:=s1'.live;⟨o,e⟩
   .exact let ⟨o,e,_⟩:=s2'.live;⟨o,e⟩) (Nat.le_refl _) ⟨_,new2,rfl,_,rfl⟩ (.cons ru1 (.cons ru2 .nil)) (by show 2<=sizeLine;decide)
  have hn:H s.heap.objs.size=none:=I.aD.fresh (Nat.le_refl _);refine⟨.ref s.heap.objs.size,_,I2,rfl,⟨_,x,y,hn,rfl,rfl,λzs hzs=>by rw[Pq I hzs hq1];exact hx,λzs hzs=>by rw[Pq I hzs hq2];exact hy⟩,⟨z'',hTI2,⟨_,_,hTO2⟩,s1',s2'⟩,λc hc=>?_⟩;have hc':s.heap.objs.size≠c:=by
   simp only[List.mem_cons,List.not_mem_nil,or_false]at hc;rcases hc with rfl|rfl|rfl|rfl|rfl
   .exact lt hz
   .exact lt hTI
   .exact lt hTO
   .exact let ⟨o,e,_⟩:=h1.live;lt e
   .exact let ⟨o,e,_⟩:=h2.live;lt e
  rw[aO hc'.symm];exact(hf c hc).1
 done:=by
  intro X hP hw hK hc i pins s U H E I hf st hg;subst hP hw hK;obtain⟨xs,ys,hq1,hq2,hend⟩:=hg;obtain⟨its1,rv1,p1⟩:=yN I hq1;obtain⟨its2,rv2,p2⟩:=yN I hq2;obtain⟨hz,hTI,⟨a,b',hTO⟩,h1,h2⟩:=id st;have hh:X.A.in1.handled=none:=I.ok.hd hc;refine Vz D (eF.kd hh aW D.l1i1 its1.toArray) (eF.kd hh aY D.l2i2 its2.toArray) hz hTI hTO ⟨h1,p1⟩ ⟨h2,p2⟩ ?_ λh' kk=>⟨rfl,Qm (tk:=s.toks) I hf λc o hc e=>?_⟩
  .rcases hend with q|q
   .exact .inl (by simpa using rv1.none_of q)
   .exact .inr (by simpa using rv2.none_of q)
  .simp only[List.mem_cons,List.not_mem_nil,or_false,not_or]at hc;exact kk c o hc.1 hc.2.2.1 hc.2.2.2.1 hc.2.2.2.2 e
 self:=λA i s Q E st h=>wpAny_pyIter_zip st.1 h
theorem XI(n a b:Nat)(ha:a<n)(hb:b<n):ZipApart (n+4) (n+2) (n+3) n (n+1) a b:=
 ⟨Nat.ne_of_lt (by omega),Nat.ne_of_lt (by omega),Nat.ne_of_lt (by omega),Nat.ne_of_lt (by omega),Nat.ne_of_lt (by omega),Nat.ne_of_gt (by omega),Nat.ne_of_gt (by omega),Nat.ne_of_gt (by omega),Nat.ne_of_gt (by omega),Nat.ne_of_lt (by omega),
  Nat.ne_of_lt (by omega),Nat.ne_of_lt (by omega),Nat.ne_of_lt (by omega),Nat.ne_of_lt (by omega),Nat.ne_of_lt (by omega),Nat.ne_of_lt (by omega),Nat.ne_of_lt (by omega),Nat.ne_of_lt (by omega)⟩
def Yl(K:W.Frag)(ta:TA):TI:=λU H R=>ta U H λvs H1=>∃a b aW aY,vs=[.ref a,.ref b]/\(∃xs,hW aW K H1 a xs)/\(∃ys,hW aY K H1 b ys)/\R (Ea aW aY K a b) H1
theorem FK{elts:List Expr} {k:Nat} {tp:Pos} {ta:TA} (hg:Gl X "zip") (hm:X.mg "zip"=none) (ha:PA X [a,b] ta) (hs:aP a=true) (hs2:aP b=true):PI X (.Tuple elts k tp) (.Call (.Name "zip" p) [a,b] [] pos) (Yl X.K ta):=by
 intro pins s U H R I h;refine Call_ (rO I hg hm boot_zip (PyProof.Rows.callWith_type1 (aI (ha pos pins s U H _ I h) λus s1 ⟨vs,H1,I1,r1,q1⟩=>?_) (bX hs) (kJ (by simp[hs2]))));obtain⟨a,b,aW,aY,e,⟨xs,hq1⟩,⟨ys,hq2⟩,q⟩:=q1;subst e;cases r1 with
 |cons r rr=>
  cases r;cases rr with
  |cons r' rr'=>
   cases r';cases rr';obtain⟨its1,rv1,p1⟩:=yN I1 hq1;obtain⟨its2,rv2,p2⟩:=yN I1 hq2;have ltA:∀{kd:Bool} {l:Addr} {items:Array Value},gJ kd s1.heap l items->l<s1.heap.objs.size:=λ{kd l items} hl=>by
    cases kd with
    |true=>obtain⟨o,e,_⟩:=(show s1.heap.IsList l items from hl);exact Heap.lt_size e|false=>obtain⟨o,e,_⟩:=(show s1.heap.IsTuple l items from hl);exact Heap.lt_size e
   have la:=ltA p1;have lb:=ltA p2;refine Tn aW aY p1 p2 λh' hz hTI hTO h1 h2 kk=>?_;have I2:Inv X pins U H1 { s1 with heap:=h' }:=I1.kept (t':=s1.toks) kk;refine wpAny_pyIter_zip hz ?_;have ne:∀{x y:Nat},x<y->x≠y:=λh=>Nat.ne_of_lt h;have D:ZipApart (s1.heap.objs.size+4) (s1.heap.objs.size+2) (s1.heap.objs.size+3) s1.heap.objs.size (s1.heap.objs.size+1) a b:=XI _ _ _ la lb;refine⟨s1.heap.objs.size+4,[s1.heap.objs.size+4,s1.heap.objs.size+2,s1.heap.objs.size+3,s1.heap.objs.size,s1.heap.objs.size+1],_,_,H1,rfl,I2,SQ aW aY D,⟨hz,hTI,⟨_,_,hTO⟩,h1,h2⟩,λc hc=>?_,q⟩;have hle:s1.heap.objs.size<=c:=by
    simp only[List.mem_cons,List.not_mem_nil,or_false]at hc;rcases hc with rfl|rfl|rfl|rfl|rfl
    .exact Nat.le_add_right _ _
    .exact Nat.le_add_right _ _
    .exact Nat.le_add_right _ _
    .exact Nat.le_refl _
    .exact Nat.le_add_right _ _
   exact I1.mV hle (I1.aD.fresh hle)
def pU(it jt:dC):dC:=λi h=>match it i h,jt i h with
 |some (some u),some (some v)=>some (some (.tup [u,v]))
 |some none,some _=>some none
 |some _,some none=>some none
 |_,_=>none
def ib(xs:List AV):M dC:=λh=>match xs with
 |[x,y]=>match fR x h,fR y h with
  |.ok it _,.ok jt _=>.ok (pU it jt) h
  |_,_=>.bad
 |_=>.bad
theorem Jr{Z:List Addr}{h:AH}{H:Hp}{x:AV}{x':V}{it:dC}{h2:AH}(R:aM T Z h H)(r:aF T Z H x x')(e:fR x h = .ok it h2) :
  ∃a kd,x' = .ref a/\(∃xs,hW kd T.K H a xs)/\∀Z' h' H' i,Ext Z H Z' H'->aM T Z' h' H'->∀o,it i h'=some o->∃ys,hW kd T.K H' a ys/\((o=none/\ys[i]?=none)\/∃v v',o=some v/\ys[i]?=some v'/\aF T Z' H' v v'):=by
 cases x with
 |tup xs=>
  cases r with
  |@tup a _ ys hq hr=>
   cases e;refine⟨a,false,rfl,⟨ys,hq⟩,λZ' h' H' i ex R' o ho=>⟨ys,ex.cw hq,?_⟩⟩;have ho':xs[i]?=o:=Option.some.inj ho;have r':=hr.ext ex;cases o with
   |none=>exact .inl ⟨rfl,by rw[List.getElem?_eq_none_iff]at ho' ⊢;rw[<- hr.length];exact ho'⟩|some v=>obtain⟨v',g1,g2⟩:=r'.get ho';exact .inr ⟨v,v',rfl,g1,g2⟩
 |ref n=>
  cases r with
  |@ref _ a q=>
   simp only[fR]at e;cases ob:h.ob n with
   |none=>rw[ob]at e;cases e|some u=>
    rw[ob]at e;cases u with
    |lst mu xs=>
     cases e;obtain⟨ys,g1,r1⟩:=iE R ob q;refine⟨a,true,rfl,⟨ys,g1⟩,λZ' h' H' i ex R' o ho=>?_⟩;unfold dX at ho;cases ob':h'.ob n with
     |none=>rw[ob']at ho;cases ho|some u'=>
      rw[ob']at ho;cases u' with
      |lst mu' aX=>
       obtain⟨zs,g2,r2⟩:=iE R' ob' (ex.pre n a q);have ho':aX[i]?=o:=Option.some.inj ho;refine⟨zs,g2,?_⟩;cases o with
       |none=>exact .inl ⟨rfl,by rw[List.getElem?_eq_none_iff]at ho' ⊢;rw[<- r2.length];exact ho'⟩|some v=>obtain⟨v',g3,g4⟩:=r2.get ho';exact .inr ⟨v,v',rfl,g3,g4⟩
      |aL _=>cases ho|bJ _=>cases ho|ins _ _=>cases ho|xo _=>cases ho
    |aL _=>cases e|bJ _=>cases e|ins _ _=>cases e|xo _=>cases e
 |_=>cases e
theorem JC{elts:List Expr} {k:Nat} {tp:Pos} (hK:X.K=T.K) (hg:Gl X "zip") (hm:X.mg "zip"=none) (ha:QA X T E [a,b] mr) (hs:aP a=true) (hs2:aP b=true) :
  QI X T E (.Tuple elts k tp) (.Call (.Name "zip" p) [a,b] [] pos) (λU=>(mr U).bind ib):=by
 obtain⟨ta,pa,ra⟩:=ha;refine⟨_,FK hg hm pa hs hs2,λZ U U' h H Q R S w=>ra Z U U' h H _ R S (W.bind w λZ1 xs aX h1 H1 e1 R1 q1 w1=>?_)⟩;cases q1 with
 |nil=>exact w1.elim|@cons x x' _ _ r1 rs=>
  cases rs with
  |nil=>exact w1.elim|@cons y y' _ _ r2 rs2=>
   cases rs2 with
   |cons _ _=>exact w1.elim|nil=>
    simp only[ib]at w1;cases g1:fR x h1 with
    |exc _ _ _=>rw[g1]at w1;exact w1.elim|bad=>rw[g1]at w1;exact w1.elim|ok it hx=>
     cases g2:fR y h1 with
     |exc _ _ _=>rw[g1,g2]at w1;exact w1.elim|bad=>rw[g1,g2]at w1;exact w1.elim|ok jt hy=>
      rw[g1,g2]at w1;obtain⟨pa,aW,rfl,sa,fa⟩:=Jr R1 r1 g1;obtain⟨pb,aY,rfl,sb,fb⟩:=Jr R1 r2 g2;refine⟨pa,pb,aW,aY,rfl,by rw[hK];exact sa,by rw[hK];exact sb,?_⟩;rw[hK];refine W.here w1 R1 λZ' h' H' i ex R'=>?_;unfold pU;cases o1:it i h' with
      |none=>exact⟨λq=>(by cases q),λv q=>(by cases q)⟩|some u=>
       cases o2:jt i h' with
       |none=>
        cases u with
        |none=>exact⟨λq=>(by cases q),λv q=>(by cases q)⟩|some u=>exact⟨λq=>(by cases q),λv q=>(by cases q)⟩
       |some v=>
        obtain⟨ys1,s1,c1⟩:=fa Z' h' H' i ex R' u o1;obtain⟨ys2,s2,c2⟩:=fb Z' h' H' i ex R' v o2;rcases c1 with⟨rfl,n1⟩|⟨u1,u1',rfl,n1,t1⟩
        .exact⟨λ_=>⟨ys1,ys2,s1,s2,.inl n1⟩,λv q=>(by cases q)⟩
        .rcases c2 with⟨rfl,n2⟩|⟨u2,u2',rfl,n2,t2⟩
         .exact⟨λ_=>⟨ys1,ys2,s1,s2,.inr n2⟩,λv q=>(by cases q)⟩
         .refine⟨λq=>(by cases q),λv q=>⟨⟨ys1,ys2,u1',u2',s1,s2,n1,n2⟩,λx H2 yl=>?_⟩⟩;cases q;obtain⟨Tt,y1,y2,hn,rfl,rfl,k1,k2⟩:=yl;have e1:=k1 ys1 s1;have e2:=k2 ys2 s2;rw[n1]at e1;rw[n2]at e2;cases e1;cases e2;exact⟨Z',.fA hn,R'.keep hn,.tup (.of cQ) (.cons (t1.ext (.fA hn)) (.cons (t2.ext (.fA hn)) .nil))⟩
end
def bH{α:Type}(m:M α):M α:=λh=>match m h with
 |.ok a h1=>.ok a h1
 |_=>.bad
theorem xb{T:Tab}{α β:Type}{Rp:Rl α β}{m:M α}{h:AH}{Z:List Addr}{H:Hp}{Q:β->Hp->Prop}{E E':XK}(w:W T Rp (bH m h) Z H Q E):W T Rp (m h) Z H Q E':=by
 unfold bH at w;cases e:m h with
 |ok a h1=>rw[e]at w;exact w|exc c x h1=>rw[e]at w;exact w.elim|bad=>rw[e]at w;exact w.elim
theorem M.bind_assoc{α β γ:Type}(m:M α)(k:α->M β)(l:β->M γ):(m.bind k).bind l=m.bind λx=>(k x).bind l:=by
 funext h
 unfold M.bind;cases m h<;>rfl
def cF(it:dC)(g:AV->aA->M aA)(mt:aA->M Bool)(me:aA->M AV):Nat->Nat->List AV->aA->M (List AV)
 |0,_,_,_=>M.bad
 |f+1,i,ys,U=>λh=>match it i h with
  |none=>.bad
  |some none=>.ok ys h
  |some (some v)=>((bH (g v U)).bind λU1=>(bH (mt U1)).bind λb=>if b=true then(bH (me U1)).bind λy=>M.guard (ys.length<sizeLine) (cF it g mt me f (i+1) (ys++[y]) U1) else cF it g mt me f (i+1) ys U1) h
def gB{α:Type}(imp:List (Option Nat))(U:List (Option α)):List (Option α):=imp.map λo=>match o with
 |some j=>(U[j]?).getD none
 |none=>none
def uE(mi:M dC)(g:AV->aA->M aA)(mt:aA->M Bool)(me:aA->M AV)(imp:List (Option Nat))(U:aA):M AV:=mi.bind λit=>(cF it g mt me FU 0 [] (gB imp U)).bind eB
def Qc(T:Tab)(m:aA->M AV):TE:=λU' H Q=>∃Z U h,aM T Z h H/\aV T Z H U U'/\W T (aF T) (m U h) Z H Q E0
def Qe(T:Tab)(m:aA->M Bool):TT:=λU' H Q=>∃Z U h,aM T Z h H/\aV T Z H U U'/\W T RB (m U h) Z H Q E0
def Qd(T:Tab)(g:AV->aA->M aA):TG:=λv' U' H Q=>∃Z v U h,aM T Z h H/\aV T Z H U U'/\aF T Z H v v'/\W T (aV T) (g v U h) Z H Q E0
section
variable {X:Cx}{T:Tab}{E:XK}{elt tg bD:Expr}{ct:Option Expr}{me:aA->M AV}{mt:aA->M Bool}{mi:aA->M dC}{g:AV->aA->M aA}{imp:List (Option Nat)}{N':List Str}{scope:Scope}{pos:Pos}
theorem QE.canon{e:Expr}{m:aA->M AV}(h:QE X T E0 e m):PE X e (Qc T m):=let ⟨t,p,r⟩:=h;λpins s U' H Q I ⟨Z,U,h,R,S,w⟩=>p pins s U' H Q I (r Z U U' h H Q R S w)
theorem QT.canon{e:Expr}{m:aA->M Bool}(h:QT X T E0 e m):PT X e (Qe T m):=let ⟨t,p,r⟩:=h;λpins s U' H Q I ⟨Z,U,h,R,S,w⟩=>p pins s U' H Q I (r Z U U' h H Q R S w)
theorem QG.canon{e:Expr}{g:AV->aA->M aA}(h:QG X T E0 e g):PG X e (Qd T g):=let ⟨t,p,r⟩:=h;λpins s U' H v' u Q I ru ⟨Z,v,U,h,R,S,rv,w⟩=>p pins s U' H v' u Q I ru (r Z v v' U U' h H Q R S rv w)
theorem ie{α:Type}(U:List (Option α)):(gB imp U).length=imp.length:=by simp[gB]
theorem vw{α:Type}{U:List (Option α)}{i:Nat}{v:α}(h:(gB imp U)[i]?=some (some v)):∃j,imp[i]?=some (some j)/\U[j]?=some (some v):=by
 unfold gB at h;rw[List.getElem?_map]at h;cases e:imp[i]? with
 |none=>rw[e]at h;cases h|some o=>
  rw[e]at h;cases o with
  |none=>cases h|some j=>
   refine⟨j,rfl,?_⟩;have h':(U[j]?).getD none=some v:=Option.some.inj h;cases q:U[j]? with
   |none=>rw[q]at h';cases h'|some w=>rw[q]at h';exact congrArg some h'
theorem aV.Yq{Z:List Addr}{H:Hp}{U:aA}{U':L2.St}(S:aV T Z H U U'):aV T Z H (gB imp U) (gB imp U'):=by refine⟨by rw[ie,ie],λi v e=>?_⟩;obtain⟨j,h1,h2⟩:=vw e;obtain⟨v',h3,r⟩:=S.2 j v h2;refine⟨v',?_,r⟩;unfold gB;rw[List.getElem?_map,h1];show some ((U'[j]?).getD none)=_;rw[h3];rfl
theorem Gy{wi:TI}(ri:∀Z U U' h H R,aM T Z h H->aV T Z H U U'->W T (RI T) (mi U h) Z H R E->wi U' H R){Z:List Addr}{U:aA}{U':L2.St}{h:AH}{H:Hp}{Q:VK}(R:aM T Z h H)(S:aV T Z H U U')
  (w:W T (aF T) (uE (mi U) g mt me imp U h) Z H Q E):De wi (gB imp) (Qd T g) (Qe T mt) (Qc T me) U' H Q:=by
 refine ri Z U U' h H _ R S (W.bind w λZ1 it J h1 H1 e1 R1 q1 w1=>?_);refine⟨λi m ys' U' H=>∃Z ys U h,Ext Z1 H1 Z H/\aM T Z h H/\aV T Z H U U'/\aH T Z H ys ys'/\W T (aF T) (((cF it g mt me m i ys U).bind eB) h) Z H Q E,FU,⟨Z1,[],_,h1,.refl,R1,(S.ext e1).Yq,.nil,w1⟩,?_⟩;rintro i m ys' U' H ⟨Z,ys,U,h,e,R,S,rys,w⟩
 cases m with
 |zero=>exact w.elim|succ f=>
  cases hit:it i h with
  |none=>
   have w':W T (aF T) Res.bad Z H Q E:=by simp only[cF,M.bind,hit]at w;exact w
   exact w'.elim
  |some o=>
   cases o with
   |none=>
    have w':W T (aF T) (eB ys h) Z H Q E:=by simp only[cF,M.bind,hit]at w;exact w
    exact .inl ⟨(q1 Z h H i e R).1 hit,λD hD=>oY R rys hD w'⟩
   |some v=>
    have w':W T (aF T) ((((bH (g v U)).bind λU1=>(bH (mt U1)).bind λb=>if b=true then(bH (me U1)).bind λy=>M.guard (ys.length<sizeLine) (cF it g mt me f (i+1) (ys++[y]) U1) else cF it g mt me f (i+1) ys U1).bind eB) h) Z H Q E:=by
     have e1:∀k:List AV->M AV,((cF it g mt me (f+1) i ys U).bind k) h=((((bH (g v U)).bind λU1=>(bH (mt U1)).bind λb=>if b=true then(bH (me U1)).bind λy=>M.guard (ys.length<sizeLine) (cF it g mt me f (i+1) (ys++[y]) U1) else cF it g mt me f (i+1) ys U1).bind k) h):=λk=>by unfold M.bind;simp only[cF,hit];rfl
     rw[e1]at w;exact w
    rw[M.bind_assoc]at w';obtain⟨go,yl⟩:=(q1 Z h H i e R).2 v hit;refine .inr ⟨go,λx H2 y=>?_⟩;obtain⟨Z2,e2,R2,rv⟩:=yl x H2 y;refine⟨Z2,v,U,h,R2,S.ext e2,rv,xb (E:=E) (W.bind (w'.ext e2) λZ3 U3 U3' h3 H3 e3 R3 S3 w3=>?_)⟩;rw[M.bind_assoc]at w3;refine⟨Z3,U3,h3,R3,S3,xb (E:=E) (W.bind w3 λZ4 d d' h4 H4 e4 R4 q4 w4=>?_)⟩;have q4':d=d':=q4;subst q4';cases d with
    |true=>
     rw[if_pos rfl]at w4 ⊢;rw[M.bind_assoc]at w4;refine⟨Z4,U3,h4,R4,S3.ext e4,xb (E:=E) (W.bind w4 λZ5 y y' h5 H5 e5 R5 q5 w5=>?_)⟩;by_cases hz:ys.length<sizeLine
     .have w6:W T (aF T) (((cF it g mt me f (i+1) (ys++[y]) U3).bind eB) h5) Z5 H5 Q E:=by
       have e6:((M.guard (ys.length<sizeLine) (cF it g mt me f (i+1) (ys++[y]) U3)).bind eB) h5=((cF it g mt me f (i+1) (ys++[y]) U3).bind eB) h5:=by unfold M.bind M.guard;rw[if_pos hz]
       rw[e6]at w5;exact w5
      have eE:=(((e.trans e2).trans e3).trans e4).trans e5;exact⟨by rw[<- rys.length];exact hz,f,Nat.lt_succ_self f,Z5,ys++[y],U3,h5,eE,R5,(S3.ext e4).ext e5,(rys.ext (((e2.trans e3).trans e4).trans e5)).append (.cons q5 .nil),w6⟩
     .have e6:((M.guard (ys.length<sizeLine) (cF it g mt me f (i+1) (ys++[y]) U3)).bind eB) h5 = .bad:=by unfold M.bind M.guard;rw[if_neg hz]
      rw[e6]at w5;exact w5.elim
    |false=>rw[if_neg Bool.false_ne_true]at w4 ⊢;exact⟨f,Nat.lt_succ_self f,Z4,ys,U3,h4,((e.trans e2).trans e3).trans e4,R4,S3.ext e4,rys.ext ((e2.trans e3).trans e4),w4⟩
theorem Lj(hsc:iZ X N' scope)(hcalm:X.calm=true)(hi:QI X T E tg bD mi)(hg:∀s H C fp,QG (X.comp N' scope s H C fp) T E0 tg g)(hct:∀c,ct=some c->∀s H C fp,QT (X.comp N' scope s H C fp) T E0 c mt)
  (hct0:ct=none->mt=λ_=>M.ret true) (he:∀s H C fp,QE (X.comp N' scope s H C fp) T E0 elt me) (himp:imp.length=N'.length)
  (hU:∀(i j:Nat) x,N'[i]?=some x->imp[i]?=some (some j)->scope.names.lookup x=some .free/\(x,NameKind.free)∈scope.names/\X.N[j]?=some x) (hs:aP bD=true) :
  QE X T E (.ListComp elt [⟨tg,bD,ct.toList,0⟩] scope pos) (λU=>uE (mi U) g mt me imp U):=by
 obtain⟨wi,pi,ri⟩:=hi;refine⟨_,ED (imp:=gB imp) hsc hcalm pi (λs H C fp=>(hg s H C fp).canon) (λc e s H C fp=>(hct c e s H C fp).canon) (λe U H Q=>?_) (λs H C fp=>(he s H C fp).canon) (λU=>by rw[ie,himp]) (λU i x v e1 e2=>?_) λx=>Cw hs,λZ U U' h H Q R S w=>Gy ri R S w⟩
 .rintro ⟨Z,U,h,R,S,w⟩
  rw[hct0 e]at w;exact W.here (Rp:=RB) w R rfl
 .obtain⟨j,h1,h2⟩:=vw e2;obtain⟨a,b,c⟩:=hU i j x e1 h1;exact⟨a,b,j,c,h2⟩
theorem Nv{i:Nat}{y:Str}{py spos:Pos}(hN:X.N.Nodup)(hi':X.N[i]?=some y)(hy:X.env.scope.names.lookup y=some .local)
  (hsw:swapsWith (.ListComp elt [⟨tg,bD,ct.toList,0⟩] scope pos) (some (.Name y py)) spos.line X.env=pure true) (hsc:iZ X N' scope) (hcalm:X.calm=true) (hi:QI X T E tg bD mi) (hg:∀s H C fp,QG (X.comp N' scope s H C fp) T E0 tg g) (hct:∀c,ct=some c->∀s H C fp,QT (X.comp N' scope s H C fp) T E0 c mt)
  (hct0:ct=none->mt=λ_=>M.ret true) (he:∀s H C fp,QE (X.comp N' scope s H C fp) T E0 elt me) (himp:imp.length=N'.length)
  (hU:∀(i j:Nat) x,N'[i]?=some x->imp[i]?=some (some j)->scope.names.lookup x=some .free/\(x,NameKind.free)∈scope.names/\X.N[j]?=some x) (hs:aP bD=true) :
  QS X T E (.Assign [.Name y py] (.ListComp elt [⟨tg,bD,ct.toList,0⟩] scope pos) spos) (λU=>(uE (mi U) g mt me imp U).bind λv=>(M.ret (U.set i (some v))).bind λU1=>M.ret (.nx U1)):=by
 obtain⟨wi,pi,ri⟩:=hi;refine⟨_,GQ (imp:=gB imp) hN hi' hy hsw hsc hcalm pi (λs H C fp=>(hg s H C fp).canon) (λc e s H C fp=>(hct c e s H C fp).canon) (λe U H Q=>?_) (λs H C fp=>(he s H C fp).canon) (λU=>by rw[ie,himp]) (λU i x v e1 e2=>?_) λx=>Cw hs,
  λZ U U' h H D R S w=>Gy ri R S (W.bind w λZ1 x x' h1 H1 e1 R1 q1 w1=>W.here (Q:=dS D) (b:=dJ.nx (U'.set i (some x'))) w1 R1 ((S.ext e1).set q1 i))⟩
 .rintro ⟨Z,U,h,R,S,w⟩
  rw[hct0 e]at w;exact W.here (Rp:=RB) w R rfl
 .obtain⟨j,h1,h2⟩:=vw e2;obtain⟨a,b,c⟩:=hU i j x e1 h1;exact⟨a,b,j,c,h2⟩
end
section
variable {X:Cx}{T:Tab}{E:XK}{e l tg:Expr}{st:Stmt}{m:aA->M AV}{ms:aA->M Out}
def kT(ks:List aC):dC:=λi _=>match ks[i]? with
 |some k=>some (some (xB k))
 |none=>if i=ks.length then some none else none
def zM(v:AV):M dC:=λh=>match v with
 |.ref n=>match h.ob n with
  |some (.aL kvs)=>.ok (kT (kvs.map (·.1))) (h.put n (.bJ kvs))
  |_=>.bad
 |_=>.bad
def de{α:Type}(n:Nat)(r:Res α):Res α:=match r with
 |.ok a h=>match h.ob n with
  |some (.bJ kvs)=>.ok a (h.put n (.aL kvs))
  |_=>.bad
 |_=>.bad
theorem MU{Z:List Addr}{H:Hp}{a:Addr}{o:Obj}{kvs:List (aC×AV)}{ys:List V}(hH:H a=some (.bC o (.dK ((kvs.map (·.1)).zip ys))))(hl:ys.length=kvs.length):RI T Z H (kT (kvs.map (·.1))) (rj a o ((kvs.map (·.1)).zip ys)):=by
 intro Z' h' H' i e R;have hH':=e.bC _ _ _ hH;have hlen:((kvs.map (·.1)).zip ys).length=kvs.length:=by simp[hl]
 refine⟨λz=>?_,λv z=>?_⟩
 .unfold kT at z;cases q:(kvs.map (·.1))[i]? with
  |some k=>rw[q]at z;cases z|none=>
   rw[q]at z;dsimp only at z;by_cases hi:i=(kvs.map (·.1)).length
   .exact⟨hH',by rw[hlen];simpa using hi.symm⟩
   .rw[if_neg hi]at z;cases z
 .unfold kT at z;cases q:(kvs.map (·.1))[i]? with
  |none=>rw[q]at z;dsimp only at z;split at z<;>cases z
  |some k=>
   rw[q]at z;cases z;have hi:i<kvs.length:=by simpa using (List.getElem?_eq_some_iff.mp q).1
   refine⟨⟨hH',by rw[hlen];exact hi⟩,λx H2 y=>?_⟩;obtain⟨rfl,k',v',hk,rfl⟩:=y;have hk':k'=k:=by rw[List.getElem?_zip_eq_some]at hk;rw[q]at hk;exact(Option.some.inj hk.1).symm
   subst hk';exact⟨Z',.refl,R,Zl k'⟩
theorem IW(ha:QE X T E l m):QI X T E tg l (λU=>(m U).bind zM):=by
 obtain⟨tl,pl,rl⟩:=ha;refine⟨_,FF pl,λZ U U' h H R Rh S w=>rl Z U U' h H _ Rh S (W.bind w λZ1 v v' h1 H1 e1 R1 q1 w1=>?_)⟩;unfold zM at w1;cases v with
 |ref n=>
  cases q1 with
  |@ref _ a q=>
   dsimp only at w1;cases o:h1.ob n with
   |none=>rw[o]at w1;exact w1.elim|some u=>
    rw[o]at w1;cases u with
    |aL kvs=>
     dsimp only at w1;obtain⟨ks,ys,hH,hk,rv⟩:=R1.obj n _ a o q;subst hk;refine⟨a,_,rfl,hH,λob=>?_⟩;have ex:Ext Z1 H1 Z1 (aG H1 a (.bC ob (.dK ((kvs.map (·.1)).zip ys)))):=⟨λ_ _ z=>z,λb xs z=>by
      rw[aO (kY z hH λw=>by cases w)];exact z,λb x u z=>by
      rw[aO (kY z hH λw=>by cases w)];exact z⟩
     obtain⟨Rf,ef⟩:=R1.write (o':=.bJ kvs) (O':=.bC ob (.dK ((kvs.map (·.1)).zip ys))) o rfl rfl q hH (λ_ z=>by cases z) (λ_ _ z=>by cases z) ⟨ob,_,ys,cQ,rfl,rv.ext ex⟩;exact w1 Z1 _ _ ef Rf (MU cQ (by have:=rv.length;simpa using this.symm))
    |_=>exact w1.elim
 |_=>exact w1.elim
theorem RW{α β:Type}{Rp:Rl α β}(sb:∀Z H H' a b,pW Z H H'->Rp Z H a b->Rp Z H' a b){r:Res α}{n:Nat}{h:AH}{Z:List Addr}{H:Hp}{Q:β->Hp->Prop}{kvs:List (aC×AV)}(R:aM T Z h H)(hn:h.ob n=some (.aL kvs))
  (w:W T Rp (de n r) Z H Q E):W T Rp r Z H (λb=>Tw H (Q b)) E:=by
 cases r with
 |ok a h'=>
  intro Z' b H' e R' q;unfold de at w;dsimp only at w;cases o:h'.ob n with
  |none=>rw[o]at w;exact w.elim|some u=>
   rw[o]at w;cases u with
   |bJ kvs'=>
    dsimp only at w;obtain⟨a0,q0,ks,ys,hH,_,_⟩:=R.at hn;have q':=e.pre n a0 q0;obtain⟨ob,kz,hO,R2⟩:=R'.RV o q';refine⟨a0,_,ob,kz,hH,hO,w Z' b _ ⟨e.pre,λc xs z=>?_,λc x u z=>?_⟩ R2 (sb _ _ _ _ _ (Ht hO) q)⟩
    .have:=e.tup c xs z;rw[aO (λy=>by rw[y,hO]at this;cases this)];exact this
    .have:=e.bC c x u z;rw[aO (λy=>by rw[y,hH]at z;cases z)];exact this
   |_=>exact w.elim
 |exc c x h'=>exact w.elim|bad=>exact w.elim
def fq(r:Res AV):Option Nat:=match r with
 |.ok (.ref n) _=>some n
 |_=>none
def gW{α:Type}(m0:aA->M AV)(ms:aA->M α):aA->M α:=λU h=>match fq (m0 U h) with
 |some n=>match h.ob n with
  |some (.aL _)=>de n (ms U h)
  |_=>.bad
 |none=>.bad
theorem Qi{α β:Type}{Rp:Rl α β}(sb:∀Z H H' a b,pW Z H H'->Rp Z H a b->Rp Z H' a b){m0:aA->M AV}{ma:aA->M α}{U:aA}{h:AH}{Z:List Addr}{H:Hp}{Q:β->Hp->Prop}(R:aM T Z h H)
  (w:W T Rp (gW m0 ma U h) Z H Q E):W T Rp (ma U h) Z H (λb=>Tw H (Q b)) E:=by
 unfold gW at w;cases d:fq (m0 U h) with
 |none=>rw[d]at w;exact w.elim|some n=>
  rw[d]at w;dsimp only at w;cases o:h.ob n with
  |none=>rw[o]at w;exact w.elim|some u=>
   rw[o]at w;cases u with
   |aL kvs=>exact RW sb R o w|_=>exact w.elim
theorem aV.ext2{Z:List Addr}{H H':Hp}{U:aA}{U':L2.St}(S:aV T Z H U U')(e:pW Z H H'):aV T Z H' U U':=
 ⟨S.1,λi v q=>let ⟨v',a,b⟩:=S.2 i v q;⟨v',a,b.ext2 e⟩⟩
theorem NG{Z:List Addr}{H H':Hp}{a:Out}{b:dJ}(e:pW Z H H')(r:RO T Z H a b):RO T Z H' a b:=by cases a<;>cases b<;>first|exact aV.ext2 r e|exact aF.ext2 e r|exact r
theorem Nw(m0:aA->M AV)(hq:QS X T E st ms):QS X T E st (gW m0 ms):=by
 obtain⟨t,p,r⟩:=hq;refine⟨_,GR p,λZ U U' h H D R S w=>r Z U U' h H _ R S ?_⟩;have k:=Qi (Rp:=RO T) (λZ H H' a b e q=>NG e q) R w;have e:(λb=>Tw H (dS D b))=dS (Ho H D):=by funext b;cases b<;>rfl
 rw[e]at k;exact k
theorem Ln(m0:aA->M AV)(hq:QE X T E e m):QE X T E e (gW m0 m):=by obtain⟨t,p,r⟩:=hq;exact⟨_,EU p,λZ U U' h H Q R S w=>r Z U U' h H _ R S (Qi (Rp:=aF T) (λZ H H' a b e q=>aF.ext2 e q) R w)⟩
end
inductive Kc where
 |any|srt (b:Bool)|wu
 |sd
def wM:List AV->Option (List Bool)
 |[]=>some []
 |.bl b::r=>(wM r).map (b::·)
 |_=>none
def iC:List AV->Option (List Int)
 |[]=>some []
 |.int b::r=>(iC r).map (b::·)
 |_=>none
theorem Ji:∀bs:List Int,iC (bs.map AV.int)=some bs
 |[]=>rfl|b::bs=>by simp[iC,Ji bs]
def tW:List AV->Option (List Int)
 |[]=>some []
 |.tup (.int k::_)::r=>(tW r).map (k::·)
 |_=>none
def vn(xs:List AV):M AV:=λh=>match tW xs with
 |some ks=>if(decide (ks.length<64)&&xD ks)=true then eB (eV ks xs) h else .bad
 |none=>.bad
def Kc.gl:Kc->List AV->M AV
 |.any,xs=>λh=>match wM xs with
  |some bs=>.ok (.bl (bs.any id)) h
  |none=>.bad
 |.srt b,xs=>λh=>match iC xs with
  |some ns=>if ns.length<64 then eB ((fN b ns).map AV.int) h else .bad
  |none=>.bad
 |.wu,xs=>λh=>match iC xs with
  |some ns=>.ok (if ns.isEmpty then .aE else .int (rR ns)) h
  |none=>.bad
 |.sd,xs=>λh=>match iC xs with
  |some ns=>if ns.length<64 then eB ((fN false ns).map AV.int) h else .bad
  |none=>vn xs h
def rM:List aC->Option (List Int)
 |[]=>some []
 |.inl i::r=>(rM r).map (i::·)
 |_=>none
theorem Jk:∀bs:List Int,rM (bs.map Sum.inl)=some bs
 |[]=>rfl|b::bs=>by simp[rM,Jk bs]
theorem Jj:∀{ks:List aC} {ns:List Int},rM ks=some ns->ks=ns.map Sum.inl
 |[],ns,e=>by cases e;rfl
 |.inl i::r,ns,e=>by
  simp only[rM]at e;cases q:rM r with
  |none=>rw[q]at e;cases e|some bs=>rw[q]at e;cases e;rw[Jj q];rfl
 |.inr _::_,_,e=>by cases e
def Kc.gd:Kc->List (aC×AV)->M AV
 |.sd,kvs=>λh=>match rM (kvs.map (·.1)) with
  |some ns=>if ns.length<64 then eB ((fN false ns).map AV.int) h else .bad
  |none=>.bad
 |_,_=>M.bad
def Kc.g(k:Kc)(x:AV):M AV:=λh=>match x with
 |.ref n=>match h.ob n with
  |some (.lst _ xs)=>k.gl xs h
  |some (.aL kvs)=>k.gd kvs h
  |_=>.bad
 |_=>.bad
section
variable {X:Cx}{T:Tab}{E:XK}{a:Expr}{m:aA->M AV}{p pos:Pos}
theorem Fv{Z:List Addr}{H:Hp}:∀{xs:List AV} {ys:List V} {bs:List Bool},aH T Z H xs ys->wM xs=some bs->ys=bs.map V.bl
 |_,_,_,.nil,e=>by cases e;rfl
 |_,_,_,.cons (x:=x) (xs:=xs) h t,e=>by
  cases h with
  |bl b=>
   simp only[wM]at e;cases q:wM xs with
   |none=>rw[q]at e;cases e|some bs=>rw[q]at e;cases e;rw[Fv t q];rfl
  |_=>cases e
theorem ik{Z:List Addr}{H:Hp}:∀{xs:List AV} {ys:List V} {bs:List Int},aH T Z H xs ys->iC xs=some bs->ys=bs.map V.int
 |_,_,_,.nil,e=>by cases e;rfl
 |_,_,_,.cons (x:=x) (xs:=xs) h t,e=>by
  cases h with
  |int b=>
   simp only[iC]at e;cases q:iC xs with
   |none=>rw[q]at e;cases e|some bs=>rw[q]at e;cases e;rw[ik t q];rfl
  |_=>cases e
theorem wc(hK:X.K=T.K){k:Kc}
  (hgd:k.gd=λ_=>M.bad)
  {Z:List Addr} {h:AH} {H:Hp} {x:AV} {x':V} {Q:VK} (R:aM T Z h H) (r:aF T Z H x x') (w:W T (aF T) (k.g x h) Z H Q E) :
  ∃(l:Addr) (xs:List AV) (ys:List V),x' = .ref l/\bG X.K H l ys/\aH T Z H xs ys/\W T (aF T) (k.gl xs h) Z H Q E:=by
 unfold Kc.g at w;cases x with
 |ref n=>
  cases r with
  |@ref _ l q=>
   dsimp only at w;cases o:h.ob n with
   |none=>rw[o]at w;exact w.elim|some u=>
    rw[o]at w;cases u with
    |lst b xs=>obtain⟨ys,h1,h2⟩:=iE R o q;exact⟨l,xs,ys,rfl,by rw[hK];exact h1,h2,w⟩
    |aL kvs=>dsimp only at w;rw[hgd]at w;exact w.elim|_=>exact w.elim
 |_=>exact w.elim
theorem HL(hK:X.K=T.K) (hc:X.calm=true) (hg:Gl X "any") (hm:X.mg "any"=none) (ha:QE X T E a m) (hs:aP a=true):QE X T E (.Call (.Name "any" p) [a] [] pos) (λU=>(m U).bind (Kc.any.g)):=by
 obtain⟨ta,pa,ra⟩:=ha;refine⟨_,xJ (Sl hc) hg hm (by decide +kernel) (jL pa pC (bX hs)) (by decide) (by decide) (bX hs) rfl,λZ U U' h H Q R S w=>?_⟩;refine ra Z U U' h H _ R S (W.bind w λZ1 x x' h1 H1 e1 R1 q1 w1=>?_);obtain⟨l,xs,ys,rfl,hq,hr,w2⟩:=wc hK
  rfl
  R1 q1 w1
 simp only[Kc.gl]at w2;cases q:wM xs with
 |none=>rw[q]at w2;exact w2.elim|some bs=>rw[q]at w2;have e:=Fv hr q;subst e;exact⟨l,bs,rfl,hq,w2.here R1 (.bl _)⟩
theorem IS(hK:X.K=T.K) {b:Bool} {k:Nat} {kp kq:Pos} (hg:Gl X "sorted") (hm:X.mg "sorted"=none) (ha:QE X T E a m) (hs:aP a=true) :
  QE X T E (.Call (.Name "sorted" p) [a] [⟨some "reverse",.Constant (.bool b) k kq,kp⟩] pos) (λU=>(m U).bind ((Kc.srt b).g)):=by
 obtain⟨ta,pa,ra⟩:=ha;refine⟨_,xi (z:=.bl b) (r:=λv H Q=>∃l ns,v = .ref l/\bG X.K H l (ns.map V.int)/\ns.length<64/\∀D,H D=none->Q (.ref D) (aG H D (.lst ((fN b ns).map V.int)))) ?_ hg hm boot_sorted pa jm (bX hs) (by decide) (by decide),λZ U U' h H Q R S w=>?_⟩
 .intro pins s U H v u zu Q I rv rz ⟨l,ns,ev,hq,hn,q⟩;subst ev;cases rv;have rz':zu=Value.bool b:=rz;subst rz';exact Tf b I hq hn q
 refine ra Z U U' h H _ R S (W.bind w λZ1 x x' h1 H1 e1 R1 q1 w1=>?_);obtain⟨l,xs,ys,rfl,hq,hr,w2⟩:=wc hK
  rfl
  R1 q1 w1
 simp only[Kc.gl]at w2;cases q:iC xs with
 |none=>rw[q]at w2;exact w2.elim|some ns=>
  rw[q]at w2;dsimp only at w2;have e:=ik hr q;subst e;by_cases hn:ns.length<64
  .rw[if_pos hn]at w2;exact⟨l,ns,rfl,hq,hn,λD hD=>oY R1 (aH.ints _) hD w2⟩
  .rw[if_neg hn]at w2;exact w2.elim
theorem IH(hK:X.K=T.K) (hc:X.calm=true) {k:Nat} {kp kq:Pos} (hg:Gl X "min") (hm:X.mg "min"=none) (ha:QE X T E a m) (hs:aP a=true) :
  QE X T E (.Call (.Name "min" p) [a] [⟨some "default",.Constant .none k kq,kp⟩] pos) (λU=>(m U).bind (Kc.wu.g)):=by
 obtain⟨ta,pa,ra⟩:=ha;refine⟨_,xi (z:=.aE) (r:=λv H Q=>∃l ns,v = .ref l/\bG X.K H l (ns.map V.int)/\Q (if ns.isEmpty then .aE else .int (rR ns)) H) ?_ hg hm (show bootBuiltins "min"=some (.builtin "min") from by decide +kernel) pa jn (bX hs) (by decide) (by decide),λZ U U' h H Q R S w=>?_⟩
 .intro pins s U H v u zu Q I rv rz ⟨l,ns,ev,hq,q⟩;subst ev;cases rv;cases ns with
  |nil=>exact Ta hc I hq rz q|cons n r=>exact Tc hc I hq (by intro z;cases z) q
 refine ra Z U U' h H _ R S (W.bind w λZ1 x x' h1 H1 e1 R1 q1 w1=>?_);obtain⟨l,xs,ys,rfl,hq,hr,w2⟩:=wc hK rfl R1 q1 w1;simp only[Kc.gl]at w2;cases q:iC xs with
 |none=>rw[q]at w2;exact w2.elim|some ns=>
  rw[q]at w2;have e:=ik hr q;subst e;refine⟨l,ns,rfl,hq,?_⟩;cases ns with
  |nil=>exact W.here w2 R1 .aE|cons n r=>exact W.here w2 R1 (.int _)
theorem aH.paired{Z:List Addr}{H:Hp}:∀{xs:List AV} {ys:List V},aH T Z H xs ys->Paired (aF T Z H) xs ys
 |_,_,.nil=>.nil
 |_,_,.cons h t=>.cons h t.paired
theorem aH.xg{Z:List Addr}{H:Hp}:∀{xs:List AV} {ys:List V},Paired (aF T Z H) xs ys->aH T Z H xs ys
 |_,_,.nil=>.nil
 |_,_,.cons h t=>.cons h (aH.xg t)
theorem Ql{Z:List Addr}{H:Hp}:∀{xs:List AV} {ys:List V} {ks:List Int},aH T Z H xs ys->tW xs=some ks->ks.length=ys.length/\∀(i:Nat) y k,ys[i]?=some y->ks[i]?=some k->∃a zs,y = .ref a/\bV T.K H a (.int k::zs)
 |_,_,_,.nil,e=>by cases e;exact⟨rfl,λi y k h=>by simp at h⟩
 |_,_,_,.cons (x:=x) (xs:=xs) h t,e=>by
  cases h with
  |@tup a us zs hq hr=>
   cases hr with
   |nil=>cases e|cons h1 h2=>
    cases h1 with
    |int k0=>
     simp only[tW]at e;cases q:tW xs with
     |none=>rw[q]at e;cases e|some l=>
      rw[q]at e;cases e;obtain⟨i1,i2⟩:=Ql t q;refine⟨by simp[i1],λi y k e1 e2=>?_⟩;cases i with
      |zero=>cases e1;cases e2;exact⟨a,_,rfl,hq⟩|succ i=>exact i2 i y k (by simpa using e1) (by simpa using e2)
    |_=>cases e
  |_=>cases e
theorem IM(hK:X.K=T.K) (hc:X.calm=true) (hg:Gl X "sorted") (hm:X.mg "sorted"=none) (ha:QE X T E a m) (hs:aP a=true):QE X T E (.Call (.Name "sorted" p) [a] [] pos) (λU=>(m U).bind (Kc.sd.g)):=by
 obtain⟨ta,pa,ra⟩:=ha;refine⟨_,xJ (dM.or (Td hc)
  (dM.or Th Ti)
  ) hg hm boot_sorted (jL pa pC (bX hs)) (by decide) (by decide) (bX hs) rfl,λZ U U' h H Q R S w=>?_⟩
 refine ra Z U U' h H _ R S (W.bind w λZ1 x x' h1 H1 e1 R1 q1 w1=>?_);unfold Kc.g at w1;cases x with
 |ref n=>
  cases q1 with
  |@ref _ a q=>
   dsimp only at w1;cases o:h1.ob n with
   |none=>rw[o]at w1;exact w1.elim|some u=>
    rw[o]at w1;cases u with
    |lst b xs=>
     obtain⟨ys,g1,g2⟩:=iE R1 o q;simp only[Kc.gl]at w1;cases qi:iC xs with
     |none=>
      rw[qi]at w1;unfold vn at w1;dsimp only at w1;cases qt:tW xs with
      |none=>rw[qt]at w1;exact w1.elim|some ks=>
       rw[qt]at w1;dsimp only at w1;by_cases hn:(decide (ks.length<64)&&xD ks)=true
       .rw[if_pos hn]at w1;rw[Bool.and_eq_true,decide_eq_true_eq]at hn;obtain⟨t1,t2⟩:=Ql g2 qt;exact .inr (.inr ⟨a,ys,ks,rfl,by rw[hK];exact g1,by omega,t1,BI hn.2,λi y k e1 e2=>by rw[hK];exact t2 i y k e1 e2,λD hD=>oY R1 (aH.xg (qa g2.paired)) hD w1⟩)
       .rw[if_neg hn]at w1;exact w1.elim
     |some ns=>
      rw[qi]at w1;dsimp only at w1;have e:=ik g2 qi;subst e;by_cases hn:ns.length<64
      .rw[if_pos hn]at w1;exact .inr <| .inl ⟨a,ns,rfl,by rw[hK];exact g1,hn,λD hD=>oY R1 (aH.ints _) hD w1⟩
      .rw[if_neg hn]at w1;exact w1.elim
    |aL kvs=>
     simp only[Kc.gd]at w1;obtain⟨ks,ys,hH,hk,rv⟩:=R1.obj n _ a o q;subst hk;cases qi:rM (kvs.map (·.1)) with
     |none=>rw[qi]at w1;exact w1.elim|some ns=>
      rw[qi]at w1;dsimp only at w1;by_cases hn:ns.length<64
      .rw[if_pos hn]at w1;refine .inl ⟨a,_,ns,rfl,hH,?_,hn,λD hD=>oY R1 (aH.ints _) hD w1⟩;rw[List.map_fst_zip (by have:=rv.length;simp at this ⊢;omega)];exact Jj qi
      .rw[if_neg hn]at w1;exact w1.elim
    |_=>exact w1.elim
 |_=>exact w1.elim
def iw(g:List AV->M AV):List AV->M (List Int)
 |[],h=>.ok [] h
 |x::r,h=>match g [x] h with
  |.ok (.int k) h1=>match iw g r h1 with
   |.ok ks h2=>.ok (k::ks) h2
   |_=>.bad
  |_=>.bad
def gw(g:List AV->M AV)(x:AV):M AV:=λh=>match x with
 |.ref n=>match h.ob n with
  |some (.lst _ xs)=>if xs.length<64 then match iw g xs h with
   |.ok ks h2=>if ks.Nodup then eB (eV ks xs) h2 else .bad
   |_=>.bad
   else .bad
  |_=>.bad
 |_=>.bad
theorem Jw{g:List AV->M AV}:∀{xs:List AV} {ys:List V} {Z:List Addr} {h h2:AH} {H:Hp} {ks:List Int} {Q:List Int->Hp->Prop},aM T Z h H->aH T Z H xs ys->iw g xs h = .ok ks h2 ->
  (∀Z' H',Ext Z H Z' H'->aM T Z' h2 H'->Q ks H')->yP (kK T g) ys H Q
 |[],_,Z,h,h2,H,ks,Q,R,.nil,e,q=>by cases e;exact q Z H .refl R
 |x::xs,_,Z,h,h2,H,ks,Q,R,.cons rx rs,e,q=>by
  simp only[iw]at e;split at e
  case h_2=>cases e
  case h_1 k h1 eg=>
   split at e
   case h_2=>cases e
   case h_1 ks' h3 ek=>cases e;refine⟨Z,h,[x],R,.cons rx .nil,?_⟩;rw[eg];intro Z1 v H1 e1 R1 rv;cases rv;exact⟨k,rfl,Jw R1 (rs.ext e1) ek λZ2 H2 e2 R2=>q Z2 H2 (e1.trans e2) R2⟩
theorem IP{g:List AV->M AV} {y:Str} {kp kq:Pos} (hK:X.K=T.K) (F:Fn X T E y g) (hy:Gl X y) (hd:(y==("__debug__":Str))=false) (hg:Gl X "sorted") (hm:X.mg "sorted"=none) (ha:QE X T E a m) (hs:aP a=true) :
  QE X T E (.Call (.Name "sorted" p) [a] [⟨some "key",.Name y kq,kp⟩] pos) (λU=>(m U).bind (gw g)):=by
 obtain⟨ta,pa,ra⟩:=ha;obtain⟨k,f,fd,ps,FO,hr,hmy,hk,hb,hx⟩:=F.ex;refine⟨_,xi (z:=.ref f) (r:=λv H Q=>∃l ys,v = .ref l/\bG X.K H l ys/\ys.length<64/\yP (kK T g) ys H λks H2=>ks.Nodup/\∀D,H2 D=none->Q (.ref D) (aG H2 D (.lst (eV ks ys)))) ?_ hg hm boot_sorted pa (ah hy hmy rfl hd) (bX hs) (by decide) (by decide),λZ U U' h H Q R S w=>?_⟩
 .intro pins s U H v u zu Q I rv rz ⟨l,ys,ev,hq,hn,q⟩;subst ev;cases rv;have rz':zu=Value.ref f:=rz;subst rz';exact Te FO hr hb I hq hn q
 refine ra Z U U' h H _ R S (W.bind w λZ1 x x' h1 H1 e1 R1 q1 w1=>?_);unfold gw at w1;cases x with
 |ref n=>
  cases q1 with
  |@ref _ l q=>
   dsimp only at w1;cases o:h1.ob n with
   |none=>rw[o]at w1;exact w1.elim|some u=>
    rw[o]at w1;cases u with
    |lst b xs=>
     obtain⟨ys,g1,g2⟩:=iE R1 o q;dsimp only at w1;by_cases hn:xs.length<64
     .rw[if_pos hn]at w1;split at w1
      case h_2=>exact w1.elim
      case h_1 ks h2 ek=>
       by_cases hnd:ks.Nodup
       .rw[if_pos hnd]at w1;refine⟨l,ys,rfl,by rw[hK];exact g1,by rw[<- g2.length];exact hn,Jw R1 g2 ek λZ2 H2 e2 R2=>⟨hnd,λD hD=>?_⟩⟩;have w2:W T (aF T) (eB (eV ks xs) h2) Z2 H2 Q E:=λZ' b H' ee Rr rr=>w1 Z' b H' (e2.trans ee) Rr rr;exact oY R2 (aH.xg (qa (g2.ext e2).paired)) hD w2
       .rw[if_neg hnd]at w1;exact w1.elim
     .rw[if_neg hn]at w1;exact w1.elim
    |_=>exact w1.elim
 |_=>exact w1.elim
end
inductive BT where
 |aE|bl|int|str|tup|lst|aL
 deriving DecidableEq
def BT.nm:BT->String
 |.aE=>"NoneType" |.bl=>"bool" |.int=>"int" |.str=>"str" |.tup=>"tuple" |.lst=>"list" |.aL=>"dict"
def BT.sub(s t:BT):Bool:=decide (s=t)||(decide (s = .bl)&&decide (t = .int))
theorem uW{K:W.Frag}(s t:BT):W.kitOne K (.type s.nm) (.type t.nm)=some (s.sub t):=by cases s<;>cases t<;>first|rfl|(with_unfolding_all rfl)|decide +kernel
inductive oG(K:W.Frag)(H:Hp):V->BT->Prop where
 |aE:oG K H .aE .aE
 |bl (x:Bool):oG K H (.bl x) .bl
 |int (i:Int):oG K H (.int i) .int
 |str (x:Str):oG K H (.str x) .str
 |lst {a:Addr} {xs:List V} (e:bG K H a xs):oG K H (.ref a) .lst
 |tup {a:Addr} {xs:List V} (e:bV K H a xs):oG K H (.ref a) .tup
 |aL {a:Addr} {kvs:List (aC×V)} (e:H a=some (.dK kvs)):oG K H (.ref a) .aL
def oH(h:AH):AV->Option BT
 |.aE=>some .aE
 |.bl _=>some .bl
 |.int _=>some .int
 |.str _=>some .str
 |.tup _=>some .tup
 |.ref n=>match h.ob n with
  |some (.lst _ _)=>some .lst
  |some (.aL _)=>some .aL
  |_=>none
 |_=>none
def uO(t:BT)(x:AV):M AV:=λh=>match oH h x with
 |some s=>.ok (.bl (s.sub t)) h
 |none=>.bad
section
variable {X:Cx}{T:Tab}{E:XK}{a b c e tg l o:Expr}{es:List Expr}{ma mb mc m:aA->M AV}{mr:aA->M (List AV)}{pos p apos:Pos}
theorem Sq(t:BT):dM X (.builtin "isinstance") (λxs H Q=>∃x s,xs=[x,.ty t.nm]/\oG X.K H x s/\Q (.bl (s.sub t)) H):=by
 intro pins st U H xs us Q I r h;obtain⟨x,s,rfl,ty,q⟩:=h;obtain⟨u,w',rfl,ru,rw'⟩:=pS r;obtain rfl:w'=Value.type t.nm:=rw';have fin:∀tk,EP X pins U Q (.bool (s.sub t)) { st with toks:=tk }:=λtk=>⟨.bl _,H,I.tok tk,rfl,q⟩;cases ty with
 |aE=>cases ru;exact W.kia_one W.kitx_none I.bK True.intro (uW .aE t) (λz=>nomatch z) fin|bl y=>cases ru;exact W.kia_one W.kitx_bool I.bK True.intro (uW .bl t) (λz=>nomatch z) fin|int i=>obtain⟨tk,rfl⟩:=ru;exact W.kia_one W.kitx_int I.bK True.intro (uW .int t) (λz=>nomatch z) fin|str y=>obtain⟨tk,rfl⟩:=ru;exact W.kia_one W.kitx_str I.bK True.intro (uW .str t) (λz=>nomatch z) fin|lst e=>cases ru;obtain⟨_,_,⟨ob,n,h1,h2,_⟩,_⟩:=I.list e;exact W.kia_one W.kitx_list I.bK ⟨ob,h1,h2⟩ (uW .lst t) (λz=>nomatch z) fin
 |tup e=>cases ru;obtain⟨_,_,⟨ob,h1,h2,_⟩,_⟩:=I.tuple e;exact W.kia_one W.kitx_tuple I.bK ⟨ob,h1,h2⟩ (uW .tup t) (λz=>nomatch z) fin
 |@aL a kvs e=>cases ru;obtain⟨_,_,vs,_,ob,es,ep,h1,h2,_⟩:=(show bY X.prog X.w H st.heap a (.dK kvs) from I.aD a _ e);exact W.kia_one W.kitx_dict I.bK ⟨ob,h1,h2.1⟩ (uW .aL t) (λz=>nomatch z) fin
theorem Sj(hK:X.K=T.K){Z:List Addr}{h:AH}{H:Hp}{x:AV}{x':V}{s:BT}(R:aM T Z h H)(r:aF T Z H x x')(e:oH h x=some s):oG X.K H x' s:=by
 cases r with
 |aE=>cases e;exact .aE|bl b=>cases e;exact .bl b|int i=>cases e;exact .int i|str y=>cases e;exact .str y|tup hq hr=>cases e;exact .tup (by rw[hK];exact hq)|@ref n a q=>
  simp only[oH]at e;cases o:h.ob n with
  |none=>rw[o]at e;cases e|some u=>
   rw[o]at e;cases u with
   |lst m xs=>cases e;obtain⟨ys,h1,_⟩:=iE R o q;exact .lst (by rw[hK];exact h1)
   |aL kvs=>cases e;obtain⟨ks,ys,h1,_⟩:=R.obj n _ a o q;exact .aL h1
   |bJ _=>cases e|ins _ _=>cases e|xo _=>cases e
 |jG q=>cases e
theorem HY(hK:X.K=T.K) {y:Str} {p2:Pos} (t:BT) (hg:Gl X "isinstance") (hm:X.mg "isinstance"=none) (hg2:Gl X y) (hm2:X.mg y=none) (hv2:bootBuiltins y=some (.type t.nm)) (hn2:y≠"__name__") (hd2:(y==("__debug__":Str))=false)
  (ha:QE X T E a m) (hs:aP a=true):QE X T E (.Call (.Name "isinstance" p) [a,.Name y p2] [] pos) (λU=>(m U).bind (uO t)):=by
 obtain⟨ta,pa,ra⟩:=ha;refine⟨_,xJ (Sq t) hg hm boot_isinstance (jL pa (jL (La (v:=.ty t.nm) hg2 hm2 hv2 rfl hn2 hd2) pC) (bX hs)) (by decide) (by decide) (bX hs) rfl,λZ U U' h H Q R S w=>?_⟩;refine ra Z U U' h H _ R S (W.bind w λZ1 x x' h1 H1 e1 R1 q1 w1=>?_);unfold uO at w1;cases o:oH h1 x with
 |none=>rw[o]at w1;exact w1.elim|some s=>rw[o]at w1;exact⟨x',s,rfl,Sj hK R1 q1 o,w1.here R1 (.bl _)⟩
def uP(cs:List (Nat×Bool))(x:AV):M AV:=λh=>match x with
 |.ref n=>match h.ob n with
  |some (.xo c)=>match cs.lookup c with
   |some b=>.ok (.bl b) h
   |none=>.bad
  |_=>.bad
 |_=>.bad
theorem Ss{v:V}{c:Value}(hv:∀u,RelV v u->u=c):dM X (.builtin "isinstance") (λxs H Q=>∃a C b,xs=[.ref a,v]/\H a=some (.ext (iY a (.ref C)))/\W.tX X.K C=true/\W.kitOne X.K (.ref C) c=some b/\Q (.bl b) H):=by intro pins st U H xs us Q I r h;obtain⟨a,C,b,rfl,e,hx,hk,q⟩:=h;obtain⟨u,w',rfl,ru,rw'⟩:=pS r;obtain rfl:=hv _ rw';cases ru;obtain⟨p,_,_⟩:=(show bY X.prog X.w H st.heap a (.ext (iY a (.ref C))) from I.aD a _ e);exact W.kia_one (W.XE hx) I.bK p hk (λz=>nomatch z) λtk=>⟨.bl _,H,I.tok tk,rfl,q⟩
theorem IA(hK:X.K=T.K) {y:Str} {p2:Pos} {v:V} {d:Value} {cs:List (Nat×Bool)} (hv:∀u,RelV v u->u=d) (hg:Gl X "isinstance") (hm:X.mg "isinstance"=none) (py:PE X (.Name y p2) (tC v))
  (hcs:∀k b,cs.lookup k=some b->∃C,T.C k=some C/\W.tX X.K C=true/\W.kitOne X.K (.ref C) d=some b)
  (ha:QE X T E a m) (hs:aP a=true):QE X T E (.Call (.Name "isinstance" p) [a,.Name y p2] [] pos) (λU=>(m U).bind (uP cs)):=by
 obtain⟨ta,pa,ra⟩:=ha;refine⟨_,xJ (Ss hv) hg hm boot_isinstance (jL pa (jL py pC) (bX hs)) (by decide) (by decide) (bX hs) rfl,λZ U U' h H Q R S w=>?_⟩;refine ra Z U U' h H _ R S (W.bind w λZ1 x x' h1 H1 e1 R1 q1 w1=>?_);unfold uP at w1;cases x with
 |ref n=>
  dsimp only at w1;cases q1 with
  |@ref _ a' q=>
   cases o:h1.ob n with
   |none=>rw[o]at w1;exact w1.elim|some u=>
    rw[o]at w1;cases u with
    |xo c=>
     dsimp only at w1;cases l:cs.lookup c with
     |none=>rw[l]at w1;exact w1.elim|some b=>rw[l]at w1;obtain⟨C,hC,g1⟩:=R1.obj n _ a' o q;obtain⟨C',hC',hx,hk⟩:=hcs c b l;rw[hC]at hC';cases hC';exact⟨a',C,b,rfl,g1,hx,hk,w1.here R1 (.bl _)⟩
    |_=>exact w1.elim
 |_=>exact w1.elim
def rE(x v:AV):M AV:=λh=>match x with
 |.ref n=>match h.ob n with
  |some (.lst true xs)=>if xs.length<sizeLine then .ok .aE (h.put n (.lst true (xs++[v]))) else .bad
  |_=>.bad
 |_=>.bad
def oV(h:AH):AV->Bool
 |.ref n=>match h.ob n with
  |some (.lst _ _)=>true
  |_=>false
 |_=>false
def su(a b:M AV):M AV:=a.bind λx h=>if oV h x=true then(b.bind λy=>rE x y) h else .bad
def eG:Expr->Bool
 |.Name ..=>true | .Attribute ..=>true | .Subscript ..=>true
 |.Call (.Attribute ..) _ _ _=>true
 |.Call (.Name ..) (_::_) _ _=>true
 |_=>false
theorem qC{o:Expr}{f:Str}{env:Env}{whole:Sem Value}(h:eG o=true):attributeBase o f env whole=whole:=by
 cases o with
 |Name=>rfl|Attribute=>rfl|Subscript=>rfl|Call g es ks p=>
  cases g with
  |Attribute=>rfl|Name=>
   cases es with
   |nil=>cases h|cons=>rfl
  |_=>cases h
 |_=>cases h
theorem yV{Z:List Addr}{H:Hp}{p:Addr}{O O':HO}(g1:H p=some O)(nt:∀xs,O ≠ .tup xs)(nf:∀x u,O ≠ .bC x u):Ext Z H Z (aG H p O'):=⟨λ_ _ z=>z,λb xs z=>by
 rw[aO (kY z g1 λw=>nt xs w.symm)];exact z,λb x u z=>by
 rw[aO (kY z g1 λw=>nf x u w.symm)];exact z⟩
theorem HM(hK:X.K=T.K)(ho:QE X T E o ma)(ha:QE X T E a mb)(hb:eG o=true)(hs:aP a=true)(hl:(apos.endLine==pos.line)=true) :
  QE X T E (.Call (.Attribute o "append" apos) [a] [] pos) (λU=>su (ma U) (mb U)):=by
 obtain⟨ta,pa,ra⟩:=ho;obtain⟨tb,pb,rb⟩:=ha;refine⟨_,Lb PySem.F.plainAttrs_list PySem.F.slot_list_append PySem.F.type_list_append AZ pa (jL pb pC (bX hs)) (qC hb) (by rw[bX hs];rfl) hl (bX hs) rfl,λZ U U' h H Q R S w=>?_⟩;refine ra Z U U' h H _ R S (W.bind w λZ1 x x' h1 H1 e1 R1 q1 w1=>?_);have w1':W T (aF T) (if oV h1 x=true then((mb U).bind λy=>rE x y) h1 else .bad) Z1 H1 Q E:=w1;by_cases hL:oV h1 x=true
 case neg=>rw[if_neg hL]at w1';exact w1'.elim
 rw[if_pos hL]at w1';cases x with
 |ref n=>
  cases q1 with
  |@ref _ p q=>
   have fin:∀Z2 y y' h2 H2,Ext Z1 H1 Z2 H2->aM T Z2 h2 H2->aF T Z2 H2 y y'->W T (aF T) (rE (.ref n) y h2) Z2 H2 Q E->Oa (.ref p) [y'] H2 Q:=λZ2 y y' h2 H2 e2 R2 q2 w2=>by
    have q':=e2.pre n p q;simp only[rE]at w2;cases ob:h2.ob n with
    |none=>rw[ob]at w2;exact w2.elim|some u=>
     rw[ob]at w2;cases u with
     |lst mu xs=>
      cases mu with
      |true=>
       obtain⟨ys,g1,r1⟩:=R2.obj n _ p ob q';by_cases hz:xs.length<sizeLine
       .simp only[if_pos hz]at w2;obtain⟨R3,e3⟩:=R2.write (o':=.lst true (xs++[y])) (O':=.lst (ys++[y'])) ob rfl rfl q' g1 (λ_ z=>by cases z) (λ_ _ z=>by cases z)
         ⟨_,cQ,(r1.append (.cons q2 .nil)).ext (yV g1 (λ_ z=>by cases z) (λ_ _ z=>by cases z))⟩
        exact⟨p,ys,y',rfl,rfl,g1,by rw[<- r1.length];exact hz,W.ok w2 e3 R3 .aE⟩
       .simp only[if_neg hz]at w2;exact w2.elim
      |false=>exact w2.elim
     |aL _=>exact w2.elim|bJ _=>exact w2.elim|ins _ _=>exact w2.elim|xo _=>exact w2.elim
   refine⟨.inl ⟨rfl,?_⟩,rb Z1 U U' h1 H1 _ R1 (S.ext e1) (W.bind w1' λZ2 y y' h2 H2 e2 R2 q2 w2=>fin Z2 y y' h2 H2 e2 R2 q2 w2)⟩;simp only[oV]at hL;cases ob:h1.ob n with
   |none=>rw[ob]at hL;cases hL|some u=>
    cases u with
    |lst mu xs=>obtain⟨ys,g1,_⟩:=iE R1 ob q;exact⟨ys,by rw[hK];exact g1⟩
    |aL _=>rw[ob]at hL;cases hL|bJ _=>rw[ob]at hL;cases hL|ins _ _=>rw[ob]at hL;cases hL|xo _=>rw[ob]at hL;cases hL
 |_=>cases hL
def Eb(P:Program)(w:World)(K:W.Frag)(a:Addr)(kvs:List (Str×Int)):Prop:=∀h:Heap,K.In h->StrTab P w h a (kvs.map λp=>(PyData.str p.1,PyData.int p.2))
def getOf(kvs:List (Str×Int))(x:Str)(z:Int):Int:=(kvs.lookup x).getD z
def RM:AV->Option (List (Str×Int))
 |.jG kvs=>some kvs
 |_=>none
def PX:List AV->Option (Str×Int)
 |[.str s,.int z]=>some (s,z)
 |_=>none
def XW(o:M AV)(r:M (List AV)):M AV:=o.bind λx h=>match RM x with
 |some kvs=>(r.bind λxs h2=>match PX xs with
  |some (s,z)=>.ok (.int (getOf kvs s z)) h2
  |none=>.bad) h
 |none=>.bad
end
section
variable {X:Cx}{T:Tab}{E:XK}{o v:Expr}{ma mb:aA->M AV}{f:Str}{pos pos':Pos}{Z:List Addr}{H:Hp}
theorem ve{v:AV}:∀{fs:List (Str×AV)} {ys:List V},aH T Z H (fs.map (·.2)) ys->fs.lookup f=some v->∃y,((fs.map (·.1)).zip ys).lookup f=some y/\aF T Z H v y
 |[],_,_,l=>by cases l
 | (k,x)::fs,_,.cons h hs,l=>by
  rw[List.lookup_cons]at l;rw[List.map_cons,List.zip_cons_cons,List.lookup_cons];cases hb:(f==k) with
  |true=>simp only[hb]at l ⊢;cases l;exact⟨_,rfl,h⟩
  |false=>simp only[hb]at l ⊢;exact ve hs l
def oR(cs:List Nat)(f:Str)(x:AV):M AV:=λh=>match x with
 |.ref n=>match h.ob n with
  |some (.ins c fs)=>if cs.contains c=true then match fs.lookup f with
   |some v=>.ok v h
   |none=>.bad
   else .bad
  |_=>.bad
 |_=>.bad
def yX(K:W.Frag)(T:Tab)(cs:List Nat)(f:Str):Prop:=∀c C,cs.contains c=true->T.C c=some C->gY K C/\pY K C f
theorem HW{cs:List Nat}(hC:yX X.K T cs f)(ho:QE X T E o ma)(hb:eG o=true):QE X T E (.Attribute o f pos) (λU=>(ma U).bind (oR cs f)):=by
 obtain⟨ta,pa,ra⟩:=ho;refine⟨_,EH pa (qC hb),λZ U U' h H Q R S w=>ra Z U U' h H _ R S (W.bind w λZ1 x x' h1 H1 e1 R1 q1 w1=>?_)⟩;cases x with
 |ref n=>
  cases q1 with
  |@ref _ p q=>
   simp only[oR]at w1;cases ob:h1.ob n with
   |none=>rw[ob]at w1;exact w1.elim|some u=>
    rw[ob]at w1;cases u with
    |ins c fs=>
     obtain⟨C,dx,ks,ys,hc,g,rfl,r⟩:=R1.obj n _ p ob q;by_cases hm:cs.contains c=true
     case neg=>simp only[if_neg hm]at w1;exact w1.elim
     simp only[if_pos hm]at w1;cases l:fs.lookup f with
     |none=>rw[l]at w1;exact w1.elim|some v=>rw[l]at w1;obtain⟨y,l2,ry⟩:=ve r l;obtain⟨h1,h2⟩:=hC c C hm hc;exact⟨p,C,dx,_,y,rfl,g,h1,h2,l2,W.here w1 R1 ry⟩
    |_=>exact w1.elim
 |_=>exact w1.elim
def eY(f:Str)(v:AV):List (Str×AV)->List (Str×AV)
 |[]=>[(f,v)]
 | (g,x)::r=>if g=f then(g,v)::r else(g,x)::eY f v r
theorem xq{v:AV}{y:V}(rv:aF T Z H v y):∀{fs:List (Str×AV)} {ys:List V},aH T Z H (fs.map (·.2)) ys->∃ys',eL f y ((fs.map (·.1)).zip ys)=((eY f v fs).map (·.1)).zip ys'/\aH T Z H ((eY f v fs).map (·.2)) ys'
 |[],_,.nil=>⟨[y],rfl,.cons rv .nil⟩
 | (k,x)::fs,_,.cons (y:=z) (ys:=zs) h hs=>by
  obtain⟨ys',e,r⟩:=xq rv hs;by_cases hk:k=f
  .refine⟨y::zs,?_,?_⟩
   .simp only[eY,if_pos hk,List.map_cons,List.zip_cons_cons,eL]
   .simp only[eY,if_pos hk,List.map_cons];exact .cons rv hs
  .refine⟨z::ys',?_,?_⟩
   .simp only[eY,if_neg hk,List.map_cons,List.zip_cons_cons,eL,e]
   .simp only[eY,if_neg hk,List.map_cons];exact .cons h r
def cq(cs:List Nat)(f:Str)(x v:AV)(h:AH):Option AH:=match x with
 |.ref n=>match h.ob n with
  |some (.ins c fs)=>if cs.contains c=true/\fs.length<1000 then some (h.put n (.ins c (eY f v fs))) else none
  |_=>none
 |_=>none
def Hy(cs:List Nat)(f:Str)(a b:M AV)(U:aA):M Out:=b.bind λv=>a.bind λx h=>match cq cs f x v h with
 |some h'=>.ok (.nx U) h'
 |none=>.bad
theorem LM{cs:List Nat}(hC:yX X.K T cs f)(ho:QE X T E o ma)(hv:QE X T E v mb)(hs:swapsWith v (some (.Attribute o f pos')) pos.line X.env=pure false) :
  QS X T E (.Assign [.Attribute o f pos'] v pos) (λU=>Hy cs f (ma U) (mb U) U):=by
 obtain⟨ta,pa,ra⟩:=ho;obtain⟨tb,pb,rb⟩:=hv;refine⟨_,GG pa pb hs,λZ U U' h H D R S w=>rb Z U U' h H _ R S (W.bind w λZ1 y y' h1 H1 e1 R1 q1 w1=>ra Z1 U U' h1 H1 _ R1 (S.ext e1) (W.bind w1 λZ2 x x' h2 H2 e2 R2 q2 w2=>?_))⟩;have w3:W T (RO T) (match cq cs f x y h2 with
  |some h'=>.ok (.nx U) h'
  |none=>.bad) Z2 H2 (dS D) E:=w2
 cases x with
 |ref n=>
  cases q2 with
  |@ref _ p q=>
   simp only[cq]at w3;cases ob:h2.ob n with
   |none=>simp only[ob]at w3;exact w3.elim|some u=>
    simp only[ob]at w3;cases u with
    |ins c fs=>
     obtain⟨C,dx,ks,ys,hc,g,rfl,r⟩:=R2.obj n _ p ob q;by_cases hm:cs.contains c=true/\fs.length<1000
     case neg=>simp only[if_neg hm]at w3;exact w3.elim
     simp only[if_pos hm]at w3;obtain⟨c1,c2⟩:=hC c C hm.1 hc;have rv:=q1.ext e2;obtain⟨ys',ez,rz⟩:=xq (f:=f) rv r;have ex:=yV (Z:=Z2) (p:=p) (O':=.ins C dx (((eY f y fs).map (·.1)).zip ys')) g (λ_ z=>by cases z) (λ_ _ z=>by cases z);obtain⟨R3,e3⟩:=R2.write (o':=.ins c (eY f y fs)) (O':=.ins C dx (((eY f y fs).map (·.1)).zip ys')) ob rfl rfl q g (λ_ z=>by cases z) (λ_ _ z=>by cases z)
      ⟨C,dx,_,ys',hc,cQ,rfl,rz.ext ex⟩
     refine⟨p,C,dx,_,rfl,g,c1,c2,?_,?_⟩
     .rw[List.length_zip,List.length_map];omega
     .rw[ez];exact W.ok (Q:=dS D) (b:=dJ.nx U') w3 e3 R3 ((S.ext e1).ext (e2.trans e3))
    |_=>exact w3.elim
 |_=>exact w3.elim
structure kO(X:Cx)(T:Tab)(EE:L2.St->XK)(C:Addr)(m:Str)(g:List AV->M AV):Prop where
 ex:∃(k:Nat) (f:Addr) (fd:FuncData) (ps:List Str),dD X.prog X.w X.K X.mg X.base (cD X.prog X.w) k f fd ps (kK T g)/\bU k X.A/\gY X.K C/\Meth X.K C m f/\Binds X.K fd ps []/\wJ (cD X.prog X.w) X EE
def Qb(X:Cx)(T:Tab)(m:Str)(EE:L2.St->XK)(ta:TE)(t:TA):TE:=λU H Q=>ta U H λx H1=>∃(a C dx:Addr) (fs:List (Str×V)) (g:List AV->M AV),x = .ref a/\H1 a=some (.ins C dx fs)/\fs.lookup m=none/\kO X T EE C m g /\
 t U H1 λvs H2=>kK T g (x::vs) H2 Q (EE U)
variable {EE:L2.St->XK}
variable {e:Expr}{es:List Expr}{m:Str}{apos:Pos}{mr:aA->M (List AV)}{ta:TE}{t:TA}
theorem uj{env:Env}{args:List Expr}{A:Around}{Xe:Value->Shared->Prop}{s:Shared}{Q:Value->Shared->Prop}(h0:attributeBase o m env (eval o env)=eval o env)
  (h1:methodCallForm (args.length+([]:List Keyword).length) (backTo pos (starEach args env)) (backToKw pos (keywordEach [] env))=true) (h2:(apos.endLine==pos.line)=true)
  (h:wpAny (model X.prog X.w) A (eval o env) (λov s1=>∀pl,wpAny (model X.prog X.w) A (getMethod ov m pl) (λfx s2=>wpAny (model X.prog X.w) A (callWith pos fx.1 fx.2 (backTo pos (starEach args env)) (backToKw pos (keywordEach [] env))) Q Xe s2) Xe s1) Xe s) :
  wpAny (model X.prog X.w) A (eval (.Call (.Attribute o m apos) args [] pos) env) Q Xe s:=by
 have h3:methodCallPos true o env apos pos=pure pos:=by unfold methodCallPos;simp[h2]
 rw[arm_eval_Call,h0];refine wpAny_bind (aI h λov s1 z=>wpAny_bind (wpAny_standAt ?_));unfold methodCall;rw[h1];refine wpAny_bind (wpAny_holding (aI (z _) λfx s2 y=>?_));exact wpAny_bind (wpAny_of_eq h3 y)
theorem vf{args:List Expr}{env:Env}(hs:args.all aP=true)(hn:args.length<30):methodCallForm (args.length+([]:List Keyword).length) (backTo pos (starEach args env)) (backToKw pos (keywordEach [] env))=true:=by unfold methodCallForm;rw[<- List.not_any_eq_all_not,kJ hs];simpa[keywordEach,backToKw]using hn
theorem Ld(he:PE X o ta)(ha:PA X (e::es) t)(hb:eG o=true)(hs:(e::es).all aP=true)(hn:(e::es).length<30)(hl:(apos.endLine==pos.line)=true):PE X (.Call (.Attribute o m apos) (e::es) [] pos) (Qb X T m EE ta t):=by
 intro pins s U H Q I h;have hs':=hs;rw[List.all_cons,Bool.and_eq_true]at hs;refine uj (qC hb) ?_ hl (aI (he pins s U H _ I h) λu s1 ⟨x,H1,I1,rx,a,C,dx,fs,g,ex,ea,l,F,q⟩ pl=>?_)
 .exact vf hs' hn
 subst ex;obtain rfl:u=Value.ref a:=rx;obtain⟨k,f,fd,ps,F,hr,c,hm,hbi,hx⟩:=F.ex;refine Je I1 ea c hm l ?_;refine W.callWith_K (first:=[.ref a]) (h₀:=X.base) I.ok.mod.rN hm.kp (aI (ha pos pins s1 U H1 _ I1 q) λus s2 ⟨vs,H2,I2,r,q2⟩=>⟨I2.bK,?_⟩) (bX hs.1) (kJ hs.2);exact Cv (us:=.ref a::us) (vs:=.ref a::vs) F hr hbi hx I2 (.cons rfl r) q2
theorem Le(he:PE X o ta)(hb:eG o=true)(hl:(apos.endLine==pos.line)=true):PE X (.Call (.Attribute o m apos) [] [] pos) (Qb X T m EE ta pR):=by intro pins s U H Q I h;refine uj (qC hb) (vf rfl (by decide)) hl (aI (he pins s U H _ I h) λu s1 ⟨x,H1,I1,rx,a,C,dx,fs,g,ex,ea,l,F,q⟩ pl=>?_);subst ex;obtain rfl:u=Value.ref a:=rx;obtain⟨k,f,fd,ps,F,hr,c,hm,hbi,hx⟩:=F.ex;refine Je I1 ea c hm l ?_;exact W.callWith_K0 (first:=[.ref a]) I1.bK hm.kp (Cv (us:=[.ref a]) (vs:=[.ref a]) F hr hbi hx I1 (.cons rfl .nil) q)
def aa(dp:Nat->Option (List AV->M AV))(m:Str)(r:M (List AV))(x:AV):M AV:=λh=>match x with
 |.ref n=>match h.ob n with
  |some (.ins c fs)=>match dp c,fs.lookup m with
   |some g,none=>(r.bind λxs=>g (.ref n::xs)) h
   |_,_=>.bad
  |_=>.bad
 |_=>.bad
def uZ(dp:Nat->Option (List AV->M AV))(m:Str)(a:M AV)(r:M (List AV)):M AV:=a.bind (aa dp m r)
theorem Hz:∀{fs:List (Str×AV)} {ys:List V},aH T Z H (fs.map (·.2)) ys->fs.lookup f=none->((fs.map (·.1)).zip ys).lookup f=none
 |[],_,.nil,_=>rfl
 | (k,x)::fs,_,.cons h hs,l=>by
  rw[List.lookup_cons]at l;rw[List.map_cons,List.zip_cons_cons,List.lookup_cons];cases hb:(f==k) with
  |true=>simp only[hb]at l;cases l|false=>simp only[hb]at l ⊢;exact Hz hs l
theorem jc{dp:Nat->Option (List AV->M AV)}{r:M (List AV)}{x:AV}{x':V}{h:AH}{Q:VK}{U':L2.St}(hM:∀c C g,dp c=some g->T.C c=some C->kO X T EE C m g)(R:aM T Z h H)(q:aF T Z H x x')
  (w:W T (aF T) (aa dp m r x h) Z H Q (EE U')) (rr:∀Q',W T (aH T) (r h) Z H Q' (EE U')->t U' H Q') :
  ∃(a C dx:Addr) (fs:List (Str×V)) (g:List AV->M AV),x' = .ref a/\H a=some (.ins C dx fs)/\fs.lookup m=none/\kO X T EE C m g/\t U' H λvs H2=>kK T g (x'::vs) H2 Q (EE U'):=by
 unfold aa at w;cases x with
 |ref n=>
  cases q with
  |@ref _ p q=>
   cases ob:h.ob n with
   |none=>simp only[ob]at w;exact w.elim|some u=>
    simp only[ob]at w;cases u with
    |ins c fs=>
     obtain⟨C,dx,ks,ys,hc,g1,rfl,r1⟩:=R.obj n _ p ob q;cases hd:dp c with
     |none=>simp only[hd]at w;exact w.elim|some g=>
      cases l:fs.lookup m with
      |some v=>simp only[hd,l]at w;exact w.elim|none=>simp only[hd,l]at w;exact⟨p,C,dx,_,g,rfl,g1,Hz r1 l,hM c C g hd hc,rr _ (W.bind w λZ2 xs aX h2 H2 e2 R2 q2 w2=>⟨Z2,h2,.ref n::xs,R2,.cons (.ref (e2.pre n p q)) q2,w2⟩)⟩
    |_=>exact w.elim
 |_=>exact w.elim
theorem IF{dp:Nat->Option (List AV->M AV)}(hM:∀c C g,dp c=some g->T.C c=some C->kO X T (λ_=>E) C m g)(ho:QE X T E o ma)(ha:QA X T E (e::es) mr)(hb:eG o=true)(hs:(e::es).all aP=true)
  (hn:(e::es).length<30) (hl:(apos.endLine==pos.line)=true):QE X T E (.Call (.Attribute o m apos) (e::es) [] pos) (λU=>uZ dp m (ma U) (mr U)):=by
 obtain⟨ta,pa,ra⟩:=ho;obtain⟨tr,pr,rr⟩:=ha;exact⟨_,Ld (T:=T) (EE:=λ_=>E) pa pr hb hs hn hl,λZ U U' h H Q R S w=>ra Z U U' h H _ R S (W.bind w λZ1 x x' h1 H1 e1 R1 q1 w1=>jc hM R1 q1 w1 λQ' w2=>rr Z1 U U' h1 H1 _ R1 (S.ext e1) w2)⟩
theorem IG{dp:Nat->Option (List AV->M AV)}(hM:∀c C g,dp c=some g->T.C c=some C->kO X T (λ_=>E) C m g)(ho:QE X T E o ma)(hb:eG o=true)(hl:(apos.endLine==pos.line)=true) :
  QE X T E (.Call (.Attribute o m apos) [] [] pos) (λU=>uZ dp m (ma U) (M.ret [])):=by
 obtain⟨ta,pa,ra⟩:=ho;exact⟨_,Le (T:=T) (EE:=λ_=>E) pa hb hl,λZ U U' h H Q R S w=>ra Z U U' h H _ R S (W.bind w λZ1 x x' h1 H1 e1 R1 q1 w1=>jc (t:=pR) hM R1 q1 w1 λQ' w2=>W.here w2 R1 .nil)⟩
structure qy(X:Cx)(T:Tab)(E:XK)(x:Str)(c:Nat)(dv:List AV)(g:List AV->M AV):Prop where
 ex:∃(k:Nat) (C f:Addr) (fd:FuncData) (ps:List Str) (ds:List Value) (dvs:List V),T.C c=some C/\Mk X.K C f/\dD X.prog X.w X.K X.mg X.base (cD X.prog X.w) k f fd ps (kK T g)/\bU (k+1) X.A/\X.mg x=some (.ref C)/\Binds X.K fd ps ds /\
  Vals dvs ds/\(∀Z H,aH T Z H dv dvs)/\mR (cD X.prog X.w) X E
def wb:AV->Bool
 |.aE=>true
 |_=>false
def iz(c:Nat)(dv:List AV)(g:List AV->M AV)(r:M (List AV)):M AV:=r.bind λxs h=>((g (.ref h.nx::(xs++dv))).bind λv=>if wb v=true then M.ret (.ref h.nx) else M.bad) (h.new (.ins c []))
theorem Kj{c:Nat}{C a dx:Addr}{g:List AV->M AV}{xs:List AV}{ys:List V}{h:AH}{Q:VK}(hc:T.C c=some C)(R:aM T Z h H)(r:aH T Z H xs ys)(h1:H a=none)(h2:H dx=none)(h3:dx≠a)
  (w:W T (aF T) (((g (.ref h.nx::xs)).bind λv=>if wb v=true then M.ret (.ref h.nx) else M.bad) (h.new (.ins c []))) Z H Q E) :
  kK T g (.ref a::ys) (aG (aG H dx (.own a)) a (.ins C dx [])) (λv H2=>v = .aE/\Q (.ref a) H2) E:=by
 have R1:=R.keep (a:=dx) (o:=.own a) h2;have e1:Ext Z H Z (aG H dx (.own a)):=.fA h2;have hn:(aG H dx (.own a)) a=none:=by rw[aO (Ne.symm h3)];exact h1
 obtain⟨R2,e2⟩:=R1.alloc (a:=a) (o:=.ins c []) (O:=.ins C dx []) hn ⟨C,dx,[],[],hc,cQ,rfl,.nil⟩;have e:=e1.trans e2;have hq:(Z++[a])[h.nx]?=some a:=by rw[<- R.len];simp
 refine⟨Z++[a],h.new (.ins c []),.ref h.nx::xs,R2,.cons (.ref hq) (r.ext e),W.bind (w.ext e) λZ3 v v' h3 H3 e3 R3 q3 w3=>?_⟩;cases v with
 |aE=>cases q3;exact⟨rfl,W.here w3 R3 (.ref (e3.pre _ _ hq))⟩
 |_=>exact w3.elim
theorem ID{x:Str} {p:Pos} {c:Nat} {dv:List AV} {g:List AV->M AV} (F:qy X T E x c dv g) (hg:Gl X x) (ha:QA X T E (e::es) mr) (hs:(e::es).all aP=true) (hd:(x==("__debug__":Str))=false) :
  QE X T E (.Call (.Name x p) (e::es) [] pos) (λU=>iz c dv g (mr U)):=by
 obtain⟨k,C,f,fd,ps,ds,dvs,hc,K,F,hr,hm,hb,hv,hdv,hx⟩:=F.ex;obtain⟨tr,pr,rr⟩:=ha;rw[List.all_cons,Bool.and_eq_true]at hs;refine⟨_,EL K F hr hg hm hb hv hx pr hd (bX hs.1) (kJ hs.2),λZ U U' h H Q R S w=>rr Z U U' h H _ R S (W.bind w λZ1 xs aX h1 H1 e1 R1 q1 w1=>λa dx n1 n2 n3=>?_)⟩;exact Kj hc R1 (q1.append (hdv _ _)) n1 n2 n3 w1
theorem IE{x:Str} {p:Pos} {c:Nat} {dv:List AV} {g:List AV->M AV} (F:qy X T E x c dv g) (hg:Gl X x) (hd:(x==("__debug__":Str))=false) :
  QE X T E (.Call (.Name x p) [] [] pos) (λU=>iz c dv g (M.ret [])):=by
 obtain⟨k,C,f,fd,ps,ds,dvs,hc,K,F,hr,hm,hb,hv,hdv,hx⟩:=F.ex;exact⟨_,EM K F hr hg hm hb hv hx hd,λZ U U' h H Q R S w=>λa dx n1 n2 n3=>Kj hc R (hdv _ _) n1 n2 n3 w⟩
def Ep(f:Str)(n c:Nat)(i:Int)(U:aA)(y:AV):M Out:=λh=>match y with
 |.int j=>match h.ob n with
  |some (.ins c' fs)=>if c'=c/\fs.length<1000 then .ok (.nx U) (h.put n (.ins c (eY f (.int (i+j)) fs))) else .bad
  |_=>.bad
 |_=>.bad
def Er(cs:List Nat)(f:Str)(a b:M AV)(U:aA):M Out:=a.bind λx h=>match x with
 |.ref n=>match h.ob n with
  |some (.ins c fs)=>if cs.contains c=true then match fs.lookup f with
   |some (.int i)=>(b.bind (Ep f n c i U)) h
   |_=>.bad
   else .bad
  |_=>.bad
 |_=>.bad
theorem LN{cs:List Nat}{tpos:Pos}(hC:yX X.K T cs f)(ho:QE X T E o ma)(hv:QE X T E v mb) :
  QS X T E (.AugAssign (.Attribute o f tpos) .Add v pos) (λU=>Er cs f (ma U) (mb U) U):=by
 obtain⟨ta,pa,ra⟩:=ho;obtain⟨tb,pb,rb⟩:=hv;refine⟨_,GH pa pb Yr,λZ U U' h H D R S w=>ra Z U U' h H _ R S (W.bind w λZ1 x x' h1 H1 e1 R1 q1 w1=>?_)⟩;cases x with
 |ref n=>
  cases q1 with
  |@ref _ p q=>
   cases ob:h1.ob n with
   |none=>simp only[ob]at w1;exact w1.elim|some u=>
    simp only[ob]at w1;cases u with
    |ins c fs=>
     obtain⟨C,dx,ks,ys,hc,g,rfl,r⟩:=R1.obj n _ p ob q;by_cases hm:cs.contains c=true
     case neg=>simp only[if_neg hm]at w1;exact w1.elim
     simp only[if_pos hm]at w1;cases l:fs.lookup f with
     |none=>simp only[l]at w1;exact w1.elim|some v1=>
      simp only[l]at w1;cases v1 with
      |int i=>
       obtain⟨y1,l2,ry⟩:=ve r l;cases ry;obtain⟨c1,c2⟩:=hC c C hm hc;refine⟨p,C,dx,_,_,rfl,g,c1,c2,l2,rb Z1 U U' h1 H1 _ R1 (S.ext e1) (W.bind w1 λZ2 y y' h2 H2 e2 R2 q2 w2=>?_)⟩;cases y with
       |int j=>
        cases q2;simp only[Ep]at w2;cases ob2:h2.ob n with
        |none=>simp only[ob2]at w2;exact w2.elim|some u2=>
         simp only[ob2]at w2;cases u2 with
         |ins c' fs2=>
          by_cases hz:c'=c/\fs2.length<1000
          case neg=>simp only[if_neg hz]at w2;exact w2.elim
          simp only[if_pos hz]at w2;obtain⟨rfl,hz⟩:=hz;have q':=e2.pre n p q;obtain⟨C2,dx2,ks2,ys2,hc2,g2,rfl,r2⟩:=R2.obj n _ p ob2 q';rw[hc]at hc2;cases hc2;obtain⟨ys',ez,rz⟩:=xq (f:=f) (v:=.int (i+j)) (y:=.int (i+j)) (.int _) r2;have ex:=yV (Z:=Z2) (p:=p) (O':=.ins C dx2 (((eY f (.int (i+j)) fs2).map (·.1)).zip ys')) g2 (λ_ z=>by cases z) (λ_ _ z=>by cases z);obtain⟨R3,e3⟩:=R2.write (o':=.ins c' (eY f (.int (i+j)) fs2)) (O':=.ins C dx2 (((eY f (.int (i+j)) fs2).map (·.1)).zip ys')) ob2 rfl rfl q' g2 (λ_ z=>by cases z) (λ_ _ z=>by cases z)
           ⟨C,dx2,_,ys',hc,cQ,rfl,rz.ext ex⟩
          refine⟨i,j,rfl,rfl,dx2,_,g2,?_,?_⟩
          .rw[List.length_zip,List.length_map];omega
          .rw[ez];exact W.ok (Q:=dS D) (b:=dJ.nx U') w2 e3 R3 ((S.ext e1).ext (e2.trans e3))
         |_=>exact w2.elim
       |_=>exact w2.elim
      |_=>exact w1.elim
    |_=>exact w1.elim
 |_=>exact w1.elim
structure dn(K:W.Frag)(C:Addr):Prop where
 cl:gY K C
 ha:W.findIn K (.ref C) "__class__"=some (some (.builtin "object.__class__"))
 hn:W.specialIn K (.builtin "object.__class__") "__get__"=some (some (.builtin "getset_descriptor.__get__"))
 ht:W.takesIn K (.builtin "object.__class__")=some true
 hm:W.mroIn K C (.type "object")=some true
theorem Sr{vd:V}{d:Value}(hv:∀u,RelV vd u->u=d):dM X (.builtin "isinstance") (λxs H Q=>∃(a C dx:Addr) (fs:List (Str×V)) (b:Bool),xs=[.ref a,vd]/\H a=some (.ins C dx fs)/\dn X.K C/\W.kitOne X.K (.ref C) d=some b/\Q (.bl b) H):=by intro pins st U H xs us Q I r h;obtain⟨a,C,dx,fs,b,rfl,g,c,hk,q⟩:=h;obtain⟨u,u2,rfl,r1,r2⟩:=pS r;obtain rfl:=hv u2 r2;exact Zd I r1 (.ins g c.cl c.ha c.hn c.ht c.hm) hk λtk=>⟨.bl _,H,I.tok tk,rfl,q⟩
def gi(cs:List (Nat×Bool))(x:AV):M AV:=λh=>match x with
 |.ref n=>match h.ob n with
  |some (.ins c _)=>match cs.lookup c with
   |some b=>.ok (.bl b) h
   |none=>.bad
  |_=>.bad
 |_=>.bad
theorem HZ{y:Str} {p p2:Pos} {vd:V} {d:Value} {cs:List (Nat×Bool)} (hv:∀u,RelV vd u->u=d) (hg:Gl X "isinstance") (hm:X.mg "isinstance"=none) (py:PE X (.Name y p2) (tC vd))
  (hcs:∀k b,cs.lookup k=some b->∃C,T.C k=some C/\dn X.K C/\W.kitOne X.K (.ref C) d=some b) (ha:QE X T E o ma) (hs:aP o=true) :
  QE X T E (.Call (.Name "isinstance" p) [o,.Name y p2] [] pos) (λU=>(ma U).bind (gi cs)):=by
 obtain⟨ta,pa,ra⟩:=ha;refine⟨_,xJ (Sr hv) hg hm boot_isinstance (jL pa (jL py pC) (bX hs)) (by decide) (by decide) (bX hs) rfl,λZ U U' h H Q R S w=>?_⟩;refine ra Z U U' h H _ R S (W.bind w λZ1 x x' h1 H1 e1 R1 q1 w1=>?_);unfold gi at w1;cases x with
 |ref n=>
  dsimp only at w1;cases q1 with
  |@ref _ p q=>
   cases ob:h1.ob n with
   |none=>rw[ob]at w1;exact w1.elim|some u=>
    rw[ob]at w1;cases u with
    |ins c fs=>
     dsimp only at w1;cases l:cs.lookup c with
     |none=>rw[l]at w1;exact w1.elim|some b=>rw[l]at w1;obtain⟨C,dx,ks,ys,hc,g1,_,_⟩:=R1.obj n _ p ob q;obtain⟨C',hc',hx,hk⟩:=hcs c b l;rw[hc]at hc';cases hc';exact⟨p,C,dx,_,b,rfl,g1,hx,hk,w1.here R1 (.bl _)⟩
    |_=>exact w1.elim
 |_=>exact w1.elim
def XO(sub:Bool)(i:Nat)(b:M AV)(U:aA):M Out:=match U[i]? with
 |some (some (.int a))=>b.bind λy=>match y with
  |.int j=>M.ret (.nx (U.set i (some (.int (if sub=true then a-j else a+j)))))
  |_=>M.bad
 |_=>M.bad
structure Dy(X:Cx)(T:Tab)(E:XK)(x m:Str)(g:List AV->M AV):Prop where
 ex:∃(k:Nat) (C f:Addr) (fd:FuncData) (ps:List Str),X.mg x=some (.ref C)/\dD X.prog X.w X.K X.mg X.base (cD X.prog X.w) k f fd ps (kK T g)/\bU k X.A/\W.keepIn X.K (.ref f)=true /\
  W.specialIn X.K (.ref C) "__getattribute__"=some (some (.builtin "type.__getattribute__"))/\W.readsIn X.K C (.type "type")=true/\W.findCls X.K (.ref C) (.type "type") m=some (.val (.ref f))/\W.handedIn (.ref f)=true /\
  Binds X.K fd ps []/\mR (cD X.prog X.w) X E
theorem HS{x:Str} {p:Pos} {g:List AV->M AV} (B:Dy X T E x m g) (hg:Gl X x) (hd:(x==("__debug__":Str))=false) (ha:QA X T E (e::es) mr) (hs:(e::es).all aP=true) (hn:(e::es).length<30)
  (hl:(apos.endLine==pos.line)=true):QE X T E (.Call (.Attribute (.Name x p) m apos) (e::es) [] pos) (λU=>(mr U).bind g):=by
 obtain⟨k,C,f,fd,ps,hm,F,hr,kp,h1,h2,h3,h4,hb,hx⟩:=B.ex;obtain⟨tr,pr,rr⟩:=ha;refine⟨λU H Q=>tr U H λvs H2=>kK T g vs H2 Q E,?_,λZ U U' h H Q R S w=>rr Z U U' h H _ R S (W.bind w λZ1 xs aX h1 H1 e1 R1 q1 w1=>⟨Z1,h1,xs,R1,q1,w1⟩)⟩;intro pins s U H Q I h;have hs':=hs;rw[List.all_cons,Bool.and_eq_true]at hs;refine uj (qC rfl) (vf hs' hn) hl (aI ((ah (v:=.ref C) hg hm rfl hd) pins s U H (λy H1=>y = .ref C/\tr U H1 λvs H2=>kK T g vs H2 Q E) I ⟨rfl,h⟩) λu s1 ⟨y,H1,I1,ry,ey,q⟩ pl=>?_);subst ey;obtain rfl:u=Value.ref C:=ry;refine W.method_cls I1.bK h1 (W.cls_value I1.bK h2 h3 h4 ?_);refine W.callWith_K (first:=[]) (h₀:=X.base) I.ok.mod.rN kp (aI (pr pos pins _ U H1 _ (I1.tok _) q) λus s2 ⟨vs,H2,I2,r,q2⟩=>⟨I2.bK,?_⟩) (bX hs.1) (kJ hs.2);exact Cu (us:=us) (vs:=vs) (dvs:=[]) F hr hb .nil hx I2 r (by rw[List.append_nil];exact q2)
end
section
variable {X:Cx}{T:Tab}{E:XK}{o:Expr}{ma:aA->M AV}{pos apos:Pos}
def uN(x:AV):M AV:=λh=>match x with
 |.ref n=>match h.ob n with
  |some (.lst true _)=>.ok .aE (h.put n (.lst true []))
  |_=>.bad
 |_=>.bad
def gr(x:AV):M AV:=λh=>match x with
 |.ref n=>match h.ob n with
  |some (.lst true xs)=>match xs[xs.length-1]? with
   |some y=>.ok y (h.put n (.lst true xs.dropLast))
   |none=>.bad
  |_=>.bad
 |_=>.bad
theorem HR(hK:X.K=T.K)(ho:QE X T E o ma)(hb:eG o=true)(hl:(apos.endLine==pos.line)=true):QE X T E (.Call (.Attribute o "clear" apos) [] [] pos) (λU=>(ma U).bind uN):=by
 obtain⟨ta,pa,ra⟩:=ho;refine⟨_,Lc PySem.F.plainAttrs_list PySem.F.slot_list_clear PySem.F.type_list_clear BA pa (qC hb) hl,λZ U U' h H Q R S w=>?_⟩;refine ra Z U U' h H _ R S (W.bind w λZ1 x x' h1 H1 e1 R1 q1 w1=>?_);cases x with
 |ref n=>
  cases q1 with
  |@ref _ p q=>
   simp only[uN]at w1;cases ob:h1.ob n with
   |none=>rw[ob]at w1;exact w1.elim|some u=>
    rw[ob]at w1;cases u with
    |lst mu xs=>
     cases mu with
     |false=>exact w1.elim|true=>obtain⟨ys,g1,r1⟩:=R1.obj n _ p ob q;obtain⟨R3,e3⟩:=R1.write (o':=.lst true []) (O':=.lst []) ob rfl rfl q g1 (λ_ z=>by cases z) (λ_ _ z=>by cases z) ⟨_,cQ,.nil⟩;exact⟨.inl ⟨rfl,⟨ys,.inl (.inl g1)⟩⟩,p,ys,rfl,rfl,g1,W.ok w1 e3 R3 .aE⟩
    |_=>exact w1.elim
 |_=>exact w1.elim
theorem aH.dropLast{Z:List Addr}{H:Hp}{xs:List AV}{ys:List V}(r:aH T Z H xs ys):aH T Z H xs.dropLast ys.dropLast:=by rw[List.dropLast_eq_take,List.dropLast_eq_take,r.length];exact r.take _
theorem IL(hK:X.K=T.K)(ho:QE X T E o ma)(hb:eG o=true)(hl:(apos.endLine==pos.line)=true):QE X T E (.Call (.Attribute o "pop" apos) [] [] pos) (λU=>(ma U).bind gr):=by
 obtain⟨ta,pa,ra⟩:=ho;refine⟨_,Lc PySem.F.plainAttrs_list PySem.F.slot_list_pop PySem.F.type_list_pop BE pa (qC hb) hl,λZ U U' h H Q R S w=>?_⟩;refine ra Z U U' h H _ R S (W.bind w λZ1 x x' h1 H1 e1 R1 q1 w1=>?_);cases x with
 |ref n=>
  cases q1 with
  |@ref _ p q=>
   simp only[gr]at w1;cases ob:h1.ob n with
   |none=>rw[ob]at w1;exact w1.elim|some u=>
    rw[ob]at w1;cases u with
    |lst mu xs=>
     cases mu with
     |false=>exact w1.elim|true=>
      obtain⟨ys,g1,r1⟩:=R1.obj n _ p ob q;dsimp only at w1;cases hy:xs[xs.length-1]? with
      |none=>rw[hy]at w1;exact w1.elim|some y=>rw[hy]at w1;obtain⟨y',g2,r2⟩:=r1.get hy;have ex:=yV (Z:=Z1) (p:=p) (O':=.lst ys.dropLast) g1 (λ_ z=>by cases z) (λ_ _ z=>by cases z);obtain⟨R3,e3⟩:=R1.write (o':=.lst true xs.dropLast) (O':=.lst ys.dropLast) ob rfl rfl q g1 (λ_ z=>by cases z) (λ_ _ z=>by cases z) ⟨_,cQ,r1.dropLast.ext ex⟩;exact⟨.inl ⟨rfl,⟨ys,.inl (.inl g1)⟩⟩,p,ys,y',rfl,rfl,g1,by rw[<- r1.length];exact g2,W.ok w1 e3 R3 (r2.ext e3)⟩
    |_=>exact w1.elim
 |_=>exact w1.elim
def ux:M AV:=λh=>.ok (.ref h.nx) (h.new (.aL []))
theorem HV:QE X T E (.Dict [] [] pos) (λ_=>ux):=by refine⟨_,EG,λZ U U' h H Q R S w p hp=>?_⟩;obtain⟨R1,e1⟩:=R.alloc (a:=p) (o:=.aL []) (O:=.dK []) hp ⟨[],[],cQ,rfl,.nil⟩;refine W.ok (a:=AV.ref h.nx) (b:=V.ref p) w e1 R1 (.ref ?_);rw[<- R.len];simp
def fv(g:AV->List AV->M AV)(a:M AV)(r:M (List AV)):M AV:=a.bind λx h=>if(cX h x).isSome=true then(r.bind λxs=>g x xs) h else .bad
variable {e:Expr}{es:List Expr}{mr:aA->M (List AV)}
theorem xt{m:Str} {id:String} {r:V->List V->Hp->VK->Prop} {g:AV->List AV->M AV} (slot:Slot "dict" m id) (hty:typeOf (.builtin id)=pure (.type "method_descriptor")) (hm:tY X id r)
  (hg:∀Z h H x x' xs aX Q,aM T Z h H->aF T Z H x x'->aH T Z H xs aX->W T (aF T) (g x xs h) Z H Q E->r x' aX H Q)
  (ho:QE X T E o ma) (ha:QA X T E (e::es) mr) (hb:eG o=true) (hs:(e::es).all aP=true) (hn:(e::es).length<29) (hl:(apos.endLine==pos.line)=true) :
  QE X T E (.Call (.Attribute o m apos) (e::es) [] pos) (λU=>fv g (ma U) (mr U)):=by
 obtain⟨ta,pa,ra⟩:=ho;obtain⟨tr,pr,rr⟩:=ha;have hs':=hs;rw[List.all_cons,Bool.and_eq_true]at hs;have hany:=kJ (env:=X.env) (pos:=pos) hs';refine⟨_,Lb PySem.F.plainAttrs_dict slot hty hm pa pr (qC hb) ?_ hl (bX hs.1) (kJ hs.2),λZ U U' h H Q R S w=>?_⟩
 .rw[<- List.not_any_eq_all_not,hany];simp only[keywordEach,backToKw,List.map_nil,List.all_nil,List.length_nil,List.isEmpty_nil,if_true,Bool.not_false,Bool.true_and,decide_eq_true_eq];omega
 refine ra Z U U' h H _ R S (W.bind w λZ1 x x' h1 H1 e1 R1 q1 w1=>?_);have w1':W T (aF T) (if(cX h1 x).isSome=true then((mr U).bind λxs=>g x xs) h1 else .bad) Z1 H1 Q E:=w1;by_cases hd:(cX h1 x).isSome=true
 case neg=>rw[if_neg hd]at w1';exact w1'.elim
 rw[if_pos hd]at w1';obtain⟨kvs,hd⟩:=Option.isSome_iff_exists.mp hd;obtain⟨n,a,us,rfl,q,ob,rfl,gd,rk⟩:=rA R1 q1 hd;refine⟨.inr (.inr (.inl ⟨rfl,.inl ⟨us,gd⟩⟩)),rr Z1 U U' h1 H1 _ R1 (S.ext e1) (W.bind w1' λZ2 xs aX h2 H2 e2 R2 q2 w2=>?_)⟩;exact hg Z2 h2 H2 _ _ xs aX Q R2 (.ref (e2.pre n a q)) q2 w2
def vh(x:AV)(xs:List AV):M AV:=λh=>match cX h x with
 |some kvs=>match xs with
  |[y]=>match dH y with
   |some k=>.ok ((bT kvs k).getD .aE) h
   |none=>.bad
  |[y,z]=>match dH y with
   |some k=>.ok ((bT kvs k).getD z) h
   |none=>.bad
  |_=>.bad
 |none=>.bad
def Co:AV->Nat
 |.ref n=>n
 |_=>0
def zP(x:AV)(xs:List AV):M AV:=λh=>match cX h x with
 |some kvs=>match xs with
  |[y]=>match dH y with
   |some k=>match bT kvs k with
    |some v=>.ok v (h.put (Co x) (.aL (oN kvs k)))
    |none=>.bad
   |none=>.bad
  |[y,z]=>match dH y with
   |some k=>match bT kvs k with
    |some v=>.ok v (h.put (Co x) (.aL (oN kvs k)))
    |none=>.ok z h
   |none=>.bad
  |_=>.bad
 |none=>.bad
def vi(x:AV)(xs:List AV):M AV:=λh=>match cX h x with
 |some kvs=>match xs with
  |[y,z]=>match dH y with
   |some k=>if kvs.length<sizeLine then match bT kvs k with
    |some v=>.ok v h
    |none=>.ok z (h.put (Co x) (.aL (pD kvs k z)))
    else .bad
   |none=>.bad
  |_=>.bad
 |none=>.bad
theorem Us(Z:List Addr)(h:AH)(H:Hp)(x:AV)(x':V)(xs:List AV)(aX:List V)(Q:VK)(R:aM T Z h H)(rx:aF T Z H x x')(rs:aH T Z H xs aX)(w:W T (aF T) (vh x xs h) Z H Q E):Oc x' aX H Q:=by
 unfold vh at w;cases d:cX h x with
 |none=>simp only[d]at w;exact w.elim|some kvs=>
  simp only[d]at w;obtain⟨n,a,us,rfl,q,ob,rfl,gd,rk⟩:=rA R rx d;cases rs with
  |nil=>exact w.elim|@cons y y' ys ys' ry rs=>
   have fin:∀{k:aC} {z:AV} {z':V},aF T Z H z z'->aF T Z H ((bT kvs k).getD z) ((cO us k).getD z'):=λ{k z z'} rz=>by
    obtain⟨g1,g2⟩:=vY (k:=k) rk;cases l:bT kvs k with
    |none=>rw[g2 l];exact rz|some v=>obtain⟨y1,e1,r1⟩:=g1 v l;rw[e1];exact r1
   cases rs with
   |nil=>
    dsimp only at w;cases k:dH y with
    |none=>simp only[k]at w;exact w.elim|some k'=>simp only[k]at w;have ek:=mZ ry k;subst ek;exact⟨a,_,_,rfl,fO.k gd,.inl ⟨rfl,W.here w R (fin .aE)⟩⟩
   |@cons z z' zs zs' rz rs=>
    cases rs with
    |nil=>
     dsimp only at w;cases k:dH y with
     |none=>simp only[k]at w;exact w.elim|some k'=>simp only[k]at w;have ek:=mZ ry k;subst ek;exact⟨a,_,_,rfl,fO.k gd,.inr ⟨z',rfl,W.here w R (fin rz)⟩⟩
    |cons _ _=>exact w.elim
theorem Ux(Z:List Addr)(h:AH)(H:Hp)(x:AV)(x':V)(xs:List AV)(aX:List V)(Q:VK)(R:aM T Z h H)(rx:aF T Z H x x')(rs:aH T Z H xs aX)(w:W T (aF T) (zP x xs h) Z H Q E):Od x' aX H Q:=by
 unfold zP at w;cases d:cX h x with
 |none=>simp only[d]at w;exact w.elim|some kvs=>
  simp only[d]at w;obtain⟨n,a,us,rfl,q,ob,rfl,gd,rk⟩:=rA R rx d;have wr:∀{k:aC} {v:AV} {y:V},bT kvs k=some v->aF T Z H v y->W T (aF T) (.ok v (h.put n (.aL (oN kvs k)))) Z H Q E->Q y (aG H a (.dK (kW us k))):=λ{k v y} l rv w=>by have ex:=yV (Z:=Z) (p:=a) (O':=.dK (kW us k)) gd (λ_ z=>by cases z) (λ_ _ z=>by cases z);obtain⟨R3,e3⟩:=R.write (o':=.aL (oN kvs k)) (O':=.dK (kW us k)) ob rfl rfl q gd (λ_ z=>by cases z) (λ_ _ z=>by cases z) (uv cQ ((NA rk).ext ex));exact W.ok w e3 R3 (rv.ext e3)
  cases rs with
  |nil=>exact w.elim|@cons y y' ys ys' ry rs=>
   cases rs with
   |nil=>
    dsimp only at w;cases k:dH y with
    |none=>simp only[k]at w;exact w.elim|some k'=>
     simp only[k]at w;have ek:=mZ ry k;subst ek;obtain⟨g1,g2⟩:=vY (k:=k') rk;cases l:bT kvs k' with
     |none=>simp only[l]at w;exact w.elim|some v=>simp only[l]at w;obtain⟨y1,e1,r1⟩:=g1 v l;exact⟨a,us,k',rfl,gd,.inl ⟨rfl,y1,e1,wr l r1 w⟩⟩
   |@cons z z' zs zs' rz rs=>
    cases rs with
    |nil=>
     dsimp only at w;cases k:dH y with
     |none=>simp only[k]at w;exact w.elim|some k'=>
      simp only[k]at w;have ek:=mZ ry k;subst ek;obtain⟨g1,g2⟩:=vY (k:=k') rk;refine⟨a,us,k',rfl,gd,.inr ⟨z',rfl,λv1 e1=>?_,λe1=>?_⟩⟩
      .cases l:bT kvs k' with
       |none=>rw[g2 l]at e1;cases e1|some v=>simp only[l]at w;obtain⟨y1,e2,r1⟩:=g1 v l;rw[e1]at e2;cases e2;exact wr l r1 w
      .cases l:bT kvs k' with
       |none=>simp only[l]at w;exact W.here w R rz|some v=>obtain⟨y1,e2,r1⟩:=g1 v l;rw[e1]at e2;cases e2
    |cons _ _=>exact w.elim
theorem Va(Z:List Addr)(h:AH)(H:Hp)(x:AV)(x':V)(xs:List AV)(aX:List V)(Q:VK)(R:aM T Z h H)(rx:aF T Z H x x')(rs:aH T Z H xs aX)(w:W T (aF T) (vi x xs h) Z H Q E):Oe x' aX H Q:=by
 unfold vi at w;cases d:cX h x with
 |none=>simp only[d]at w;exact w.elim|some kvs=>
  simp only[d]at w;obtain⟨n,a,us,rfl,q,ob,rfl,gd,rk⟩:=rA R rx d;cases rs with
  |nil=>exact w.elim|@cons y y' ys ys' ry rs=>
   cases rs with
   |nil=>exact w.elim|@cons z z' zs zs' rz rs=>
    cases rs with
    |nil=>
     dsimp only at w;cases k:dH y with
     |none=>simp only[k]at w;exact w.elim|some k'=>
      simp only[k]at w;have ek:=mZ ry k;subst ek;by_cases hz:kvs.length<sizeLine
      case neg=>rw[if_neg hz]at w;exact w.elim
      rw[if_pos hz]at w;obtain⟨g1,g2⟩:=vY (k:=k') rk;refine⟨a,us,k',z',rfl,gd,rfl,by rw[<- Oz rk];exact hz,λv1 e1=>?_,λe1=>?_⟩
      .cases l:bT kvs k' with
       |none=>rw[g2 l]at e1;cases e1|some v=>simp only[l]at w;obtain⟨y1,e2,r1⟩:=g1 v l;rw[e1]at e2;cases e2;exact W.here w R r1
      .cases l:bT kvs k' with
       |none=>simp only[l]at w;have ex:=yV (Z:=Z) (p:=a) (O':=.dK (eS us k' z')) gd (λ_ z=>by cases z) (λ_ _ z=>by cases z);obtain⟨R3,e3⟩:=R.write (o':=.aL (pD kvs k' z)) (O':=.dK (eS us k' z')) ob rfl rfl q gd (λ_ z=>by cases z) (λ_ _ z=>by cases z) (uv cQ ((Pa rk rz).ext ex));exact W.ok w e3 R3 (rz.ext e3)
       |some v=>obtain⟨y1,e2,r1⟩:=g1 v l;rw[e1]at e2;cases e2
    |cons _ _=>exact w.elim
inductive Dm where
 |get|pop|Pk
def Dm.g:Dm->AV->List AV->M AV
 |.get=>vh | .pop=>zP | .Pk=>vi
def fw(m:Str):Option Dm:=if m="get" then some .get else if m="pop" then some .pop else if m="setdefault" then some .Pk else
 none
theorem Ll{m:Str}{f:Dm}(hf:fw m=some f)(hu:X.A.units+1<cLine)(ho:QE X T E o ma)(ha:QA X T E (e::es) mr)(hb:eG o=true)(hs:(e::es).all aP=true)(hn:(e::es).length<29)(hl:(apos.endLine==pos.line)=true) :
  QE X T E (.Call (.Attribute o m apos) (e::es) [] pos) (λU=>fv f.g (ma U) (mr U)):=by
 unfold fw at hf;split at hf
 case isTrue h=>cases hf;subst h;exact xt PySem.F.slot_dict_get PySem.F.type_dict_get (BB hu) Us ho ha hb hs hn hl
 split at hf
 case isTrue h=>cases hf;subst h;exact xt PySem.F.slot_dict_pop PySem.F.type_dict_pop BC Ux ho ha hb hs hn hl
 split at hf
 case isTrue h=>cases hf;subst h;exact xt PySem.F.slot_dict_setdefault PySem.F.type_dict_setdefault BD Va ho ha hb hs hn hl
 cases hf
end
inductive Op where
 |add|sub|mul|fdiv|mod|pow|shl|shr|band|bor|bxor|ix
def Op.g:Op->AV->AV->M AV
 |.add=>fH | .sub=>gy | .mul=>Iw | .fdiv=>Ih | .mod=>Iu | .pow=>Iz | .shl=>Ja | .shr=>Jb | .band=>Ie | .bor=>Iy | .bxor=>Jc | .ix=>oS
inductive Cp where
 |eq|ne|lt|le|gt|ge|xA|isn|wZ|nin
def Cp.g:Cp->AV->AV->M AV
 |.eq=>zQ | .ne=>zS | .lt=>Io | .le=>Im | .gt=>Ij | .ge=>Ii | .xA=>vj | .isn=>vk | .wZ=>mW false | .nin=>mW true
inductive Bi where
 |len|int|min|max|divmod|tuple|list
def Bi.g:Bi->List AV->M AV
 |.len=>zR | .int=>Ik | .min=>Iq | .max=>Ip | .divmod=>Ig | .tuple=>gz | .list=>gm
inductive CT where
 |bad
 |nm (i:Nat)
 |tup (is:List Nat)
def eu:List Nat->List AV->aA->M aA
 |[]=>vq
 |i::is=>vp (λv U=>M.ret (U.set i (some v))) (eu is)
def jD:CT->AV->aA->M aA
 |.bad,_,_=>M.bad
 |.nm i,v,U=>M.ret (U.set i (some v))
 |.tup is,v,U=>uQ is.length (eu is) v U
mutual
inductive Ex where
 |uD (imp:List (Option Nat)) (t:CT) (it:Ir) (e:Ex)
 |fX (imp:List (Option Nat)) (t:CT) (it:Ir) (c e:Ex)
 |eD (d e:Ex)
 |bad|no
 |var (i:Nat)
 |val (v:AV)
 |op (o:Op) (a b:Ex)
 |cmp (o:Cp) (a b:Ex)
 |chain (o o':Cp) (a b c:Ex)
 |neg (a:Ex)
 |not (a:Ex)
 |and (a b:Ex)
 |or (a b:Ex)
 |ite (c a b:Ex)
 |tup (es:cT)
 |lst (es:cT)
 |slice (a lo hi:Ex)
 |call (f:Nat) (es:cT)
 |bi (f:Bi) (es:cT)
 |iD (t:BT) (a:Ex)
 |kc (k:Kc) (a:Ex)
 |sk (f:Nat) (a:Ex)
 |cJ (cs:List (Nat×Bool)) (a:Ex)
 |fld (cs:List Nat) (f:Str) (o:Ex)
 |fS (m:Str) (dp:List (Nat×Nat)) (o:Ex) (es:cT)
 |make (c i:Nat) (dv:List AV) (es:cT)
 |eK (cs:List (Nat×Bool)) (a:Ex)
 |uq (i:Nat) (es:cT)
 |zL
 |dm (f:Dm) (o:Ex) (es:cT)
 |clear (o:Ex)|xp (o:Ex)
 |app (o a:Ex)
inductive cT where
 |nil
 |cons (e:Ex) (es:cT)
inductive Ir where
 |bad
 |seq (e:Ex)
 |pq (es:cT)
 |Pc (es:cT)
 |enum (e:Ex)
 |zip (es:cT)
 |aL (e:Ex)
end
abbrev Run:=Nat->List AV->M AV
def lA(e:Ex)(m:M AV):M (Option Int):=match e with
 |.no=>M.ret none
 |_=>m.bind zT
mutual
noncomputable def aB(F:Run):Ex->aA->M AV
 |.bad,_=>M.bad
 |.no,_=>M.bad
 |.var i,U=>oT i U
 |.val v,_=>M.ret v
 |.op o a b,U=>pB o.g (aB F a U) (aB F b U)
 |.cmp o a b,U=>pB o.g (aB F a U) (aB F b U)
 |.chain o o' a b c,U=>wQ o.g o'.g (aB F a U) (aB F b U) (aB F c U)
 |.neg a,U=>(aB F a U).bind gq
 |.not a,U=>(aB F a U).bind λx=>(bF x).bind λb=>M.ret (.bl (!b))
 |.and a b,U=>Ek (aB F a U) (aB F b U)
 |.or a b,U=>Kv (aB F a U) (aB F b U)
 |.ite c a b,U=>iu (bM F c U) (aB F a U) (aB F b U)
 |.tup es,U=>Dn (bN F es U)
 |.lst es,U=>oX (bN F es U)
 |.slice a lo hi,U=>(aB F a U).bind λx=>(lA lo (aB F lo U)).bind λl=>(lA hi (aB F hi U)).bind λu=>rH x l u
 |.call f es,U=>(bN F es U).bind (F f)
 |.bi f es,U=>(bN F es U).bind f.g
 |.iD t a,U=>(aB F a U).bind (uO t)
 |.kc k a,U=>(aB F a U).bind k.g
 |.sk f a,U=>(aB F a U).bind (gw (F f))
 |.cJ cs a,U=>(aB F a U).bind (uP cs)
 |.fld cs f o,U=>(aB F o U).bind (oR cs f)
 |.fS m dp o es,U=>uZ (λc=>(dp.lookup c).map F) m (aB F o U) (bN F es U)
 |.make c i dv es,U=>iz c dv (F i) (bN F es U)
 |.eK cs a,U=>(aB F a U).bind (gi cs)
 |.uq i es,U=>(bN F es U).bind (F i)
 |.zL,_=>ux
 |.dm f o es,U=>fv f.g (aB F o U) (bN F es U)
 |.clear o,U=>(aB F o U).bind uN
 |.xp o,U=>(aB F o U).bind gr
 |.app o a,U=>su (aB F o U) (aB F a U)
 |.uD imp t it e,U=>uE (bD F it U) (jD t) (λ_=>M.ret true) (aB F e) imp U
 |.fX imp t it c e,U=>uE (bD F it U) (jD t) (bM F c) (aB F e) imp U
 |.eD d e,U=>gW (aB F d) (aB F e) U
noncomputable def bM(F:Run):Ex->aA->M Bool
 |.bad,_=>M.bad
 |.no,_=>M.bad
 |.ite _ _ _,_=>M.bad
 |.var i,U=>(oT i U).bind bF
 |.val v,_=>bF v
 |.op o a b,U=>(pB o.g (aB F a U) (aB F b U)).bind bF
 |.cmp o a b,U=>(pB o.g (aB F a U) (aB F b U)).bind gf
 |.chain o o' a b c,U=>(wQ o.g o'.g (aB F a U) (aB F b U) (aB F c U)).bind gf
 |.neg a,_=>M.bad
 |.not a,U=>(bM F a U).bind λb=>M.ret (!b)
 |.and a b,U=>Ej (bM F a U) (bM F b U)
 |.or a b,U=>Ku (bM F a U) (bM F b U)
 |.tup es,U=>(Dn (bN F es U)).bind bF
 |.lst es,U=>(oX (bN F es U)).bind bF
 |.slice a lo hi,U=>((aB F a U).bind λx=>(lA lo (aB F lo U)).bind λl=>(lA hi (aB F hi U)).bind λu=>rH x l u).bind bF
 |.call f es,U=>((bN F es U).bind (F f)).bind bF
 |.bi f es,U=>((bN F es U).bind f.g).bind bF
 |.iD t a,U=>((aB F a U).bind (uO t)).bind bF
 |.kc k a,U=>((aB F a U).bind k.g).bind bF
 |.sk f a,U=>((aB F a U).bind (gw (F f))).bind bF
 |.cJ cs a,U=>((aB F a U).bind (uP cs)).bind bF
 |.fld cs f o,U=>((aB F o U).bind (oR cs f)).bind bF
 |.fS m dp o es,U=>(uZ (λc=>(dp.lookup c).map F) m (aB F o U) (bN F es U)).bind bF
 |.make c i dv es,U=>(iz c dv (F i) (bN F es U)).bind bF
 |.eK cs a,U=>((aB F a U).bind (gi cs)).bind bF
 |.uq i es,U=>((bN F es U).bind (F i)).bind bF
 |.zL,_=>ux.bind bF
 |.dm f o es,U=>(fv f.g (aB F o U) (bN F es U)).bind bF
 |.clear o,U=>((aB F o U).bind uN).bind bF
 |.xp o,U=>((aB F o U).bind gr).bind bF
 |.app o a,U=>(su (aB F o U) (aB F a U)).bind bF
 |.uD imp t it e,U=>(uE (bD F it U) (jD t) (λ_=>M.ret true) (aB F e) imp U).bind bF
 |.fX imp t it c e,U=>(uE (bD F it U) (jD t) (bM F c) (aB F e) imp U).bind bF
 |.eD d e,U=>(gW (aB F d) (aB F e) U).bind bF
noncomputable def bN(F:Run):cT->aA->M (List AV)
 |.nil,_=>M.ret []
 |.cons e es,U=>Gz (aB F e U) (bN F es U)
noncomputable def bD(F:Run):Ir->aA->M dC
 |.bad,_=>M.bad
 |.seq e,U=>(aB F e U).bind fR
 |.pq es,U=>(bN F es U).bind gu
 |.Pc es,U=>(bN F es U).bind vm
 |.enum e,U=>(aB F e U).bind gg
 |.zip es,U=>(bN F es U).bind ib
 |.aL e,U=>(aB F e U).bind zM
end
structure Cn where
 N:List Str
 sc:Scope
 fns:List Str
 zU:List (Str×AV)
 dQ:List Str
 iX:List (Str×Nat)
 cat:List (Str×List (Nat×Bool))
 cJ:List (Str×List (Nat×Bool))
 top:Bool:=true
 fE:List (Str×List Nat):=[]
 fT:List (Str×List (Nat×Nat)):=[]
 iF:List ((Str×Nat)×(Nat×Nat×List AV)):=[]
 eK:List (Str×List (Nat×Bool)):=[]
 iA:List (Str×List (Str×Nat)):=[]
 uy:List Str:=[]
def Cn.gl(C:Cn)(x:Str):Bool:=decide (C.sc.names.lookup x=some .globalImplicit)
def gR(x:Str):Bool:=!(x==("__debug__":Str)) && !(x==("__classdict__":Str)) && !(x==("__name__":Str))
def Cn.loc(C:Cn)(x:Str):Bool:=decide (C.sc.names.lookup x=some .local)||decide (C.sc.names.lookup x=some .cell)
def Cn.name(C:Cn)(x:Str):Ex:=if gR x then
  if C.loc x then match C.N.idxOf? x with
   |some i=>.var i
   |none=>.bad
  else if C.gl x then match C.zU.lookup x with
   |some v=>.val v
   |none=>.bad
  else .bad
 else .bad
def uu:Const->Ex
 |.none=>.val .aE
 |.bool b=>.val (.bl b)
 |.int i=>.val (.int i)
 |.str x=>.val (.str x)
 |_=>.bad
def Fp:Operator->Option Op
 |.Add=>some .add | .Sub=>some .sub | .Mult=>some .mul | .FloorDiv=>some .fdiv | .Mod=>some .mod | .Pow=>some .pow
 |.LShift=>some .shl | .RShift=>some .shr | .BitAnd=>some .band | .BitOr=>some .bor | .BitXor=>some .bxor
 |_=>none
def fk:CmpOp->Cp
 |.Eq=>.eq | .NotEq=>.ne | .Lt=>.lt | .LtE=>.le | .Gt=>.gt | .GtE=>.ge | .Is=>.xA | .IsNot=>.isn | .In=>.wZ | .NotIn=>.nin
def tm(op:Operator)(a b:Ex):Ex:=match Fp op with
 |some o=>.op o a b
 |none=>.bad
def qD(k:Ex->Ex->Ex):List Ex->Ex
 |[]=>.bad
 |[a]=>a
 |a::r=>k a (qD k r)
def fP:List Ex->cT
 |[]=>.nil
 |e::es=>.cons e (fP es)
def Fy(x:Str):Option BT:=
 if x="int" then some .int else if x="bool" then some .bl else if x="str" then some .str else if x="tuple" then some .tup else if x="list" then some .lst else if x="dict" then some .aL else none
def Fo(x:Str):Option Bi:=
 if x="len" then some .len else if x="int" then some .int else if x="min" then some .min else if x="max" then some .max else if x="divmod" then some .divmod else if x="tuple" then some .tuple else if x="list" then some .list else
  none
def Cn.bl(C:Cn)(x:Str):Bool:=C.gl x&&C.dQ.contains x&&gR x
def xG:Expr->Option Str
 |.Name x _=>some x
 |_=>none
def Cn.fi(C:Cn)(x:Str)(es:List Expr)(cs:List Ex):Ex:=if gR x&&es.all aP then match C.fns.idxOf? x with
    |some i=>if C.gl x then .call i (fP cs) else .bad
    |none=>match C.iF.lookup (x,es.length) with
     |some (c,i,dv)=>if C.gl x then .make c i dv (fP cs) else .bad
     |none=>match Fo x with
      |some f=>if C.bl x && !es.isEmpty then .bi f (fP cs) else .bad
      |none=>if decide (x="isinstance")&&C.bl x then match es,cs with
          |[_,t],[a,_]=>match (xG t).bind λy=>if C.bl y then Fy y else none with
            |some bt=>.iD bt a
            |none=>match (xG t).bind λy=>if gR y&&C.gl y then C.cJ.lookup y else none with
              |some cs=>.cJ cs a
              |none=>match (xG t).bind λy=>if gR y&&C.gl y then C.eK.lookup y else none with
                |some cs=>.eK cs a
                |none=>.bad
          |_,_=>.bad
        else .bad
  else .bad
def EF:Nat:=40
def Cn.slot(C:Cn)(x:Str):Option Nat:=if C.loc x then C.N.idxOf? x else none
def Cn.vz(C:Cn):Expr->Bool
 |.Attribute _ f _=>C.uy.contains f
 |_=>false
def Cn.eD(C:Cn)(it:Expr)(d e:Ex):Ex:=if C.vz it then .eD d e else e
def cI(C:Cn)(f:Expr->Ex)(tg:Expr)(e:Expr):Ir:=match e with
 |.Call (.Name x _) es [] _=>
  if decide (x="range")&&C.bl x then match es with
   |[a]=>if aP a then .pq (fP ([a].map f)) else .bad
   |[a,b]=>if aP a&&aP b then .Pc (fP ([a,b].map f)) else .bad
   |_=>.bad
  else if decide (x="enumerate")&&C.bl x then match es,tg with
   |[a],.Tuple _ _ _=>if aP a then .enum (f a) else .bad
   |_,_=>.bad
  else if decide (x="zip")&&C.bl x then match es,tg with
   |[a,b],.Tuple _ _ _=>if aP a&&aP b then .zip (fP ([a,b].map f)) else .bad
   |_,_=>.bad
  else .seq (f e)
 |e=>if aP e then(if C.vz e then .aL (f e) else .seq (f e)) else .bad
def uF(scope:Scope):List Str:=(scope.names.filter λx=>(x.2==NameKind.local&&x.1 != (".0":Str))||x.2==NameKind.free).map (·.1)
def Ov(scope sc:Scope):Scope:=
 { scope with names:=scope.names.map λ(n,k)=>if(k == .free&&sc.kind == .function&&sc.names.lookup n==some .cell) then(n,.cell) else(n,k) }
def Cn.comp(C:Cn)(scope:Scope):Cn:={ C with N:=uF scope,sc:=Ov scope C.sc,top:=false }
def Cn.imp(C:Cn)(scope:Scope):List (Option Nat):=(uF scope).map λx=>if decide (scope.names.lookup x=some .free) then C.N.idxOf? x else none
def Cn.oJ(C:Cn)(scope:Scope):Bool:=decide (scope.kind = .function)&&scope.names.all (λy=>decide (y.2 ≠ .cell))&&scope.names.all (λy=>decide (y.2 = .local->scope.names.lookup y.1=some .local)) &&
 scope.names.all (λy=>decide (y.2 = .free->C.sc.names.lookup y.1=some .cell))&&decide (uF scope).Nodup
def fo(C:Cn):List Expr->Option (List Nat)
 |[]=>some []
 |.Name x _::r=>if decide (C.sc.names.lookup x=some .local) then match C.N.idxOf? x,fo C r with
   |some i,some l=>some (i::l)
   |_,_=>none
  else none
 |_=>none
def wN(C:Cn)(e:Expr):CT:=match e with
 |.Name x _=>if decide (C.sc.names.lookup x=some .local) then match C.N.idxOf? x with
   |some i=>.nm i
   |none=>.bad
  else .bad
 |.Tuple es _ _=>match fo C es with
  |some l=>.tup l
  |none=>.bad
 |_=>.bad
def jd(o:Expr)(m:Str)(eo:Ex):Ex:=
 if decide (m="clear")&&eG o then .clear eo else
 if decide (m="pop")&&eG o then .xp eo else
 .bad
def je(o:Expr)(m:Str)(eo ea:Ex):Ex:=
 if decide (m="append")&&eG o then .app eo ea else
 if eG o then(match fw m with
  |some f=>.dm f eo (.cons ea .nil)
  |none=>.bad) else
 .bad
def jf(o:Expr)(m:Str)(eo ea eb:Ex):Ex:=
 if eG o then(match fw m with
  |some f=>.dm f eo (.cons ea (.cons eb .nil))
  |none=>.bad) else
 .bad
def sy(o:Expr)(m:Str)(eo:Ex):List Ex->Ex
 |[]=>jd o m eo
 |[a]=>je o m eo a
 |[a,b]=>jf o m eo a b
 |_=>.bad
def Cn.Gs(C:Cn)(o:Expr)(m:Str):Option Nat:=(xG o).bind λx=>if gR x&&C.gl x then(C.iA.lookup x).bind (·.lookup m) else none
def Cn.jb(C:Cn)(o:Expr)(m:Str)(apos pos:Pos)(es:List Expr)(eo:Ex)(cs:List Ex):Ex:=
 if es.all aP&&(apos.endLine==pos.line) then
  match C.Gs o m with
  |some i=>if !es.isEmpty&&decide (es.length<30) then .uq i (fP cs) else .bad
  |none=>match C.fT.lookup m with
   |some dp=>if eG o&&decide (es.length<30) then .fS m dp eo (fP cs) else .bad
   |none=>sy o m eo cs
 else .bad
def ui(op:UnaryOp)(a:Ex):Ex:=match op with
 |.USub=>.neg a
 |.Not=>.not a
 |_=>.bad
def tw(f:Expr->Ex)(a:Expr)(os:List CmpOp)(bs:List Expr):Ex:=match os,bs with
 |[o],[b]=>if aP b then .cmp (fk o) (f a) (f b) else .bad
 |[o,o'],[b,c]=>if aP c then .chain (fk o) (fk o') (f a) (f b) (f c) else .bad
 |_,_=>.bad
def tq(op:BoolOp)(vs:List Ex):Ex:=match op with
 |.And=>qD .and vs
 |.Or=>qD .or vs
def ug(C:Cn)(f:Expr->Ex)(a s:Expr):Ex:=match s with
 |.Slice lo hi none _=>.slice (f a) (lo.elim .no f) (hi.elim .no f)
 |b=>if aP b then .op .ix (f a) (f b) else .bad
def tu(C:Cn)(f:Expr->Ex)(g:Expr)(es:List Expr)(ks:List Keyword)(pos:Pos):Ex:=match ks with
 |[]=>match g with
  |.Name x _=>C.fi x es (es.map f)
  |.Attribute o m apos=>C.jb o m apos pos es (f o) (es.map f)
  |_=>.bad
 |_=>.bad
def ue(C:Cn)(r:Cn->Expr->Ex)(elt:Expr)(gs:List Comprehension)(scope:Scope):Ex:=match gs with
 |[⟨t,it,cs,0⟩]=>if C.oJ scope&&aP it then match cs with
   |[]=>C.eD it (r C it) (.uD (C.imp scope) (wN (C.comp scope) t) (cI C (r C) t it) (r (C.comp scope) elt))
   |[c]=>C.eD it (r C it) (.fX (C.imp scope) (wN (C.comp scope) t) (cI C (r C) t it) (r (C.comp scope) c) (r (C.comp scope) elt))
   |_=>.bad
  else .bad
 |_=>.bad
def tf(C:Cn)(o:Expr)(f:Str)(eo:Ex):Ex:=if eG o then match C.fE.lookup f with
  |some cs=>.fld cs f eo
  |none=>.bad
 else .bad
def ub(f:Expr->Ex)(ks:List (Option Expr))(vs:List Expr):Ex:=match ks,vs with
 |[],[]=>.zL
 |_,_=>.bad
def Ju(x:Str)(ks:List Keyword):Option Kc:=match ks with
 |[]=>if x="any" then some .any else
  if x="sorted" then some .sd else
  none
 |[⟨some nm,kc,_⟩]=>match kc with
  |.Constant (.bool b) _ _=>if x="sorted"/\nm="reverse" then some (.srt b) else none
  |.Constant .none _ _=>if x="min"/\nm="default" then some .wu else none
  |_=>none
 |_=>none
def uf(C:Cn)(x:Str)(ks:List Keyword)(b:Bool)(y:Ex):Option Ex:=match ks with
 |[⟨some nm,.Name z _,_⟩]=>if x="sorted"/\nm="key"/\(C.bl x&&b&&gR z&&C.gl z)=true then match C.fns.idxOf? z with
  |some i=>some (.sk i y)
  |none=>none
  else none
 |_=>none
def zI(C:Cn)(f:Expr->Ex)(g:Expr)(es:List Expr)(ks:List Keyword):Option Ex:=match g,es with
 |.Name x _,[a]=>match Ju x ks with
  |some k=>if C.bl x&&aP a then some (.kc k (f a)) else none
  |none=>uf C x ks (aP a) (f a)
 |_,_=>none
def cE:Cn->Nat->Expr->Ex
 |_,0,_=>.bad
 |C,n+1,e=>match e with
  |.Name x _=>C.name x
  |.Constant c _ _=>uu c
  |.BinOp a op b _=>tm op (cE C n a) (cE C n b)
  |.UnaryOp op a _=>ui op (cE C n a)
  |.Compare a os bs _=>tw (cE C n) a os bs
  |.BoolOp op vs _=>tq op (vs.map (cE C n))
  |.IfExp c a b _=>.ite (cE C n c) (cE C n a) (cE C n b)
  |.Tuple es _ _=>if es.all aP then .tup (fP (es.map (cE C n))) else .bad
  |.List es _=>if es.all aP then .lst (fP (es.map (cE C n))) else .bad
  |.Subscript a s _=>ug C (cE C n) a s
  |.Call g es ks pos=>match zI C (cE C n) g es ks with
   |some y=>y
   |none=>tu C (cE C n) g es ks pos
  |.Dict ks vs _=>ub (cE C n) ks vs
  |.Attribute o f _=>tf C o f (cE C n o)
  |.ListComp elt gs scope _=>ue C (λC' e'=>cE C' n e') elt gs scope
  |_=>.bad
structure Lk(X:Cx)(T:Tab)(E:XK)(C:Cn)(F:Run):Prop where
 K:X.K=T.K
 N:X.N=C.N
 sc:X.env.scope=C.sc
 nd:C.N.Nodup
 fn:C.top=true->∀x,X.fn x=true
 calm:X.calm=true
 po:PassesOwn (model X.prog X.w) X.A X.env X.xe
 gv:∀x v,C.zU.lookup x=some v->∃u v',X.mg x=some u/\RelV v' u/\∀Z H,aF T Z H v v'
 fns:∀(i:Nat) x,C.fns[i]?=some x->Fn X T E x (F i)
 dQ:∀x,C.dQ.contains x=true->X.mg x=none
 tab:∀kvs a,T.G kvs a->Eb X.prog X.w X.K a kvs
 un:X.A.units+64<cLine
 fE:∀f cs,C.fE.lookup f=some cs->yX X.K T cs f
 fT:∀m dp,C.fT.lookup m=some dp->∀c D g,(dp.lookup c).map F=some g->T.C c=some D->kO X T (λ_=>E) D m g
 iF:∀x n c i dv,C.iF.lookup (x,n)=some (c,i,dv)->qy X T E x c dv (F i)
 eK:∀y cs,C.eK.lookup y=some cs->∃D:Addr,X.mg y=some (.ref D)/\∀k b,cs.lookup k=some b->∃D':Addr,T.C k=some D'/\dn X.K D'/\W.kitOne X.K (.ref D') (.ref D)=some b
 iA:∀x m i,(C.iA.lookup x).bind (·.lookup m)=some i->Dy X T E x m (F i)
 iX:∀x c,C.iX.lookup x=some c->∃(D:Addr) (bmB:List Value) (newId initId Bn:String),X.mg x=some (.ref D)/\T.C c=some D/\W.excIn X.K D bmB newId=true/\ExcBaseFacts Bn newId initId bmB
 cat:∀x cs,C.cat.lookup x=some cs->∃D:Addr,X.mg x=some (.ref D)/\L2.clsIn X.K D=true/\∀c b,cs.lookup c=some b->∃D':Addr,T.C c=some D'/\L2.clsIn X.K D'=true/\(mroOf X.K D').contains (.ref D)=b
 cJ:∀y cs,C.cJ.lookup y=some cs->∃(v:V) (d:Value),(∀u,RelV v u->u=d)/\RelV v d/\(X.mg y=some d\/(X.mg y=none/\bootBuiltins y=some d)) /\
  ∀k b,cs.lookup k=some b->∃D:Addr,T.C k=some D/\W.tX X.K D=true/\W.kitOne X.K (.ref D) d=some b
 ra:dy X E
 fV:C.top=true->X.stack=X.env::X.outer
 fr:C.top=true->X.env.frame=some X.env.locals
theorem Lk.dB{X:Cx}{T:Tab}{E:XK}{C:Cn}{F:Run}(L:Lk X T E C F)(pn:List (Addr×Obj))(E1:Value->Shared->Prop):Lk (X.dB pn E1).gQ T E0 C F:=
 ⟨L.K,L.N,L.sc,L.nd,L.fn,L.calm,PassesOwn.never,L.gv,λi x h=>let ⟨k,f,fd,ps,F,hr,hm,hk,hb,_⟩:=(L.fns i x h).ex;⟨⟨k,f,fd,ps,F,hr,hm,hk,hb,λ_ _ _ _ _ _ _ ⟨_,_,_,_,_,_,_,_,_,_,_,_,z⟩=>z.elim⟩⟩,L.dQ,L.tab,
 L.un,
 L.fE,λm dp h c D g h1 h2=>let ⟨k,f,fd,ps,F,hr,c,hm,hb,_⟩:=(L.fT m dp h c D g h1 h2).ex;⟨⟨k,f,fd,ps,F,hr,c,hm,hb,λ_ _ _ _ _ _ _ ⟨_,_,_,_,_,_,_,_,_,_,_,_,z⟩=>z.elim⟩⟩,
 λx n c i dv h=>let ⟨k,C,f,fd,ps,ds,dvs,hc,K,F,hr,hm,hb,hv,hdv,_⟩:=(L.iF x n c i dv h).ex;⟨⟨k,C,f,fd,ps,ds,dvs,hc,K,F,hr,hm,hb,hv,hdv,λ_ _ _ _ _ _ _ ⟨_,_,_,_,_,_,_,_,_,_,_,_,z⟩=>z.elim⟩⟩,
 L.eK,λx m i h=>let ⟨k,C,f,fd,ps,hm,F,hr,kp,h1,h2,h3,h4,hb,_⟩:=(L.iA x m i h).ex;⟨⟨k,C,f,fd,ps,hm,F,hr,kp,h1,h2,h3,h4,hb,λ_ _ _ _ _ _ _ ⟨_,_,_,_,_,_,_,_,_,_,_,_,z⟩=>z.elim⟩⟩,
 L.iX,L.cat,L.cJ,λ_ _ _ _ _ _ _ _ _ _ z=>z.elim,L.fV,L.fr⟩
section
variable {X:Cx}{T:Tab}{E:XK}{C:Cn}{F:Run}(L:Lk X T E C F)
theorem kZ{x:Str}(h:gR x=true):(x==("__debug__":Str))=false/\(x==("__classdict__":Str))=false/\x≠"__name__":=by simp only[gR,Bool.and_eq_true,Bool.not_eq_true',beq_eq_false_iff_ne]at h;exact⟨beq_eq_false_iff_ne.mpr h.1.1,beq_eq_false_iff_ne.mpr h.1.2,h.2⟩
theorem iB{x:Str}{l:List Str}{i:Nat}(h:l.idxOf? x=some i):l[i]?=some x:=by unfold List.idxOf? at h;obtain⟨h1,h2,_⟩:=List.findIdx?_eq_some_iff_getElem.mp h;rw[List.getElem?_eq_getElem h1];exact congrArg some (eq_of_beq h2)
include L in
theorem Lk.gl{x:Str}(h:C.gl x=true):Gl X x:=by have h':C.sc.names.lookup x=some .globalImplicit:=of_decide_eq_true h;rw[<- L.sc]at h';exact h'
def Q2(X:Cx)(T:Tab)(E:XK)(F:Run)(e:Expr)(x:Ex):Prop:=QE X T E e (aB F x)/\QT X T E e (bM F x)
theorem bL{e:Expr}:Q2 X T E F e .bad:=⟨ak,Cj⟩
include L in
theorem Li{e it:Expr}{d y:Ex}(pl:ai e=true)(h:Q2 X T E F e y):Q2 X T E F e (C.eD it d y):=by
 unfold Cn.eD;split
 .exact⟨Ln (aB F d) h.1,iU L.K (Ln (aB F d) h.1) pl⟩
 .exact h
include L in
theorem PF(x:Str)(pos:Pos):Q2 X T E F (.Name x pos) (C.name x):=by
 unfold Cn.name;split
 case isFalse=>exact bL
 case isTrue ok=>
  obtain⟨h1,h2,h3⟩:=kZ ok;split
  case isTrue hl=>
   split
   case h_1 i hi=>
    have hv:zG X.env.scope x:=by
     rw[L.sc];simp only[Cn.loc,Bool.or_eq_true,decide_eq_true_eq]at hl;rcases hl with hl|hl
     .exact .inl hl
     .exact .inr (.inl hl)
    have q:QE X T E (.Name x pos) (oT i):=Lo (by rw[L.N];exact iB hi) hv h1 h2;exact⟨q,iU L.K q rfl⟩
   case h_2=>exact bL
  case isFalse=>
   split
   case isFalse=>exact bL
   case isTrue hg=>
    split
    case h_1 v hv=>obtain⟨u,v',e1,r,rp⟩:=L.gv x v hv;have q:QE X T E (.Name x pos) (λ_=>M.ret v):=iG (ah (L.gl hg) e1 r h1) rp;exact⟨q,iU L.K q rfl⟩
    case h_2=>exact bL
include L in
theorem OZ(c:Const)(k:Nat)(pos:Pos):Q2 X T E F (.Constant c k pos) (uu c):=by
 cases c with
 |none=>exact⟨iG jn λ_ _=>.aE,iU L.K (iG jn λ_ _=>.aE) rfl⟩|bool b=>exact⟨iG jm λ_ _=>.bl b,iU L.K (iG jm λ_ _=>.bl b) rfl⟩|int i=>exact⟨iG xj λ_ _=>.int i,iU L.K (iG xj λ_ _=>.int i) rfl⟩|str x=>exact⟨iG xk λ_ _=>.str x,iU L.K (iG xk λ_ _=>.str x) rfl⟩|_=>exact bL
include L in
theorem CZ{op:Operator}{o:Op}(h:Fp op=some o):bR X T E (binaryOp op) o.g:=by
 cases op<;>cases h
 .exact CW L.K
 .exact DT
 .exact DL
 .exact DK
 .exact DQ
 .exact DR
 .exact DS
 .exact DP
 .exact DU
 .exact CY
 .exact DB
include L in
theorem xI(op:CmpOp):bR X T E (compareOp op) (fk op).g:=by
 cases op
 .exact DA
 .exact DM
 .exact DJ
 .exact DI
 .exact DD
 .exact DC
 .exact DG
 .exact DH
 .exact DE L.K (by have:=L.un;omega)
 .exact DN L.K (by have:=L.un;omega)
theorem gN{es:List Expr}{f:Expr->Ex}(hs:es.all aP=true)(h:∀e,Q2 X T E F e (f e)):QA X T E es (bN F (fP (es.map f))):=by
 induction es with
 |nil=>exact HG|cons e es ih=>rw[List.all_cons,Bool.and_eq_true]at hs;exact HF (h e).1 (ih hs.2) hs.1
include L in
theorem El{pos:Pos}{f:Expr->Ex}(h:∀e,Q2 X T E F e (f e)):∀(e:Expr) (es:List Expr),QE X T E (.BoolOp .And (e::es) pos) (aB F (qD .and ((e::es).map f)))/\QW X T E (.BoolOp .And (e::es) pos) (bM F (qD .and ((e::es).map f)))
 |e,[]=>⟨Lm (h e).1,MB (h e).2⟩
 |e,b::rest=>by obtain⟨h1,h2⟩:=El h b rest;exact⟨HK L.K (h e).1 h1,MA (h e).2 h2⟩
include L in
theorem Kw{pos:Pos}{f:Expr->Ex}(h:∀e,Q2 X T E F e (f e)):∀(e:Expr) (es:List Expr),QE X T E (.BoolOp .Or (e::es) pos) (aB F (qD .or ((e::es).map f)))/\QW X T E (.BoolOp .Or (e::es) pos) (bM F (qD .or ((e::es).map f)))
 |e,[]=>⟨Lm (h e).1,MD (h e).2⟩
 |e,b::rest=>by obtain⟨h1,h2⟩:=Kw h b rest;exact⟨IK L.K (h e).1 h1,MC (h e).2 h2⟩
theorem Kz{o:Option Expr}{f:Expr->Ex}(h:∀e,Q2 X T E F e (f e))(hn:∀e,f e ≠ .no):QO X T E o (λU=>lA (o.elim .no f) (aB F (o.elim .no f) U)):=by
 cases o with
 |none=>exact LB|some e=>
  have q:QO X T E (some e) (λU=>(aB F (f e) U).bind zT):=LC (h e).1;have e1:∀m,lA (f e) m=m.bind zT:=λm=>by
   unfold lA;split
   .rename_i z;exact absurd z (hn e)
   .rfl
  simp only[Option.elim,e1];exact q
theorem Gd{k:Ex->Ex->Ex}(hk:∀a b,k a b ≠ .no):∀{l:List Ex},(∀x∈l,x ≠ .no)->qD k l ≠ .no
 |[],_=>by intro z;cases z
 |[a],h=>h a (by simp)
 |a::b::r,_=>hk _ _
theorem Sk{f:Expr->Ex}{g:Expr}{es:List Expr}{ks:List Keyword}{y:Ex}(h:zI C f g es ks=some y):y ≠ .no:=by
 unfold zI at h;split at h
 .split at h
  .split at h
   .cases h;intro z;cases z
   .cases h
  .unfold uf at h;split at h
   .split at h
    .split at h
     .cases h;intro z;cases z
     .cases h
    .cases h
   .cases h
 .cases h
theorem uc:∀(n:Nat) (e:Expr),cE C n e ≠ .no
 |0,e=>by intro z;cases z
 |n+1,e=>by
  have ih:=uc n;unfold cE;split
  .unfold Cn.name;(repeat' split)<;>(intro z;cases z;done)
  .rename_i c _ _;cases c<;>(intro z;cases z;done)
  .unfold tm;split<;>(intro z;cases z;done)
  .unfold ui;split<;>(intro z;cases z;done)
  .unfold tw;(repeat' split)<;>(intro z;cases z;done)
  .rename_i op vs _;have:∀x∈vs.map (cE C n),x ≠ .no:=λx hx=>by obtain⟨y,_,rfl⟩:=List.mem_map.mp hx;exact ih y
   unfold tq;split
   .exact Gd (λ_ _ z=>by cases z) this
   .exact Gd (λ_ _ z=>by cases z) this
  .intro z;cases z
  .split<;>(intro z;cases z;done)
  .split<;>(intro z;cases z;done)
  .unfold ug
   (repeat' split)<;>(intro z;cases z;done)
  .split
   .rename_i h;exact Sk h
   unfold tu;split
   .split
    .unfold Cn.fi;(repeat' split)<;>(intro z;cases z;done)
    .unfold Cn.jb sy jd je jf;(repeat' split)<;>(intro z;cases z;done)
    .intro z;cases z
   .intro z;cases z
  .unfold ub;(repeat' split)<;>(intro z;cases z;done)
  .unfold tf;(repeat' split)<;>(intro z;cases z;done)
  .unfold ue Cn.eD;(repeat' split)<;>(intro z;cases z;done)
  .intro z;cases z
include L in
theorem PC{f:Expr->Ex}(ih:∀e,Q2 X T E F e (f e)){g:Expr}{es:List Expr}{ks:List Keyword}{pos:Pos}{y:Ex}(h:zI C f g es ks=some y):Q2 X T E F (.Call g es ks pos) y:=by
 unfold zI at h;split at h
 case h_2=>cases h
 case h_1 x p a=>
  split at h
  case h_2 hk=>
   unfold uf at h;split at h
   case h_2=>cases h
   case h_1 nm z zp kp=>
    split at h
    case isFalse=>cases h
    case isTrue hb=>
     obtain⟨rfl,rfl,hb⟩:=hb;split at h
     case h_2=>cases h
     case h_1 i hi=>cases h;simp only[Bool.and_eq_true,Cn.bl]at hb;obtain⟨⟨⟨⟨⟨hg,hm⟩,_⟩,hs⟩,ho⟩,hz⟩:=hb;have q:QE X T E (.Call (.Name "sorted" p) [a] [⟨some "key",.Name z zp,kp⟩] pos) (aB F (.sk i (f a))):=IP L.K (L.fns i z (iB hi)) (L.gl hz) (kZ ho).1 (L.gl hg) (L.dQ _ hm) (ih a).1 hs;exact⟨q,iU L.K q rfl⟩
  case h_1 k hk=>
   split at h
   case isFalse=>cases h
   case isTrue hb=>
    cases h;simp only[Bool.and_eq_true,Cn.bl]at hb;obtain⟨⟨⟨hg,hm⟩,_⟩,hs⟩:=hb;have mk:QE X T E (.Call (.Name x p) [a] ks pos) (aB F (.kc k (f a)))->Q2 X T E F (.Call (.Name x p) [a] ks pos) (.kc k (f a)):=λq=>⟨q,iU L.K q rfl⟩;refine mk ?_;unfold Ju at hk;split at hk
    case h_1=>
     split at hk
     case isFalse=>
      split at hk
      case isFalse=>cases hk
      case isTrue hx=>cases hk;subst hx;exact IM L.K L.calm (L.gl hg) (L.dQ _ hm) (ih a).1 hs
     case isTrue hx=>cases hk;subst hx;exact HL L.K L.calm (L.gl hg) (L.dQ _ hm) (ih a).1 hs
    case h_2 nm kc kp=>
     split at hk
     case h_1 b kk kq=>
      split at hk
      case isFalse=>cases hk
      case isTrue hx=>cases hk;obtain⟨rfl,rfl⟩:=hx;exact IS L.K (L.gl hg) (L.dQ _ hm) (ih a).1 hs
     case h_2 kk kq=>
      split at hk
      case isFalse=>cases hk
      case isTrue hx=>cases hk;obtain⟨rfl,rfl⟩:=hx;exact IH L.K L.calm (L.gl hg) (L.dQ _ hm) (ih a).1 hs
     case h_3=>cases hk
    case h_3=>cases hk
include L in
theorem OY{n:Nat}(ih:∀e,Q2 X T E F e (cE C n e))(x:Str)(p:Pos)(es:List Expr)(pos:Pos):Q2 X T E F (.Call (.Name x p) es [] pos) (C.fi x es (es.map (cE C n))):=by
  have mk:∀{y:Ex},QE X T E (.Call (.Name x p) es [] pos) (aB F y)->(∀U,bM F y U=(aB F y U).bind bF)->Q2 X T E F (.Call (.Name x p) es [] pos) y:=λ{y} q e=>by refine⟨q,?_⟩;have:=iU L.K q rfl;have e2:bM F y=λU=>(aB F y U).bind bF:=funext e;rw[e2];exact this
  unfold Cn.fi;split
  case isFalse=>exact bL
  case isTrue ok=>
    rw[Bool.and_eq_true]at ok;obtain⟨h1,h2,h3⟩:=kZ ok.1;split
    case h_1 i hi=>
      split
      case isFalse=>exact bL
      case isTrue hg=>
        have FN:=L.fns i x (iB hi);refine mk ?_ λ_=>rfl;cases es with
        |nil=>exact HP FN (L.gl hg) h1|cons e es=>exact HN FN (L.gl hg) (gN ok.2 ih) ok.2 h1
    case h_2=>
     split
     case h_1 c i dv hk=>
      split
      case isFalse=>exact bL
      case isTrue hg=>
        have CN:=L.iF x _ c i dv hk;refine mk ?_ λ_=>rfl;cases es with
        |nil=>exact IE CN (L.gl hg) h1|cons e es=>exact ID CN (L.gl hg) (gN ok.2 ih) ok.2 h1
     case h_2=>
      split
      case h_1 f hf=>
        split
        case isFalse=>exact bL
        case isTrue hb=>
          simp only[Cn.bl,Bool.and_eq_true]at hb;obtain⟨⟨⟨hg,hm⟩,_⟩,hne⟩:=hb;refine mk ?_ λ_=>rfl;cases es with
          |nil=>cases hne|cons e es=>
            have q:=gN ok.2 ih;have hm':=L.dQ x hm;unfold Fo at hf;split at hf
            case isTrue hx=>cases hf;subst hx;exact js (Tx L.K) (L.gl hg) hm' boot_len q ok.2 h3 h1
            split at hf
            case isTrue hx=>cases hf;subst hx;exact xr Tv (L.gl hg) hm' boot_int q ok.2 h3 h1
            split at hf
            case isTrue hx=>cases hf;subst hx;exact js (Ub L.calm) (L.gl hg) hm' boot_min q ok.2 h3 h1
            split at hf
            case isTrue hx=>cases hf;subst hx;exact js (Ua L.calm) (L.gl hg) hm' boot_max q ok.2 h3 h1
            split at hf
            case isTrue hx=>cases hf;subst hx;exact js Tu (L.gl hg) hm' boot_divmod q ok.2 h3 h1
            split at hf
            case isTrue hx=>cases hf;subst hx;exact xr (Uc L.K) (L.gl hg) hm' boot_tuple q ok.2 h3 h1
            split at hf
            case isTrue hx=>cases hf;subst hx;exact xr (Tz L.K L.calm) (L.gl hg) hm' boot_list q ok.2 h3 h1
            cases hf
      case h_2=>
        split
        case isFalse=>exact bL
        case isTrue hi=>
          simp only[Bool.and_eq_true,decide_eq_true_eq,Cn.bl]at hi;obtain⟨hx,⟨hg,hm⟩,_⟩:=hi;subst hx;split
          case h_2=>exact bL
          case h_1 a t ca ct hk0 ec=>
            rw[List.map_cons,List.map_cons,List.map_nil]at ec;injection ec with ec1 ec2;subst ec1;cases t with
            |Name y p2=>
              simp only[xG,Option.bind_some];have sa':aP a=true:=by have:=ok.2;rw[List.all_cons,Bool.and_eq_true]at this;exact this.1
              have isc_snd:∀(y:Str) (p2:Pos),Q2 X T E F (.Call (.Name "isinstance" p) [a,.Name y p2] [] pos) (match (if(gR y&&C.gl y)=true then C.eK.lookup y else none) with
                  |some cs=>Ex.eK cs (cE C n a)
                  |none=>Ex.bad):=λy p2=>by
                split
                case h_2=>exact bL
                case h_1 cs hcs=>
                  split at hcs
                  case isFalse=>cases hcs
                  case isTrue hy=>rw[Bool.and_eq_true]at hy;obtain⟨k1,k2,k3⟩:=kZ hy.1;obtain⟨D,hm2,hk⟩:=L.eK y cs hcs;have q:QE X T E (.Call (.Name "isinstance" p) [a,.Name y p2] [] pos) (aB F (.eK cs (cE C n a))):=HZ (vd:=.ref D) (λu h=>h) (L.gl hg) (L.dQ _ hm) (ah (L.gl hy.2) hm2 rfl k1) hk (ih a).1 sa';exact⟨q,iU L.K q rfl⟩
              split
              case h_2=>
                split
                case h_2=>exact isc_snd y p2
                case h_1 cs hcs=>
                  refine mk ?_ λ_=>rfl;split at hcs
                  case isFalse=>cases hcs
                  case isTrue hy=>
                    rw[Bool.and_eq_true]at hy;obtain⟨k1,k2,k3⟩:=kZ hy.1;obtain⟨v,d,hv,hd,hm2,hk⟩:=L.cJ y cs hcs;refine IA L.K hv (L.gl hg) (L.dQ _ hm) ?_ hk (ih a).1 sa';rcases hm2 with hm2|⟨hm2,hb2⟩
                    · exact ah (L.gl hy.2) hm2 hd k1
                    · exact La (L.gl hy.2) hm2 hb2 hd k3 k1
              case h_1 bt hbt=>
                refine mk ?_ λ_=>rfl;split at hbt
                case isFalse=>cases hbt
                case isTrue hy=>
                  simp only[Cn.bl,Bool.and_eq_true]at hy;obtain⟨⟨hg2,hm2⟩,oky⟩:=hy;obtain⟨k1,k2,k3⟩:=kZ oky;have sa:aP a=true:=by have:=ok.2;rw[List.all_cons,Bool.and_eq_true]at this;exact this.1
                  have fin:∀bt,bootBuiltins y=some (.type bt.nm)->QE X T E (.Call (.Name "isinstance" p) [a,.Name y p2] [] pos) (aB F (.iD bt (cE C n a))):=λbt hv=>
                    HY L.K bt (L.gl hg) (L.dQ _ hm) (L.gl hg2) (L.dQ _ hm2) hv k3 k1 (ih a).1 sa
                  unfold Fy at hbt;split at hbt
                  case isTrue hz=>cases hbt;subst hz;exact fin .int boot_int
                  split at hbt
                  case isTrue hz=>cases hbt;subst hz;exact fin .bl boot_bool
                  split at hbt
                  case isTrue hz=>cases hbt;subst hz;exact fin .str boot_str
                  split at hbt
                  case isTrue hz=>cases hbt;subst hz;exact fin .tup boot_tuple
                  split at hbt
                  case isTrue hz=>cases hbt;subst hz;exact fin .lst boot_list
                  split at hbt
                  case isTrue hz=>cases hbt;subst hz;exact fin .aL (by decide +kernel)
                  cases hbt
            |_=>exact bL
include L in
theorem cu{f:Expr->Ex}(ih:∀e,Q2 X T E F e (f e))(tg e:Expr):QI X T E tg e (bD F (cI C f tg e)):=by
 unfold cI;split
 .rename_i x p es pos;split
  .rename_i h;simp only[Bool.and_eq_true,decide_eq_true_eq,Cn.bl]at h;obtain⟨hx,⟨hg,hm⟩,_⟩:=h;subst hx;split
   .split
    .rename_i a hs;exact JA (L.gl hg) (L.dQ _ hm) (gN (f:=f) (by simp[hs]) ih) hs
    .exact rY
   .split
    .rename_i a b hs;rw[Bool.and_eq_true]at hs;exact JB (L.gl hg) (L.dQ _ hm) (gN (f:=f) (by simp[hs.1,hs.2]) ih) hs.1 hs.2
    .exact rY
   .exact rY
  .split
   .rename_i h;simp only[Bool.and_eq_true,decide_eq_true_eq,Cn.bl]at h;obtain⟨hx,⟨hg,hm⟩,_⟩:=h;subst hx;split
    .split
     .rename_i hs;exact IZ L.K (L.gl hg) (L.dQ _ hm) (ih _).1 hs
     .exact rY
    .exact rY
   .split
    .rename_i h;simp only[Bool.and_eq_true,decide_eq_true_eq,Cn.bl]at h;obtain⟨hx,⟨hg,hm⟩,_⟩:=h;subst hx;split
     .split
      .rename_i hs;rw[Bool.and_eq_true]at hs;exact JC L.K (L.gl hg) (L.dQ _ hm) (gN (f:=f) (by simp[hs.1,hs.2]) ih) hs.1 hs.2
      .exact rY
     .exact rY
    .exact Lu L.K (ih _).1
 .split
  .split
   .exact IW (ih _).1
   .exact Lu L.K (ih _).1
  .exact rY
include L in
theorem Po:∀{es:List Expr} {l:List Nat},fo C es=some l->wK X T E es (eu l)/\es.all kL=true/\l.length=es.length
 |[],l,h=>by cases h;exact⟨Ls,rfl,rfl⟩
 |e::es,l,h=>by
  cases e with
  |Name x p=>
   simp only[fo]at h;split at h
   .rename_i hx;split at h
    .rename_i i l' hi hl;cases h;obtain⟨h1,h2,h3⟩:=Po hl;have hx':X.env.scope.names.lookup x=some .local:=by rw[L.sc];exact of_decide_eq_true hx
     exact⟨Lr (ju (by rw[L.N];exact L.nd) (by rw[L.N];exact iB hi) (.inl hx') (.inr hx')) h1 rfl,by rw[List.all_cons,h2];rfl,by simp[h3]⟩
    .cases h
   .cases h
  |_=>cases h
include L in
theorem pz(e:Expr):QG X T E e (jD (wN C e)):=by
 unfold wN;split
 .split
  .rename_i hx;split
   .rename_i i hi;have lc:∀{x:Str},C.sc.names.lookup x=some .local->X.env.scope.names.lookup x=some .local:=λ{x} h=>by rw[L.sc];exact h
    exact ju (by rw[L.N];exact L.nd) (by rw[L.N];exact iB hi) (.inl (lc (of_decide_eq_true hx))) (.inr (lc (of_decide_eq_true hx)))
   .exact pE
  .exact pE
 .split
  .rename_i l hl;obtain⟨h1,h2,h3⟩:=Po L hl;show QG X T E _ (uQ l.length (eu l));rw[h3];exact Lq L.K L.calm h1 h2
  .exact pE
 .exact pE
end
theorem Kf{α:Type}{x:Str}{v:α}:∀{l:List (Str×α)},l.lookup x=some v->(x,v)∈l
 |[],h=>by cases h
 | (k,u)::r,h=>by
  rw[List.lookup_cons]at h;split at h
  .rename_i q;have:=eq_of_beq q;subst this;cases h;exact List.mem_cons_self
  .exact List.mem_cons_of_mem _ (Kf h)
section
variable {X:Cx}{T:Tab}{E:XK}{C:Cn}{F:Run}{scope:Scope}
theorem Gu(ok:C.oJ scope=true):scope.kind = .function/\(∀y∈scope.names,y.2 ≠ .cell)/\(∀y∈scope.names,y.2 = .local->scope.names.lookup y.1=some .local)/\(∀y∈scope.names,y.2 = .free->C.sc.names.lookup y.1=some .cell)/\(uF scope).Nodup:=by simp only[Cn.oJ,Bool.and_eq_true,decide_eq_true_eq,List.all_eq_true]at ok;exact⟨ok.1.1.1.1,ok.1.1.1.2,ok.1.1.2,ok.1.2,ok.2⟩
theorem Lk.fm(L:Lk X T E C F)(ok:C.oJ scope=true):iZ X (uF scope) scope:=by obtain⟨h1,h2,h3,h4,_⟩:=Gu ok;exact⟨h1,h2,h3,λy hy hk=>by rw[L.sc];exact h4 y hy hk⟩
theorem Lk.imp(L:Lk X T E C F){i j:Nat}{x:Str}(e1:(uF scope)[i]?=some x)(e2:(C.imp scope)[i]?=some (some j)):scope.names.lookup x=some .free/\(x,NameKind.free)∈scope.names/\X.N[j]?=some x:=by
 unfold Cn.imp at e2;rw[List.getElem?_map,e1]at e2;have e3:(if decide (scope.names.lookup x=some .free) then C.N.idxOf? x else none)=some j:=Option.some.inj e2;split at e3
 .rename_i h;have h:=of_decide_eq_true h;exact⟨h,Kf h,by rw[L.N];exact iB e3⟩
 .cases e3
theorem Lk.comp(L:Lk X T E C F)(ok:C.oJ scope=true)(s:Shared)(H:Hp)(a:Addr)(fp:List Addr):Lk (X.comp (uF scope) scope s H a fp) T E0 (C.comp scope) F where
 K:=L.K
 N:=rfl
 sc:=by show relabel scope X.env=Ov scope C.sc;rw[<- L.sc];rfl
 nd:=(Gu ok).2.2.2.2
 fn:=λz=>by cases z
 calm:=L.calm
 po:=PassesOwn.never
 gv:=L.gv
 fns:=λi x h=>let ⟨k,f,fd,ps,F,hr,hm,hk,hb,_⟩:=(L.fns i x h).ex;⟨⟨k,f,fd,ps,F,hr,hm,hk,hb,λ_ _ _ _ _ _ _ ⟨_,_,_,_,_,_,_,_,_,_,_,_,z⟩=>z.elim⟩⟩
 dQ:=L.dQ
 tab:=L.tab
 un:=L.un
 fE:=L.fE
 fT:=λm dp h c D g h1 h2=>let ⟨k,f,fd,ps,F,hr,c,hm,hb,_⟩:=(L.fT m dp h c D g h1 h2).ex;⟨⟨k,f,fd,ps,F,hr,c,hm,hb,λ_ _ _ _ _ _ _ ⟨_,_,_,_,_,_,_,_,_,_,_,_,z⟩=>z.elim⟩⟩
 iF:=λx n c i dv h=>let ⟨k,C,f,fd,ps,ds,dvs,hc,K,F,hr,hm,hb,hv,hdv,_⟩:=(L.iF x n c i dv h).ex;⟨⟨k,C,f,fd,ps,ds,dvs,hc,K,F,hr,hm,hb,hv,hdv,λ_ _ _ _ _ _ _ ⟨_,_,_,_,_,_,_,_,_,_,_,_,z⟩=>z.elim⟩⟩
 eK:=L.eK
 iA:=λx m i h=>let ⟨k,C,f,fd,ps,hm,F,hr,kp,h1,h2,h3,h4,hb,_⟩:=(L.iA x m i h).ex;⟨⟨k,C,f,fd,ps,hm,F,hr,kp,h1,h2,h3,h4,hb,λ_ _ _ _ _ _ _ ⟨_,_,_,_,_,_,_,_,_,_,_,_,z⟩=>z.elim⟩⟩
 iX:=L.iX
 cat:=L.cat
 cJ:=L.cJ
 ra:=λ_ _ _ _ _ _ _ _ _ _ z=>z.elim
 fV:=λz=>by cases z
 fr:=λz=>by cases z
end
theorem PD{X:Cx}{T:Tab}{E:XK}{C:Cn}{F:Run}(L:Lk X T E C F){n:Nat}(ih:∀e,Q2 X T E F e (cE C n e))(o:Expr)(m:Str)(apos pos:Pos)(es:List Expr):Q2 X T E F (.Call (.Attribute o m apos) es [] pos) (C.jb o m apos pos es (cE C n o) (es.map (cE C n))):=by
 have tr:∀{e:Expr} {y:Ex},QE X T E e (aB F y)->ai e=true->(∀U,bM F y U=(aB F y U).bind bF)->Q2 X T E F e y:=λ{e y} q pl e1=>by refine⟨q,?_⟩;have:=iU L.K q pl;have e2:bM F y=λU=>(aB F y U).bind bF:=funext e1;rw[e2];exact this
 unfold Cn.jb;split
 case isFalse=>exact bL
 case isTrue hb=>
  rw[Bool.and_eq_true]at hb;obtain⟨hs,hl⟩:=hb;have blt:Q2 X T E F (.Call (.Attribute o m apos) es [] pos) (sy o m (cE C n o) (es.map (cE C n))):=by
   cases es with
   |nil=>
    show Q2 X T E F _ (jd o m (cE C n o));unfold jd;split
    case isTrue hm=>simp only[Bool.and_eq_true,decide_eq_true_eq]at hm;obtain⟨hm,ho⟩:=hm;subst hm;exact tr (HR L.K (ih _).1 ho hl) rfl λ_=>rfl
    split
    case isTrue hm=>simp only[Bool.and_eq_true,decide_eq_true_eq]at hm;obtain⟨hm,ho⟩:=hm;subst hm;exact tr (IL L.K (ih _).1 ho hl) rfl λ_=>rfl
    exact bL
   |cons a es=>
    rw[List.all_cons,Bool.and_eq_true]at hs;cases es with
    |nil=>
     show Q2 X T E F _ (je o m (cE C n o) (cE C n a));unfold je;split
     case isTrue hm=>simp only[Bool.and_eq_true,decide_eq_true_eq]at hm;obtain⟨hm,ho⟩:=hm;subst hm;exact tr (HM L.K (ih _).1 (ih _).1 ho hs.1 hl) rfl λ_=>rfl
     split
     case isTrue ho=>
      split
      .rename_i f hf;exact tr (Ll hf (by have:=L.un;omega) (ih _).1 (gN (f:=cE C n) (es:=[a]) (by simp[hs.1]) ih) ho (by simp[hs.1]) (by simp) hl) rfl λ_=>rfl
      .exact bL
     exact bL
    |cons b es=>
     obtain⟨hs1,hs2⟩:=hs;rw[List.all_cons,Bool.and_eq_true]at hs2;cases es with
     |nil=>
      show Q2 X T E F _ (jf o m (cE C n o) (cE C n a) (cE C n b));unfold jf;split
      case isTrue ho=>
       split
       .rename_i f hf;exact tr (Ll hf (by have:=L.un;omega) (ih _).1 (gN (f:=cE C n) (es:=[a,b]) (by simp[hs1,hs2.1]) ih) ho (by simp[hs1,hs2.1]) (by simp) hl) rfl λ_=>rfl
       .exact bL
      exact bL
     |cons c es=>exact bL
  split
  case h_1 i hi=>
   split
   case isFalse=>exact bL
   case isTrue hz=>
    simp only[Bool.and_eq_true,Bool.not_eq_true',decide_eq_true_eq]at hz;unfold Cn.Gs at hi;cases o with
    |Name x p=>
     simp only[xG,Option.bind_some]at hi;split at hi
     case isFalse=>cases hi
     case isTrue hx=>
      rw[Bool.and_eq_true]at hx;cases es with
      |nil=>cases hz.1|cons e es=>exact tr (HS (L.iA _ _ _ hi) (L.gl hx.2) (kZ hx.1).1 (gN hs ih) hs hz.2 hl) rfl λ_=>rfl
    |_=>cases hi
  case h_2=>
   split
   case h_2=>exact blt
   case h_1 dp hdp=>
    split
    case isFalse=>exact bL
    case isTrue hz=>
     rw[Bool.and_eq_true,decide_eq_true_eq]at hz;have hM:∀c D g,(λc=>(dp.lookup c).map F) c=some g->T.C c=some D->kO X T (λ_=>E) D m g:=λc D g h1 h2=>L.fT m dp hdp c D g h1 h2;cases es with
     |nil=>exact tr (IG hM (ih _).1 hz.1 hl) rfl λ_=>rfl|cons e es=>exact tr (IF hM (ih _).1 (gN hs ih) hz.1 hs hz.2 hl) rfl λ_=>rfl
theorem dR{T:Tab}{F:Run}:∀(n:Nat) {X:Cx} {E:XK} {C:Cn} (L:Lk X T E C F) (e:Expr),Q2 X T E F e (cE C n e)
 |0,X,E,C,L,e=>bL
 |n+1,X,E,C,L,e=>by
  have ih:∀e,Q2 X T E F e (cE C n e):=λe=>dR n L e;have tr:∀{e:Expr} {y:Ex},QE X T E e (aB F y)->ai e=true->(∀U,bM F y U=(aB F y U).bind bF)->Q2 X T E F e y:=λ{e y} q pl e1=>by refine⟨q,?_⟩;have:=iU L.K q pl;have e2:bM F y=λU=>(aB F y U).bind bF:=funext e1;rw[e2];exact this
  unfold cE;split
  .exact PF L _ _
  .exact OZ L _ _ _
  .unfold tm;split
   .rename_i o ho;exact tr (IJ (CZ L ho) (ih _).1 (ih _).1) rfl λ_=>rfl
   .exact bL
  .unfold ui;split
   .exact⟨IU SX (ih _).1,Cj⟩
   .exact⟨II L.K (ih _).1,LZ (ih _).2⟩
   .exact bL
  .unfold tw;split
   .split
    .rename_i hb;exact⟨HU (xI L _) (ih _).1 (ih _).1 (pw hb),LX (xI L _) (ih _).1 (ih _).1 (pw hb)⟩
    .exact bL
   .split
    .rename_i hc;exact⟨HQ (xI L _) (xI L _) (ih _).1 (ih _).1 (ih _).1 (pw hc),LW (xI L _) (xI L _) (ih _).1 (ih _).1 (ih _).1 (pw hc)⟩
    .exact bL
   .exact bL
  .rename_i op vs _;unfold tq;cases vs with
   |nil=>split<;>exact bL|cons v vs=>
    split
    .obtain⟨h1,h2⟩:=El L ih v vs;exact⟨h1,h2.qt⟩
    .obtain⟨h1,h2⟩:=Kw L ih v vs;exact⟨h1,h2.qt⟩
  .exact⟨HX (ih _).2 (ih _).1 (ih _).1,Cj⟩
  .split
   .rename_i hs;exact tr (IT (gN hs ih)) rfl λ_=>rfl
   .exact bL
  .split
   .rename_i hs;exact tr (IC (gN hs ih)) rfl λ_=>rfl
   .exact bL
  .unfold ug;split
   .exact tr (IQ L.K (ih _).1 (Kz ih (uc n)) (Kz ih (uc n))) rfl λ_=>rfl
   .split
    .rename_i hb;exact tr (IB (Zj L.K (by have:=L.un;omega)) (ih _).1 (ih _).1 (OO hb)) rfl λ_=>rfl
    .exact bL
  .split
   .rename_i h;exact PC L ih h
   unfold tu;split
   .split
    .exact OY L ih _ _ _ _
    .exact PD L ih _ _ _ _ _
    .exact bL
   .exact bL
  .unfold ub;split
   .exact tr HV rfl λ_=>rfl
   .exact bL
  .unfold tf;split
   .rename_i hb;split
    .rename_i cs hc;exact tr (HW (L.fE _ _ hc) (ih _).1 hb) rfl λ_=>rfl
    .exact bL
   .exact bL
  .unfold ue;split
   .split
    .rename_i hb;rw[Bool.and_eq_true]at hb;have LY:=λs H a fp=>L.comp hb.1 s H a fp;split
     .refine Li L rfl ?_;exact tr (Lj (ct:=none) (L.fm hb.1) L.calm (cu L ih _ _) (λs H a fp=>pz (LY s H a fp) _) (λc z=>by cases z) (λ_=>rfl) (λs H a fp=>(dR n (LY s H a fp) _).1) (by simp[Cn.imp]) (λi j x e1 e2=>L.imp e1 e2) hb.2) rfl λ_=>rfl
     .refine Li L rfl ?_;exact tr (Lj (ct:=some _) (L.fm hb.1) L.calm (cu L ih _ _) (λs H a fp=>pz (LY s H a fp) _) (λc z s H a fp=>by cases z;exact(dR n (LY s H a fp) _).2) (λz=>by cases z) (λs H a fp=>(dR n (LY s H a fp) _).1) (by simp[Cn.imp]) (λi j x e1 e2=>L.imp e1 e2) hb.2) rfl λ_=>rfl
     .exact bL
    .exact bL
   .exact bL
  .exact bL
def Out.drop(i:Nat):Out->Out
 |.nx U=>.nx (U.set i none)
 |.brk U=>.brk (U.set i none)
 |.cnt U=>.cnt (U.set i none)
 |.ret v=>.ret v
def rJ(i:Option Nat)(ms:aA->M Out)(U:aA)(c:Nat):M Out:=λh1=>match i with
 |some i=>((bH (ms (U.set i (some (.ref h1.nx))))).bind λo=>M.ret (o.drop i)) (h1.new (.xo c))
 |none=>bH (ms U) (h1.new (.xo c))
def af(k:Option (Option Nat))(U:aA)(v:AV):Out:=match k with
 |none=>.ret v
 |some none=>.nx U
 |some (some j)=>.nx (U.set j (some v))
def dg(mc:M AV)(ok:AV->Out)(hd:Nat->M Out):M Out:=λh=>match mc h with
 |.ok v h1=>.ok (ok v) h1
 |.exc c _ h1=>hd c h1
 |.bad=>.bad
def vA(cs:List (Nat×Bool))(c:Nat)(a b:M Out):M Out:=match cs.lookup c with
 |some true=>a
 |some false=>b
 |none=>M.bad
def Om(mr:M (List AV))(c:Nat):M Out:=mr.bind λxs=>M.guard (xs.length<=sizeLine) λh=>.exc c .aE h
section
variable {X:Cx}{T:Tab}{E:XK}
theorem W.bH{α β:Type}{Rp:Rl α β}{m:M α}{h:AH}{Z:List Addr}{H:Hp}{Q:β->Hp->Prop}{E E':XK}(w:W T Rp (AM.bH m h) Z H Q E):W T Rp (m h) Z H Q E':=by
 unfold AM.bH at w;cases e:m h with
 |ok a h1=>rw[e]at w;exact w|exc c x h1=>rw[e]at w;exact w.elim|bad=>rw[e]at w;exact w.elim
theorem aV.drop{Z:List Addr}{H:Hp}{U:aA}{U':L2.St}(S:aV T Z H U U')(i:Nat):aV T Z H (U.set i none) (U'.set i none):=by
 refine⟨by simp[S.1],λj u q=>?_⟩;by_cases hj:i=j
 .subst hj;by_cases hl:i<U.length
  .rw[List.getElem?_set_self hl]at q;cases q
  .rw[List.getElem?_eq_none (by simpa using hl)]at q;cases q
 .rw[List.getElem?_set_ne hj]at q ⊢;exact S.2 j u q
def Ks(k:Option (Option Nat))(U:L2.St)(v:V):dJ:=match k with
 |none=>.ret v
 |some none=>.nx U
 |some (some j)=>.nx (U.set j (some v))
theorem BO{Z:List Addr}{H:Hp}{U:aA}{U':L2.St}{v:AV}{v':V}(S:aV T Z H U U')(r:aF T Z H v v'):∀k,RO T Z H (af k U v) (Ks k U' v')
 |none=>r
 |some none=>S
 |some (some j)=>S.set r j
inductive oB(X:Cx)(call:Expr):Option (Option Nat)->Stmt->Prop
 |ret (p:Pos):oB X call none (.Return (some call) p)
 |expr (p:Pos):oB X call (some none) (.Expr call p)
 |asg (j:Nat) (y:Str) (p p':Pos) (hN:X.N.Nodup) (hj:X.N[j]?=some y) (hl:oE X.env.scope y) (hf:X.fn y=true):oB X call (some (some j)) (.Assign [.Name y p'] call p)
theorem oB.dB{call:Expr}{k:Option (Option Nat)}{st:Stmt}{pn:List (Addr×Obj)}{E1:Value->Shared->Prop}(h:oB X call k st):oB (X.dB pn E1) call k st:=by
 cases h with
 |ret p=>exact .ret p|expr p=>exact .expr p|asg j y p p' hN hj hl hf=>exact .asg j y p p' hN hj hl hf
def Dh(k:Option (Option Nat))(te:TE):TS:=match k with
 |none=>qk (Qf te) cz
 |some none=>qk (Pz te) cz
 |some (some j)=>qk (qg te (gp j)) cz
theorem RQ{k:Option (Option Nat)}{te:TE}{D:Ends}{U:L2.St}{H:Hp}(h:te U H λv H1=>dS D (Ks k U v) H1):Dh k te D U H:=by
 match k with
 |none=>exact h|some none=>exact h|some (some j)=>exact h
theorem Sh{call:Expr}{te:TE}{k:Option (Option Nat)}{st:Stmt}(hp:PE X call te)(hs:aP call=true)(hlc:jH call=false)(h:oB X call k st):jA X [st] (Dh k te):=by
 cases h with
 |ret p=>exact jq (Lh hp) jr|expr p=>exact jq (Lg hp (px hs hlc)) jr|asg j y p p' hN hj hl hf=>exact jq (GP hN hj hl hp (px hs hlc) (.inl hf)) jr
def Qh(T:Tab)(m:aA->M AV)(EE:L2.St->XK):TE:=λU' H Q=>∃Z U h,aM T Z h H/\aV T Z H U U'/\W T (aF T) (m U h) Z H Q (EE U')
def QC(X:Cx)(T:Tab)(e:Expr)(m:aA->M AV):Prop:=∀pn E1 EE,wJ (cD X.prog X.w) (X.dB pn E1) EE->PE (X.dB pn E1) e (Qh T m EE)
def SG(T:Tab)(ms:aA->M Out):TS:=λD U' H=>∃Z U h,aM T Z h H/\aV T Z H U U'/\W T (RO T) (ms U h) Z H (dS D) E0
inductive oF(X:Cx)(T:Tab):List ExceptHandler->List Hd->(aA->Nat->M Out)->Prop
 |nil:oF X T [] [] λ_ _=>M.bad
 |cons {x:Str} {np hpos:Pos} {Dc:Addr} {nm:Option Str} {i:Option Nat} {b₀:Stmt} {suite:List Stmt} {cs:List (Nat×Bool)} {ms:aA->M Out} {hs:List ExceptHandler} {ds:List Hd} {g:aA->Nat->M Out} (hg:Gl X x) (hm:X.mg x=some (.ref Dc)) (hD:L2.clsIn X.K Dc=true)
  (hdb:(x==("__debug__":Str))=false) (hn:du X nm i) (hc:∀c b,cs.lookup c=some b->∃C,T.C c=some C/\L2.clsIn X.K C=true/\(mroOf X.K C).contains (.ref Dc)=b) (hsu:∀a,pZ (X.held a) T E0 (b₀::suite) ms) (t:oF X T hs ds g) :
  oF X T (.ExceptHandler (some (.Name x np)) nm (b₀::suite) hpos::hs) (⟨Dc,i,SG T ms⟩::ds) λU c=>vA cs c (rJ i ms U c) (g U c)
section
variable {x fn:Str}{np fp cp pos apos:Pos}{e o:Expr}{es:List Expr}{mr:aA->M (List AV)}{ma mc:aA->M AV}{g:List AV->M AV}{hs:List ExceptHandler}{ds:List Hd}{gh:aA->Nat->M Out}{k:Option (Option Nat)}
theorem oF.ok(q:oF X T hs ds gh):wH X hs ds:=by
 induction q with
 |nil=>exact .nil|cons hg hm hD hdb hn hc hsu t ih=>exact .cons hg hm hD hdb hn (λa pins s U' H D I ⟨Z,U,h,R,S,w⟩=>(hsu a).choose_spec.1 pins s U' H D I ((hsu a).choose_spec.2 Z U U' h H D R S w)) ih
theorem oF.reads(q:oF X T hs ds gh){Z:List Addr}{U:aA}{U':L2.St}{h:AH}{H:Hp}{D:Ends}{c:Nat}(R:aM T Z h H)(S:aV T Z H U U'):W T (RO T) (gh U c h) Z H (dS D) E ->
  ∃C,T.C c=some C/\L2.clsIn X.K C=true/\∀a,H a=none->rK X.K C D U' a (aG H a (.ext (iY a (.ref C)))) ds:=by
 induction q with
 |nil=>exact λw=>w.elim|@cons x np hpos Dc nm i b₀ suite cs ms hs ds g hg hm hD hdb hn hc hsu t ih=>
  intro w;dsimp only[vA]at w;cases l:cs.lookup c with
  |none=>rw[l]at w;exact w.elim|some b=>
   obtain⟨C,h1,h2,h3⟩:=hc c b l;rw[l]at w;cases b with
   |false=>obtain⟨C',g1,g2,g3⟩:=ih w;rw[h1]at g1;cases g1;exact⟨C,h1,h2,λa ha=>by unfold rK;rw[if_neg (by rw[h3];exact Bool.false_ne_true)];exact g3 a ha⟩
   |true=>
    refine⟨C,h1,h2,λa ha=>?_⟩;unfold rK;rw[if_pos h3];obtain⟨R2,ex⟩:=R.alloc (o:=.xo c) ha ⟨C,h1,cQ⟩;have w2:=w.ext ex;unfold rJ at w2;cases i with
    |none=>exact⟨_,_,_,R2,S.ext ex,W.bH (E:=E) w2⟩|some i=>
     refine⟨_,_,_,R2,(S.ext ex).set (.ref (n:=h.nx) (by rw[<- R.len];simp)) i,W.bH (E:=E) (W.bind w2 λZ3 o o' h3 H3 e3 R3 q3 w3=>?_)⟩;cases o with
     |nx U2=>cases o' with
      |nx U2'=>exact(W.here (Q:=dS D) (b:=dJ.nx (U2'.set i none)) w3 R3 (aV.drop q3 i):D.nx (U2'.set i none) H3)|_=>exact q3.elim
     |brk U2=>cases o' with
      |brk U2'=>exact(W.here (Q:=dS D) (b:=dJ.brk (U2'.set i none)) w3 R3 (aV.drop q3 i):D.bk (U2'.set i none) H3)|_=>exact q3.elim
     |cnt U2=>cases o' with
      |cnt U2'=>exact(W.here (Q:=dS D) (b:=dJ.cnt (U2'.set i none)) w3 R3 (aV.drop q3 i):D.ct (U2'.set i none) H3)|_=>exact q3.elim
     |ret v=>cases o' with
      |ret v'=>exact(W.here (Q:=dS D) (b:=dJ.ret v') w3 R3 q3:D.rt v' H3)|_=>exact q3.elim
theorem LS{call:Expr}{st:Stmt}{h₀:ExceptHandler}(hst:X.stack=X.env::X.outer)(hf:X.env.frame=some X.env.locals)(hN:X.N.Nodup)(hc:QC X T call mc)(hb:oB X call k st)(hsp:aP call=true)(hlc:jH call=false)(hh:oF X T (h₀::hs) ds gh) :
  QS X T E (.Try [st] (h₀::hs) [] [] pos) (λU=>dg (mc U) (af k U) (gh U)):=by
 refine⟨_,GS (tb:=λpn E1 EE=>Dh k (Qh T mc EE)) hst hf hN hh.ok λpn E1 EE ps=>Sh (X:=X.dB pn E1) (hc pn E1 EE ps) hsp hlc hb.dB,λZ U U' h H D R S w pn E1=>RQ ⟨Z,U,h,R,S,?_⟩⟩;dsimp only[dg]at w;cases e:mc U h with
 |ok v h2=>rw[e]at w;exact λZ2 b H2 e2 R2 r2=>w Z2 _ H2 e2 R2 (BO (S.ext e2) r2 k)
 |bad=>rw[e]at w;exact w.elim|exc c x h2=>rw[e]at w;exact λZ2 H2 e2 R2=>let ⟨C,h1,h2,h3⟩:=hh.reads R2 (S.ext e2) (w.ext e2);⟨C,h1,C,rfl,h2,h3⟩
theorem vB:QC X T e (λ_=>M.bad):=λpn E1 EE ps pins s U' H Q I ⟨Z,U,h,R,S,w⟩=>w.elim
theorem HH(Fx:Fn X T E fn g) (hgf:Gl X fn) (hdf:(fn==("__debug__":Str))=false) (hss:(e::es).all aP=true) (ha:∀pn E1,QA (X.dB pn E1).gQ T E0 (e::es) mr):QC X T (.Call (.Name fn fp) (e::es) [] cp) (λU=>(bH (mr U)).bind g):=by intro pn E1 EE ps;obtain⟨kk,f,fd,pl,F,hr,hm,hk,hb,_⟩:=Fx.ex;obtain⟨ta,pa,ra⟩:=ha pn E1;rw[List.all_cons,Bool.and_eq_true]at hss;exact(DZ (X:=X.dB pn E1) F (hr.mono (Nat.le_succ _)) hgf hm hk hb ps pa.gQ hdf (bX hss.1) (kJ hss.2)).of λU' H Q ⟨Z,U,h,R,S,w⟩=>ra Z U U' h H _ R S (W.bH (W.bind w λZ1 xs ys h1 H1 e1 R1 q1 w1=>⟨Z1,h1,xs,R1,q1,w1⟩))
theorem Kk{m:Str}{C:Addr}{EE0 EE:L2.St->XK}{pn:List (Addr×Obj)}{E1:Value->Shared->Prop}(h:kO X T EE0 C m g)(ps:wJ (cD X.prog X.w) (X.dB pn E1) EE):kO (X.dB pn E1) T EE C m g:=
 let ⟨k,f,fd,pl,F,hr,c1,c2,c3,_⟩:=h.ex;⟨⟨k,f,fd,pl,F,hr,c1,c2,c3,ps⟩⟩
theorem HI{m:Str}{EE0:L2.St->XK}{dp:Nat->Option (List AV->M AV)}(hM:∀c C g,dp c=some g->T.C c=some C->kO X T EE0 C m g)(ho:∀pn E1,QE (X.dB pn E1).gQ T E0 o ma)(ha:∀pn E1,QA (X.dB pn E1).gQ T E0 (e::es) mr)(hb:eG o=true)(hs:(e::es).all aP=true)
  (hn:(e::es).length<30) (hl:(apos.endLine==pos.line)=true):QC X T (.Call (.Attribute o m apos) (e::es) [] pos) (λU=>uZ dp m (bH (ma U)) (bH (mr U))):=by
 intro pn E1 EE ps;obtain⟨ta,pa,ra⟩:=ho pn E1;obtain⟨tr,pr,rr⟩:=ha pn E1;exact(Ld (X:=X.dB pn E1) (T:=T) (EE:=EE) pa.gQ pr.gQ hb hs hn hl).of λU' H Q ⟨Z,U,h,R,S,w⟩=>ra Z U U' h H _ R S (W.bH (W.bind w λZ1 x x' h1 H1 e1 R1 q1 w1=>jc (X:=X.dB pn E1) (λc C g h1 h2=>Kk (hM c C g h1 h2) ps) R1 q1 w1 λQ' w2=>rr Z1 U U' h1 H1 _ R1 (S.ext e1) (W.bH w2)))
theorem HJ{m:Str}{EE0:L2.St->XK}{dp:Nat->Option (List AV->M AV)}(hM:∀c C g,dp c=some g->T.C c=some C->kO X T EE0 C m g)(ho:∀pn E1,QE (X.dB pn E1).gQ T E0 o ma)(hb:eG o=true)(hl:(apos.endLine==pos.line)=true) :
  QC X T (.Call (.Attribute o m apos) [] [] pos) (λU=>uZ dp m (bH (ma U)) (bH (M.ret []))):=by
 intro pn E1 EE ps;obtain⟨ta,pa,ra⟩:=ho pn E1;exact(Le (X:=X.dB pn E1) (T:=T) (EE:=EE) pa.gQ hb hl).of λU' H Q ⟨Z,U,h,R,S,w⟩=>ra Z U U' h H _ R S (W.bH (W.bind w λZ1 x x' h1 H1 e1 R1 q1 w1=>jc (X:=X.dB pn E1) (t:=pR) (λc C g h1 h2=>Kk (hM c C g h1 h2) ps) R1 q1 w1 λQ' w2=>W.here (a:=[]) w2 R1 .nil))
theorem LQ{C:Addr}{c:Nat}{bmB:List Value}{Bn newId initId:String}(hc:X.calm=true)(hg:Gl X x)(hm:X.mg x=some (.ref C))(hT:T.C c=some C)(q:W.excIn X.K C bmB newId=true)(FB:ExcBaseFacts Bn newId initId bmB)(hX:dy X E)
  (ha:QA X T E (e::es) mr) (hss:(e::es).all aP=true) (hd:(x==("__debug__":Str))=false):QS X T E (.Raise (some (.Call (.Name x np) (e::es) [] cp)) none pos) (λU=>Om (mr U) c):=by
 obtain⟨tr,pr,rr⟩:=ha;rw[List.all_cons,Bool.and_eq_true]at hss;refine⟨_,GN hc hg hm q FB hX pr hd (bX hss.1) (kJ hss.2),λZ U U' h H D R S w=>rr Z U U' h H _ R S (W.bind w λZ1 xs aX h1 H1 e1 R1 q1 w1=>?_)⟩;obtain⟨hz,w1⟩:=uR w1;obtain⟨C',hC',z⟩:=w1 Z1 H1 .refl R1;rw[hT]at hC';cases hC';exact⟨by rw[<- q1.length];exact hz,z⟩
end
end
mutual
inductive Tg where
 |bad
 |nm (i:Nat)
 |tup (n:Nat) (ts:wL)
 |sub (o i:Ex)
inductive wL where
 |nil
 |cons (t:Tg) (ts:wL)
end
mutual
inductive Sx where
 |bad|pass|brk|cnt|Cr
 |expr (e:Ex)
 |ret (e:Ex)
 |asg (t:Tg) (e:Ex)
 |ite (c:Ex) (a b:bI)
 |mU (t:Tg) (it:Ir) (b:bI)
 |eD (d:Ex) (s:Sx)
 |zN (cs:List Nat) (f:Str) (o e:Ex)
 |Hw (cs:List Nat) (f:Str) (o e:Ex)
 |raise (c:Nat) (es:cT)
 |dh (k:Option (Option Nat)) (c:Ex) (hs:pX)
inductive bI where
 |nil
 |cons (s:Sx) (ss:bI)
inductive pX where
 |nil
 |cons (cs:List (Nat×Bool)) (i:Option Nat) (b:bI) (r:pX)
end
mutual
noncomputable def hZ(F:Run):Tg->AV->aA->M aA
 |.bad,_,_=>M.bad
 |.nm i,v,U=>M.ret (U.set i (some v))
 |.tup n ts,v,U=>uQ n (qA F ts) v U
 |.sub o i,v,U=>(aB F o U).bind λx=>(aB F i U).bind λy=>(rG x y v).bind λ_=>M.ret U
noncomputable def qA(F:Run):wL->List AV->aA->M aA
 |.nil,vs,U=>vq vs U
 |.cons t ts,vs,U=>vp (hZ F t) (qA F ts) vs U
end
def wW(F:Run)(c:Ex)(U:aA):M AV:=match c with
 |.call f es=>(bH (bN F es U)).bind (F f)
 |.fS m dp o es=>uZ (λc=>(dp.lookup c).map F) m (bH (aB F o U)) (bH (bN F es U))
 |_=>M.bad
mutual
noncomputable def dZ(F:Run):Sx->aA->M Out
 |.bad,_=>M.bad
 |.pass,U=>M.ret (.nx U)
 |.brk,U=>M.ret (.brk U)
 |.cnt,U=>M.ret (.cnt U)
 |.Cr,_=>M.ret (.ret .aE)
 |.expr e,U=>(aB F e U).bind λ_=>M.ret (.nx U)
 |.ret e,U=>(aB F e U).bind λv=>M.ret (.ret v)
 |.asg t e,U=>(aB F e U).bind λv=>(hZ F t v U).bind λU1=>M.ret (.nx U1)
 |.ite c a b,U=>iu (bM F c U) (cU F a U) (cU F b U)
 |.mU t it b,U=>(bD F it U).bind λi=>fF i (hZ F t) (cU F b) FU 0 U
 |.eD d s,U=>gW (aB F d) (dZ F s) U
 |.zN cs f o e,U=>Hy cs f (aB F o U) (aB F e U) U
 |.Hw cs f o e,U=>Er cs f (aB F o U) (aB F e U) U
 |.raise c es,U=>Om (bN F es U) c
 |.dh k c hs,U=>dg (wW F c U) (af k U) (rL F hs U)
noncomputable def cU(F:Run):bI->aA->M Out
 |.nil,U=>M.ret (.nx U)
 |.cons s ss,U=>Pf (dZ F s U) (cU F ss)
noncomputable def rL(F:Run):pX->aA->Nat->M Out
 |.nil,_,_=>M.bad
 |.cons cs i b r,U,c=>vA cs c (rJ i (cU F b) U c) (rL F r U c)
end
def dc:List Tg->wL
 |[]=>.nil
 |t::ts=>.cons t (dc ts)
def cG(C:Cn):Nat->Expr->Tg
 |0,_=>.bad
 |n+1,e=>match e with
  |.Name x _=>match C.slot x with
   |some i=>.nm i
   |none=>.bad
  |.Tuple es _ _=>if es.all kL then .tup es.length (dc (es.map (cG C n))) else .bad
  |.Subscript a b _=>if aP b then .sub (cE C EF a) (cE C EF b) else .bad
  |_=>.bad
def Jn:Expr->Bool
 |.Tuple ..=>true
 |_=>false
def vZ:List Sx->bI
 |[]=>.nil
 |s::ss=>.cons s (vZ ss)
def cA(C:Cn):Expr->Ex
 |.Name x _=>if gR x&&C.loc x then match C.N.idxOf? x with
   |some i=>.var i
   |none=>.bad
  else .bad
 |.Constant c _ _=>uu c
 |_=>.bad
def cH(C:Cn):Stmt->Sx
 |.Pass _=>.pass
 |.Return none _=>.Cr
 |.Return (some e) _=>.ret (cA C e)
 |.Assign [.Name y _] e _=>if aP e && !jH e then match C.slot y with
   |some j=>.asg (.nm j) (cA C e)
   |none=>.bad
  else .bad
 |_=>.bad
def Dl(C:Cn):Stmt->Option (Option (Option Nat)×Expr)
 |.Return (some c) _=>some (none,c)
 |.Expr c _=>some (some none,c)
 |.Assign [.Name y _] c _=>(C.slot y).map λj=>(some (some j),c)
 |_=>none
def BK(C:Cn):Option Str->Option (Option Nat)
 |none=>some none
 |some n=>if decide (C.sc.names.lookup n=some .local) then(C.N.idxOf? n).map some else none
def cC(C:Cn)(c:Expr):Ex:=match c with
 |.Call g es [] pos=>if es.all aP then match g with
  |.Name f _=>match C.fns.idxOf? f with
   |some j=>if gR f&&C.gl f && !es.isEmpty then .call j (fP (es.map (cE C EF))) else .bad
   |none=>.bad
  |.Attribute o m apos=>match C.fT.lookup m with
   |some dp=>if eG o&&decide (es.length<30)&&(apos.endLine==pos.line) then .fS m dp (cE C EF o) (fP (es.map (cE C EF))) else .bad
   |none=>.bad
  |_=>.bad
  else .bad
 |_=>.bad
def fh(C:Cn):List ExceptHandler->Option pX
 |[]=>some .nil
 |.ExceptHandler (some (.Name x _)) nm (b₀::suite) _::hs=>match C.cat.lookup x,BK C nm,fh C hs with
  |some cs,some i,some r=>if gR x&&C.gl x then some (.cons cs i (vZ ((b₀::suite).map (cH C))) r) else none
  |_,_,_=>none
 |_=>none
def cR(C:Cn)(x:Str)(es:List Expr):Sx:=match C.iX.lookup x with
 |some c=>if gR x&&C.gl x&&es.all aP && !es.isEmpty then .raise c (fP (es.map (cE C EF))) else .bad
 |none=>.bad
def Pw(C:Cn)(y:Str)(yl:Nat)(e:Expr):Bool:=match e with
 |.ListComp _ _ scope pos=>decide (C.sc.kind = .function)&&decide (C.sc.names.lookup y=some .local)&&(yl==pos.line) && !(scope.names.any λx=>x.1==y&&(x.2 == .local||x.2 == .cell))|_=>false
def Zz(e:Expr):Bool:=match e with
 |.ListComp _ [⟨_,_,[],0⟩] _ _=>true
 |.ListComp _ [⟨_,_,[_],0⟩] _ _=>true
 |_=>false
def cL(C:Cn)(t e:Expr):Sx:=match t with
 |.Name y py=>match C.slot y with
  |some i=>if Pw C y py.line e&&Zz e then .asg (.nm i) (cE C EF e) else .bad
  |none=>.bad
 |_=>.bad
def Za:Expr->Bool
 |.Attribute ..=>true
 |_=>false
def ud(C:Cn)(t e:Expr):Sx:=match t with
 |.Attribute o f _=>match C.fE.lookup f with
  |some cs=>if aP e then .zN cs f (cE C EF o) (cE C EF e) else .bad
  |none=>.bad
 |_=>.bad
def tj(C:Cn)(t:Expr)(op:Operator)(e:Expr):Sx:=match t with
 |.Attribute o f _=>match C.fE.lookup f with
  |some cs=>match op with
   |.Add=>.Hw cs f (cE C EF o) (cE C EF e)
   |_=>.bad
  |none=>.bad
 |_=>.bad
def Gf(C:Cn)(o:Option Expr):Sx:=match o with
 |none=>.Cr
 |some e=>.ret (cE C EF e)
def Ga(C:Cn)(t e:Expr):Sx:=
 if jH e then cL C t e else
 if Jn t&&Jn e then .bad else
 if Za t then ud C t e else
 if aP e&&kL t then .asg (cG C 4 t) (cE C EF e) else .bad
def Gb(C:Cn)(ts:List Expr)(e:Expr):Sx:=match ts with
 |[t]=>Ga C t e
 |_=>.bad
def Ge(C:Cn)(o c:Option Expr):Sx:=match c with
 |none=>match o with
  |some (.Call (.Name x _) es [] _)=>cR C x es
  |_=>.bad
 |_=>.bad
def Zb:Expr->Bool
 |.Call ..=>true
 |_=>false
def uh(C:Cn)(bs:List Stmt)(hs:List ExceptHandler)(os fs:List Stmt):Sx:=match os,fs,bs with
 |[],[],[st]=>match Dl C st,fh C hs with
  |some (k,c),some h=>if !hs.isEmpty&&Zb c then .dh k (cC C c) h else .bad
  |_,_=>.bad
 |_,_,_=>.bad
def Cn.Dj(C:Cn)(it:Expr)(d:Ex)(s:Sx):Sx:=if C.vz it then .eD d s else s
def cS(C:Cn):Nat->Stmt->Sx
 |0,_=>.bad
 |n+1,s=>match s with
  |.Pass _=>.pass
  |.Break _=>.brk
  |.Continue _=>.cnt
  |.Return o _=>Gf C o
  |.Expr e _=>if aP e && !jH e then .expr (cE C EF e) else .bad
  |.Assign ts e _=>Gb C ts e
  |.AugAssign t op e _=>tj C t op e
  |.If c a b _=>.ite (cE C EF c) (vZ (a.map (cS C n))) (vZ (b.map (cS C n)))
  |.For t it b els _=>if els.isEmpty&&aP it then C.Dj it (cE C EF it) (.mU (cG C 4 t) (cI C (cE C EF) t it) (vZ (b.map (cS C n)))) else .bad
  |.Raise o c _=>Ge C o c
  |.Try bs hs os fs _=>uh C bs hs os fs
  |_=>.bad
section
variable {X:Cx}{T:Tab}{E:XK}{C:Cn}{F:Run}(L:Lk X T E C F)(ht:C.top=true)
theorem RT{m0 ma:aA->M AV}{k:aA->AV->aA}(U:aA):gW m0 (λU=>(ma U).bind λv=>(M.ret (k U v)).bind λU1=>M.ret (Out.nx U1)) U=(gW m0 ma U).bind λv=>(M.ret (k U v)).bind λU1=>M.ret (Out.nx U1):=by
 funext h
 simp only[M.bind,M.ret,gW];cases fq (m0 U h) with
 |none=>rfl|some n=>
  dsimp only;cases h.ob n with
  |none=>rfl|some u=>
   cases u with
   |aL kvs=>
    dsimp only;cases ma U h with
    |ok a h1=>
     dsimp only[de];cases h1.ob n with
     |none=>rfl|some w=>cases w<;>rfl
    |exc c x h1=>rfl|bad=>rfl
   |_=>rfl
theorem Ny{st:Stmt}{it:Expr}{d y:Ex}{i:Nat}(h:QS X T E st (λU=>(aB F y U).bind λv=>(M.ret (U.set i (some v))).bind λU1=>M.ret (.nx U1))) :
  QS X T E st (λU=>(aB F (C.eD it d y) U).bind λv=>(M.ret (U.set i (some v))).bind λU1=>M.ret (.nx U1)):=by
 unfold Cn.eD;split
 .have q:=Nw (aB F d) h;have e:gW (aB F d) (λU=>(aB F y U).bind λv=>(M.ret (U.set i (some v))).bind λU1=>M.ret (Out.nx U1))=λU=>(aB F (.eD d y) U).bind λv=>(M.ret (U.set i (some v))).bind λU1=>M.ret (Out.nx U1):=funext λU=>RT (k:=λU v=>U.set i (some v)) U;rw[e]at q;exact q
 .exact h
theorem LR{st:Stmt}{it:Expr}{d:Ex}{s:Sx}(h:QS X T E st (dZ F s)):QS X T E st (dZ F (C.Dj it d s)):=by
 unfold Cn.Dj;split
 .exact Nw (aB F d) h
 .exact h
theorem RS{es:List Expr}{f:Expr->Tg}(hs:es.all kL=true)(h:∀e,QG X T E e (hZ F (f e))):wK X T E es (qA F (dc (es.map f))):=by
 induction es with
 |nil=>exact Ls|cons e es ih=>rw[List.all_cons,Bool.and_eq_true]at hs;exact Lr (h e) (ih hs.2) hs.1
include L ht in
theorem Cy:∀(n:Nat) (e:Expr),QG X T E e (hZ F (cG C n e))
 |0,e=>pE
 |n+1,e=>by
  have ih:=Cy n;unfold cG;split
  .split
   .rename_i i hi;unfold Cn.slot at hi;split at hi
    .rename_i hl;have hv:∀{x:Str},C.loc x=true->oE X.env.scope x:=λ{x} hl=>by rw[L.sc];simp only[Cn.loc,Bool.or_eq_true,decide_eq_true_eq]at hl;exact hl
     exact ju (by rw[L.N];exact L.nd) (by rw[L.N];exact iB hi) (hv hl) (.inl (L.fn ht _))
    .cases hi
   .exact pE
  .split
   .rename_i hs;exact Lq L.K L.calm (RS hs ih) hs
   .exact pE
  .split
   .rename_i hs;exact IV (by have:=L.un;omega) (dR EF L _).1 (dR EF L _).1 hs
   .exact pE
  .exact pE
theorem cy{ss:List Stmt}{f:Stmt->Sx}(h:∀s,QS X T E s (dZ F (f s))):pZ X T E ss (cU F (vZ (ss.map f))):=by
 induction ss with
 |nil=>exact LV|cons s ss ih=>exact LU (h s) ih
include L in
theorem Pn(a:Addr)(e:Expr):QE (X.held a) T E0 e (aB F (cA C e)):=by
 unfold cA;split
 .rename_i x pos;split
  .rename_i h;rw[Bool.and_eq_true]at h;obtain⟨h1,h2,_⟩:=kZ h.1;split
   .rename_i i hi;have hv:zG X.env.scope x:=by
     have hl:=h.2;rw[L.sc];simp only[Cn.loc,Bool.or_eq_true,decide_eq_true_eq]at hl;rcases hl with hl|hl
     .exact .inl hl
     .exact .inr (.inl hl)
    exact Lo (X:=X.held a) (by show X.N[i]?=_;rw[L.N];exact iB hi) hv h1 h2
   .exact ak
  .exact ak
 .rename_i c _ _;cases c with
  |none=>exact iG jn λ_ _=>.aE|bool b=>exact iG jm λ_ _=>.bl b|int i=>exact iG xj λ_ _=>.int i|str x=>exact iG xk λ_ _=>.str x|_=>exact ak
 .exact ak
include L ht in
theorem PB(a:Addr)(s:Stmt):QS (X.held a) T E0 s (dZ F (cH C s)):=by
 unfold cH;split
 .exact Nr
 .exact Nu
 .exact Nt (Pn L a _)
 .split
  .rename_i y _ e _ hs;rw[Bool.and_eq_true,Bool.not_eq_true']at hs;split
   .rename_i j hj;unfold Cn.slot at hj;split at hj
    .rename_i hl;have hv:oE X.env.scope y:=by rw[L.sc];simp only[Cn.loc,Bool.or_eq_true,decide_eq_true_eq]at hl;exact hl
     exact Nq (Pn L a e) (ju (X:=X.held a) (by show X.N.Nodup;rw[L.N];exact L.nd) (by show X.N[j]?=_;rw[L.N];exact iB hj) hv (.inl (L.fn ht _))) hs.1 hs.2 rfl λes k p e1=>by cases e1
    .cases hj
   .exact cV
  .exact cV
 .exact cV
include L in
theorem PH(x:Str)(es:List Expr)(np cp pos:Pos):QS X T E (.Raise (some (.Call (.Name x np) es [] cp)) none pos) (dZ F (cR C x es)):=by
 unfold cR;split
 .rename_i c hc;split
  .rename_i h;simp only[Bool.and_eq_true,Bool.not_eq_true']at h;obtain⟨⟨⟨ho,hg⟩,hs⟩,hn⟩:=h;obtain⟨D,bmB,newId,initId,Bn,hm,hT,q,FB⟩:=L.iX x c hc;cases es with
   |nil=>cases hn|cons e es=>exact LQ L.calm (L.gl hg) hm hT q FB L.ra (gN (f:=cE C EF) hs (dR EF L)) hs (kZ ho).1
  .exact cV
 .exact cV
theorem SE{C:Cn}{st:Stmt}{k:Option (Option Nat)}{c:Expr}(L:Lk X T E C F)(ht:C.top=true)(h:Dl C st=some (k,c)):oB X c k st:=by
 unfold Dl at h;split at h
 .cases h;exact .ret _
 .cases h;exact .expr _
 .rename_i y _ _ _;obtain⟨j,hj,e⟩:=Option.map_eq_some_iff.mp h;cases e;unfold Cn.slot at hj;split at hj
  .rename_i hl;have hv:oE X.env.scope y:=by rw[L.sc];simp only[Cn.loc,Bool.or_eq_true,decide_eq_true_eq]at hl;exact hl
   exact .asg j y _ _ (by rw[L.N];exact L.nd) (by rw[L.N];exact iB hj) hv (L.fn ht _)
  .cases hj
 .cases h
include L in
theorem OV(c:Expr):QC X T c (wW F (cC C c)):=by
 have ha:∀(es:List Expr),es.all aP=true->∀pn E1,QA (X.dB pn E1).gQ T E0 es (bN F (fP (es.map (cE C EF)))):=λes hs pn E1=>gN (f:=cE C EF) hs (dR EF (L.dB pn E1));unfold cC;split
 .rename_i g es pos;split
  .rename_i hs;split
   .rename_i f fp;split
    .rename_i j hj;split
     .rename_i h;simp only[Bool.and_eq_true,Bool.not_eq_true']at h;cases es with
      |nil=>cases h.2|cons e es=>exact HH (L.fns j f (iB hj)) (L.gl h.1.2) (kZ h.1.1).1 hs (ha _ hs)
     .exact vB
    .exact vB
   .rename_i o m apos;split
    .rename_i dp hdp;split
     .rename_i h;simp only[Bool.and_eq_true,decide_eq_true_eq]at h;cases es with
      |nil=>exact HJ (L.fT m dp hdp) (λpn E1=>(dR EF (L.dB pn E1) o).1) h.1.1 h.2|cons e es=>exact HI (L.fT m dp hdp) (λpn E1=>(dR EF (L.dB pn E1) o).1) (ha _ hs) h.1.1 hs h.1.2 h.2
     .exact vB
    .exact vB
   .exact vB
  .exact vB
 .exact vB
include L ht in
theorem Pm:∀(hs:List ExceptHandler) (r:pX),fh C hs=some r->∃ds,oF X T hs ds (rL F r)
 |[],r,h=>by cases h;exact⟨[],.nil⟩
 |d::hs,r,h=>by
  unfold fh at h;split at h
  .rename_i z;cases z
  .rename_i x np nm b₀ suite hpos hs' z;cases z;split at h
   .rename_i cs i r' hc hi hr;split at h
    .rename_i ho;cases h;rw[Bool.and_eq_true]at ho;obtain⟨ds,q⟩:=Pm hs r' hr;obtain⟨Dc,hm,hD,hcs⟩:=L.cat x cs hc;refine⟨_,.cons (L.gl ho.2) hm hD (kZ ho.1).1 ?_ hcs (λa=>cy (PB L ht a)) q⟩;cases nm with
     |none=>cases hi;exact .no|some n=>
      have hi:(if decide (C.sc.names.lookup n=some .local) then(C.N.idxOf? n).map some else none)=some i:=hi;split at hi
      .rename_i hk;obtain⟨i',hi',e'⟩:=Option.map_eq_some_iff.mp hi;cases e';exact .as (by rw[L.N];exact iB hi') (by have:=of_decide_eq_true hk;rw[<- L.sc]at this;exact this)
      .cases hi
    .cases h
   .cases h
  .cases h
include L ht in
theorem PJ(bs:List Stmt)(hs:List ExceptHandler)(os fs:List Stmt)(pos:Pos):QS X T E (.Try bs hs os fs pos) (dZ F (uh C bs hs os fs)):=by
 unfold uh;split
 .rename_i st;split
  .rename_i k c h hb hh;split
   .rename_i hz;rw[Bool.and_eq_true,Bool.not_eq_true']at hz;obtain⟨ds,q⟩:=Pm L ht hs h hh;cases hs with
    |nil=>cases hz.1|cons h₀ hs=>
     cases c with
     |Call=>exact LS (L.fV ht) (L.fr ht) (by rw[L.N];exact L.nd) (OV L _) (SE L ht hb) rfl rfl q|_=>cases hz.2
   .exact cV
  .exact cV
 .exact cV
include L ht in
theorem OX(t e:Expr)(spos:Pos)(hlc:jH e=true):QS X T E (.Assign [t] e spos) (dZ F (cL C t e)):=by
 unfold cL;split
 .rename_i y py;split
  .rename_i i hi;split
   .rename_i hsw;rw[Bool.and_eq_true]at hsw;obtain⟨hsw,aD⟩:=hsw;cases e with
    |ListComp elt gens scope pos=>
     simp only[Pw,Bool.and_eq_true,Bool.not_eq_true',decide_eq_true_eq,beq_iff_eq]at hsw;obtain⟨⟨⟨hk,hy⟩,hln⟩,hnm⟩:=hsw;unfold Cn.slot at hi;split at hi
     .have hy':X.env.scope.names.lookup y=some .local:=by rw[L.sc];exact hy
      have hb:X.env.blockKind = .function:=by
       have:X.env.scope.kind = .function:=by rw[L.sc];exact hk
       unfold Env.blockKind;rw[this];rfl
      have hs2:swapsWith (.ListComp elt gens scope pos) (some (.Name y py)) spos.line X.env=pure true:=by show(pure (X.env.blockKind == .function&&X.env.kindOf y==some .local&&py.line==pos.line && !(scope.names.any λ(n,k)=>n==y&&(k == .local||k == .cell))):Sem Bool)=pure true;rw[hb,show X.env.kindOf y=some .local from hy',hln];have:(scope.names.any λ(n,k)=>n==y&&(k==NameKind.local||k==NameKind.cell))=false:=hnm;rw[this];simp
      have hN:X.N.Nodup:=by rw[L.N];exact L.nd
      have hi':X.N[i]?=some y:=by rw[L.N];exact iB hi
      match gens,aD,hs2 with
      |[⟨t,it,[],0⟩],_,hs2=>
       show QS X T E _ (λU=>(aB F (if C.oJ scope&&aP it then C.eD it (cE C 39 it) (.uD (C.imp scope) (wN (C.comp scope) t) (cI C (cE C 39) t it) (cE (C.comp scope) 39 elt)) else .bad) U).bind λv=>(M.ret (U.set i (some v))).bind λU1=>M.ret (.nx U1));split
       .rename_i hb;rw[Bool.and_eq_true]at hb;have LY:=λs H a fp=>L.comp hb.1 s H a fp;refine Ny ?_;exact Nv (ct:=none) hN hi' hy' hs2 (L.fm hb.1) L.calm (cu L (dR 39 L) _ _) (λs H a fp=>pz (LY s H a fp) _) (λc z=>by cases z) (λ_=>rfl) (λs H a fp=>(dR 39 (LY s H a fp) _).1) (by simp[Cn.imp]) (λi j x e1 e2=>L.imp e1 e2) hb.2
       .exact cV
      |[⟨t,it,[c],0⟩],_,hs2=>
       show QS X T E _ (λU=>(aB F (if C.oJ scope&&aP it then C.eD it (cE C 39 it) (.fX (C.imp scope) (wN (C.comp scope) t) (cI C (cE C 39) t it) (cE (C.comp scope) 39 c) (cE (C.comp scope) 39 elt)) else .bad) U).bind λv=>(M.ret (U.set i (some v))).bind λU1=>M.ret (.nx U1));split
       .rename_i hb;rw[Bool.and_eq_true]at hb;have LY:=λs H a fp=>L.comp hb.1 s H a fp;refine Ny ?_;exact Nv (ct:=some c) hN hi' hy' hs2 (L.fm hb.1) L.calm (cu L (dR 39 L) _ _) (λs H a fp=>pz (LY s H a fp) _) (λc z s H a fp=>by cases z;exact(dR 39 (LY s H a fp) _).2) (λz=>by cases z) (λs H a fp=>(dR 39 (LY s H a fp) _).1) (by simp[Cn.imp]) (λi j x e1 e2=>L.imp e1 e2) hb.2
       .exact cV
     .cases hi
    |_=>cases hlc
   .exact cV
  .exact cV
 .exact cV
theorem PY{v o:Expr}{f:Str}{p:Pos}{l:Nat}{env:Env}(h:aP v=true)(hn:jH v=false):swapsWith v (some (.Attribute o f p)) l env=pure false:=by cases v<;>first|rfl|cases h|cases hn
include L in
theorem OW(t e:Expr)(spos:Pos)(hlc:jH e=false):QS X T E (.Assign [t] e spos) (dZ F (ud C t e)):=by
 unfold ud;split
 .split
  .rename_i cs hc;split
   .rename_i hs;exact LM (L.fE _ _ hc) (dR EF L _).1 (dR EF L _).1 (PY hs hlc)
   .exact cV
  .exact cV
 .exact cV
include L ht in
theorem OU(t:Expr)(op:Operator)(e:Expr)(pos:Pos):QS X T E (.AugAssign t op e pos) (dZ F (tj C t op e)):=by
 unfold tj;split
 .split
  .rename_i cs hc;split
   .exact LN (L.fE _ _ hc) (dR EF L _).1 (dR EF L _).1
   .exact cV
  .exact cV
 .exact cV
include L ht in
theorem Pp:∀(n:Nat) (s:Stmt),QS X T E s (dZ F (cS C n s))
 |0,s=>cV
 |n+1,s=>by
  have ih:=Pp n;unfold cS;split
  .exact Nr
  .exact LJ
  .exact LK
  .unfold Gf;split
   .exact Nu
   .exact Nt (dR EF L _).1
  .split
   .rename_i hs;rw[Bool.and_eq_true,Bool.not_eq_true']at hs;exact LL (dR EF L _).1 hs.1 hs.2
   .exact cV
  .rename_i ts e spos;unfold Gb;split
   case h_2=>exact cV
   case h_1 t=>
    unfold Ga;split
    .rename_i hlc;exact OX L ht t e spos hlc
    .rename_i hlc;split
     .exact cV
     .rename_i htt;split
      .rename_i hat;exact OW L t e spos (by simpa using hlc)
      split
      .rename_i hs;rw[Bool.and_eq_true]at hs;refine Nq (dR EF L _).1 (Cy L ht 4 _) hs.1 (by simpa using hlc) hs.2 λes k p e1 vs k2 p2 e2=>?_;subst e1;subst e2;exact htt rfl
      .exact cV
  .exact OU L ht _ _ _ _
  .exact LP (dR EF L _).2 (cy ih) (cy ih)
  .rename_i els _;split
   .rename_i hs;rw[Bool.and_eq_true]at hs;cases els with
    |nil=>exact LR (LO L.po L.calm (cu L (dR EF L) _ _) (Cy L ht 4 _) (cy ih) hs.2)|cons _ _=>cases hs.1
   .exact cV
  .unfold Ge;split
   .split
    .exact PH L _ _ _ _ _
    .exact cV
   .exact cV
  .exact PJ L ht _ _ _ _ _
  .exact cV
end
abbrev Pg:=Nat->Option (Nat×Nat×bI)
def Ky:Out->M AV
 |.nx _=>M.ret .aE
 |.ret v=>M.ret v
 |_=>M.bad
def run(P:Pg):Nat->Run
 |0,_,_=>M.bad
 |k+1,f,args=>match P f with
  |none=>M.bad
  |some (np,nn,b)=>M.guard (args.length=np) ((cU (run P k) b (args.map some++List.replicate (nn-np) none)).bind Ky)
def wU:Stmt->List Stmt
 |.ClassDef _ _ _ body ..=>body
 |_=>[]
structure Df where
 name:Str
 qual:Str
 st:Stmt
 N:List Str
 ps:List Str
structure Pr where
 defs:List Df
 gc:Nat
 zU:List (Str×AV)
 dQ:List Str
 iX:List (Str×Nat):=[]
 cat:List (Str×List (Nat×Bool)):=[]
 cJ:List (Str×List (Nat×Bool)):=[]
 fE:List (Str×List Nat):=[]
 fT:List (Str×List (Nat×Nat)):=[]
 iF:List ((Str×Nat)×(Nat×Nat×List AV)):=[]
 eK:List (Str×List (Nat×Bool)):=[]
 iA:List (Str×List (Str×Nat)):=[]
 uy:List Str:=[]
def SF:Nat:=30
def Pr.cn(p:Pr)(d:Df):Cn:=⟨d.N,aJ d.st,(p.defs.take p.gc).map (·.name),p.zU,p.dQ,p.iX,p.cat,p.cJ,true
 ,p.fE,p.fT,p.iF,p.eK,p.iA
 ,p.uy
 ⟩
def Pr.bodyOf(p:Pr)(d:Df):Nat×Nat×bI:=(d.ps.length,d.N.length,vZ ((aR d.st).map (cS (p.cn d) SF)))
def Pr.ir(p:Pr):Pg:=λi=>(p.defs[i]?).map p.bodyOf
structure dP(K:W.Frag)(x qual:Str)(st:Stmt)(f:Addr)(fd:FuncData):Prop where
 ex:∃(oc:Value) (od:Option Addr) (dV kV doc pm:Value) (an:Option Addr) (cdv ct:Value) (osl:Array (Option Value)),
  fd=W.fnOf x qual (aS st) (aR st) (aJ st) dV kV doc pm an cdv ct/\K.lookup f=some ⟨oc,od,.func fd,osl⟩/\W.codeIn K cdv qual=true
 kp:W.keepIn K (.ref f)=true
structure rf(K:W.Frag)(d:Df)(f:Addr)(fd:FuncData):Prop where
 fn:dP K d.name d.qual d.st f fd
 bd:Binds K fd d.ps []
 sc:dE d.N d.ps (aJ d.st)
inductive wF(K:W.Frag):List Df->List Addr->List FuncData->Prop
 |nil:wF K [] [] []
 |cons {d:Df} {a:Addr} {f:FuncData} {ds:List Df} {as:List Addr} {fs:List FuncData} (h:rf K d a f) (t:wF K ds as fs):wF K (d::ds) (a::as) (f::fs)
theorem wF.get{K:W.Frag}{ds:List Df}{as:List Addr}{fs:List FuncData}(h:wF K ds as fs){f0:FuncData}:∀(i:Nat) d,ds[i]?=some d->rf K d (as.getD i 0) (fs.getD i f0):=by
 induction h with
 |nil=>intro i d e;simp at e|cons h t ih=>
  intro i d e;cases i with
  |zero=>cases(show some _=some d from e);exact h|succ i=>exact ih i d e
inductive wG(mg:Str->Option Value):List Df->List Addr->Prop
 |nil {as:List Addr}:wG mg [] as
 |cons {d:Df} {a:Addr} {ds:List Df} {as:List Addr} (h:mg d.name=some (.ref a)) (t:wG mg ds as):wG mg (d::ds) (a::as)
theorem wG.get{mg:Str->Option Value}{ds:List Df}{as:List Addr}(h:wG mg ds as):∀(i:Nat) d,ds[i]?=some d->mg d.name=some (.ref (as.getD i 0)):=by
 induction h with
 |nil=>intro i d e;simp at e|cons h t ih=>
  intro i d e;cases i with
  |zero=>cases(show some _=some d from e);exact h|succ i=>exact ih i d e
theorem TC{α:Type}{us:List α}(h:us.length=0):us=[]:=List.eq_nil_of_length_eq_zero h
theorem qr{α:Type}{us:List α}(h:us.length=1):∃a0,us=[a0]:=by obtain⟨a,r,rfl⟩:=List.exists_cons_of_length_eq_add_one h;obtain rfl:=TC (us:=r) (by simpa using h);exact⟨a,rfl⟩
theorem nZ{α:Type}{us:List α}(h:us.length=2):∃a0 a1,us=[a0,a1]:=by obtain⟨a,r,rfl⟩:=List.exists_cons_of_length_eq_add_one h;obtain⟨b0,rfl⟩:=qr (us:=r) (by simpa using h);exact⟨a,b0,rfl⟩
theorem Dt{α:Type}{us:List α}(h:us.length=3):∃a0 a1 a2,us=[a0,a1,a2]:=by obtain⟨a,r,rfl⟩:=List.exists_cons_of_length_eq_add_one h;obtain⟨b0,b1,rfl⟩:=nZ (us:=r) (by simpa using h);exact⟨a,b0,b1,rfl⟩
theorem yT{α:Type}{us:List α}(h:us.length=4):∃a0 a1 a2 a3,us=[a0,a1,a2,a3]:=by obtain⟨a,r,rfl⟩:=List.exists_cons_of_length_eq_add_one h;obtain⟨b0,b1,b2,rfl⟩:=Dt (us:=r) (by simpa using h);exact⟨a,b0,b1,b2,rfl⟩
theorem Du{α:Type}{us:List α}(h:us.length=5):∃a0 a1 a2 a3 a4,us=[a0,a1,a2,a3,a4]:=by obtain⟨a,r,rfl⟩:=List.exists_cons_of_length_eq_add_one h;obtain⟨b0,b1,b2,b3,rfl⟩:=yT (us:=r) (by simpa using h);exact⟨a,b0,b1,b2,b3,rfl⟩
structure so(P:Program)(w:World)(p:Pr)(T:Tab)(mg:Str->Option Value)(ad:Nat->Addr)(fds:Nat->FuncData):Prop where
 df:∀(i:Nat) d,p.defs[i]?=some d->rf T.K d (ad i) (fds i)
 gn:∀(i:Nat) d,(p.defs.take p.gc)[i]?=some d->mg d.name=some (.ref (ad i))
 gv:∀x v,p.zU.lookup x=some v->∃u v',mg x=some u/\RelV v' u/\∀Z H,aF T Z H v v'
 bl:∀x,p.dQ.contains x=true->mg x=none
 tab:∀(kvs:List (Str×Int)) a,T.G kvs a->Eb P w T.K a kvs
 iX:∀x c,p.iX.lookup x=some c->∃(D:Addr) (bmB:List Value) (newId initId Bn:String),mg x=some (.ref D)/\T.C c=some D/\W.excIn T.K D bmB newId=true/\ExcBaseFacts Bn newId initId bmB
 cat:∀x cs,p.cat.lookup x=some cs->∃D:Addr,mg x=some (.ref D)/\L2.clsIn T.K D=true/\∀c b,cs.lookup c=some b->∃D':Addr,T.C c=some D'/\L2.clsIn T.K D'=true/\(mroOf T.K D').contains (.ref D)=b
 cJ:∀y cs,p.cJ.lookup y=some cs->∃(v:V) (d:Value),(∀u,RelV v u->u=d)/\RelV v d/\(mg y=some d\/(mg y=none/\bootBuiltins y=some d)) /\
  ∀k b,cs.lookup k=some b->∃D:Addr,T.C k=some D/\W.tX T.K D=true/\W.kitOne T.K (.ref D) d=some b
 fE:∀f cs,p.fE.lookup f=some cs->yX T.K T cs f
 fT:∀m dp,p.fT.lookup m=some dp->∀c i,dp.lookup c=some i->∃d D,p.defs[i]?=some d/\T.C c=some D/\gY T.K D/\Meth T.K D m (ad i)
 iF:∀x n c i dv,p.iF.lookup (x,n)=some (c,i,dv)->∃d D ds dvs,p.defs[i]?=some d/\T.C c=some D/\Mk T.K D (ad i)/\mg x=some (.ref D)/\Binds T.K (fds i) d.ps ds/\Vals dvs ds/\∀Z H,aH T Z H dv dvs
 eK:∀y cs,p.eK.lookup y=some cs->∃D:Addr,mg y=some (.ref D)/\∀k b,cs.lookup k=some b->∃D':Addr,T.C k=some D'/\dn T.K D'/\W.kitOne T.K (.ref D') (.ref D)=some b
 iA:∀x m i,(p.iA.lookup x).bind (·.lookup m)=some i->∃d D,p.defs[i]?=some d/\mg x=some (.ref D)/\W.keepIn T.K (.ref (ad i))=true /\
  W.specialIn T.K (.ref D) "__getattribute__"=some (some (.builtin "type.__getattribute__"))/\W.readsIn T.K D (.type "type")=true/\W.findCls T.K (.ref D) (.type "type") m=some (.val (.ref (ad i)))/\W.handedIn (.ref (ad i))=true
section
variable {P:Program}{w:World}{T:Tab}{mg:Str->Option Value}{base:Heap}{p:Pr}{ad:Nat->Addr}{fds:Nat->FuncData}
theorem PQ{Z:List Addr}{H:Hp}{args:List AV}{vs:List V}{N:List Str}{n:Nat}(r:aH T Z H args vs)(hn:N.length=n):aV T Z H (args.map some++List.replicate (n-args.length) none) (L2.start N vs):=by
 subst hn;unfold L2.start;have hl:=r.length;refine⟨by simp[hl],λi v e=>?_⟩;by_cases hi:i<args.length
 .rw[List.getElem?_append_left (by simpa using hi),List.getElem?_map]at e;cases q:args[i]? with
  |none=>rw[q]at e;cases e|some a=>rw[q]at e;cases e;obtain⟨y,h1,h2⟩:=r.get q;exact⟨y,by rw[List.getElem?_append_left (by rw[List.length_map,<- hl];exact hi),List.getElem?_map,h1];rfl,h2⟩
 .rw[List.getElem?_append_right (by simpa using hi),List.getElem?_replicate]at e;split at e<;>cases e
theorem Xp{K:W.Frag}{x qual:Str}{st:Stmt}{f:Addr}{fd:FuncData}{N ps:List Str}{k:Nat}{sp:Sp}(F:dP K x qual st f fd)(S:dE N ps (aJ st))(len:∀vs H Q E,sp vs H Q E->vs.length=ps.length)
  (hbody:∀(cdv:Value) (A:Around) (outer:List Env) (s:Shared) (H:Hp) (vs:List V) (Q:VK) (E:XK),bU k (A.deeper (envOfC qual (aJ st) s.heap.objs.size f cdv))->sp vs H Q E ->
   ∃t,jA (oK (cD P w) P w K mg base N qual (aJ st) f cdv A outer s H E) (aR st) t/\t { nx:=λ_ H'=>Q .aE H',rt:=Q } (L2.start N vs) H):dD P w K mg base (cD P w) (k+1) f fd ps sp:=by
 obtain⟨oc,od,dV,kV,doc,pm,an,cdv,ct,osl,rfl,lk,hcd⟩:=F.ex;exact Xj lk hcd S len λA outer s H vs Q E hr hsp=>hbody cdv A outer s H vs Q E hr hsp
theorem Pe(O:so P w p T mg ad fds):∀(k i:Nat) (d:Df),p.defs[i]?=some d->dD P w T.K mg base (cD P w) (2*k) (ad i) (fds i) d.ps (kK T (run p.ir k i))
 |0,i,d,hd=>⟨λvs H Q E ⟨Z,h,args,_,_,w⟩=>w.elim,λA outer s H args us vs Q E _ _ _ _ ⟨Z,h,ar,_,_,w⟩=>w.elim⟩
 |k+1,i,d,hd=>by
  have ih:=Pe O k;have D:=O.df i d hd;have hir:p.ir i=some (p.bodyOf d):=by unfold Pr.ir;rw[hd];rfl
  refine Xp (k:=2*k+1) D.fn D.sc (λvs H Q E h=>?_) (λcdv A outer s H vs Q E hr h=>?_)
  .obtain⟨Z,h,args,R,r,w⟩:=h;simp only[run,hir,Pr.bodyOf]at w;obtain⟨hl,_⟩:=uR w;rw[<- r.length,hl]
  .obtain⟨Z,h,args,R,r,wq⟩:=h;simp only[run,hir,Pr.bodyOf]at wq;obtain⟨hl,wq⟩:=uR wq;have L:Lk (oK (cD P w) P w T.K mg base d.N d.qual (aJ d.st) (ad i) cdv A outer s H E) T E (p.cn d) (run p.ir k):={
    K:=rfl
    N:=rfl
    sc:=rfl
    nd:=D.sc.nd
    fn:=λ_ _=>rfl
    calm:=rfl
    po:=PassesOwn.leaving
    gv:=O.gv
    fns:=λj x hx=>by
     have hx':((p.defs.take p.gc).map (·.name))[j]?=some x:=hx;rw[List.getElem?_map]at hx';cases q:(p.defs.take p.gc)[j]? with
     |none=>rw[q]at hx';cases hx'|some d'=>
      rw[q]at hx';cases hx';have q':p.defs[j]?=some d':=by
       rw[List.getElem?_take]at q;split at q
       .exact q
       .cases q
      have D':=O.df j d' q';exact⟨2*k,ad j,fds j,d'.ps,ih j d' q',hr,O.gn j d' q,D'.fn.kp,D'.bd,jl⟩
    dQ:=O.bl
    tab:=O.tab
    un:=hr.units
    fE:=O.fE
    fT:=λm dp h c D g h1 h2=>by obtain⟨j,hj,e⟩:=Option.map_eq_some_iff.mp h1;subst e;obtain⟨d',D',q',hc,c1,c2⟩:=O.fT m dp h c j hj;rw[h2]at hc;cases hc;exact⟨2*k,ad j,fds j,d'.ps,ih j d' q',hr.mono (Nat.le_succ _),c1,c2,(O.df j d' q').bd,jl⟩
    iF:=λx n c j dv h=>by obtain⟨d',D',ds,dvs,q',hc,c1,c2,c3,c4,c5⟩:=O.iF x n c j dv h;exact⟨2*k,D',ad j,fds j,d'.ps,ds,dvs,hc,c1,ih j d' q',hr,c2,c3,c4,c5,jl⟩
    eK:=O.eK
    iA:=λx m j h=>by obtain⟨d',D',q',hm,kp,h1,h2,h3,h4⟩:=O.iA x m j h;exact⟨2*k,D',ad j,fds j,d'.ps,hm,ih j d' q',hr.mono (Nat.le_succ _),kp,h1,h2,h3,h4,(O.df j d' q').bd,jl⟩
    iX:=O.iX
    cat:=O.cat
    cJ:=O.cJ
    ra:=MS
    fV:=λ_=>rfl
    fr:=λ_=>rfl }
   obtain⟨t,ps,rs⟩:=cy (ss:=aR d.st) (f:=cS (p.cn d) SF) (Pp L rfl SF);refine⟨t,ps,rs Z _ (L2.start d.N vs) h H _ R ?_ (W.bind wq λZ1 o o' h1 H1 e1 R1 q1 w1=>?_)⟩
   .rw[<- hl];exact PQ r rfl
   .cases o with
    |nx U=>cases o' with
     |nx U'=>exact(W.here (Q:=Q) (Rp:=aF T) (a:=AV.aE) (b:=V.aE) w1 R1 aF.aE:Q V.aE H1)|_=>exact q1.elim
    |ret v=>cases o' with
     |ret v'=>exact(W.here (Q:=Q) (Rp:=aF T) (a:=v) (b:=v') w1 R1 q1:Q v' H1)|_=>exact q1.elim
    |brk U=>exact w1.elim|cnt U=>exact w1.elim
def qc(K:W.Frag):Sp:=λvs H Q _=>∃(a:Addr) (ns:List Int),vs=[.ref a]/\kM K H a (ns.map V.int)/\ns.length<=63/\∀H',Q (.bl true) H'
def h0(ns:List Int):AH:=⟨1,λm=>if m=0 then some (.lst false (ns.map AV.int)) else none⟩
def Keeps(P:Pg)(k i:Nat):Prop:=∀ns:List Int,ns.length<=63->∃h',run P k i [.ref 0] (h0 ns) = .ok (.bl true) h'
theorem Xz{H:Hp}{a:Addr}{ns:List Int}(h:kM T.K H a (ns.map V.int)):aM T [a] (h0 ns) H:=by
 have z:∀{n:Nat} {o:cP},(h0 ns).ob n=some o->n=0/\o = .lst false (ns.map AV.int):=λ{n o} e=>by
  have e':(if n=0 then some (cP.lst false (ns.map AV.int)) else none)=some o:=e;by_cases hn:n=0
  .rw[if_pos hn]at e';exact⟨hn,(Option.some.inj e').symm⟩
  .rw[if_neg hn]at e';cases e'
 refine⟨rfl,λn o e=>?_,λn o b e q=>?_,λn m b o u e1 e2 m1 m2 _ _=>?_⟩
 .rw[(z e).1];exact Nat.zero_lt_one
 .obtain⟨rfl,rfl⟩:=z e;cases q;exact⟨_,h,aH.ints ns⟩
 .rw[(z e1).1,(z e2).1]
theorem Zy(O:so P w p T mg ad fds){k i:Nat}{d:Df}(hd:p.defs[i]?=some d)(h:Keeps p.ir k i):dD P w T.K mg base (cD P w) (2*k) (ad i) (fds i) d.ps (qc T.K):=by refine(Pe O k i d hd).imp λvs H Q E ⟨a,ns,e,hf,hl,q⟩=>?_;subst e;obtain⟨h',e⟩:=h ns hl;refine⟨[a],h0 ns,[.ref 0],Xz hf,.cons (.ref rfl) .nil,?_⟩;rw[e];intro Z' b H' _ _ r;cases r;exact q H'
theorem Xr{K:W.Frag}{H:Hp}{a:Addr}{xs:List V}(ho:dw H)(h:bG K H a xs):kM K H a xs:=by
 rcases h with(h|h)|h
 .rcases ho a with z|⟨o,ys,z⟩
  .rw[h]at z;cases z
  .rw[h]at z;cases z
 .exact .inl h
 .exact .inr h
end
theorem walk{l:W.OpenLaw}{q:Program}{loose:List Str}{XP:(Str->Option Value)->Heap->Prop}{YP:World->Heap->Prop}{d:DefRec}{K:Params->W.Frag}{k:Nat}{x:Str}(hn:l.most=some 63)(hdf:d.params.defaults=[])(hr:bU k callerA)
  (hY:∀(w:World) (h:Heap),YP w h->(K w.params).In h)
  (F:∀(w:World) (mg:Str->Option Value) (fa:Addr) (h:Heap),(K w.params).In h->h.Ns mainGlobals mg->mg d.name=some (.ref fa) ->
   ∃fd:FuncData,(∀(s:Shared) (u:Value),BindsTo s fd ⟨[u],[]⟩ [(x,u)])/\∀base:Heap,(K w.params).In base->base.Ns mainGlobals mg->dD l.prog w (K w.params) mg base (cD l.prog w) k fa fd [x] (qc (K w.params))) :
  W.WalkO q loose XP YP l.row.toRowW d [] (λf vs=>PySem.call f vs):=
 L2.TJ (n:=63) (k:=k) (x:=x) (CX:=λw=>cD l.prog w) (sp:=λw=>qc (K w.params)) hn (by decide) hdf hr hY F (λ_ _ a ns hl ho hS=>⟨a,ns,rfl,Xr ho hS,hl,λ_=>rfl⟩) λ_ _ _ _ _ ⟨_,_,_,_,_,_,_,_,_,_,_,_,z⟩=>z
def We{α:Type}(Xc:Nat->AH->Prop)(m:M α)(h:AH)(Q:α->AH->Prop):Prop:=match m h with
 |.ok a h'=>Q a h'
 |.exc c _ h'=>Xc c h'
 |.bad=>False
abbrev Wp{α:Type}(m:M α)(h:AH)(Q:α->AH->Prop):Prop:=We (λ_ _=>False) m h Q
variable {Xc:Nat->AH->Prop}
section
variable {α β:Type}{m:M α}{k:α->M β}{h h':AH}{Q:α->AH->Prop}{Q2:β->AH->Prop}{F:Run}{U:aA}
theorem aQ(w:We Xc m h λa h1=>We Xc (k a) h1 Q2):We Xc (M.bind m k) h Q2:=by
 unfold We at w ⊢;unfold M.bind;cases e:m h with
 |ok a h1=>rw[e]at w;exact w|exc c x h1=>rw[e]at w;exact w|bad=>rw[e]at w;exact w.elim
theorem We.mono{Q':α->AH->Prop}(w:We Xc m h Q)(f:∀a h1,Q a h1->Q' a h1):We Xc m h Q':=by
 unfold We at w ⊢;cases e:m h with
 |ok a h1=>rw[e]at w;exact f a h1 w|exc c x h1=>rw[e]at w;exact w|bad=>rw[e]at w;exact w.elim
theorem We.eq{a:α}(e:m h = .ok a h')(q:Q a h'):We Xc m h Q:=by unfold We;rw[e];exact q
theorem We.ex(w:We (λ_ _=>False) m h Q):∃a h',m h = .ok a h'/\Q a h':=by
 unfold We at w;cases e:m h with
 |ok a h1=>rw[e]at w;exact⟨a,h1,rfl,w⟩|exc c x h1=>rw[e]at w;exact w.elim|bad=>rw[e]at w;exact w.elim
theorem yU{p:Prop} [Decidable p] (hp:p)(w:We Xc m h Q):We Xc (M.guard p m) h Q:=by unfold We at w ⊢;unfold M.guard;rw[if_pos hp];exact w
variable {V1:AV->AH->Prop}{B1:Bool->AH->Prop}{L1:List AV->AH->Prop}
theorem wD{v:AV}(q:V1 v h):We Xc (aB F (.val v) U) h V1:=q
theorem VY{i:Nat}{v:AV}(e:U[i]?=some (some v))(q:V1 v h):We Xc (aB F (.var i) U) h V1:=by show We Xc (oT i U) h V1;unfold We oT;rw[e];exact q
theorem qx{o:Op}{a b:Ex}(w:We Xc (aB F a U) h λx h1=>We Xc (aB F b U) h1 λy h2=>We Xc (o.g x y) h2 V1):We Xc (aB F (.op o a b) U) h V1:=aQ (w.mono λ_ _ z=>aQ z)
theorem VF{o:Cp}{a b:Ex}(w:We Xc (aB F a U) h λx h1=>We Xc (aB F b U) h1 λy h2=>We Xc (o.g x y) h2 V1):We Xc (aB F (.cmp o a b) U) h V1:=aQ (w.mono λ_ _ z=>aQ z)
theorem VS{a:Ex}(w:We Xc (aB F a U) h λx h1=>We Xc (gq x) h1 V1):We Xc (aB F (.neg a) U) h V1:=aQ w
theorem VT{a:Ex}(w:We Xc (aB F a U) h λx h1=>We Xc (bF x) h1 λb h2=>V1 (.bl (!b)) h2):We Xc (aB F (.not a) U) h V1:=aQ (w.mono λ_ _ z=>aQ z)
theorem VA{a b:Ex}(w:We Xc (aB F a U) h λx h1=>We Xc (bF x) h1 λt h2=>if t=true then We Xc (aB F b U) h2 V1 else V1 x h2):We Xc (aB F (.and a b) U) h V1:=
 aQ (w.mono λx _ z=>aQ (z.mono λt _ y=>by
  cases t with
  |true=>exact y|false=>exact y))
theorem VX{es:cT}(w:We Xc (bN F es U) h λxs h1=>xs.length<=sizeLine/\V1 (.tup xs) h1):We Xc (aB F (.tup es) U) h V1:=aQ (w.mono λxs _ z=>yU z.1 z.2)
theorem VP{es:cT}(w:We Xc (bN F es U) h λxs h1=>xs.length<=sizeLine/\V1 (.ref h1.nx) (h1.new (.lst true xs))):We Xc (aB F (.lst es) U) h V1:=aQ (w.mono λxs _ z=>yU z.1 z.2)
theorem VV{a lo hi:Ex}(w:We Xc (aB F a U) h λx h1=>We Xc (lA lo (aB F lo U)) h1 λl h2=>We Xc (lA hi (aB F hi U)) h2 λu h3=>We Xc (rH x l u) h3 V1):We Xc (aB F (.slice a lo hi) U) h V1:=
 aQ (w.mono λ_ _ z=>aQ (z.mono λ_ _ z=>aQ z))
theorem VD{f:Nat}{es:cT}(w:We Xc (bN F es U) h λxs h1=>We Xc (F f xs) h1 V1):We Xc (aB F (.call f es) U) h V1:=aQ w
theorem VC{f:Bi}{es:cT}(w:We Xc (bN F es U) h λxs h1=>We Xc (f.g xs) h1 V1):We Xc (aB F (.bi f es) U) h V1:=aQ w
theorem VM{t:BT}{a:Ex}(w:We Xc (aB F a U) h λx h1=>We Xc (uO t x) h1 V1):We Xc (aB F (.iD t a) U) h V1:=aQ w
theorem VB{o a:Ex}(w:We Xc (aB F o U) h λx h1=>oV h1 x=true/\We Xc (aB F a U) h1 λy h2=>We Xc (rE x y) h2 V1):We Xc (aB F (.app o a) U) h V1:=aQ (w.mono λx h1 ⟨z1,z2⟩=>by unfold We;simp only[if_pos z1];exact aQ z2)
theorem WA(q:L1 [] h):We Xc (bN F .nil U) h L1:=q
theorem VZ{e:Ex}{es:cT}(w:We Xc (aB F e U) h λx h1=>We Xc (bN F es U) h1 λxs h2=>L1 (x::xs) h2):We Xc (bN F (.cons e es) U) h L1:=aQ (w.mono λ_ _ z=>aQ z)
theorem WW{o:Cp}{a b:Ex}(w:We Xc (aB F a U) h λx h1=>We Xc (aB F b U) h1 λy h2=>We Xc (o.g x y) h2 λz h3=>∃t,z = .bl t/\B1 t h3):We Xc (bM F (.cmp o a b) U) h B1:=
 aQ (aQ (w.mono λ_ _ z=>aQ (z.mono λ_ _ z=>z.mono λu h3 ⟨t,e,q⟩=>by subst e;exact q)))
theorem WZ{a:Ex}(w:We Xc (bM F a U) h λt h1=>B1 (!t) h1):We Xc (bM F (.not a) U) h B1:=aQ w
theorem WU{a b:Ex}(w:We Xc (bM F a U) h λt h1=>if t=true then We Xc (bM F b U) h1 B1 else B1 false h1):We Xc (bM F (.and a b) U) h B1:=aQ (w.mono λt _ y=>by
 cases t with
 |true=>exact y|false=>exact y)
theorem XA{a b:Ex}(w:We Xc (bM F a U) h λt h1=>if t=true then B1 true h1 else We Xc (bM F b U) h1 B1):We Xc (bM F (.or a b) U) h B1:=aQ (w.mono λt _ y=>by
 cases t with
 |true=>exact y|false=>exact y)
theorem XB{i:Nat}(w:We Xc (aB F (.var i) U) h λx h1=>We Xc (bF x) h1 B1):We Xc (bM F (.var i) U) h B1:=aQ w
theorem WV{f:Nat}{es:cT}(w:We Xc (aB F (.call f es) U) h λx h1=>We Xc (bF x) h1 B1):We Xc (bM F (.call f es) U) h B1:=aQ w
theorem VN{cs:List (Nat×Bool)}{a:Ex}(w:We Xc (aB F a U) h λx h1=>We Xc (uP cs x) h1 V1):We Xc (aB F (.cJ cs a) U) h V1:=aQ w
theorem WY{cs:List (Nat×Bool)}{a:Ex}(w:We Xc (aB F (.cJ cs a) U) h λx h1=>We Xc (bF x) h1 B1):We Xc (bM F (.cJ cs a) U) h B1:=aQ w
theorem WX{t:BT}{a:Ex}(w:We Xc (aB F (.iD t a) U) h λx h1=>We Xc (bF x) h1 B1):We Xc (bM F (.iD t a) U) h B1:=aQ w
theorem TR{i j:Int}(q:V1 (.int (i+j)) h):We Xc (Op.g .add (.int i) (.int j)) h V1:=q
theorem US{i j:Int}(q:V1 (.int (i-j)) h):We Xc (Op.g .sub (.int i) (.int j)) h V1:=q
theorem qu{p:Int->Int->Bool}{f:Int->Int->Int}{i j:Int}(hp:p i j=true)(q:V1 (.int (f i j)) h):We Xc (gO p f (.int i) (.int j)) h V1:=by unfold We gO;simp only[if_pos hp];exact q
theorem UL{i j:Int}(hp:xC i j=true)(q:V1 (.int (i*j)) h):We Xc (Op.g .mul (.int i) (.int j)) h V1:=qu hp q
theorem UA{i j:Int}(hp:rB j=true)(q:V1 (.int (i / j)) h):We Xc (Op.g .fdiv (.int i) (.int j)) h V1:=qu (p:=λ_ j=>rB j) hp q
theorem UK{i j:Int}(hp:0<j)(q:V1 (.int (i%j)) h):We Xc (Op.g .mod (.int i) (.int j)) h V1:=qu (p:=λ_ j=>decide (0<j)) (decide_eq_true hp) q
theorem qw{i j:Int}(hp:aj i j=true)(q:V1 (.int (i ^ j.toNat)) h):We Xc (Op.g .pow (.int i) (.int j)) h V1:=qu (f:=λi j=>i ^ j.toNat) hp q
theorem UI{i j:Int}(q:V1 (.bl (decide (i<j))) h):We Xc (Cp.g .lt (.int i) (.int j)) h V1:=q
theorem UE{i j:Int}(q:V1 (.bl (decide (i<=j))) h):We Xc (Cp.g .le (.int i) (.int j)) h V1:=q
theorem UB{i j:Int}(q:V1 (.bl (decide (j<i))) h):We Xc (Cp.g .gt (.int i) (.int j)) h V1:=q
theorem TZ{i j:Int}(q:V1 (.bl (decide (i=j))) h):We Xc (Cp.g .eq (.int i) (.int j)) h V1:=q
theorem UO{i j:Int}(q:V1 (.bl (!decide (i=j))) h):We Xc (Cp.g .ne (.int i) (.int j)) h V1:=q
theorem TY{x y:AV}{b:Bool}(e:rD x y=some b)(q:V1 (.bl b) h):We Xc (Cp.g .eq x y) h V1:=by show We Xc (zQ x y) h V1;unfold We zQ;rw[e];exact q
theorem UM{x y:AV}{b:Bool}(e:rD x y=some b)(q:V1 (.bl (!b)) h):We Xc (Cp.g .ne x y) h V1:=by show We Xc (zS x y) h V1;unfold We zS;rw[e];exact q
theorem UC{x:AV}(q:V1 (.bl (oW x)) h):We Xc (Cp.g .xA x .aE) h V1:=q
theorem Ph{x:AV}{xs:List AV}(e:cM h x=some xs):cX h x=none:=by
 cases x with
 |ref n=>
  simp only[cM]at e;simp only[cX];cases o:h.ob n with
  |none=>rfl|some u=>
   rw[o]at e;cases u with
   |lst m ys=>rfl|_=>cases e
 |_=>rfl
theorem OK{x:AV}{xs:List AV}(e:cM h x=some xs):uI h x=none:=by
 cases x with
 |ref n=>
  simp only[cM]at e;simp only[uI];cases o:h.ob n with
  |none=>rfl|some u=>
   rw[o]at e;cases u with
   |lst m ys=>rfl|_=>cases e
 |_=>rfl
theorem Qy{x y:AV}{xs:List AV}(e:cM h y=some xs)(f:(gA x&&xs.all gA)=true)(q:V1 (.bl (uS x xs)) h):We Xc (Cp.g .wZ x y) h V1:=by show We Xc (mW false x y) h V1;have ed:cX h y=none:=Ph e;unfold We mW;simp only[ed];unfold rF;rw[e];simp only[if_pos f];exact q
theorem UN{i:Int}(q:V1 (.int (-i)) h):We Xc (gq (.int i)) h V1:=q
theorem pT{x v:AV}{i:Int}{xs:List AV}(e:cM h x=some xs)(e2:dF xs i=some v)(q:V1 v h):We Xc (Op.g .ix x (.int i)) h V1:=by
 show We Xc (oS x (.int i)) h V1;have ed:cX h x=none:=Ph e;unfold We oS;simp only[ed];unfold gj;simp only[OK e];unfold wY;cases x with
 |str z=>cases e|aE=>cases e|bl _=>cases e|int _=>cases e|jG _=>cases e|tup ys=>simp only[e,Option.bind_some,e2];exact q|ref n=>simp only[e,Option.bind_some,e2];exact q
theorem UT{b:Bool}(q:B1 b h):We Xc (bF (.bl b)) h B1:=q
theorem UD{cs:List (Nat×Bool)}{n c:Nat}{b:Bool}(e:h.ob n=some (.xo c))(l:cs.lookup c=some b)(q:V1 (.bl b) h):We Xc (uP cs (.ref n)) h V1:=by unfold We uP;simp only[e,l];exact q
theorem qv{t s:BT}{x:AV}(e:oH h x=some s)(q:V1 (.bl (s.sub t)) h):We Xc (uO t x) h V1:=by unfold We uO;rw[e];exact q
theorem UG{x:AV}{xs:List AV}(e:cM h x=some xs)(q:V1 (.int xs.length) h):We Xc (Bi.g .len [x]) h V1:=by
 show We Xc (zR [x]) h V1;unfold We zR;cases x with
 |str z=>cases e|aE=>cases e|bl _=>cases e|int _=>cases e|jG _=>cases e|tup ys=>simp only[e];exact q|ref n=>simp only[e];exact q
theorem UJ{i j:Int}(q:V1 (.int (if j > i then j else i)) h):We Xc (Bi.g .max [.int i,.int j]) h V1:=q
theorem UU{x:AV}{xs:List AV}(e:cM h x=some xs)(q:V1 (.tup xs) h):We Xc (Bi.g .tuple [x]) h V1:=by show We Xc (gz [x]) h V1;unfold We gz rT;simp only[Option.bind_some,e];exact q
theorem UH{x:AV}{xs:List AV}(e:cM h x=some xs)(q:V1 (.ref h.nx) (h.new (.lst true xs))):We Xc (Bi.g .list [x]) h V1:=by show We Xc (gm [x]) h V1;unfold We gm rT eB;simp only[Option.bind_some,e];exact q
theorem Dw{n:Nat}{v:AV}{xs:List AV}(e:h.ob n=some (.lst true xs))(hz:xs.length<sizeLine)(q:V1 .aE (h.put n (.lst true (xs++[v])))):We Xc (rE (.ref n) v) h V1:=by unfold We rE;simp only[e,if_pos hz];exact q
theorem Dx{n k:Nat}{xs ys:List AV}(e:h.ob n=some (.lst true xs))(e2:h.ob k=some (.lst true ys))(hz:xs.length+ys.length<=sizeLine)(q:V1 (.ref h.nx) (h.new (.lst true (xs++ys)))):We Xc (Op.g .add (.ref n) (.ref k)) h V1:=by show We Xc (fH (.ref n) (.ref k)) h V1;unfold We fH;simp only[e,e2,if_pos hz];exact q
theorem Rg{n:Nat}{b:Bool}{lo hi:Option Int}{xs:List AV}(e:h.ob n=some (.lst b xs))(q:V1 (.ref h.nx) (h.new (.lst true (uG xs lo hi)))):We Xc (rH (.ref n) lo hi) h V1:=by unfold We rH;simp only[e];exact q
variable {P1:Option Int->AH->Prop}
theorem VU{e:Ex}(he:∀m,lA e m=m.bind zT)(w:We Xc (aB F e U) h λx h1=>∃i,x = .int i/\P1 (some i) h1):We Xc (lA e (aB F e U)) h P1:=by rw[he];exact aQ (w.mono λx h1 ⟨i,e,q⟩=>by subst e;exact q)
end
def Wt(Xc:Nat->AH->Prop)(m:M Out)(h:AH)(N:aA->AH->Prop)(R:AV->AH->Prop)(B C:aA->AH->Prop):Prop:=We Xc m h λo h1=>match o with
 |.nx U=>N U h1
 |.ret v=>R v h1
 |.brk U=>B U h1
 |.cnt U=>C U h1
abbrev Ws(m:M Out)(h:AH)(N:aA->AH->Prop)(R:AV->AH->Prop)(B C:aA->AH->Prop):Prop:=Wt (λ_ _=>False) m h N R B C
section
variable {F:Run}{U:aA}{h:AH}{N B C:aA->AH->Prop}{R:AV->AH->Prop}
theorem WM(q:N U h):Wt Xc (cU F .nil U) h N R B C:=q
theorem WC{s:Sx}{ss:bI}(w:Wt Xc (dZ F s U) h (λU1 h1=>Wt Xc (cU F ss U1) h1 N R B C) R B C):Wt Xc (cU F (.cons s ss) U) h N R B C:=
 aQ (We.mono w λo h1 z=>by
  cases o with
  |nx U1=>exact z|ret v=>exact z|brk U1=>exact z|cnt U1=>exact z)
theorem WS{e:Ex}(w:We Xc (aB F e U) h R):Wt Xc (dZ F (.ret e) U) h N R B C:=aQ w
theorem WD{e:Ex}(w:We Xc (aB F e U) h λ_ h1=>N U h1):Wt Xc (dZ F (.expr e) U) h N R B C:=aQ w
theorem WN{i:Nat}{e:Ex}(w:We Xc (aB F e U) h λv h1=>N (U.set i (some v)) h1):Wt Xc (dZ F (.asg (.nm i) e) U) h N R B C:=aQ w
theorem WB{t:Tg}{e:Ex}(w:We Xc (aB F e U) h λv h1=>We Xc (hZ F t v U) h1 N):Wt Xc (dZ F (.asg t e) U) h N R B C:=aQ (w.mono λ_ _ z=>aQ z)
theorem Qv{i:Nat}{v:AV}{Q:aA->AH->Prop}(q:Q (U.set i (some v)) h):We Xc (hZ F (.nm i) v U) h Q:=q
theorem Qw{n:Nat}{ts:wL}{v:AV}{xs:List AV}{Q:aA->AH->Prop}(e:cM h v=some xs)(hl:xs.length=n)(w:We Xc (qA F ts xs U) h Q):We Xc (hZ F (.tup n ts) v U) h Q:=by show We Xc (uQ n (qA F ts) v U) h Q;unfold We uQ;simp only[e,if_pos hl];exact w
theorem Qu{Q:aA->AH->Prop}(q:Q U h):We Xc (qA F .nil [] U) h Q:=q
theorem Qt{t:Tg}{ts:wL}{v:AV}{vs:List AV}{Q:aA->AH->Prop}(w:We Xc (hZ F t v U) h λU1 h1=>We Xc (qA F ts vs U1) h1 Q):We Xc (qA F (.cons t ts) (v::vs) U) h Q:=aQ w
theorem WL{c:Ex}{a b:bI}(w:We Xc (bM F c U) h λt h1=>if t=true then Wt Xc (cU F a U) h1 N R B C else Wt Xc (cU F b U) h1 N R B C):Wt Xc (dZ F (.ite c a b) U) h N R B C:=aQ (w.mono λt _ y=>by
 cases t with
 |true=>exact y|false=>exact y)
theorem wX{it:dC}{g:AV->aA->M aA}{body:aA->M Out}(I:Nat->aA->AH->Prop)(n:Nat)
  (turn:∀i U h,i<n->I i U h->∃v,it i h=some (some v)/\We Xc (g v U) h λU1 h1=>Wt Xc (body U1) h1 (I (i+1)) R N (I (i+1)))
  (done:∀U h,I n U h->it n h=some none/\N U h):∀(f i:Nat) (U:aA) (h:AH),i<=n->n-i<f->I i U h->Wt Xc (fF it g body f i U) h N R B C
 |0,i,U,h,hi,hf,_=>by omega
 |f+1,i,U,h,hi,hf,hI=>by
  have ih:=wX I n turn done f;by_cases hn:i<n
  .obtain⟨v,e,w⟩:=turn i U h hn hI;unfold Wt We fF;simp only[e];refine aQ (w.mono λU1 h1 w1=>aQ (We.mono w1 λo h2 z=>?_));cases o with
   |nx U2=>exact ih (i+1) U2 h2 hn (by omega) z|cnt U2=>exact ih (i+1) U2 h2 hn (by omega) z|brk U2=>exact z|ret v=>exact z
  .have e0:i=n:=by omega
   subst e0;obtain⟨e,q⟩:=done U h hI;unfold Wt We fF;simp only[e];exact q
theorem WR{c:Nat}{es:cT}(w:We Xc (bN F es U) h λxs h1=>xs.length<=sizeLine/\Xc c h1):Wt Xc (dZ F (.raise c es) U) h N R B C:=aQ (w.mono λxs h1 z=>yU z.1 (show Xc c h1 from z.2))
theorem WT{k:Option (Option Nat)}{c:Ex}{hs:pX}
  (w:We (λcl h2=>Wt Xc (rL F hs U cl) h2 N R B C) (wW F c U) h λv h2=>match af k U v with
   |.nx U=>N U h2
   |.ret v=>R v h2
   |.brk U=>B U h2
   |.cnt U=>C U h2):Wt Xc (dZ F (.dh k c hs) U) h N R B C:=by
 show We Xc (dg (wW F c U) (af k U) (rL F hs U)) h _;unfold We dg;unfold We at w;cases g:wW F c U h with
 |ok v h2=>rw[g]at w;exact w|bad=>rw[g]at w;exact w.elim|exc c x h2=>rw[g]at w;exact w
theorem WQ{cs:List (Nat×Bool)}{c:Nat}{a b:M Out}(l:cs.lookup c=some true)(w:Wt Xc a h N R B C):Wt Xc (vA cs c a b) h N R B C:=by unfold vA;rw[l];exact w
theorem WO{cs:List (Nat×Bool)}{c:Nat}{a b:M Out}(l:cs.lookup c=some false)(w:Wt Xc b h N R B C):Wt Xc (vA cs c a b) h N R B C:=by unfold vA;rw[l];exact w
theorem WK{cs:List (Nat×Bool)}{c:Nat}{i:Option Nat}{b:bI}{r:pX}(l:cs.lookup c=some true)(w:Wt Xc (rJ i (cU F b) U c) h N R B C):Wt Xc (rL F (.cons cs i b r) U c) h N R B C:=WQ l w
theorem WJ{cs:List (Nat×Bool)}{c:Nat}{i:Option Nat}{b:bI}{r:pX}(l:cs.lookup c=some false)(w:Wt Xc (rL F r U c) h N R B C):Wt Xc (rL F (.cons cs i b r) U c) h N R B C:=WO l w
theorem Rk{α:Type}{m:M α}{Q:α->AH->Prop}(w:Wp m h Q):We Xc (bH m) h Q:=by obtain⟨xs,h1,e,w⟩:=We.ex w;exact We.eq (by unfold bH;rw[e]) w
theorem WH{i c:Nat}{ms:bI}(w:Ws (cU F ms (U.set i (some (.ref h.nx)))) (h.new (.xo c)) (λU h=>N (U.set i none) h) R (λU h=>B (U.set i none) h) (λU h=>C (U.set i none) h)):Wt Xc (rJ (some i) (cU F ms) U c) h N R B C:=by
 unfold Wt rJ;obtain⟨o,h1,e,q⟩:=We.ex w;show We Xc ((bH (cU F ms (U.set i (some (.ref h.nx))))).bind λo=>M.ret (o.drop i)) (h.new (.xo c)) _;refine aQ (We.eq (show bH _ _ = .ok o h1 by unfold bH;rw[e]) ?_);cases o with
 |nx U1=>exact q|ret v=>exact q|brk U1=>exact q|cnt U1=>exact q
theorem WI{c:Nat}{ms:bI}(w:Ws (cU F ms U) (h.new (.xo c)) N R B C):Wt Xc (rJ none (cU F ms) U c) h N R B C:=by unfold Wt rJ;obtain⟨o,h1,e,q⟩:=We.ex w;show We Xc (bH (cU F ms U)) (h.new (.xo c)) _;exact We.eq (show bH _ _ = .ok o h1 by unfold bH;rw[e]) q
theorem WE{t:Tg}{it:Ir}{b:bI}(w:We Xc (bD F it U) h λi h1=>Wt Xc (fF i (hZ F t) (cU F b) FU 0 U) h1 N R B C):Wt Xc (dZ F (.mU t it b) U) h N R B C:=aQ w
variable {Q:dC->AH->Prop}
theorem UY{e:Ex}(w:We Xc (aB F e U) h λx h1=>We Xc (fR x) h1 Q):We Xc (bD F (.seq e) U) h Q:=aQ w
theorem UX{es:cT}(w:We Xc (bN F es U) h λxs h1=>∃j,xs=[.int j]/\iW j=true/\Q (tU 0 j.toNat) h1):We Xc (bD F (.pq es) U) h Q:=aQ (w.mono λxs h1 ⟨j,e,r,q⟩=>by subst e;unfold We gu;simp only[if_pos r];exact q)
theorem UW{e:Ex}(w:We Xc (aB F e U) h λx h1=>∃n b xs,x = .ref n/\h1.ob n=some (.lst b xs)/\Q (oO (dX n)) h1):We Xc (bD F (.enum e) U) h Q:=aQ (w.mono λx h1 ⟨n,b,xs,e,r,q⟩=>by subst e;unfold We gg;simp only[r];exact q)
theorem UZ{es:cT}(w:We Xc (bN F es U) h λxs h1=>∃x y it jt,xs=[x,y]/\fR x h1 = .ok it h1/\fR y h1 = .ok jt h1/\Q (pU it jt) h1):We Xc (bD F (.zip es) U) h Q:=aQ (w.mono λxs h1 ⟨x,y,it,jt,e,e1,e2,q⟩=>by subst e;unfold We ib;simp only[e1,e2];exact q)
theorem wC{n:Nat}{b:Bool}{xs:List AV}(e:h.ob n=some (.lst b xs))(q:Q (dX n) h):We Xc (fR (.ref n)) h Q:=by unfold We fR;simp only[e];exact q
theorem dO{P:Pg}{k f np nn:Nat}{b:bI}{args:List AV}(e:P f=some (np,nn,b))(hl:args.length=np)(w:Wt Xc (cU (run P k) b (args.map some++List.replicate (nn-np) none)) h (λ_ h1=>R .aE h1) R (λ_ _=>False) (λ_ _=>False)):We Xc (run P (k+1) f args) h R:=by
 show We Xc (match P f with
  |none=>M.bad
  |some (np,nn,b)=>M.guard (args.length=np) ((cU (run P k) b (args.map some++List.replicate (nn-np) none)).bind Ky)) h R
 rw[e];refine yU hl (aQ (We.mono w λo h1 z=>?_));cases o with
 |nx U=>exact z|ret v=>exact z|brk U=>exact z.elim|cnt U=>exact z.elim
end
theorem Keeps.of{P:Pg}{k i:Nat}(h:∀ns:List Int,ns.length<=63->Wp (run P k i [.ref 0]) (h0 ns) λv _=>v = .bl true):Keeps P k i:=λns hl=>by obtain⟨a,h',e,q⟩:=(h ns hl).ex;subst q;exact⟨h',e⟩
end AM
namespace AM
theorem Ym{c:Prop} [Decidable c] {A B:Prop}(h1:c->A)(h2:¬c->B):if decide c=true then A else B:=by
 by_cases h:c
 .rw[decide_eq_true h,if_pos rfl];exact h1 h
 .rw[decide_eq_false h,if_neg Bool.false_ne_true];exact h2 h
theorem Jg{b:Bool}{A B:Prop}(e:b=true)(h:A):if b=true then A else B:=by rw[if_pos e];exact h
theorem vt{b:Bool}{A B:Prop}(e:b=false)(h:B):if b=true then A else B:=by rw[if_neg (by rw[e];exact Bool.false_ne_true)];exact h
theorem Yo{c:Prop} [Decidable c] {A B:Prop}(e:c)(h:A):if decide c=true then A else B:=Jg (decide_eq_true e) h
theorem Yn{c:Prop} [Decidable c] {A B:Prop}(e:¬c)(h:B):if decide c=true then A else B:=vt (decide_eq_false e) h
theorem Yp{c:Prop} [Decidable c] {A B:Prop}(e:c)(h:B):if(!decide c)=true then A else B:=vt (by rw[decide_eq_true e];rfl) h
end AM
namespace AM
open PySem PySem.Spec PyProof.Rows L2
section
variable {F:Run}{U:aA}{h:AH}{V1:AV->AH->Prop}
theorem TN(q:V1 (.int 100000000000000000000) h):We Xc (aB F (.op .pow (.val (.int 10)) (.val (.int 20))) U) h V1:=by refine qx (wD (wD (qw (by decide) ?_)));rw[show((10:Int) ^ Int.toNat 20)=100000000000000000000 from by decide +kernel];exact q
theorem TM(q:V1 (.int 1000000000000000000) h):We Xc (aB F (.op .pow (.val (.int 10)) (.val (.int 18))) U) h V1:=by refine qx (wD (wD (qw (by decide) ?_)));rw[show((10:Int) ^ Int.toNat 18)=1000000000000000000 from by decide +kernel];exact q
theorem TK(q:V1 (.int 100000000000000000) h):We Xc (aB F (.op .pow (.val (.int 10)) (.val (.int 17))) U) h V1:=by refine qx (wD (wD (qw (by decide) ?_)));rw[show((10:Int) ^ Int.toNat 17)=100000000000000000 from by decide +kernel];exact q
end
theorem BG{i j:Int}(h1:-18446744073709551616<j)(h2:j<18446744073709551616):xC i j=true:=by
 have e:(18446744073709551616:Nat)=2 ^ 64:=by decide
 simp only[xC,Bool.or_eq_true,Bool.and_eq_true,decide_eq_true_eq];exact .inl (.inr (by omega))
theorem mM{h:AH}{n:Nat}{b:Bool}{xs:List AV}(e:h.ob n=some (.lst b xs)):cM h (.ref n)=some xs:=by simp only[cM,e]
def cell(ns:List Int)(i:Int):Int:=ns.getD i.toNat 0
theorem Sa{ns:List Int}{i:Int}(h0:0<=i)(h1:i<(ns.map AV.int).length):dF (ns.map AV.int) i=some (.int (cell ns i)):=by
 have hl:i.toNat<ns.length:=by rw[List.length_map]at h1;omega
 unfold dF jI;rw[if_pos h0,if_pos h1];simp only[Option.bind_some,List.getElem?_map,cell,List.getD,List.getElem?_eq_getElem hl,Option.map_some,Option.getD_some]
def wV{α:Type}(xs:List α)(lo hi:Option Int):List α:=(xs.drop (HT.aT xs.length 0 lo)).take (HT.aT xs.length xs.length hi-HT.aT xs.length 0 lo)
theorem Hc{α:Type}(xs:List α)(f:α->AV)(lo hi:Option Int):uG (xs.map f) lo hi=(wV xs lo hi).map f:=by unfold uG wV;rw[List.length_map,<- List.map_drop,<- List.map_take]
theorem cZ{h:AH}{o:cP}:(h.new o).ob h.nx=some o:=by simp only[AH.new,if_pos]
theorem xE{h:AH}{o:cP}{n:Nat}(hn:n≠h.nx):(h.new o).ob n=h.ob n:=by simp only[AH.new,if_neg hn]
theorem rX{h:AH}{o:cP}{n:Nat}:(h.put n o).ob n=some o:=by simp only[AH.put,if_pos]
theorem dY{h:AH}{o:cP}{n k:Nat}(hn:k≠n):(h.put n o).ob k=h.ob k:=by simp only[AH.put,if_neg hn]
theorem jJ{h:AH}{n i:Nat}{b:Bool}{xs:List AV}(e:h.ob n=some (.lst b xs)):dX n i h=some xs[i]?:=by simp only[dX,e]
theorem Wb{h:AH}{n i:Nat}{b:Bool}{xs:List AV}{v:AV}(e:h.ob n=some (.lst b xs))(hv:xs[i]?=some v):oO (dX n) i h=some (some (.tup [.int i,v])):=by simp only[oO,jJ e,hv]
theorem Wa{h:AH}{n i:Nat}{b:Bool}{xs:List AV}(e:h.ob n=some (.lst b xs))(hv:xs[i]?=none):oO (dX n) i h=some none:=by simp only[oO,jJ e,hv]
theorem Xk{n:Nat}{bb:Bool}{xs:List AV}{g:AV->aA->M aA}{body:aA->M Out}{N B C:aA->AH->Prop}{R:AV->AH->Prop}{U:aA}{h:AH}(I:Nat->aA->AH->Prop)(hn:xs.length<FU)(i0:I 0 U h)(il:∀i U h,I i U h->h.ob n=some (.lst bb xs))
  (turn:∀(i:Nat) x U h,xs[i]?=some x->I i U h->We Xc (g (.tup [.int i,x]) U) h λU1 h1=>Wt Xc (body U1) h1 (I (i+1)) R N (I (i+1)))
  (done:∀U h,I xs.length U h->N U h):Wt Xc (fF (oO (dX n)) g body FU 0 U) h N R B C:=by
 refine wX I xs.length (λi U h hi hI=>?_) (λU h hI=>⟨Wa (il _ _ _ hI) (by simp),done U h hI⟩) FU 0 U h (Nat.zero_le _) (by omega) i0;exact⟨_,Wb (il _ _ _ hI) (List.getElem?_eq_getElem hi),turn i _ U h (List.getElem?_eq_getElem hi) hI⟩
theorem Ib{n:Nat}{bb:Bool}{xs:List AV}{g:AV->aA->M aA}{body:aA->M Out}{N B C:aA->AH->Prop}{R:AV->AH->Prop}{U:aA}{h:AH}(I:Nat->aA->AH->Prop)(hn:xs.length<FU)(i0:I 0 U h)(il:∀i U h,I i U h->h.ob n=some (.lst bb xs))
  (turn:∀(i:Nat) x U h,xs[i]?=some x->I i U h->We Xc (g x U) h λU1 h1=>Wt Xc (body U1) h1 (I (i+1)) R N (I (i+1)))
  (done:∀U h,I xs.length U h->N U h):Wt Xc (fF (dX n) g body FU 0 U) h N R B C:=by
 refine wX I xs.length (λi U h hi hI=>?_) (λU h hI=>⟨by rw[jJ (il _ _ _ hI)];simp,done U h hI⟩) FU 0 U h (Nat.zero_le _) (by omega) i0;exact⟨_,by rw[jJ (il _ _ _ hI),List.getElem?_eq_getElem hi],turn i _ U h (List.getElem?_eq_getElem hi) hI⟩
theorem Xl{lo:Int}{n:Nat}{g:AV->aA->M aA}{body:aA->M Out}{N B C:aA->AH->Prop}{R:AV->AH->Prop}{U:aA}{h:AH}(I:Nat->aA->AH->Prop)(hn:n<FU)(i0:I 0 U h)
  (turn:∀(i:Nat) U h,i<n->I i U h->We Xc (g (.int (lo+i)) U) h λU1 h1=>Wt Xc (body U1) h1 (I (i+1)) R N (I (i+1)))
  (done:∀U h,I n U h->N U h):Wt Xc (fF (tU lo n) g body FU 0 U) h N R B C:=by
 refine wX I n (λi U h hi hI=>?_) (λU h hI=>⟨by simp[tU],done U h hI⟩) FU 0 U h (Nat.zero_le _) (by omega) i0;exact⟨_,by simp only[tU,if_pos hi],turn i U h hi hI⟩
theorem mQ:FU=1000000:=rfl
theorem Wg{t:Bool}{P:Bool->Prop}(q:P t):∃t',AV.bl t = .bl t'/\P t':=⟨t,rfl,q⟩
theorem Wj{j:Int}{P:Int->Prop}(hr:iW j=true)(q:P j):∃j',[AV.int j]=[.int j']/\iW j'=true/\P j':=⟨j,rfl,hr,q⟩
theorem Wi{i:Int}{P:Int->Prop}(q:P i):∃i',AV.int i = .int i'/\P i':=⟨i,rfl,q⟩
theorem Wh{n:Nat}{P:Prop}(hn:n<=sizeLine)(q:P):n<=sizeLine/\P:=⟨hn,q⟩
theorem ND{j:Int}(h1:-4611686018427387904<=j)(h2:j<4611686018427387904):iW j=true:=by simp only[iW,Bool.and_eq_true,decide_eq_true_eq];omega
end AM
namespace AM
structure Kp(h h':AH):Prop where
 nx:h.nx<=h'.nx
 ob:∀n,n<h.nx->h'.ob n=h.ob n
theorem Kp.refl{h:AH}:Kp h h:=⟨Nat.le_refl _,λ_ _=>rfl⟩
theorem Kp.trans{a b c:AH}(x:Kp a b)(y:Kp b c):Kp a c:=⟨Nat.le_trans x.nx y.nx,λn hn=>(y.ob n (Nat.lt_of_lt_of_le hn x.nx)).trans (x.ob n hn)⟩
theorem Kp.new{a b:AH}{o:cP}(x:Kp a b):Kp a (b.new o):=⟨Nat.le_succ_of_le x.nx,λn hn=>(xE (Nat.ne_of_lt (Nat.lt_of_lt_of_le hn x.nx))).trans (x.ob n hn)⟩
theorem Xm{xs ys:List AV}{g:AV->aA->M aA}{body:aA->M Out}{N B C:aA->AH->Prop}{R:AV->AH->Prop}{U:aA}{h:AH}(I:Nat->aA->AH->Prop)(hl:xs.length=ys.length)(hn:xs.length<FU)(i0:I 0 U h)
  (turn:∀(i:Nat) x y U h,xs[i]?=some x->ys[i]?=some y->I i U h->We Xc (g (.tup [x,y]) U) h λU1 h1=>Wt Xc (body U1) h1 (I (i+1)) R N (I (i+1)))
  (done:∀U h,I xs.length U h->N U h):Wt Xc (fF (pU (wB xs) (wB ys)) g body FU 0 U) h N R B C:=by
 refine wX I xs.length (λi U h hi hI=>?_) (λU h hI=>⟨by simp[pU,wB],done U h hI⟩) FU 0 U h (Nat.zero_le _) (by omega) i0;have e1:=List.getElem?_eq_getElem hi;have e2:=List.getElem?_eq_getElem (show i<ys.length by omega);exact⟨_,by simp only[pU,wB,e1,e2],turn i _ _ U h e1 e2 hI⟩
end AM
namespace AM
open PySem PySem.Spec PyProof.Rows L2
def XX(ws:List Int):Prop:=∀w∈ws,0<=w/\w<18446744073709551616
section
variable {Xc:Nat->AH->Prop}{α:Type}{m:M α}{h:AH}{Q:α->AH->Prop}{F:Run}{U:aA}{V1:AV->AH->Prop}{L1:List AV->AH->Prop}
theorem Dv(w:Wp m h Q):We Xc (bH m) h Q:=by obtain⟨a,h1,e,q⟩:=w.ex;exact We.eq (show bH m h = .ok a h1 by unfold bH;rw[e]) q
theorem VG{imp:List (Option Nat)}{t:CT}{it:Ir}{e:Ex}(w:We Xc (bD F it U) h λi h1=>We Xc (cF i (jD t) (λ_=>M.ret true) (aB F e) FU 0 [] (gB imp U)) h1 λys h2=>V1 (.ref h2.nx) (h2.new (.lst true ys))):We Xc (aB F (.uD imp t it e) U) h V1:=
 aQ (w.mono λ_ _ z=>aQ (z.mono λ_ _ y=>y))
theorem VH{imp:List (Option Nat)}{t:CT}{it:Ir}{c e:Ex}(w:We Xc (bD F it U) h λi h1=>We Xc (cF i (jD t) (bM F c) (aB F e) FU 0 [] (gB imp U)) h1 λys h2=>V1 (.ref h2.nx) (h2.new (.lst true ys))):We Xc (aB F (.fX imp t it c e) U) h V1:=
 aQ (w.mono λ_ _ z=>aQ (z.mono λ_ _ y=>y))
theorem TF{i:Nat}{v:AV}{Q:aA->AH->Prop}(q:Q (U.set i (some v)) h):We Xc (jD (.nm i) v U) h Q:=q
theorem zJ{it:dC}{g:AV->aA->M aA}{mt:aA->M Bool}{me:aA->M AV}(I:Nat->List AV->aA->AH->Prop)(n:Nat)
  (turn:∀i ys U h,i<n->I i ys U h->∃v,it i h=some (some v)/\Wp (g v U) h λU1 h1=>Wp (mt U1) h1 λb h2=>if b=true then Wp (me U1) h2 λy h3=>ys.length<sizeLine/\I (i+1) (ys++[y]) U1 h3 else I (i+1) ys U1 h2)
  (done:∀ys U h,I n ys U h->it n h=some none/\L1 ys h):∀(f i:Nat) (ys:List AV) (U:aA) (h:AH),i<=n->n-i<f->I i ys U h->We Xc (cF it g mt me f i ys U) h L1
 |0,i,ys,U,h,_,hf,_=>absurd hf (Nat.not_lt_zero _)
 |f+1,i,ys,U,h,hi,hf,hI=>by
  by_cases hx:i<n
  .obtain⟨v,e,w⟩:=turn i ys U h hx hI;have e1:cF it g mt me (f+1) i ys U h=((bH (g v U)).bind λU1=>(bH (mt U1)).bind λb=>if b=true then(bH (me U1)).bind λy=>M.guard (ys.length<sizeLine) (cF it g mt me f (i+1) (ys++[y]) U1) else cF it g mt me f (i+1) ys U1) h:=by simp only[cF,e]
   unfold We;rw[e1];refine aQ (Dv (w.mono λU1 h1 w1=>aQ (Dv (w1.mono λb h2 w2=>?_))));cases b with
   |true=>rw[if_pos rfl]at w2 ⊢;exact aQ (Dv (w2.mono λy h3 w3=>yU w3.1 (zJ I n turn done f (i+1) _ U1 h3 hx (by omega) w3.2)))
   |false=>rw[if_neg Bool.false_ne_true]at w2 ⊢;exact zJ I n turn done f (i+1) ys U1 h2 hx (by omega) w2
  .have:i=n:=by omega
   subst this;obtain⟨e,q⟩:=done ys U h hI;unfold We;have e1:cF it g mt me (f+1) i ys U h = .ok ys h:=by simp only[cF,e]
   rw[e1];exact q
variable {g:AV->aA->M aA}{mt:aA->M Bool}{me:aA->M AV}
theorem SH{h:AH}{A B:AH->Prop}(q:A h):Wp (M.ret true) h λb h2=>if b=true then A h2 else B h2:=by
 show if true=true then A h else B h
 rw[if_pos rfl];exact q
theorem Gw{n:Nat}{bb:Bool}{xs:List AV}(I:Nat->List AV->aA->AH->Prop)(hn:xs.length<FU)(i0:I 0 [] U h)(il:∀i ys U h,I i ys U h->h.ob n=some (.lst bb xs))
  (turn:∀(i:Nat) x ys U h,xs[i]?=some x->I i ys U h->Wp (g x U) h λU1 h1=>Wp (me U1) h1 λy h3=>ys.length<sizeLine/\I (i+1) (ys++[y]) U1 h3)
  (done:∀ys U h,I xs.length ys U h->L1 ys h):We Xc (cF (dX n) g (λ_=>M.ret true) me FU 0 [] U) h L1:=by
 refine zJ I xs.length (λi ys U h hi hI=>?_) (λys U h hI=>⟨by rw[jJ (il _ _ _ _ hI)];simp,done ys U h hI⟩) FU 0 [] U h (Nat.zero_le _) (by omega) i0;exact⟨_,by rw[jJ (il _ _ _ _ hI),List.getElem?_eq_getElem hi],(turn i _ ys U h (List.getElem?_eq_getElem hi) hI).mono λU1 h1 w=>SH w⟩
variable {N:aA->AH->Prop}{R:AV->AH->Prop}{B C:aA->AH->Prop}
end
theorem Xn{Xc:Nat->AH->Prop}{n1 n2:Nat}{b1 b2:Bool}{xs ys:List AV}{g:AV->aA->M aA}{body:aA->M Out}{N B C:aA->AH->Prop}{R:AV->AH->Prop}{U:aA}{h:AH}(I:Nat->aA->AH->Prop)(hl:xs.length=ys.length)(hn:xs.length<FU)(i0:I 0 U h)
  (il:∀i U h,I i U h->h.ob n1=some (.lst b1 xs)/\h.ob n2=some (.lst b2 ys))
  (turn:∀(i:Nat) x y U h,xs[i]?=some x->ys[i]?=some y->I i U h->We Xc (g (.tup [x,y]) U) h λU1 h1=>Wt Xc (body U1) h1 (I (i+1)) R N (I (i+1)))
  (done:∀U h,I xs.length U h->N U h):Wt Xc (fF (pU (dX n1) (dX n2)) g body FU 0 U) h N R B C:=by
 refine wX I xs.length (λi U h hi hI=>?_) (λU h hI=>⟨?_,done U h hI⟩) FU 0 U h (Nat.zero_le _) (by omega) i0
 .obtain⟨g1,g2⟩:=il _ _ _ hI;have e1:=List.getElem?_eq_getElem hi;have e2:=List.getElem?_eq_getElem (show i<ys.length by omega);exact⟨_,by simp only[pU,jJ g1,jJ g2,e1,e2],turn i _ _ U h e1 e2 hI⟩
 .obtain⟨g1,g2⟩:=il _ _ _ hI;simp[pU,jJ g1,jJ g2]
theorem Il{h:AH}{n:Nat}{b:Bool}{xs:List AV}(e:h.ob n=some (.lst b xs)):fR (.ref n) h = .ok (dX n) h:=by simp only[fR,e]
theorem TU{Xc:Nat->AH->Prop}{xs ys:List AV}{h:AH}{V1:AV->AH->Prop}(hz:xs.length+ys.length<=sizeLine)(q:V1 (.tup (xs++ys)) h):We Xc (Op.g .add (.tup xs) (.tup ys)) h V1:=yU hz q
section
variable {Xc:Nat->AH->Prop}{h:AH}{F:Run}{U:aA}{V1:AV->AH->Prop}{B1:Bool->AH->Prop}{N B C:aA->AH->Prop}{R:AV->AH->Prop}
theorem VL{cs:List Nat}{f:Str}{o:Ex}(w:We Xc (aB F o U) h λx h1=>We Xc (oR cs f x) h1 V1):We Xc (aB F (.fld cs f o) U) h V1:=aQ w
theorem Qx{cs:List Nat}{f:Str}{n c:Nat}{fs:List (Str×AV)}{v:AV}(e:h.ob n=some (.ins c fs))(hc:cs.contains c=true)(l:fs.lookup f=some v)(q:V1 v h):We Xc (oR cs f (.ref n)) h V1:=by unfold We oR;simp only[e,if_pos hc,l];exact q
theorem Rc{m:Str}{dp:Nat->Option (List AV->M AV)}{r:M (List AV)}{n c:Nat}{fs:List (Str×AV)}{g:List AV->M AV}(e2:h.ob n=some (.ins c fs))(e3:dp c=some g)(e4:fs.lookup m=none)(q:We Xc r h λxs h2=>We Xc (g (.ref n::xs)) h2 V1):We Xc (aa dp m r (.ref n)) h V1:=by unfold We aa;simp only[e2,e3,e4];exact aQ q
theorem VR{m:Str}{dp:List (Nat×Nat)}{o:Ex}{es:cT}(w:We Xc (aB F o U) h λx h1=>∃(n c:Nat) (fs:List (Str×AV)) (i:Nat),x = .ref n/\h1.ob n=some (.ins c fs)/\dp.lookup c=some i/\fs.lookup m=none/\We Xc (bN F es U) h1 λxs h2=>We Xc (F i (.ref n::xs)) h2 V1) :
  We Xc (aB F (.fS m dp o es) U) h V1:=aQ (w.mono λx h1 ⟨n,c,fs,i,e1,e2,e3,e4,q⟩=>by
 subst e1;exact Rc e2 (by rw[e3];rfl) e4 q)
theorem TQ{m:Str}{dp:List (Nat×Nat)}{o:Ex}{es:cT}(w:Wp (aB F o U) h λx h1=>∃(n c:Nat) (fs:List (Str×AV)) (i:Nat),x = .ref n/\h1.ob n=some (.ins c fs)/\dp.lookup c=some i/\fs.lookup m=none/\Wp (bN F es U) h1 λxs h2=>We Xc (F i (.ref n::xs)) h2 V1) :
  We Xc (wW F (.fS m dp o es) U) h V1:=aQ ((Rk w).mono λx h1 ⟨n,c,fs,i,e1,e2,e3,e4,q⟩=>by
 subst e1;exact Rc e2 (by rw[e3];rfl) e4 (Rk q))
theorem VQ{c i:Nat}{dv:List AV}{es:cT}(w:We Xc (bN F es U) h λxs h1=>We Xc (F i (.ref h1.nx::(xs++dv))) (h1.new (.ins c [])) λv h2=>v = .aE/\V1 (.ref h1.nx) h2):We Xc (aB F (.make c i dv es) U) h V1:=
 aQ (w.mono λxs h1 z=>by show We Xc ((F i (.ref h1.nx::(xs++dv))).bind λv=>if wb v=true then M.ret (.ref h1.nx) else M.bad) (h1.new (.ins c [])) V1;exact aQ (z.mono λv h2 ⟨e,q⟩=>by subst e;exact q))
theorem WG{cs:List Nat}{f:Str}{o e:Ex}(w:We Xc (aB F e U) h λv h1=>We Xc (aB F o U) h1 λx h2=>∃(n c:Nat) (fs:List (Str×AV)),x = .ref n/\h2.ob n=some (.ins c fs)/\cs.contains c=true/\fs.length<1000/\N U (h2.put n (.ins c (eY f v fs)))) :
  Wt Xc (dZ F (.zN cs f o e) U) h N R B C:=aQ (w.mono λv h1 z=>aQ (z.mono λx h2 ⟨n,c,fs,e1,e2,e3,e4,q⟩=>by
 subst e1;have e5:cq cs f (.ref n) v h2=some (h2.put n (.ins c (eY f v fs))):=by simp only[cq,e2];rw[if_pos ⟨e3,e4⟩]
 unfold We;simp only[e5];exact q))
theorem VJ(q:V1 (.ref h.nx) (h.new (.aL []))):We Xc (aB F .zL U) h V1:=q
theorem VI{f:Dm}{o:Ex}{es:cT}(w:We Xc (aB F o U) h λx h1=>(cX h1 x).isSome=true/\We Xc (bN F es U) h1 λxs h2=>We Xc (f.g x xs) h2 V1):We Xc (aB F (.dm f o es) U) h V1:=aQ (w.mono λx h1 ⟨z1,z2⟩=>by unfold We;simp only[if_pos z1];exact aQ z2)
theorem zK{n:Nat}{kvs:List (aC×AV)}(e:h.ob n=some (.aL kvs)):cX h (.ref n)=some kvs:=by simp only[cX,e]
theorem Uo{n:Nat}{kvs:List (aC×AV)}(e:h.ob n=some (.aL kvs)):(cX h (.ref n)).isSome=true:=by rw[zK e];rfl
theorem TX{n:Nat}{kvs:List (aC×AV)}{y v:AV}{k:aC}(e:h.ob n=some (.aL kvs))(hk:dH y=some k)(l:bT kvs k=some v)(q:V1 v (h.put n (.aL (oN kvs k)))):We Xc (Dm.g .pop (.ref n) [y]) h V1:=by show We Xc (zP (.ref n) [y]) h V1;unfold We zP;simp only[zK e,hk,l];exact q
theorem Ra{n:Nat}{kvs:List (aC×AV)}{y v:AV}{k:aC}(e:h.ob n=some (.aL kvs))(hk:dH y=some k)(l:bT kvs k=some v)(q:V1 v h):We Xc (Op.g .ix (.ref n) y) h V1:=by show We Xc (oS (.ref n) y) h V1;unfold We oS;simp only[zK e,hk,Option.bind_some,l];exact q
theorem Rb{n:Nat}{kvs:List (aC×AV)}{y v:AV}{k:aC}(e:h.ob n=some (.bJ kvs))(hk:dH y=some k)(l:bT kvs k=some v)(q:V1 v h):We Xc (Op.g .ix (.ref n) y) h V1:=by show We Xc (oS (.ref n) y) h V1;unfold We oS;simp only[cX,e];unfold gj;simp only[uI,e,hk,Option.bind_some,l];exact q
theorem Qz{n:Nat}{kvs:List (aC×AV)}{y:AV}{k:aC}(e:h.ob n=some (.aL kvs))(hk:dH y=some k)(q:V1 (.bl (bT kvs k).isSome) h):We Xc (Cp.g .wZ y (.ref n)) h V1:=by show We Xc (mW false y (.ref n)) h V1;unfold We mW;simp only[zK e,hk];exact q
theorem TH{o i:Ex}{v:AV}{Q:aA->AH->Prop}(w:We Xc (aB F o U) h λx h1=>We Xc (aB F i U) h1 λy h2=>∃(n:Nat) (kvs:List (aC×AV)) (k:aC),x = .ref n/\dH y=some k/\h2.ob n=some (.aL kvs)/\kvs.length<sizeLine/\Q U (h2.put n (.aL (pD kvs k v)))):We Xc (hZ F (.sub o i) v U) h Q:=
 aQ (w.mono λx _ z=>aQ (z.mono λy h2 ⟨n,kvs,k,e1,e2,e3,e4,q⟩=>aQ (by
  subst e1;unfold We rG;simp only[zK e3,e2,if_pos e4];exact q)))
theorem VE{o:Ex}(w:We Xc (aB F o U) h λx h1=>We Xc (uN x) h1 V1):We Xc (aB F (.clear o) U) h V1:=aQ w
theorem TV{n:Nat}{xs:List AV}(e:h.ob n=some (.lst true xs))(q:V1 .aE (h.put n (.lst true []))):We Xc (uN (.ref n)) h V1:=by unfold We uN;simp only[e];exact q
end
theorem Kp.get{h h':AH}(g:Kp h h'){n:Nat}{o:Option cP}(hn:n<h.nx)(e:h.ob n=o):h'.ob n=o:=(g.ob n hn).trans e
theorem xK{h:AH}{n:Nat}{o:cP}:(h.put n o).nx=h.nx:=rfl
theorem wz{h:AH}{o:cP}:(h.new o).nx=h.nx+1:=rfl
theorem Ts{Xc:Nat->AH->Prop}{n:Nat}{bb:Bool}{xs:List AV}{U:aA}{h:AH}{L1:List AV->AH->Prop}{g:AV->aA->M aA}{mt:aA->M Bool}{me:aA->M AV}(I:Nat->List AV->aA->AH->Prop)(hn:xs.length<FU)(i0:I 0 [] U h)(il:∀i ys U h,I i ys U h->h.ob n=some (.lst bb xs))
  (turn:∀(i:Nat) x ys U h,xs[i]?=some x->I i ys U h->Wp (g x U) h λU1 h1=>Wp (mt U1) h1 λb h2=>if b=true then Wp (me U1) h2 λy h3=>ys.length<sizeLine/\I (i+1) (ys++[y]) U1 h3 else I (i+1) ys U1 h2)
  (done:∀ys U h,I xs.length ys U h->L1 ys h):We Xc (cF (dX n) g mt me FU 0 [] U) h L1:=by
 refine zJ I xs.length (λi ys U h hi hI=>?_) (λys U h hI=>⟨by rw[jJ (il _ _ _ _ hI)];simp,done ys U h hI⟩) FU 0 [] U h (Nat.zero_le _) (by omega) i0;exact⟨_,by rw[jJ (il _ _ _ _ hI),List.getElem?_eq_getElem hi],turn i _ ys U h (List.getElem?_eq_getElem hi) hI⟩
theorem gH:(1000:Nat)<sizeLine:=by decide
theorem uY{α:Type}{f:α->AV}{ws:List α}{i:Nat}{x:AV}(h:(ws.map f)[i]?=some x):∃w,ws[i]?=some w/\x=f w:=by rw[List.getElem?_map]at h;obtain⟨w,h1,h2⟩:=Option.map_eq_some_iff.mp h;exact⟨w,h1,h2.symm⟩
theorem Rz{xs:List AV}{n:Nat}(h0:0<n)(h1:n<=xs.length):dF xs (-(n:Int))=xs[xs.length-n]?:=by
 unfold dF jI;rw[if_neg (by omega)];first
  |rw[if_pos (by omega)]|skip
 have:(-(n:Int)+(xs.length:Int)).toNat=xs.length-n:=by omega
 simp[this]
section
variable {Xc:Nat->AH->Prop}{h:AH}{F:Run}{U:aA}{V1:AV->AH->Prop}{B1:Bool->AH->Prop}{N B C:aA->AH->Prop}{R:AV->AH->Prop}
theorem Uu{ks:List aC}{i:Nat}{k:aC}(e:ks[i]?=some k):kT ks i h=some (some (xB k)):=by simp only[kT,e]
theorem Ut{ks:List aC}:kT ks ks.length h=some none:=by simp[kT]
theorem Tr{ks:List aC}{L1:List AV->AH->Prop}{g:AV->aA->M aA}{mt:aA->M Bool}{me:aA->M AV}(I:Nat->List AV->aA->AH->Prop)(hn:ks.length<FU)(i0:I 0 [] U h)
  (turn:∀(i:Nat) k ys U h,ks[i]?=some k->I i ys U h->Wp (g (xB k) U) h λU1 h1=>Wp (mt U1) h1 λb h2=>if b=true then Wp (me U1) h2 λy h3=>ys.length<sizeLine/\I (i+1) (ys++[y]) U1 h3 else I (i+1) ys U1 h2)
  (done:∀ys U h,I ks.length ys U h->L1 ys h):We Xc (cF (kT ks) g mt me FU 0 [] U) h L1:=by
 refine zJ I ks.length (λi ys U h hi hI=>?_) (λys U h hI=>⟨Ut,done ys U h hI⟩) FU 0 [] U h (Nat.zero_le _) (by omega) i0;exact⟨_,Uu (List.getElem?_eq_getElem hi),turn i _ ys U h (List.getElem?_eq_getElem hi) hI⟩
theorem RX{n:Nat}{kvs:List (aC×AV)}{L:cP}(ho:h.ob n=some (.aL kvs))(hn:n<h.nx):((h.put n (.bJ kvs)).new L).put n (.aL kvs)=h.new L:=by
 unfold AH.put AH.new;congr 1
 funext m
 dsimp only;by_cases e:m=n
 .subst e;rw[if_pos rfl,if_neg (Nat.ne_of_lt hn),ho]
 .rw[if_neg e,if_neg e]
theorem RU{α:Type}{m0:aA->M AV}{ma:aA->M α}{n:Nat}{kvs kv':List (aC×AV)}{a:α}{h':AH}(hd:m0 U h = .ok (.ref n) h)(ho:h.ob n=some (.aL kvs))(hm:ma U h = .ok a h')(h2:h'.ob n=some (.bJ kv')):gW m0 ma U h = .ok a (h'.put n (.aL kv')):=by unfold gW;simp only[hd,fq,ho,hm,de,h2]
theorem Xo{d:Ex}{n:Nat}{kvs:List (aC×AV)}(hd:aB F d U h = .ok (.ref n) h)(ho:h.ob n=some (.aL kvs)):bD F (.aL d) U h = .ok (kT (kvs.map (·.1))) (h.put n (.bJ kvs)):=by show M.bind (aB F d U) zM h=_;simp only[M.bind,hd,zM,ho]
theorem VW{d c e:Ex}{imp:List (Option Nat)}{t:CT}{n:Nat}{kvs:List (aC×AV)}(hd:aB F d U h = .ok (.ref n) h)(ho:h.ob n=some (.aL kvs))(hn:n<h.nx)
  (w:Wp (cF (kT (kvs.map (·.1))) (jD t) (bM F c) (aB F e) FU 0 [] (gB imp U)) (h.put n (.bJ kvs)) λys h2=>h2=h.put n (.bJ kvs)/\V1 (.ref h.nx) (h.new (.lst true ys))):We Xc (aB F (.eD d (.fX imp t (.aL d) c e)) U) h V1:=by
 obtain⟨ys,h2,e1,rfl,q⟩:=w.ex;have e2:aB F (.fX imp t (.aL d) c e) U h = .ok (.ref h.nx) ((h.put n (.bJ kvs)).new (.lst true ys)):=by show M.bind (bD F (.aL d) U) _ h=_;simp only[M.bind,Xo hd ho,e1,eB];rfl
 have e3:=RU (kv':=kvs) hd ho e2 (by simp[AH.new,AH.put,Nat.ne_of_lt hn]);show We Xc (gW (aB F d) (aB F (.fX imp t (.aL d) c e)) U) h V1;unfold We;rw[e3,RX ho hn];exact q
theorem Xg{cs:List Nat}{f:Str}{o:Ex}{n c:Nat}{fs:List (Str×AV)}{v:AV}(ho:aB F o U h = .ok (.ref n) h)(e:h.ob n=some (.ins c fs))(hc:cs.contains c=true)(l:fs.lookup f=some v):aB F (.fld cs f o) U h = .ok v h:=by show M.bind (aB F o U) (oR cs f) h=_;simp only[M.bind,ho,oR,e,hc,l,if_true]
theorem TB{i:Nat}{v:AV}(e:U[i]?=some (some v)):aB F (.var i) U h = .ok v h:=by show oT i U h=_;simp only[oT,e,M.ret]
theorem VO{k:Kc}{a:Ex}(w:We Xc (aB F a U) h λx h1=>We Xc (k.g x) h1 V1):We Xc (aB F (.kc k a) U) h V1:=aQ w
theorem UP{n:Nat}{kvs:List (aC×AV)}{ns:List Int}(e:h.ob n=some (.aL kvs))(hk:kvs.map (·.1)=ns.map Sum.inl)(hn:ns.length<64)(q:V1 (.ref h.nx) (h.new (.lst true ((fN false ns).map AV.int)))):We Xc (Kc.sd.g (.ref n)) h V1:=by unfold We Kc.g;simp only[e,Kc.gd,hk,Jk,if_pos hn];exact q
theorem UQ{n:Nat}{b:Bool}{ns:List Int}(e:h.ob n=some (.lst b (ns.map AV.int)))(hn:ns.length<64)(q:V1 (.ref h.nx) (h.new (.lst true ((fN false ns).map AV.int)))):We Xc (Kc.sd.g (.ref n)) h V1:=by unfold We Kc.g;simp only[e,Kc.gl,Ji,if_pos hn];exact q
theorem PL{α:Type}{f:α->AV}{t:α->Int}{xs ys:List α}(hp:ys.Perm xs)(hi:(ys.map t).Pairwise (·<·)):eV (xs.map t) (xs.map f)=ys.map f:=by
 have hnd:(xs.map t).Nodup:=(hp.map t).nodup_iff.mp (hi.imp λh=>by omega);have e1:(ys.map λy=>(t y,f y)).map (·.2)=ys.map f:=by rw[List.map_map];rfl
 rw[<- e1];refine(Cz hnd ?_ ?_).symm
 .have:∀l:List α,(l.map t).zip (l.map f)=l.map λy=>(t y,f y):=λl=>by
   induction l with
   |nil=>rfl|cons x l ih=>rw[List.map_cons,List.map_cons,List.map_cons,List.zip_cons_cons,ih]
  rw[this];exact hp.map _
 .rw[List.pairwise_map];exact(List.pairwise_map.mp hi).imp λh=>by omega
end
end AM
namespace AMx
open PySem PySem.Spec PyProof.Rows L2 AM
def _root_.qMB:List Stmt:=PySem.Challenge.pw_aheadmill_k27_benches.main.body
def top(i:Nat):Stmt:=qMB.getD i (.Pass ⟨0,0,0,0⟩)
noncomputable abbrev Wu:Nat:=0
noncomputable abbrev gT:Stmt:=top 13
def qG:Df:=⟨"_law_cell_at","_law_cell_at",gT,["_law_script","_law_k"],["_law_script","_law_k"]⟩
noncomputable abbrev Wx:Nat:=1
noncomputable abbrev lQ:Stmt:=top 14
def qH:Df:=⟨"_law_mixed","_law_mixed",lQ,["_law_cell","_law_k","_law_by","_law_prime"],["_law_cell","_law_k","_law_by","_law_prime"]⟩
noncomputable abbrev XS:Nat:=2
noncomputable abbrev mC:Stmt:=top 15
def qR:Df:=⟨"_law_whole","_law_whole",mC,["_law_found"],["_law_found"]⟩
noncomputable abbrev uL:Nat:=3
noncomputable abbrev mF:Stmt:=top 16
def qT:Df:=⟨"_law_alike","_law_alike",mF,["_law_found","_law_due","_law_one","_law_other"],["_law_found","_law_due"]⟩
noncomputable abbrev Xb:Nat:=4
noncomputable abbrev mG:Stmt:=top 17
def qU:Df:=⟨"_law_table","_law_table",mG,["_law_one","_law_other","_law_pairs","_law_k","_law_number"],["_law_one","_law_other"]⟩
noncomputable abbrev Wv:Nat:=5
noncomputable abbrev mH:Stmt:=top 18
def qV:Df:=⟨"_law_free","_law_free",mH,["_law_table_here","_law_work","_law_group"],["_law_table_here","_law_work","_law_group"]⟩
noncomputable abbrev Hv:Nat:=6
noncomputable abbrev mI:Stmt:=top 19
def qW:Df:=⟨"_law_class","_law_class",mI,["_law_caught","_law_busy"],["_law_caught","_law_busy"]⟩
noncomputable abbrev Wy:Nat:=7
noncomputable abbrev mJ:Stmt:=top 20
def qX:Df:=⟨"_law_refused","_law_refused",mJ,["_law_benches","_law_ticket_here","_law_group","_law_turn","_law_busy","_law_caught","error"],["_law_benches","_law_ticket_here","_law_group","_law_turn","_law_busy"]⟩
noncomputable abbrev Wz:Nat:=8
noncomputable abbrev mK:Stmt:=top 21
def qY:Df:=⟨"_law_refused_by_any","_law_refused_by_any",mK,["_law_benches","_law_ticket_here","_law_group","_law_turn"],["_law_benches","_law_ticket_here","_law_group","_law_turn"]⟩
noncomputable abbrev Xd:Nat:=9
noncomputable abbrev mL:Stmt:=top 22
def qZ:Df:=⟨"_law_ticket","_law_ticket",mL,["_law_work","_law_number"],["_law_work","_law_number"]⟩
noncomputable abbrev Xa:Nat:=10
noncomputable abbrev lR:Stmt:=top 23
def qI:Df:=⟨"_law_started","_law_started",lR,["_law_benches","_law_table_here","_law_work","_law_ticket_here","_law_spot","_law_group","_law_turn","_law_there","_law_due"],["_law_benches","_law_table_here","_law_work","_law_ticket_here","_law_spot"]⟩
noncomputable abbrev Wr:Nat:=11
noncomputable abbrev lS:Stmt:=top 24
def qJ:Df:=⟨"_law_asked","_law_asked",lS,["_law_benches","_law_table_here","_law_work","_law_group"],["_law_benches","_law_table_here","_law_work","_law_group"]⟩
noncomputable abbrev Ww:Nat:=12
noncomputable abbrev lT:Stmt:=top 25
def qK:Df:=⟨"_law_gone","_law_gone",lT,["_law_benches","_law_work","_law_turn","_law_held","_law_due","_law_found"],["_law_benches","_law_work","_law_turn","_law_held"]⟩
noncomputable abbrev Xf:Nat:=13
noncomputable abbrev lU:Stmt:=top 26
def qL:Df:=⟨"_law_turned","_law_turned",lU,["_law_benches","_law_work","_law_turn","_law_number","_law_held"],["_law_benches","_law_work","_law_turn","_law_number","_law_held"]⟩
noncomputable abbrev Wq:Nat:=14
noncomputable abbrev lV:Stmt:=top 27
def qM:Df:=⟨"_law_all","_law_all",lV,["_law_table_here","_law_begin","_law_cells","_law_benches","_law_work","_law_turn","_law_held","_law_k","_law_cell","_law_number","_law_part","_law_group","_law_found","_law_due"],["_law_table_here","_law_begin","_law_cells"]⟩
noncomputable abbrev Wo:Nat:=15
noncomputable abbrev lW:Stmt:=top 28
def oM:Df:=⟨"law","law",lW,["_law_script","_law_table_here","_law_begin"],["_law_script"]⟩
noncomputable abbrev Wk:Nat:=16
noncomputable abbrev lX:Stmt:=(wU (top 11)).getD 0 (.Pass ⟨0,0,0,0⟩)
def qN:Df:=⟨"__init__","Benches.__init__",lX,["self","table"],["self","table"]⟩
noncomputable abbrev Wn:Nat:=17
noncomputable abbrev lY:Stmt:=(wU (top 11)).getD 1 (.Pass ⟨0,0,0,0⟩)
def qO:Df:=⟨"free","Benches.free",lY,["self","group","there"],["self","group"]⟩
noncomputable abbrev Hu:Nat:=18
noncomputable abbrev lZ:Stmt:=(wU (top 11)).getD 2 (.Pass ⟨0,0,0,0⟩)
def qP:Df:=⟨"start","Benches.start",lZ,["self","ticket","group","turn","due"],["self","ticket","group","turn"]⟩
noncomputable abbrev Wm:Nat:=19
noncomputable abbrev mB:Stmt:=(wU (top 11)).getD 3 (.Pass ⟨0,0,0,0⟩)
def qQ:Df:=⟨"done","Benches.done",mB,["self","turn","tickets","ticket"],["self","turn"]⟩
noncomputable abbrev Wl:Nat:=20
noncomputable abbrev mD:Stmt:=(wU (top 11)).getD 4 (.Pass ⟨0,0,0,0⟩)
def qS:Df:=⟨"busy","Benches.busy",mD,["self"],["self"]⟩
noncomputable abbrev XR:Nat:=21
noncomputable abbrev mE:Stmt:=(wU (top 11)).getD 5 (.Pass ⟨0,0,0,0⟩)
def uH:Df:=⟨"throw","Benches.throw",mE,["self","ticket","tickets","other"],["self","ticket"]⟩
def Ez:bI:=(.cons (.ite (.cmp .lt (.var 1) (.bi .len (.cons (.var 0) .nil)))
 (.cons (.ret (.op .ix (.var 0) (.var 1))) .nil)
 .nil) (.cons (.ret (.val (.int 0))) .nil))
def Fe:bI:=(.cons (.ret (.op .mod (.op .mul (.op .add (.op .add (.op .mod (.var 0) (.op .pow (.val (.int 10)) (.val (.int 20)))) (.op .mul (.var 1) (.var 1))) (.val (.int 1))) (.var 2)) (.var 3))) .nil)
def Fm:bI:=(.cons (.ret (.and (.iD .int (.var 0)) (.not (.iD .bl (.var 0))))) .nil)
def fe:bI:=(.cons (.ite (.iD .int (.var 1))
 (.cons (.ret (.and (.call 2 (.cons (.var 0) .nil)) (.cmp .eq (.var 0) (.var 1)))) .nil)
 .nil) (.cons (.ite (.iD .tup (.var 1))
 (.cons (.ite (.not (.iD .tup (.var 0)))
 (.cons (.ret (.val (.bl false))) .nil)
 .nil) .nil)
 (.cons (.ite (.not (.iD .lst (.var 0)))
 (.cons (.ret (.val (.bl false))) .nil)
 .nil) .nil)) (.cons (.ite (.cmp .ne (.bi .len (.cons (.var 0) .nil)) (.bi .len (.cons (.var 1) .nil)))
 (.cons (.ret (.val (.bl false))) .nil)
 .nil) (.cons (.mU (.tup 2 (.cons (.nm 2) (.cons (.nm 3) .nil))) (.zip (.cons (.var 0) (.cons (.var 1) .nil)))
 (.cons (.ite (.not (.call 3 (.cons (.var 2) (.cons (.var 3) .nil))))
 (.cons (.ret (.val (.bl false))) .nil)
 .nil) .nil)) (.cons (.ret (.val (.bl true))) .nil)))))
def Fi:bI:=(.cons (.asg (.nm 2) (.lst .nil)) (.cons (.mU (.nm 3) (.pq (.cons (.op .add (.val (.int 1)) (.op .mod (.var 0) (.val (.int 8)))) .nil))
 (.cons (.asg (.nm 4) (.call 1 (.cons (.var 1) (.cons (.var 3) (.cons (.val (.int 40692)) (.cons (.val (.int 2147483587)) .nil)))))) (.cons (.expr (.app (.var 2) (.tup (.cons (.op .add (.val (.int 1)) (.op .mod (.var 4) (.op .ix (.lst (.cons (.val (.int 8)) (.cons (.val (.int 2)) .nil))) (.op .mod (.op .fdiv (.var 0) (.val (.int 8))) (.val (.int 2)))))) (.cons (.op .add (.val (.int 1)) (.op .mod (.op .fdiv (.var 4) (.val (.int 8))) (.val (.int 16)))) .nil))))) .nil))) (.cons (.ret (.bi .tuple (.cons (.var 2) .nil))) .nil)))
def Fc:bI:=(.cons (.ret (.op .sub (.op .ix (.op .ix (.var 0) (.var 2)) (.val (.int 0))) (.bi .len (.cons (.fX [none,some 2] (.nm 0) (.seq (.var 1)) (.cmp .eq (.op .ix (.var 0) (.val (.int 1))) (.var 1)) (.var 0)) .nil)))) .nil)
def Fb:bI:=(.cons (.ite (.or (.cmp .xA (.var 0) (.val .aE)) (.or (.not (.cJ [(3,true),(4,true)] (.var 0))) (.not (.cJ [(3,true),(4,true)] (.var 0)))))
 (.cons (.ret (.val (.bl false))) .nil)
 .nil) (.cons (.ite (.or (.cmp .ne (.cJ [(3,false),(4,true)] (.var 0)) (.var 1)) (.cmp .eq (.cJ [(3,true),(4,false)] (.var 0)) (.var 1)))
 (.cons (.ret (.val (.bl false))) .nil)
 .nil) (.cons (.ite (.or (.cJ [(3,false),(4,false)] (.var 0)) (.or (.cJ [(3,false),(4,false)] (.var 0)) (.cJ [(3,false),(4,false)] (.var 0))))
 (.cons (.ret (.val (.bl false))) .nil)
 .nil) (.cons (.ret (.and (.not (.cJ [(3,false),(4,false)] (.var 0))) (.and (.not (.cJ [(3,false),(4,false)] (.var 0))) (.not (.cJ [(3,false),(4,false)] (.var 0)))))) .nil))))
def Ff:bI:=(.cons (.asg (.nm 5) (.val .aE)) (.cons (.dh (some none) (.fS "start" [(9,18)] (.var 0) (.cons (.var 1) (.cons (.var 2) (.cons (.var 3) .nil))))
 (.cons [(3,false),(4,true)] (some 6) (.cons (.asg (.nm 5) (.var 6)) .nil) (.cons [(3,true),(4,false)] (some 6) (.cons (.asg (.nm 5) (.var 6)) .nil) .nil))) (.cons (.ret (.call 6 (.cons (.var 5) (.cons (.var 4) .nil)))) .nil)))
def Fg:bI:=(.cons (.dh (some none) (.fS "start" [(9,18)] (.var 0) (.cons (.var 1) (.cons (.var 2) (.cons (.var 3) .nil))))
 (.cons [(3,true),(4,true)] none (.cons (.ret (.val (.bl true))) .nil) .nil)) (.cons (.ret (.val (.bl false))) .nil))
def Fj:bI:=(.cons (.ite (.and (.cmp .eq (.op .mod (.var 1) (.val (.int 4))) (.val (.int 1))) (.cmp .gt (.bi .len (.cons (.var 0) .nil)) (.val (.int 0))))
 (.cons (.ret (.op .ix (.op .ix (.var 0) (.op .mod (.op .fdiv (.var 1) (.val (.int 4))) (.bi .len (.cons (.var 0) .nil)))) (.val (.int 0)))) .nil)
 .nil) (.cons (.ite (.cmp .eq (.op .mod (.var 1) (.val (.int 8))) (.val (.int 2)))
 (.cons (.ret (.op .sub (.op .pow (.val (.int 10)) (.val (.int 18))) (.op .mod (.op .fdiv (.var 1) (.val (.int 8))) (.val (.int 50))))) .nil)
 .nil) (.cons (.ret (.op .mod (.op .fdiv (.var 1) (.val (.int 8))) (.val (.int 90)))) .nil)))
def Fh:bI:=(.cons (.asg (.tup 2 (.cons (.nm 5) (.cons (.nm 6) .nil))) (.var 4)) (.cons (.asg (.nm 7) (.cmp .wZ (.var 3) (.uD [none] (.nm 0) (.seq (.var 2)) (.op .ix (.var 0) (.val (.int 0)))))) (.cons (.ite (.or (.var 7) (.cmp .eq (.call 5 (.cons (.var 1) (.cons (.var 2) (.cons (.var 5) .nil)))) (.val (.int 0))))
 (.cons (.ite (.not (.call 7 (.cons (.var 0) (.cons (.var 3) (.cons (.var 5) (.cons (.var 6) (.cons (.not (.var 7)) .nil)))))))
 (.cons (.ret (.val .aE)) .nil)
 .nil) (.cons (.ite (.not (.call 8 (.cons (.var 0) (.cons (.var 3) (.cons (.var 5) (.cons (.var 6) .nil))))))
 (.cons (.ret (.val .aE)) .nil)
 .nil) (.cons (.ret (.var 2)) .nil)))
 .nil) (.cons (.asg (.nm 8) (.op .add (.var 6) (.op .ix (.op .ix (.var 1) (.var 5)) (.val (.int 1))))) (.cons (.ite (.not (.call 3 (.cons (.fS "start" [(9,18)] (.var 0) (.cons (.var 3) (.cons (.var 5) (.cons (.var 6) .nil)))) (.cons (.var 8) .nil))))
 (.cons (.ret (.val .aE)) .nil)
 .nil) (.cons (.ret (.kc .sd (.op .add (.var 2) (.lst (.cons (.tup (.cons (.var 3) (.cons (.var 5) (.cons (.var 8) .nil)))) .nil))))) .nil))))))
def Ey:bI:=(.cons (.ite (.not (.call 3 (.cons (.fS "free" [(9,17)] (.var 0) (.cons (.var 3) .nil)) (.cons (.call 5 (.cons (.var 1) (.cons (.var 2) (.cons (.var 3) .nil)))) .nil))))
 (.cons (.ret (.val (.bl false))) .nil)
 .nil) (.cons (.ret (.call 3 (.cons (.fS "busy" [(9,20)] (.var 0) .nil) (.cons (.var 2) .nil)))) .nil))
def Fd:bI:=(.cons (.asg (.nm 4) (.fX [none,some 2] (.nm 0) (.seq (.var 1)) (.cmp .le (.op .ix (.var 0) (.val (.int 2))) (.var 1)) (.op .ix (.var 0) (.val (.int 0))))) (.cons (.asg (.nm 5) (.fS "done" [(9,19)] (.var 0) (.cons (.var 2) .nil))) (.cons (.ite (.not (.call 3 (.cons (.var 5) (.cons (.var 4) .nil))))
 (.cons (.ret (.val .aE)) .nil)
 .nil) (.cons (.expr (.app (.var 3) (.tup (.cons (.var 5) (.cons (.var 4) .nil))))) (.cons (.ret (.fX [none,some 2] (.nm 0) (.seq (.var 1)) (.cmp .gt (.op .ix (.var 0) (.val (.int 2))) (.var 1)) (.var 0))) .nil)))))
def Fl:bI:=(.cons (.asg (.nm 2) (.op .add (.var 2) (.op .mod (.var 3) (.val (.int 5))))) (.cons (.ite (.cmp .eq (.op .mod (.op .fdiv (.var 3) (.val (.int 5))) (.val (.int 6))) (.val (.int 3)))
 (.cons (.asg (.nm 2) (.bi .max (.cons (.val (.int 0)) (.cons (.op .sub (.var 2) (.op .mod (.op .fdiv (.var 3) (.val (.int 30))) (.val (.int 9)))) .nil)))) .nil)
 .nil) (.cons (.ite (.cmp .eq (.op .mod (.op .fdiv (.var 3) (.val (.int 5))) (.val (.int 2))) (.val (.int 1)))
 (.cons (.asg (.nm 1) (.call 12 (.cons (.var 0) (.cons (.var 1) (.cons (.var 2) (.cons (.var 4) .nil)))))) .nil)
 .nil) (.cons (.ret (.tup (.cons (.var 2) (.cons (.var 1) .nil)))) .nil))))
def ff:bI:=(.cons (.asg (.nm 3) (.make 9 16 [] (.cons (.var 0) .nil))) (.cons (.asg (.nm 4) (.lst .nil)) (.cons (.asg (.nm 5) (.var 1)) (.cons (.asg (.nm 6) (.lst .nil)) (.cons (.mU (.tup 2 (.cons (.nm 7) (.cons (.nm 8) .nil))) (.enum (.var 2))
 (.cons (.asg (.nm 9) (.call 1 (.cons (.var 8) (.cons (.var 7) (.cons (.val (.int 48271)) (.cons (.val (.int 2147483647)) .nil)))))) (.cons (.asg (.nm 10) (.call 1 (.cons (.var 8) (.cons (.var 7) (.cons (.val (.int 69621)) (.cons (.val (.int 2147483629)) .nil)))))) (.cons (.asg (.tup 2 (.cons (.nm 5) (.cons (.nm 4) .nil))) (.call 13 (.cons (.var 3) (.cons (.var 4) (.cons (.var 5) (.cons (.var 10) (.cons (.var 6) .nil))))))) (.cons (.ite (.cmp .xA (.var 4) (.val .aE))
 (.cons (.ret (.val (.bl false))) .nil)
 .nil) (.cons (.asg (.nm 11) (.op .mod (.op .fdiv (.var 9) (.val (.int 1024))) (.bi .len (.cons (.var 0) .nil)))) (.cons (.asg (.nm 4) (.call 10 (.cons (.var 3) (.cons (.var 0) (.cons (.var 4) (.cons (.call 9 (.cons (.var 4) (.cons (.var 9) .nil))) (.cons (.tup (.cons (.var 11) (.cons (.var 5) .nil))) .nil))))))) (.cons (.ite (.or (.cmp .xA (.var 4) (.val .aE)) (.not (.call 11 (.cons (.var 3) (.cons (.var 0) (.cons (.var 4) (.cons (.op .mod (.op .fdiv (.var 10) (.val (.int 300))) (.bi .len (.cons (.var 0) .nil))) .nil)))))))
 (.cons (.ret (.val (.bl false))) .nil)
 .nil) (.cons (.ite (.or (.cmp .eq (.op .mod (.var 7) (.val (.int 8))) (.val (.int 0))) (.cmp .eq (.var 7) (.op .sub (.bi .len (.cons (.var 2) .nil)) (.val (.int 1)))))
 (.cons (.expr (.app (.var 6) (.tup (.cons (.fS "busy" [(9,20)] (.var 3) .nil) (.cons (.bi .list (.cons (.var 4) .nil)) .nil))))) .nil)
 .nil) .nil))))))))) (.cons (.mU (.tup 2 (.cons (.nm 12) (.cons (.nm 13) .nil))) (.seq (.var 6))
 (.cons (.ite (.not (.call 3 (.cons (.var 12) (.cons (.var 13) .nil))))
 (.cons (.ret (.val (.bl false))) .nil)
 .nil) .nil)) (.cons (.expr (.clear (.op .ix (.op .ix (.var 6) (.neg (.val (.int 1)))) (.val (.int 0))))) (.cons (.ret (.call 11 (.cons (.var 3) (.cons (.var 0) (.cons (.var 4) (.cons (.val (.int 0)) .nil)))))) .nil))))))))
def qB:bI:=(.cons (.asg (.nm 1) (.call 4 (.cons (.call 0 (.cons (.var 0) (.cons (.val (.int 0)) .nil))) (.cons (.call 0 (.cons (.var 0) (.cons (.val (.int 1)) .nil))) .nil)))) (.cons (.asg (.nm 2) (.val (.int 0))) (.cons (.ite (.cmp .eq (.op .mod (.call 0 (.cons (.var 0) (.cons (.val (.int 2)) .nil))) (.val (.int 3))) (.val (.int 1)))
 (.cons (.asg (.nm 2) (.op .mod (.op .fdiv (.call 0 (.cons (.var 0) (.cons (.val (.int 2)) .nil))) (.val (.int 3))) (.op .pow (.val (.int 10)) (.val (.int 17))))) .nil)
 .nil) (.cons (.ite (.not (.call 14 (.cons (.var 1) (.cons (.var 2) (.cons (.op .add (.slice (.var 0) (.val (.int 3)) (.val (.int 63))) (.lst (.cons (.val (.int 5)) .nil))) .nil)))))
 (.cons (.ret (.val (.bl false))) .nil)
 .nil) (.cons (.ret (.call 14 (.cons (.tup (.cons (.tup (.cons (.val (.int 1)) (.cons (.val (.int 1)) .nil))) .nil)) (.cons (.var 2) (.cons (.op .add (.slice (.var 0) (.val (.int 3)) (.val (.int 8))) (.lst (.cons (.val (.int 8)) .nil))) .nil))))) .nil)))))
def Es:bI:=(.cons (.zN [9] "table" (.var 0) (.bi .tuple (.cons (.var 1) .nil))) (.cons (.zN [9] "working" (.var 0) .zL) .nil))
def Ew:bI:=(.cons (.asg (.nm 2) (.eD (.fld [9] "working" (.var 0)) (.fX [none,some 1,some 0] (.nm 0) (.aL (.fld [9] "working" (.var 0))) (.cmp .eq (.op .ix (.op .ix (.fld [9] "working" (.var 2)) (.var 0)) (.val (.int 0))) (.var 1)) (.var 0)))) (.cons (.ret (.op .sub (.op .ix (.op .ix (.fld [9] "table" (.var 0)) (.var 1)) (.val (.int 0))) (.bi .len (.cons (.var 2) .nil)))) .nil))
def fc:bI:=(.cons (.ite (.cmp .wZ (.var 1) (.fld [9] "working" (.var 0)))
 (.cons (.raise 3 (.cons (.val (.str "the ticket is at work already")) .nil)) .nil)
 .nil) (.cons (.ite (.cmp .le (.fS "free" [(9,17)] (.var 0) (.cons (.var 2) .nil)) (.val (.int 0)))
 (.cons (.raise 4 (.cons (.val (.str "no bench of the group is free")) .nil)) .nil)
 .nil) (.cons (.asg (.nm 4) (.op .add (.var 3) (.op .ix (.op .ix (.fld [9] "table" (.var 0)) (.var 2)) (.val (.int 1))))) (.cons (.asg (.sub (.fld [9] "working" (.var 0)) (.var 1)) (.tup (.cons (.var 2) (.cons (.var 4) .nil)))) (.cons (.ret (.var 4)) .nil)))))
def Eu:bI:=(.cons (.asg (.nm 2) (.kc .sd (.eD (.fld [9] "working" (.var 0)) (.fX [none,some 0,some 1] (.nm 0) (.aL (.fld [9] "working" (.var 0))) (.cmp .le (.op .ix (.op .ix (.fld [9] "working" (.var 1)) (.var 0)) (.val (.int 1))) (.var 2)) (.var 0))))) (.cons (.mU (.nm 3) (.seq (.var 2))
 (.cons (.expr (.dm .pop (.fld [9] "working" (.var 0)) (.cons (.var 3) .nil))) .nil)) (.cons (.ret (.var 2)) .nil)))
def Et:bI:=(.cons (.ret (.uD [none,some 0] (.nm 0) (.seq (.kc .sd (.fld [9] "working" (.var 0)))) (.op .add (.tup (.cons (.var 0) .nil)) (.op .ix (.fld [9] "working" (.var 1)) (.var 0))))) .nil)
def Sf:bI:=(.cons (.asg (.nm 2) (.eD (.fld [9] "working" (.var 0)) (.fX [none,some 1] (.nm 0) (.aL (.fld [9] "working" (.var 0))) (.cmp .ge (.var 0) (.var 1)) (.var 0)))) (.cons (.mU (.nm 3) (.seq (.var 2))
 (.cons (.expr (.dm .pop (.fld [9] "working" (.var 0)) (.cons (.var 3) .nil))) .nil)) (.cons (.ret (.bi .len (.cons (.var 2) .nil))) .nil)))
def dG:List (Nat×Nat×bI):=[(2,2,Ez),(4,4,Fe),(1,1,Fm),(2,4,fe),(2,5,Fi),(3,3,Fc),(2,2,Fb),(5,7,Ff),(4,4,Fg),(2,2,Fj),(5,9,Fh),(4,4,Ey),(4,6,Fd),(5,5,Fl),(3,14,ff),(1,3,qB),(2,2,Es),(2,3,Ew),(4,5,fc),(2,4,Eu),(1,1,Et),(2,4,Sf)]
noncomputable abbrev pg:Pg:=λi=>dG[i]?
end AMx
open AM
local macro_rules | `(tactic| walk_at "am1")=>`(tactic| with_reducible first
 |refine wc_2_64 ?_|refine TN ?_|refine wc_10_30 ?_|refine wc_10_39 ?_|refine wc_10_40 ?_|refine wc_10_59 ?_|refine wc_10_60 ?_|refine TM ?_|refine wc_10_15 ?_|refine TK ?_|refine WC ?_|refine WM ?_|refine WS ?_|refine WN ?_|refine WL ?_|refine WD ?_|refine WB ?_|refine ws_pass ?_|refine ws_retN ?_|refine wD ?_|refine qx ?_|refine VF ?_|refine WW ?_|refine VZ ?_|refine WA ?_|refine VD ?_|refine VC ?_|refine VM ?_|refine VN ?_|refine VA ?_|refine wp_or ?_|refine VT ?_|refine VS ?_|refine wp_ite ?_|refine wp_chain ?_|refine VX ?_|refine VP ?_|refine VV ?_|refine VB ?_|refine wp_get ?_|refine wt_chain ?_|refine WZ ?_|refine WU ?_|refine XA ?_|refine XB ?_|refine WV ?_|refine wt_bi ?_|refine WX ?_|refine WY ?_|refine WR ?_|refine WT ?_|refine wc_call ?_|refine TQ ?_|refine WH ?_|refine WI ?_|refine wt_op ?_|refine TR ?_|refine US ?_|refine UI ?_|refine UE ?_|refine UB ?_|refine wg_ge ?_|refine TZ ?_|refine UO ?_|refine wg_eqs ?_|refine wg_nes ?_|refine UC ?_|refine wg_isn ?_|refine UN ?_|refine UT ?_|refine wg_tri ?_|refine wg_band ?_|refine wg_bor ?_|refine wg_bxor ?_|refine wg_inti ?_|refine wg_intb ?_|refine wg_min ?_|refine UJ ?_|refine wp_no ?_|refine Qv ?_|refine Qu ?_|refine wa_sub ?_|refine Qt ?_|refine WE ?_|refine UY ?_|refine UX ?_|refine wi_rng2 ?_|refine UW ?_|refine UZ ?_|refine wi_tup ?_|refine VG ?_|refine VH ?_|refine TF ?_|refine wa_ct2 ?_|refine ws_par ?_|refine VL ?_|refine VJ ?_|refine VI ?_|refine wp_disp ?_|refine VR ?_|refine VQ ?_|refine wp_isc ?_|refine wp_cmeth ?_|refine wt_fld ?_|refine wt_meth ?_|refine wt_isc ?_|refine WG ?_|refine ws_fadd ?_|refine VE ?_|refine wp_popL ?_|refine wp_zf ?_|refine wp_join ?_|refine ws_while ?_|refine VO ?_|refine wp_sk ?_|refine wt_kc ?_|refine ws_brk ?_|refine ws_cnt ?_)
local macro_rules | `(tactic| walk_at "am")=>`(tactic| first
 |walk_at "am1"
 | ((with_reducible refine' VY ?k1 ?_);(case k1=>exact rfl))
 | ((with_reducible refine' UK ?k1 ?_);(case k1=>first|decide|omega|(simp only[List.length_map];omega)))
 | ((with_reducible refine' UA ?k1 ?_);(case k1=>first|decide|rfl))
 | ((with_reducible refine' qw ?k1 ?_);(case k1=>first|decide|rfl))
 | ((with_reducible refine' UL ?k1 ?_);(case k1=>first|decide|rfl|(apply BG<;>omega)|(apply mulOk_l<;>omega)|(apply mulOk_big<;>omega)))
 | ((with_reducible refine' VU ?k1 ?_);(case k1=>intro _;rfl))
 | ((with_reducible refine' qv ?k1 ?_);(case k1=>exact rfl))
 | ((with_reducible refine' UD ?k1 ?k2 ?_);(case k1=>first|assumption|exact cZ);(case k2=>exact rfl))
 | ((with_reducible refine' WK ?k1 ?_);(case k1=>rfl))
 | ((with_reducible refine' WJ ?k1 ?_);(case k1=>rfl))
 | ((with_reducible refine' Qx ?k1 ?k2 ?k3 ?_);(case k1=>assumption);(case k2=>rfl);(case k3=>rfl))
 | ((with_reducible refine' wg_isc ?k1 ?k2 ?_);(case k1=>assumption);(case k2=>rfl))
 | ((with_reducible refine' ws_aug ?k1 ?_);(case k1=>exact rfl))
 | ((with_reducible refine' pT ?k1 ?k2 ?_);(case k1=>first|exact rfl|exact mM (by assumption));(case k2=>exact rfl))
 | ((with_reducible refine' Qy ?k1 ?k2 ?_);(case k1=>first|exact rfl|exact mM (by assumption));(case k2=>first|decide +kernel|rfl))
 | ((with_reducible refine' wg_nin ?k1 ?k2 ?_);(case k1=>first|exact rfl|exact mM (by assumption));(case k2=>first|decide +kernel|rfl))
 | ((with_reducible refine' UG ?k1 ?_);(case k1=>first|exact rfl|exact mM (by assumption)))
 | ((with_reducible refine' UU ?k1 ?_);(case k1=>first|exact rfl|exact mM (by assumption)))
 | ((with_reducible refine' Qw ?k1 ?k2 ?_);(case k1=>exact rfl);(case k2=>exact rfl))
 | ((with_reducible refine' TY ?k1 ?_);(case k1=>exact rfl))
 | ((with_reducible refine' UM ?k1 ?_);(case k1=>exact rfl)))
local macro_rules | `(tactic| walk_at "user0")=>`(tactic| fail)
local macro_rules | `(tactic| walk_at "w")=>`(tactic| repeat' walk_at "amb")
local macro_rules | `(tactic| walk_at "amb")=>`(tactic| first
 |walk_at "am"
 |with_reducible refine Wg ?_
 |with_reducible refine Wi ?_
 |with_reducible refine ex_zip ?_
 |with_reducible refine ex_glb ?_
 |with_reducible refine ex_si ?_
 | ((with_reducible refine' Wj ?k1 ?_);(case k1=>first|decide|(apply ND<;>omega)))
 | ((with_reducible refine' Wh ?k1 ?_);(case k1=>first|decide|(simp only[List.length_cons,List.length_nil];decide)))
 | ((with_reducible refine' Yo ?k1 ?_);(case k1=>first|decide|omega))
 | ((with_reducible refine' Yn ?k1 ?_);(case k1=>first|decide|omega))
 | ((with_reducible refine' Yp ?k1 ?_);(case k1=>first|decide|omega))
 | ((with_reducible refine' if_ndf ?k1 ?_);(case k1=>first|decide|omega))
 |walk_at "user0"
 |with_reducible refine Ym (λhc=>?_) (λhc=>?_)
 |with_reducible refine if_ndec (λhc=>?_) (λhc=>?_)
 |with_reducible refine if_nndec (λhc=>?_) (λhc=>?_)
 |with_reducible refine if_bne (λhc=>?_) (λhc=>?_)
 | ((with_reducible refine' Jg ?k1 ?_);(case k1=>first|decide +kernel|exact rfl))
 | ((with_reducible refine' vt ?k1 ?_);(case k1=>first|decide +kernel|exact rfl))
 |walk_at "user"
 |fail)
namespace AMx
open PySem PySem.Spec PyProof.Rows L2 AM
structure Row where
 t:Int
 g:Int
 d:Int
def rV(r:Row):AV:=.tup [.int r.t,.int r.g,.int r.d]
def dV(r:Row):aC×AV:=(.inl r.t,.tup [.int r.g,.int r.d])
def gZ(rs:List Row):Prop:=(rs.map (·.t)).Pairwise (·<·)
def Nd(rs:List Row):Prop:=(rs.map (·.t)).Nodup
theorem gZ.nd{rs:List Row}(h:gZ rs):Nd rs:=List.Pairwise.imp (λh=>by omega) h
theorem wA{rs:List Row}(hi:Nd rs){r:Row}(hr:r∈rs):bT (rs.map dV) (.inl r.t)=some (.tup [.int r.g,.int r.d]):=by
 induction rs with
 |nil=>cases hr|cons q rs ih=>
  unfold Nd at hi;rw[List.map_cons,List.nodup_cons]at hi;unfold bT;rw[List.map_cons,List.find?_cons];rcases List.mem_cons.mp hr with e|hr'
  .subst e;simp[dV]
  .have hne:decide ((dV q).1=Sum.inl r.t)=false:=by apply decide_eq_false;intro z;have e:q.t=r.t:=Sum.inl.inj z;exact hi.1 (by rw[e];exact List.mem_map.mpr ⟨r,hr',rfl⟩)
   rw[hne];exact ih hi.2 hr'
theorem Qr{rs:List Row}{x:Int}(h:∀r∈rs,r.t≠x):bT (rs.map dV) (.inl x)=none:=by unfold bT;rw[Option.map_eq_none_iff,List.find?_eq_none];intro kv hk;obtain⟨r,hr,rfl⟩:=List.mem_map.mp hk;simp only[decide_eq_true_eq];intro z;exact h r hr (Sum.inl.inj z)
theorem HA{rs:List Row}{x g d:Int}(h:∀r∈rs,r.t≠x):pD (rs.map dV) (.inl x) (.tup [.int g,.int d])=(rs++[(⟨x,g,d⟩:Row)]).map dV:=by
 unfold pD;rw[if_neg]
 .rw[List.map_append];rfl
 .intro z;rw[List.any_eq_true]at z;obtain⟨kv,hk,e⟩:=z;obtain⟨r,hr,rfl⟩:=List.mem_map.mp hk;exact h r hr (Sum.inl.inj (of_decide_eq_true e))
theorem vy{f:Row->Bool}{rs:List Row}(hi:gZ rs):gZ (rs.filter f):=List.Pairwise.sublist (List.filter_sublist.map _) hi
theorem Km{f:Row->Bool}{rs:List Row}(hi:Nd rs):Nd (rs.filter f):=List.Pairwise.sublist (List.filter_sublist.map _) hi
theorem zY{f:Row->Bool}{rs:List Row}:(rs.filter f).length<=rs.length:=List.length_filter_le _ _
def xh(t:Int)(r:Row):Bool:=decide (r.t≠t)
theorem Uz{rs:List Row}{t:Int}:oN (rs.map dV) (.inl t)=(rs.filter (xh t)).map dV:=by
 unfold oN;rw[List.filter_map];congr 1
 refine List.filter_congr λr _=>?_;show decide ((Sum.inl r.t:aC)≠Sum.inl t)=decide (r.t≠t);refine decide_eq_decide.mpr ⟨λh z=>h (congrArg _ z),λh z=>h (Sum.inl.inj z)⟩
theorem Kn{rs:List Row}(hi:Nd rs){x g d:Int}(h:∀r∈rs,r.t≠x):Nd (rs++[(⟨x,g,d⟩:Row)]):=by
 unfold Nd at *;rw[List.map_append,List.nodup_append];refine⟨hi,by simp,λa ha b hb=>?_⟩;obtain⟨r,hr,rfl⟩:=List.mem_map.mp ha;have:b=x:=by simpa using hb
 subst this;exact h r hr
structure Bn(h:AH)(a:Nat)(tb:List AV)(kb:List Row):Prop where
 oa:h.ob a=some (.ins 9 [("table",.tup tb),("working",.ref (a+1))])
 ow:h.ob (a+1)=some (.aL (kb.map dV))
 lt:a+1<h.nx
 nd:Nd kb
 eR:kb.length<64
theorem Bn.kp{h h':AH}{a:Nat}{tb:List AV}{kb:List Row}(s:Bn h a tb kb)(k:Kp h h'):Bn h' a tb kb:=
 ⟨k.get (by have:=s.lt;omega) s.oa,k.get (by have:=s.lt;omega) s.ow,by have:=k.nx;have:=s.lt;omega,s.nd,s.eR⟩
structure Ka(a:Nat)(h h':AH):Prop where
 nx:h.nx<=h'.nx
 ob:∀n,n<h.nx->n≠a+1->h'.ob n=h.ob n
theorem nA{a:Nat}{h h':AH}(k:Kp h h'):Ka a h h':=⟨k.nx,λn hn _=>k.ob n hn⟩
theorem Ka.trans{a:Nat}{h h' h'':AH}(x:Ka a h h')(y:Ka a h' h''):Ka a h h'':=⟨Nat.le_trans x.nx y.nx,λn hn a1=>(y.ob n (Nat.lt_of_lt_of_le hn x.nx) a1).trans (x.ob n hn a1)⟩
theorem wx{k:Nat}{c i b p:Int}{h:AH}{R:AV->AH->Prop}(h0:0<=i)(h1:i<1000)(hb:0<b/\b<100000)(hp:0<p)(q:∀z,0<=z->z<p->R (.int z) h):Wp (run pg (k+1) Wx [.int c,.int i,.int b,.int p]) h R:=by
 refine dO rfl rfl ?_;unfold Fe;walk_at "w"
 exact q _ (Int.emod_nonneg _ (by omega)) (Int.emod_lt_of_pos _ hp)
theorem fj{k:Nat}{ns:List Int}{i:Int}{bb:Bool}{n:Nat}{h:AH}{R:AV->AH->Prop}(hn:h.ob n=some (.lst bb (ns.map AV.int)))(h0:0<=i)(q:∀z,R (.int z) h):Wp (run pg (k+1) Wu [.ref n,.int i]) h R:=by
 refine dO rfl rfl ?_;unfold Ez;walk_at "w"
 .rename_i hc;refine pT (mM hn) (Sa h0 hc) ?_;exact q _
 .exact q _
theorem el{k:Nat}{i:Int}{h:AH}{R:AV->AH->Prop}(q:R (.bl true) h):Wp (run pg (k+2) uL [.int i,.int i]) h R:=by
 refine dO rfl rfl ?_;unfold fe;show Wt _ (cU _ _ [some (.int i),some (.int i),none,none]) _ _ _ _ _;walk_at "w"
 refine dO rfl rfl ?_;unfold Fm;walk_at "w"
 rw[decide_eq_true rfl];exact q
theorem Rw{k:Nat}{r:Row}{h:AH}{R:AV->AH->Prop}(q:R (.bl true) h):Wp (run pg (k+3) uL [rV r,rV r]) h R:=by
 obtain⟨t,p,w⟩:=r;refine dO rfl rfl ?_;unfold fe;show Wt _ (cU _ _ [some (.tup [.int t,.int p,.int w]),some (.tup [.int t,.int p,.int w]),none,none]) _ _ _ _ _;walk_at "w"
 refine⟨_,_,_,_,rfl,rfl,rfl,?_⟩;refine Xm (xs:=[.int t,.int p,.int w]) (ys:=[.int t,.int p,.int w]) (λi U h'=>h'=h/\∃a b,U=[some (.tup [.int t,.int p,.int w]),some (.tup [.int t,.int p,.int w]),a,b]) rfl (by rw[mQ];show 3<1000000;decide) ⟨rfl,_,_,rfl⟩ ?_ ?_
 .rintro i x y U h' e1 e2 ⟨rfl,a,b,rfl⟩
  rw[e1]at e2;cases e2;obtain⟨o,rfl⟩:∃o,x = .int o:=by have:=List.mem_of_getElem? e1;simp only[List.mem_cons,List.not_mem_nil,or_false]at this;rcases this with rfl|rfl|rfl<;>exact⟨_,rfl⟩
  walk_at "w"
  refine el (k:=k) ?_;walk_at "w"
  exact⟨rfl,_,_,rfl⟩
 .rintro U h' ⟨rfl,a,b,rfl⟩
  walk_at "w"
  exact q
theorem Ef{k n1 n2:Nat}{α:Type}{f:α->AV}{rs:List α}{h:AH}{R:AV->AH->Prop}(h1:h.ob n1=some (.lst true (rs.map f)))(h2:h.ob n2=some (.lst true (rs.map f)))(hl:rs.length<64)
  (hf:∀(x:α) (R':AV->AH->Prop),R' (.bl true) h->Wp (run pg k uL [f x,f x]) h R') (q:R (.bl true) h):Wp (run pg (k+1) uL [.ref n1,.ref n2]) h R:=by
 refine dO rfl rfl ?_;unfold fe;have t1:oH h (.ref n1)=some .lst:=by simp only[oH,h1]
 have t2:oH h (.ref n2)=some .lst:=by simp only[oH,h2]
 walk_at "w"
 refine qv t2 ?_;walk_at "w"
 refine qv t2 ?_;walk_at "w"
 refine qv t1 ?_;walk_at "w"
 refine⟨_,_,_,_,rfl,Il h1,Il h2,?_⟩;refine Xn (xs:=rs.map f) (ys:=rs.map f) (λi U h'=>h'=h/\∃a b,U=[some (.ref n1),some (.ref n2),a,b]) rfl (by rw[List.length_map,mQ];omega) ⟨rfl,_,_,rfl⟩ (λi U h' z=>by rw[z.1];exact⟨h1,h2⟩) ?_ ?_
 .rintro i x y U h' e1 e2 ⟨rfl,a,b,rfl⟩
  rw[e1]at e2;cases e2;obtain⟨r,_,rfl⟩:=uY e1;walk_at "w"
  refine hf _ _ ?_;walk_at "w"
  exact⟨rfl,_,_,rfl⟩
 .rintro U h' ⟨rfl,a,b,rfl⟩
  walk_at "w"
  exact q
theorem Eg{k n1 n2:Nat}{rs:List Row}{h:AH}{R:AV->AH->Prop}(h1:h.ob n1=some (.lst true (rs.map rV)))(h2:h.ob n2=some (.lst true (rs.map rV)))(hl:rs.length<64)(q:R (.bl true) h):Wp (run pg (k+4) uL [.ref n1,.ref n2]) h R:=
 Ef h1 h2 hl (λ_ _ z=>Rw z) q
theorem Eh{k n1 n2:Nat}{ts:List Int}{h:AH}{R:AV->AH->Prop}(h1:h.ob n1=some (.lst true (ts.map AV.int)))(h2:h.ob n2=some (.lst true (ts.map AV.int)))(hl:ts.length<64)(q:R (.bl true) h):Wp (run pg (k+3) uL [.ref n1,.ref n2]) h R:=
 Ef h1 h2 hl (λ_ _ z=>el z) q
local macro_rules | `(tactic| walk_at "am1")=>`(tactic| with_reducible refine TH ?_)
local macro_rules | `(tactic| walk_at "user")=>`(tactic| first
 | ((with_reducible refine' Rb ?k1 ?k2 ?k3 ?_);(case k1=>assumption);(case k2=>rfl);(case k3=>assumption))
 | ((with_reducible refine' Ra ?k1 ?k2 ?k3 ?_);(case k1=>assumption);(case k2=>rfl);(case k3=>assumption))
 | ((with_reducible refine' Qz ?k1 ?k2 ?_);(case k1=>assumption);(case k2=>rfl)))
def pV(p:Int×Int):AV:=.tup [.int p.1,.int p.2]
theorem Rj{F:AM.Run}{h:AH}{a:Nat}{tb:List AV}{kb:List Row}{U:aA}{i:Nat}(s:Bn h a tb kb)(e:U[i]?=some (some (.ref a))):aB F (.fld [9] "working" (.var i)) U h = .ok (.ref (a+1)) h:=Xg (TB e) s.oa rfl rfl
theorem Hk{Xc:Nat->AH->Prop}{F:AM.Run}{d c:Ex}{imp:List (Option Nat)}{n:Nat}{kb:List Row}{U:aA}{rest:List (Option AV)}{f:Row->Bool}{h:AH}{V1:AV->AH->Prop}(hd:aB F d U h = .ok (.ref n) h)(ho:h.ob n=some (.aL (kb.map dV)))(hn:n<h.nx)(hl:kb.length<64)(hs:gB imp U=none::rest)
  (hc:∀r∈kb,Wp (bM F c (some (.int r.t)::rest)) (h.put n (.bJ (kb.map dV))) λb h'=>b=f r/\h'=h.put n (.bJ (kb.map dV)))
  (q:V1 (.ref h.nx) (h.new (.lst true ((kb.filter f).map λr=>AV.int r.t)))):We Xc (aB F (.eD d (.fX imp (.nm 0) (.aL d) c (.var 0))) U) h V1:=by
 have big:=gH;refine VW hd ho hn ?_;rw[hs];refine Tr (λj ys U h'=>(∃v0,U=v0::rest)/\ys=(((kb.take j).filter f).map λr=>AV.int r.t)/\h'=h.put n (.bJ (kb.map dV))) (by rw[List.length_map,List.length_map,mQ];omega) ⟨⟨none,rfl⟩,rfl,rfl⟩ (λj x ys U h' hx ⟨⟨v0,e1⟩,e2,e3⟩=>?_) (λys U h' ⟨⟨v0,e1⟩,e2,e3⟩=>?_)
 .subst e1 e3;rw[List.getElem?_map,List.getElem?_map]at hx;cases hr:kb[j]? with
  |none=>rw[hr]at hx;cases hx|some r=>
   rw[hr]at hx;have hx':(dV r).1=x:=Option.some.inj hx;subst hx';have et:kb.take (j+1)=kb.take j++[r]:=by rw[List.take_add_one,hr];rfl
   have h1:((kb.take j).filter f).length<=(kb.take j).length:=List.length_filter_le _ _;have h2:(kb.take j).length<=kb.length:=by rw[List.length_take];omega
   rw[show xB (dV r).1 = .int r.t from rfl];walk_at "w"
   refine(hc r (List.mem_of_getElem? hr)).mono λb h3 ⟨e4,e5⟩=>?_;subst e4 e5;split
   .rename_i hb;walk_at "w"
    refine⟨by rw[e2,List.length_map];omega,⟨_,rfl⟩,?_,rfl⟩;rw[et,e2,List.filter_append,List.map_append,List.filter_cons,if_pos hb];rfl
   .rename_i hb;refine⟨⟨_,rfl⟩,?_,rfl⟩;rw[et,e2,List.filter_append,List.map_append,List.filter_cons,if_neg hb];simp
 .subst e1 e3;have e4:(kb.take (List.map (λx=>x.1) (List.map dV kb)).length)=kb:=by simp
  rw[e4]at e2;subst e2;exact⟨rfl,q⟩
def eA(g:Int)(r:Row):Bool:=decide (r.g=g)
theorem jk{ps:List (Int×Int)}{p:Int×Int}{i:Nat}(e:ps[i]?=some p):dF (ps.map pV) (i:Int)=some (.tup [.int p.1,.int p.2]):=Eo (by rw[List.getElem?_map,e];rfl)
theorem vg{k a i:Nat}{ps:List (Int×Int)}{p:Int×Int}{kb:List Row}{h:AH}{R:AV->AH->Prop}(s:Bn h a (ps.map pV) kb)(hp:ps[i]?=some p)(q:∀h',Kp h h'->R (.int (p.1-((kb.filter (eA i)).length:Int))) h'):Wp (run pg (k+1) Wn [.ref a,.int (i:Int)]) h R:=by
 have lt:=s.lt;have eR:=s.eR;have big:=gH;refine dO rfl rfl ?_;unfold Ew;walk_at "w"
 refine Hk (f:=eA i) (rest:=[some (.int i),some (.ref a)]) (Rj s rfl) s.ow (by omega) (by omega) rfl (λr hr=>?_) ?_
 .have ow:(h.put (a+1) (.bJ (kb.map dV))).ob (a+1)=some (.bJ (kb.map dV)):=rX;have oa:(h.put (a+1) (.bJ (kb.map dV))).ob a=some (.ins 9 [("table",.tup (ps.map pV)),("working",.ref (a+1))]):=(dY (by omega)).trans s.oa;have hv:=wA s.nd hr;generalize h.put (a+1) (.bJ (kb.map dV))=h1 at *;walk_at "w"
  exact⟨rfl,rfl⟩
 .generalize eh:h.new _=h1;have kp1:Kp h h1:=by rw[<- eh];exact Kp.refl.new
  have o1:h1.ob h.nx=some (.lst true ((kb.filter (eA i)).map λr=>AV.int r.t)):=by rw[<- eh];exact cZ
  have oa:=(s.kp kp1).oa;have pa:=jk hp;clear eh;walk_at "w"
  refine pT rfl pa ?_;walk_at "w"
  rw[List.length_map];exact q _ kp1
theorem PR{k a i:Nat}{ps:List (Int×Int)}{p:Int×Int}{kb:List Row}{t u:Int}{h:AH}{R:AV->AH->Prop}(s:Bn h a (ps.map pV) kb)(hp:ps[i]?=some p)(hl:kb.length<63)(hno:∀r∈kb,r.t≠t)(hf:((kb.filter (eA i)).length:Int)<p.1)
  (q:∀h',Ka a h h'->Bn h' a (ps.map pV) (kb++[⟨t,i,u+p.2⟩])->R (.int (u+p.2)) h'):Wp (run pg (k+2) Hu [.ref a,.int t,.int (i:Int),.int u]) h R:=by
 have lt:=s.lt;have eR:=s.eR;have big:=gH;have oa:=s.oa;have ow:=s.ow;refine dO rfl rfl ?_;unfold fc;walk_at "w"
 rw[Qr hno];walk_at "w"
 refine⟨a,9,_,17,rfl,oa,rfl,rfl,?_⟩;walk_at "w"
 refine vg (k:=k) s hp λh1 kp1=>?_;have s1:=s.kp kp1;have oa1:=s1.oa;have ow1:=s1.ow;have pa:=jk hp;clear oa ow;walk_at "w"
 all_goals first|(exfalso;omega)|skip
 refine pT rfl pa ?_;walk_at "w"
 refine⟨_,_,_,rfl,rfl,ow1,by rw[List.length_map];omega,?_⟩;rw[HA hno];walk_at "w"
 have nx1:=kp1.nx;refine q _ ⟨nx1,λn hn n1=>(dY n1).trans (kp1.ob n hn)⟩ ⟨(dY (by omega)).trans oa1,rX,by show a+1<h1.nx;omega,Kn s.nd hno,by rw[List.length_append];show kb.length+1<64;omega⟩
def jE(ts:List Int)(rs:List Row):List Row:=rs.filter λr=>!ts.contains r.t
theorem Uq{ts:List Int}{x:Int}{rs:List Row}:jE (ts++[x]) rs=(jE ts rs).filter (xh x):=by
 unfold jE;rw[List.filter_filter];refine List.filter_congr λr _=>?_;unfold xh;by_cases e:r.t=x
 .subst e;simp
 .have e':x≠r.t:=λz=>e z.symm;simp[e]
def pA(f:Row->Bool)(r:Row):Bool:=!f r
theorem BH{rs:List Row}(hd:Nd rs){r r':Row}(h:r∈rs)(h':r'∈rs)(e:r.t=r'.t):r=r':=by have h1:=wA hd h;have h2:=wA hd h';rw[e]at h1;rw[h1]at h2;obtain⟨a,b,c⟩:=r;obtain⟨a',b',c'⟩:=r';injection h2 with h3;injection h3 with h4;injection h4 with h5 h6;injection h6 with h7 h8;injection h5 with h5;injection h7 with h7;dsimp only at e h5 h7;subst e h5 h7;rfl
theorem Up{f:Row->Bool}{rs ls:List Row}(pm:rs.Perm ls)(hd:Nd rs):jE ((ls.filter f).map (·.t)) rs=rs.filter (pA f):=by
 unfold jE;refine List.filter_congr λr hr=>?_;unfold pA;congr 1
 rw[Bool.eq_iff_iff,List.contains_iff_mem];constructor
 .intro z;obtain⟨q,hq,e⟩:=List.mem_map.mp z;have hm:=List.mem_filter.mp hq;rw[<- BH hd (pm.mem_iff.mpr hm.1) hr e];exact hm.2
 .intro z;exact List.mem_map.mpr ⟨r,List.mem_filter.mpr ⟨pm.mem_iff.mp hr,z⟩,rfl⟩
theorem FZ{Xc:Nat->AH->Prop} {k:Nat} {fs:List (PySem.Str×AV)} {a d n:Nat} {ts:List Int} {rs:List Row} {v2:Option AV} {h:AH} {R:AV->AH->Prop} {N B C:aA->AH->Prop} {w1 w3:Option AV} (oa:h.ob a=some (.ins 9 fs)) (lf:fs.lookup ("working":PySem.Str)=some (.ref d)) (od:h.ob d=some (.aL (rs.map dV))) (nd:Nd rs) (on:h.ob n=some (.lst true (ts.map AV.int))) (ng:ts.Nodup) (sub:∀t∈ts,∃r∈rs,r.t=t) (ne:a≠d/\n≠d) (hl:ts.length<64)
  (q:∀h' u3,h'.nx=h.nx->(∀i,i≠d->h'.ob i=h.ob i)->h'.ob d=some (.aL ((jE ts rs).map dV))->N [some (.ref a),w1,v2,u3] h') :
  Wt Xc (fF (dX n) (hZ (run pg k) (.nm 3)) (cU (run pg k) (.cons (.expr (.dm .pop (.fld [9] "working" (.var 0)) (.cons (.var 3) .nil))) .nil)) FU 0 [some (.ref a),w1,v2,w3]) h N R B C:=by
 refine Ib (bb:=true) (xs:=ts.map AV.int) (λj U h'=>(∃u3,U=[some (.ref a),w1,v2,u3])/\h'.nx=h.nx/\(∀i,i≠d->h'.ob i=h.ob i)/\h'.ob d=some (.aL ((jE (ts.take j) rs).map dV))) (by rw[List.length_map,mQ];omega)
  ⟨⟨_,rfl⟩,rfl,λ_ _=>rfl,by rw[List.take_zero,show jE [] rs=rs by unfold jE;simp];exact od⟩ (λj U h' ⟨_,_,e',_⟩=>(e' n ne.2).trans on) (λj x U h' hx ⟨⟨u3,e1⟩,e2,e3,e4⟩=>?_) (λU h' ⟨⟨u3,e1⟩,e2,e3,e4⟩=>?_)
 .subst e1;obtain⟨t,ht,rfl⟩:=uY hx;obtain⟨r,hr,rfl⟩:=sub t (List.mem_of_getElem? ht);have oa':=(e3 a ne.1).trans oa;have et:ts.take (j+1)=ts.take j++[r.t]:=by rw[List.take_add_one,ht];rfl
  have hni:r.t∉ts.take j:=by have h2:(ts.take (j+1)).Nodup:=ng.sublist (List.take_sublist _ _);rw[et,List.nodup_append]at h2;intro z;exact h2.2.2 _ z _ (List.mem_singleton.mpr rfl) rfl
  have hmd:r∈jE (ts.take j) rs:=List.mem_filter.mpr ⟨hr,by simpa using hni⟩;walk_at "w"
  refine Qx oa' rfl lf ?_;refine⟨Uo e4,?_⟩;walk_at "w"
  refine TX e4 rfl (wA (Km nd) hmd) ?_;rw[Uz,<- Uq,<- et];walk_at "w"
  exact⟨⟨_,rfl⟩,e2,λi hi=>(dY hi).trans (e3 i hi),rX⟩
 .subst e1;rw[List.length_map,List.take_length]at e4;exact q _ _ e2 e3 e4
theorem Jh{ls:List Row}:(ls.map λr=>AV.int r.t)=(ls.map (·.t)).map AV.int:=by rw[List.map_map];rfl
theorem PN{kb ls:List Row}{f:Row->Bool}(pm:kb.Perm ls)(hi:gZ ls):fN false ((kb.filter f).map (·.t))=(ls.filter f).map (·.t):=by refine(cv (((pm.filter f).symm).map _) ?_).symm;unfold Ordered;simpa using List.Pairwise.imp (λh=>by omega) (vy (f:=f) hi)
def fB(u:Int)(r:Row):Bool:=decide (r.d<=u)
def XU(t:Int)(r:Row):Bool:=decide (r.t ≥ t)
theorem Sg{k a:Nat}{tb:List AV}{kb ls:List Row}{u:Int}{h:AH}{R:AV->AH->Prop}(s:Bn h a tb kb)(pm:kb.Perm ls)(hi:gZ ls)(q:∀m h',Ka a h h'->Bn h' a tb (kb.filter (pA (fB u)))->h.nx<=m->m<h'.nx->h'.ob m=some (.lst true (((ls.filter (fB u)).map (·.t)).map AV.int))->R (.ref m) h'):Wp (run pg (k+1) Wm [.ref a,.int u]) h R:=by
 have lt:=s.lt;have eR:=s.eR;have big:=gH;have l1:(kb.filter (fB u)).length<=kb.length:=zY;have l2:(ls.filter (fB u)).length<=ls.length:=zY;have l3:(kb.filter (pA (fB u))).length<=kb.length:=zY;have l4:=pm.length_eq;refine dO rfl rfl ?_;unfold Eu;walk_at "w"
 refine Hk (f:=fB u) (rest:=[some (.ref a),some (.int u)]) (Rj s rfl) s.ow (by omega) (by omega) rfl (λr hr=>?_) ?_
 .have ow:(h.put (a+1) (.bJ (kb.map dV))).ob (a+1)=some (.bJ (kb.map dV)):=rX;have oa:(h.put (a+1) (.bJ (kb.map dV))).ob a=some (.ins 9 [("table",.tup tb),("working",.ref (a+1))]):=(dY (by omega)).trans s.oa;have hv:=wA s.nd hr;generalize h.put (a+1) (.bJ (kb.map dV))=h1 at *;walk_at "w"
  exact⟨rfl,rfl⟩
 .rw[Jh];generalize eh:h.new _=h1;have kp1:Kp h h1:=by rw[<- eh];exact Kp.refl.new
  have o1:h1.ob h.nx=some (.lst true (((kb.filter (fB u)).map (·.t)).map AV.int)):=by rw[<- eh];exact cZ
  have nx1:h1.nx=h.nx+1:=by rw[<- eh];rfl
  clear eh;refine UQ o1 (by rw[List.length_map];omega) ?_;rw[PN pm hi,nx1];generalize eh:h1.new _=h2;have kp2:Kp h1 h2:=by rw[<- eh];exact Kp.refl.new
  have o2:h2.ob (h.nx+1)=some (.lst true (((ls.filter (fB u)).map (·.t)).map AV.int)):=by rw[<- eh,<- nx1];exact cZ
  have nx2:h2.nx=h.nx+2:=by rw[<- eh];show h1.nx+1=_;omega
  clear eh;have s2:=(s.kp kp1).kp kp2;walk_at "w"
  refine wC o2 ?_;refine FZ (d:=a+1) (ts:=(ls.filter (fB u)).map λr:Row=>r.t) s2.oa rfl s2.ow s2.nd o2 (vy hi).nd (λt ht=>?_) (by omega) (by rw[List.length_map];omega) λh3 u3 nx3 e3 o3=>?_
  .obtain⟨r,hr,e⟩:=List.mem_map.mp ht;exact⟨r,pm.mem_iff.mpr (List.mem_filter.mp hr).1,e⟩
  .rw[Up pm s.nd]at o3;walk_at "w"
   refine q _ _ ⟨by omega,λn hn n1=>?_⟩ ⟨(e3 a (by omega)).trans s2.oa,o3,by omega,Km s.nd,by omega⟩ (by omega) (by omega) ((e3 (h.nx+1) (by omega)).trans o2);rw[e3 n n1,kp2.ob n (by omega),kp1.ob n hn]
theorem Zv{rs:List Row}:(rs.map dV).map (·.1)=(rs.map (·.t)).map Sum.inl:=by rw[List.map_map,List.map_map];rfl
theorem PM{lb ls:List Row}(pm:lb.Perm ls)(hi:gZ ls):(fN false (lb.map (·.t))).map AV.int=ls.map λr=>AV.int r.t:=by
 have:fN false (lb.map (·.t))=ls.map (·.t):=by refine(cv (pm.symm.map _) ?_).symm;unfold Ordered;simpa using List.Pairwise.imp (λh=>by omega) hi
 rw[this,List.map_map];rfl
theorem Fz{k a:Nat}{tb:List AV}{kb ls:List Row}{h:AH}{R:AV->AH->Prop}(s:Bn h a tb kb)(pm:kb.Perm ls)(il:gZ ls)(q:∀m h',Kp h h'->h'.ob m=some (.lst true (ls.map rV))->h.nx<=m->m<h'.nx->R (.ref m) h'):Wp (run pg (k+1) Wl [.ref a]) h R:=by
 have oa:=s.oa;have eR:=s.eR;have big:=gH;have hpl:=pm.length_eq;refine dO rfl rfl ?_;unfold Et;walk_at "w"
 refine UP s.ow Zv (by rw[List.length_map];omega) ?_;rw[PM pm il];generalize eh:h.new _=h1;have kp:Kp h h1:=by rw[<- eh];exact Kp.refl.new
 have o1:h1.ob h.nx=some (.lst true (ls.map λr=>AV.int r.t)):=by rw[<- eh];exact cZ
 have nx1:h1.nx=h.nx+1:=by rw[<- eh];rfl
 clear eh;have s1:=s.kp kp;refine wC o1 ?_;refine Gw (bb:=true) (xs:=ls.map λr=>AV.int r.t) (λj ys U h'=>(∃v0,U=[v0,some (.ref a)])/\ys=(ls.take j).map rV/\h'=h1) (by rw[List.length_map,mQ];omega) ⟨⟨_,rfl⟩,rfl,rfl⟩ (λj ys U h' ⟨_,_,e'⟩=>by rw[e'];exact o1) (λj x ys U h' hx ⟨⟨v0,e1⟩,e2,e3⟩=>?_) (λys U h' ⟨⟨v0,e1⟩,e2,e3⟩=>?_)
 .subst e1 e3;obtain⟨r,hr,rfl⟩:=uY hx;have hv:=wA s.nd (pm.mem_iff.mpr (List.mem_of_getElem? hr));have oa1:=s1.oa;have ok1:=s1.ow;have et:(ls.take (j+1)).map rV=(ls.take j).map rV++[rV r]:=by rw[List.take_add_one,hr,List.map_append];rfl
  have hlt:(ls.take j).length<=ls.length:=by rw[List.length_take];omega
  walk_at "w"
  refine TU (by simp only[List.length_cons,List.length_nil];omega) ?_;walk_at "w"
  exact⟨by rw[e2,List.length_map];omega,⟨_,rfl⟩,by rw[et,e2];rfl,rfl⟩
 .subst e1 e3;rw[List.length_map,List.take_length]at e2;subst e2;walk_at "w"
  exact q _ _ (kp.trans Kp.refl.new) cZ (by omega) (Nat.lt_succ_self _)
theorem Yt{k a:Nat}{tb:List AV}{h:AH}{R:AV->AH->Prop}(e:h.ob a=some (.ins 9 []))(ha:h.nx=a+1)(q:∀h',h'.nx=a+2->(∀n,n<a->h'.ob n=h.ob n)->Bn h' a tb []->R .aE h'):Wp (run pg (k+1) Wk [.ref a,.tup tb]) h R:=by
 refine dO rfl rfl ?_;unfold Es;walk_at "w"
 refine⟨a,9,[],rfl,e,rfl,by decide,?_⟩;generalize eh:h.put a (.ins 9 (eY "table" (.tup tb) []))=h1;have o1:h1.ob a=some (.ins 9 [("table",.tup tb)]):=by rw[<- eh];exact rX
 have o3:∀n,n<a->h1.ob n=h.ob n:=λn hn=>by rw[<- eh];exact dY (by omega)
 have nx1:h1.nx=a+1:=by rw[<- eh];exact ha
 clear eh;walk_at "w"
 refine⟨a,9,_,rfl,(xE (by omega)).trans o1,rfl,by show 1<1000;decide,?_⟩;walk_at "w"
 refine q _ (by show h1.nx+1=a+2;omega) (λn hn=>(dY (by omega)).trans ((xE (by omega)).trans (o3 n hn))) ⟨?_,?_,?_,List.Pairwise.nil,by decide⟩
 .rw[nx1];exact rX
 .rw[<- nx1];exact(dY (by omega)).trans cZ
 .show a+1<h1.nx+1;omega
theorem UR{Xc:Nat->AH->Prop}{n:Nat}{b:Bool}{x:Row}{xs ys:List Row}{h:AH}{V1:AV->AH->Prop}(e:h.ob n=some (.lst b ((xs++[x]).map rV)))(hn:xs.length<63)(hi:gZ xs)(hx:∀r∈xs,r.t≠x.t)(pm:ys.Perm (xs++[x]))(iy:gZ ys)(q:V1 (.ref h.nx) (h.new (.lst true (ys.map rV)))):We Xc (Kc.sd.g (.ref n)) h V1:=by
 have ti:∀l:List Row,tW (l.map rV)=some (l.map (·.t)):=λl=>by
  induction l with
  |nil=>rfl|cons r l ih=>show Option.map _ (tW (l.map rV))=_;rw[ih];rfl
 have ni:iC ((xs++[x]).map rV)=none:=by cases xs<;>rfl
 have nb:xD ((xs++[x]).map (·.t))=true:=by unfold xD;rw[List.map_append,List.map_cons,List.map_nil,List.dropLast_concat,Bool.and_eq_true];refine⟨decide_eq_true hi,decide_eq_true ?_⟩;rw[show(xs.map (·.t)++[x.t]).getLastD 0=x.t by simp];intro z;obtain⟨r,hr,e⟩:=List.mem_map.mp z;exact hx r hr e
 have hl:((xs++[x]).map (·.t)).length<64:=by rw[List.length_map,List.length_append];show xs.length+1<64;omega
 unfold We Kc.g;simp only[e,Kc.gl,ni,vn,ti,nb,Bool.and_true,decide_eq_true hl,if_pos,eB];rw[PL pm iy];exact q
theorem Yu{al:List Row}(hd:Nd al):∃jK,jK.Perm al/\gZ jK:=by refine⟨al.mergeSort λx y=>decide (x.t<=y.t),List.mergeSort_perm _ _,?_⟩;have hp:(al.mergeSort λx y=>decide (x.t<=y.t)).Pairwise λx y=>decide (x.t<=y.t)=true:=List.pairwise_mergeSort (λa b c h1 h2=>by simp only[decide_eq_true_eq]at *;omega) (λa b=>by simp only[Bool.or_eq_true,decide_eq_true_eq];omega) _;have hn:((al.mergeSort λx y=>decide (x.t<=y.t)).map (·.t)).Nodup:=((List.mergeSort_perm al λx y=>decide (x.t<=y.t)).map _).nodup_iff.mpr hd;unfold gZ;rw[List.pairwise_map];unfold List.Nodup at hn;rw[List.pairwise_map]at hn;exact(hp.and hn).imp λ⟨h1,h2⟩=>by have:=of_decide_eq_true h1;omega
theorem um{Xc:Nat->AH->Prop}{F:AM.Run}{c e:Ex}{n:Nat}{rs:List Row}{v0:Option AV}{v1:AV}{f:Row->Bool}{g:Row->AV}{h:AH}{L1:List AV->AH->Prop}(en:h.ob n=some (.lst true (rs.map rV)))(hl:rs.length<64)(hc:∀r,Wp (bM F c [some (rV r),some v1]) h λb h'=>b=f r/\h'=h)(he:∀r,Wp (aB F e [some (rV r),some v1]) h λv h'=>v=g r/\h'=h)
  (q:L1 ((rs.filter f).map g) h):We Xc (cF (dX n) (jD (.nm 0)) (bM F c) (aB F e) FU 0 [] [v0,some v1]) h L1:=by
 have big:=gH;refine Ts (bb:=true) (xs:=rs.map rV) (λj ys U h'=>(∃v0,U=[v0,some v1])/\ys=((rs.take j).filter f).map g/\h'=h) (by rw[List.length_map,mQ];omega) ⟨⟨_,rfl⟩,rfl,rfl⟩ (λj ys U h' ⟨_,_,e'⟩=>by rw[e'];exact en) (λj x ys U h' hx ⟨⟨v0,e1⟩,e2,e3⟩=>?_) (λys U h' ⟨⟨v0,e1⟩,e2,e3⟩=>?_)
 .subst e1 e3;obtain⟨r,hr,rfl⟩:=uY hx;have et:rs.take (j+1)=rs.take j++[r]:=by rw[List.take_add_one,hr];rfl
  have h1:((rs.take j).filter f).length<=(rs.take j).length:=List.length_filter_le _ _;have h2:(rs.take j).length<=rs.length:=by rw[List.length_take];omega
  walk_at "w"
  refine(hc r).mono λb h3 ⟨e4,e5⟩=>?_;subst e4 e5;split
  .rename_i hb;refine(he r).mono λv h4 ⟨e6,e7⟩=>?_;subst e6 e7;refine⟨by rw[e2,List.length_map];omega,⟨_,rfl⟩,?_,rfl⟩;rw[et,e2,List.filter_append,List.map_append,List.filter_cons,if_pos hb];rfl
  .rename_i hb;refine⟨⟨_,rfl⟩,?_,rfl⟩;rw[et,e2,List.filter_append,List.map_append,List.filter_cons,if_neg hb];simp
 .subst e1 e3;rw[List.length_map,List.take_length]at e2;subst e2;exact q
theorem vv{F:AM.Run}{r:Row}{v1:Option AV}{h:AH}:Wp (aB F (.var 0) [some (rV r),v1]) h λv h'=>v=rV r/\h'=h:=by
 walk_at "w"
 exact⟨rfl,rfl⟩
theorem Ud{Xc:Nat->AH->Prop}{F:AM.Run}{n:Nat}{rs:List Row}{v0:Option AV}{h:AH}{L1:List AV->AH->Prop}(en:h.ob n=some (.lst true (rs.map rV)))(hl:rs.length<64)
  (q:L1 ((rs.map (·.t)).map AV.int) h):We Xc (cF (dX n) (jD (.nm 0)) (λ_=>M.ret true) (aB F (.op .ix (.var 0) (.val (.int 0)))) FU 0 [] [v0]) h L1:=by
 have big:=gH;refine Gw (bb:=true) (xs:=rs.map rV) (λj ys U h'=>(∃v0,U=[v0])/\ys=((rs.take j).map (·.t)).map AV.int/\h'=h) (by rw[List.length_map,mQ];omega) ⟨⟨_,rfl⟩,rfl,rfl⟩ (λj ys U h' ⟨_,_,e'⟩=>by rw[e'];exact en) (λj x ys U h' hx ⟨⟨v0,e1⟩,e2,e3⟩=>?_) (λys U h' ⟨⟨v0,e1⟩,e2,e3⟩=>?_)
 .subst e1 e3;obtain⟨⟨t,p,w⟩,hr,rfl⟩:=uY hx;have h2:(rs.take j).length<=rs.length:=by rw[List.length_take];omega
  show Wp (jD (.nm 0) (.tup [.int t,.int p,.int w]) _) _ _;walk_at "w"
  exact⟨by rw[e2,List.length_map,List.length_map];omega,⟨_,rfl⟩,by rw[List.take_add_one,hr,e2,List.map_append,List.map_append];rfl,rfl⟩
 .subst e1 e3;rw[List.length_map,List.take_length]at e2;subst e2;exact q
theorem Ys{x:Int}{l:List Int}:uS (.int x) (l.map AV.int)=decide (x∈l):=by
 induction l with
 |nil=>rfl|cons y l ih=>
  unfold uS at *;rw[List.map_cons,List.any_cons,ih];have:uz (.int y) (.int x)=decide (y=x):=rfl;rw[this];by_cases e:y=x
  .subst e;simp
  .rw[decide_eq_false e,Bool.false_or];have:x∈y::l↔x∈l:=by rw[List.mem_cons];exact⟨λz=>z.elim (λw=>absurd w.symm e) id,.inr⟩
   simp only[this]
structure St(a n:Nat)(h:AH)(ps:List (Int×Int))(kb ls:List Row):Prop where
 b:Bn h a (ps.map pV) kb
 on:h.ob n=some (.lst true (ls.map rV))
 hn:n<h.nx/\n≠a+1
 pm:kb.Perm ls
 inc:gZ ls
 wO:∀(i:Nat) p,ps[i]?=some p->((ls.filter (eA i)).length:Int)<=p.1
theorem St.kp{a n:Nat}{h h':AH}{ps:List (Int×Int)}{kb ls:List Row}(s:St a n h ps kb ls)(k:Kp h h'):St a n h' ps kb ls:=
 ⟨s.b.kp k,k.get s.hn.1 s.on,⟨Nat.lt_of_lt_of_le s.hn.1 k.nx,s.hn.2⟩,s.pm,s.inc,s.wO⟩
theorem Kd{k n i:Nat}{ps:List (Int×Int)}{p:Int×Int}{ls:List Row}{h:AH}{R:AV->AH->Prop}(on:h.ob n=some (.lst true (ls.map rV)))(hl:ls.length<64)(hp:ps[i]?=some p)(q:∀h',Kp h h'->R (.int (p.1-((ls.filter (eA i)).length:Int))) h'):Wp (run pg (k+1) Wv [.tup (ps.map pV),.ref n,.int (i:Int)]) h R:=by
 refine dO rfl rfl ?_;unfold Fc;have pa:=jk hp;walk_at "w"
 refine pT rfl pa ?_;walk_at "w"
 refine wC on ?_;refine um (f:=eA i) (g:=rV) on hl (λr=>?_) (λr=>vv) ?_
 .obtain⟨t,g,d⟩:=r;show Wp (bM _ _ [some (.tup [.int t,.int g,.int d]),some (.int i)]) _ _;walk_at "w"
  exact⟨rfl,rfl⟩
 .have kp:Kp h (h.new (.lst true ((ls.filter (eA i)).map rV))):=Kp.refl.new;have o1:(h.new (.lst true ((ls.filter (eA i)).map rV))).ob h.nx=some (.lst true ((ls.filter (eA i)).map rV)):=cZ;generalize h.new (.lst true ((ls.filter (eA i)).map rV))=h1 at *;walk_at "w"
  rw[List.length_map];exact q _ kp
theorem AA{α:Type}{Xc:Nat->AH->Prop}{m:M α}{h:AH}{Q:α->AH->Prop}(w:Wp m h Q):We Xc m h Q:=by obtain⟨a,h',e,q⟩:=We.ex w;exact We.eq e q
theorem En{k a n i:Nat}{ps:List (Int×Int)}{p:Int×Int}{kb ls:List Row}{h:AH}{R:AV->AH->Prop}(s:St a n h ps kb ls)(hp:ps[i]?=some p)(q:∀h',Kp h h'->R (.bl true) h'):Wp (run pg (k+5) Wr [.ref a,.tup (ps.map pV),.ref n,.int (i:Int)]) h R:=by
 have oa:=s.b.oa;have eR:=s.b.eR;have hl:=s.pm.length_eq;refine dO rfl rfl ?_;unfold Ey;walk_at "w"
 refine⟨a,9,_,17,rfl,oa,rfl,rfl,?_⟩;walk_at "w"
 refine vg s.b hp λh1 kp1=>?_;have s1:=s.kp kp1;walk_at "w"
 refine Kd s1.on (by omega) hp λh2 kp2=>?_;have s2:=s1.kp kp2;have oa2:=s2.b.oa;have on2:=s2.on;rw[(s.pm.filter (eA i)).length_eq];walk_at "w"
 refine el ?_;walk_at "w"
 refine⟨a,9,_,20,rfl,oa2,rfl,rfl,?_⟩;walk_at "w"
 refine Fz s2.b s.pm s.inc λm h3 kp3 om hm _=>?_;have s3:=s2.kp kp3;walk_at "w"
 refine Eg om s3.on (by omega) ?_;exact q _ ((kp1.trans kp2).trans kp3)
def Rf(k a i:Nat)(t u:Int)(h:AH)(c:Nat):Prop:=∀(Xc:Nat->AH->Prop) (V:AV->AH->Prop),(∀h',Kp h h'->Xc c h')->We Xc (run pg (k+2) Hu [.ref a,.int t,.int (i:Int),.int u]) h V
theorem Pu{k a i:Nat}{tb:List AV}{kb:List Row}{t u:Int}{h:AH}(s:Bn h a tb kb)(ht:∃r∈kb,r.t=t):Rf k a i t u h 3:=λXc V q=>by
 have big:=gH;have oa:=s.oa;have ow:=s.ow;obtain⟨r,hr,rfl⟩:=ht;refine dO rfl rfl ?_;unfold fc;walk_at "w"
 rw[wA s.nd hr];walk_at "w"
 exact q _ .refl
theorem Pt{k a i:Nat}{ps:List (Int×Int)}{p:Int×Int}{kb:List Row}{t u:Int}{h:AH}(s:Bn h a (ps.map pV) kb)(hp:ps[i]?=some p)(hno:∀r∈kb,r.t≠t)(hf:p.1<=((kb.filter (eA i)).length:Int)):Rf k a i t u h 4:=λXc V q=>by
 have big:=gH;have oa:=s.oa;have ow:=s.ow;refine dO rfl rfl ?_;unfold fc;walk_at "w"
 rw[Qr hno];walk_at "w"
 refine⟨a,9,_,17,rfl,oa,rfl,rfl,?_⟩;walk_at "w"
 refine AA (vg (k:=k) s hp λh1 kp1=>?_);walk_at "w"
 exact q _ kp1
theorem Rf.kp{k a i:Nat}{t u:Int}{h:AH}{c:Nat}(r:Rf k a i t u h c):True:=trivial
def cN(b:Bool):Nat:=if b then 4 else 3
theorem Tp{k n:Nat}{b:Bool}{h:AH}{R:AV->AH->Prop}(o:h.ob n=some (.xo (cN b)))(q:R (.bl true) h):Wp (run pg (k+1) Hv [.ref n,.bl b]) h R:=by
 cases b;all_goals
  have o':h.ob n=some (.xo _):=o;dsimp only[cN]at o';refine dO rfl rfl ?_;unfold Fb;walk_at "w"
  exact q
theorem Ou{k a i:Nat} {t u:Int} {b:Bool} {h:AH} {fs:List (PySem.Str×AV)} {R:AV->AH->Prop} (oa:h.ob a=some (.ins 9 fs)) (lf:fs.lookup ("start":PySem.Str)=none) (r:Rf k a i t u h (cN b)) (q:∀h',Kp h h'->R (.bl true) h'):Wp (run pg (k+3) Wy [.ref a,.int t,.int (i:Int),.int u,.bl b]) h R:=by
 refine dO rfl rfl ?_;unfold Ff;walk_at "w"
 refine⟨a,9,_,18,rfl,oa,rfl,lf,?_⟩;walk_at "w"
 refine r _ _ λh1 kp1=>?_;have fin:∀(h2:AH) (n:Nat) (R':AV->AH->Prop),h2.ob n=some (.xo (cN b))->R' (.bl true) h2->Wp (run pg (k+2) Hv [.ref n,.bl b]) h2 R':=λh2 n R' o z=>Tp (k:=k+1) o z;have o1:(h1.new (.xo (cN b))).ob h1.nx=some (.xo (cN b)):=cZ;cases b;all_goals
  dsimp only[cN]at o1 ⊢;walk_at "w"
  exact fin _ _ _ o1 (q _ kp1.new)
theorem Ot{k a i:Nat} {t u:Int} {b:Bool} {h:AH} {fs:List (PySem.Str×AV)} {R:AV->AH->Prop} (oa:h.ob a=some (.ins 9 fs)) (lf:fs.lookup ("start":PySem.Str)=none) (r:Rf k a i t u h (cN b)) (q:∀h',Kp h h'->R (.bl true) h'):Wp (run pg (k+3) Wz [.ref a,.int t,.int (i:Int),.int u]) h R:=by
 refine dO rfl rfl ?_;unfold Fg;walk_at "w"
 refine⟨a,9,_,18,rfl,oa,rfl,lf,?_⟩;walk_at "w"
 refine r _ _ λh1 kp1=>?_;cases b;all_goals
  dsimp only[cN];walk_at "w"
  exact q _ kp1.new
def Nx(a n:Nat)(h:AH)(ps:List (Int×Int))(c n':Nat)(h':AH):Prop:=∃kb' jK,St a n' h' ps kb' jK/\jK.length<=c+1/\Ka a h h'/\(n'=n\/h.nx<=n')
theorem PU{k a n i:Nat}{ps:List (Int×Int)}{p:Int×Int}{kb ls:List Row}{t u:Int}{h:AH}{R:AV->AH->Prop}(s:St a n h ps kb ls)(hp:ps[i]?=some p)(hl:ls.length<63)
  (q:∀n' h',Nx a n h ps ls.length n' h'->R (.ref n') h'):Wp (run pg (k+4) Xa [.ref a,.tup (ps.map pV),.ref n,.int t,.tup [.int (i:Int),.int u]]) h R:=by
 have eR:=s.b.eR;have hpl:=s.pm.length_eq;have hn:=s.hn;have lt:=s.b.lt;have big:=gH;have pa:=jk hp;have wO:=s.wO i p hp;have cf:=(s.pm.filter (eA i)).length_eq;refine dO rfl rfl ?_;unfold Fh;walk_at "w"
 refine wC s.on ?_;refine Ud s.on (by omega) ?_;have kp1:Kp h (h.new (.lst true ((ls.map (·.t)).map AV.int))):=Kp.refl.new;have o1:(h.new (.lst true ((ls.map (·.t)).map AV.int))).ob h.nx=some (.lst true ((ls.map (·.t)).map AV.int)):=cZ;have nx1:(h.new (.lst true ((ls.map (·.t)).map AV.int))).nx=h.nx+1:=rfl;generalize h.new (.lst true ((ls.map (·.t)).map AV.int))=h1 at *;have s1:=s.kp kp1;have oa1:=s1.b.oa;walk_at "w"
 refine Qy (mM o1) (by simp[gA]) ?_;rw[Ys];by_cases hin:t∈ls.map (·.t)
 .rw[decide_eq_true hin];obtain⟨r,hr,e⟩:=List.mem_map.mp hin;have hx:∃r∈kb,r.t=t:=⟨r,s.pm.mem_iff.mpr hr,e⟩;walk_at "w"
  refine Ou (k:=k) (b:=false) oa1 rfl (Pu s1.b hx) λh2 kp2=>?_;have s2:=s1.kp kp2;have oa2:=s2.b.oa;walk_at "w"
  refine Ot (k:=k) (b:=false) oa2 rfl (Pu s2.b hx) λh3 kp3=>?_;walk_at "w"
  exact q _ _ ⟨kb,ls,s2.kp kp3,by omega,nA ((kp1.trans kp2).trans kp3),.inl rfl⟩
 .rw[decide_eq_false hin];have hno:∀r∈ls,r.t≠t:=λr hr e=>hin (List.mem_map.mpr ⟨r,hr,e⟩);have hnk:∀r∈kb,r.t≠t:=λr hr e=>hno r (s.pm.mem_iff.mp hr) e;walk_at "w"
  refine Kd s1.on (by omega) hp λh2 kp2=>?_;have s2:=s1.kp kp2;have nx2:=kp2.nx;have oa2:=s2.b.oa;walk_at "w"
  .rename_i hc;refine Ou (k:=k) (b:=true) oa2 rfl (Pt s2.b hp hnk (by omega)) λh3 kp3=>?_;have s3:=s2.kp kp3;have oa3:=s3.b.oa;walk_at "w"
   refine Ot (k:=k) (b:=true) oa3 rfl (Pt s3.b hp hnk (by omega)) λh4 kp4=>?_;walk_at "w"
   exact q _ _ ⟨kb,ls,s3.kp kp4,by omega,nA (((kp1.trans kp2).trans kp3).trans kp4),.inl rfl⟩
  .refine pT rfl pa ?_;walk_at "w"
   refine⟨a,9,_,18,rfl,oa2,rfl,rfl,?_⟩;walk_at "w"
   refine PR (k:=k+1) s2.b hp (by omega) hnk (by omega) λh3 ka b3=>?_;have nx3:=ka.nx;have on3:=(ka.ob n (by omega) hn.2).trans s2.on;walk_at "w"
   refine el ?_;walk_at "w"
   have e1:(h3.new (.lst true [.tup [.int t,.int i,.int (u+p.2)]])).ob h3.nx=some (.lst true ([(⟨t,i,u+p.2⟩:Row)].map rV)):=cZ;have kp4:Kp h3 (h3.new (.lst true [.tup [.int t,.int i,.int (u+p.2)]])):=Kp.refl.new;have nx4:(h3.new (.lst true [.tup [.int t,.int i,.int (u+p.2)]])).nx=h3.nx+1:=rfl;generalize h3.new (.lst true [.tup [.int t,.int i,.int (u+p.2)]])=h4 at *;have on4:=kp4.get (by omega) on3;refine Dx on4 e1 (by rw[List.length_map];show ls.length+1<=_;omega) ?_;rw[<- List.map_append];have e5:(h4.new (.lst true ((ls++[(⟨t,i,u+p.2⟩:Row)]).map rV))).ob h4.nx=some (.lst true ((ls++[(⟨t,i,u+p.2⟩:Row)]).map rV)):=cZ;have kp5:Kp h4 (h4.new (.lst true ((ls++[(⟨t,i,u+p.2⟩:Row)]).map rV))):=Kp.refl.new;have nx5:(h4.new (.lst true ((ls++[(⟨t,i,u+p.2⟩:Row)]).map rV))).nx=h4.nx+1:=rfl;generalize h4.new (.lst true ((ls++[(⟨t,i,u+p.2⟩:Row)]).map rV))=h5 at *;have ndl:=Kn (g:=i) (d:=u+p.2) s.inc.nd hno;obtain⟨jK,pm',inc'⟩:=Yu ndl;walk_at "w"
   refine UR e5 hl s.inc hno pm' inc' ?_;walk_at "w"
   have kp6:Kp h5 (h5.new (.lst true (jK.map rV))):=Kp.refl.new;have kp36:=(kp4.trans kp5).trans kp6;have hlen:jK.length=ls.length+1:=by rw[pm'.length_eq,List.length_append];rfl
   refine q _ _ ⟨_,jK,⟨b3.kp kp36,cZ,⟨Nat.lt_succ_self _,by omega⟩,(s.pm.append_right _).trans pm'.symm,inc',λj p' hj=>?_⟩,by omega,((nA (kp1.trans kp2)).trans ka).trans (nA kp36),.inr (by omega)⟩;have c1:=s.wO j p' hj;have c2:=(pm'.filter (eA j)).length_eq;rw[List.filter_append,List.length_append]at c2;by_cases e:i=j
   .subst e;rw[hp]at hj;cases hj;have c3:([(⟨t,i,u+p.2⟩:Row)].filter (eA i)).length<=1:=List.length_filter_le _ _;omega
   .have c3:([(⟨t,i,u+p.2⟩:Row)].filter (eA j))=[]:=by
     rw[List.filter_cons,if_neg]
     .rfl
     .unfold eA;rw[decide_eq_true_eq];show¬(i:Int)=j;omega
    rw[c3]at c2;have c4:(([]:List Row)).length=0:=rfl;omega
theorem EY{a n:Nat}{h:AH}{ps:List (Int×Int)}{kb ls:List Row}(s:St a n h ps kb ls)(f:Row->Bool):∀(i:Nat) p,ps[i]?=some p->(((ls.filter f).filter (eA i)).length:Int)<=p.1:=λi p e=>by
 have c1:=s.wO i p e;have c2:((ls.filter f).filter (eA i)).length<=(ls.filter (eA i)).length:=by exact(List.Sublist.filter (eA i) (List.filter_sublist (p:=f) (l:=ls))).length_le
 omega
theorem NH{rs:List Row}{i:Nat}{r:Row}(h:rs[i]?=some r):dF (rs.map rV) (i:Int)=some (.tup [.int r.t,.int r.g,.int r.d]):=Eo (by rw[List.getElem?_map,h];rfl)
theorem NC{l:List Row}{z:Int}(hl:0<l.length):∃r:Row,dF (l.map rV) (z%(l.length:Int))=some (.tup [.int r.t,.int r.g,.int r.d]):=by
 have h0:=Int.emod_nonneg z (b:=(l.length:Int)) (by omega);have h1:=Int.emod_lt_of_pos z (b:=(l.length:Int)) (by omega);obtain⟨j,hj⟩:=Int.eq_ofNat_of_zero_le h0;rw[hj]at h1 ⊢;have hj':j<l.length:=by omega
 exact⟨l[j],NH (List.getElem?_eq_getElem hj')⟩
theorem RY{k n:Nat}{ls:List Row}{z:Int}{h:AH}{R:AV->AH->Prop}(on:h.ob n=some (.lst true (ls.map rV)))(q:∀t,R (.int t) h):Wp (run pg (k+1) Xd [.ref n,.int z]) h R:=by
 refine dO rfl rfl ?_;unfold Fj;walk_at "w"
 all_goals try exact q _
 rename_i hc1 hc2;rw[List.length_map]at hc2 ⊢;obtain⟨r,hr⟩:=NC (l:=ls) (z:=z / 4) (by omega);refine pT (mM on) hr ?_;walk_at "w"
 all_goals try exact q _
def hV(p:Nat×Nat):AV:=.tup [.ref p.1,.ref p.2]
def Sm(h:AH)(p:Nat×Nat):Prop:=(∃rs:List Row,h.ob p.1=some (.lst true (rs.map rV))/\h.ob p.2=some (.lst true (rs.map rV))/\rs.length<64)\/∃ts:List Int,h.ob p.1=some (.lst true (ts.map AV.int))/\h.ob p.2=some (.lst true (ts.map AV.int))/\ts.length<64
theorem Sm.of{h h':AH}{p:Nat×Nat}(s:Sm h p)(e1:h'.ob p.1=h.ob p.1)(e2:h'.ob p.2=h.ob p.2):Sm h' p:=by
 rcases s with⟨rs,a,b,c⟩|⟨rs,a,b,c⟩
 .exact .inl ⟨rs,e1.trans a,e2.trans b,c⟩
 .exact .inr ⟨rs,e1.trans a,e2.trans b,c⟩
theorem Rx{k:Nat}{p:Nat×Nat}{h:AH}{R:AV->AH->Prop}(s:Sm h p)(q:R (.bl true) h):Wp (run pg (k+4) uL [.ref p.1,.ref p.2]) h R:=by
 rcases s with⟨rs,a,b,c⟩|⟨ts,a,b,c⟩
 .exact Eg a b c q
 .exact Eh (k:=k+1) a b c q
structure Hl(a n H:Nat)(h:AH)(hs:List (Nat×Nat)):Prop where
 oh:h.ob H=some (.lst true (hs.map hV))
 lt:a+1<H/\H<h.nx
 nH:n≠H
 pr:∀p∈hs,Sm h p/\H<p.1/\p.1<h.nx/\H<p.2/\p.2<h.nx/\p.1≠n
theorem Hl.ka{a n n' H:Nat}{h h':AH}{hs:List (Nat×Nat)}(s:Hl a n H h hs)(k:Ka a h h')(e:n'=n\/h.nx<=n'):Hl a n' H h' hs:=by have lt:=s.lt;have nH:=s.nH;have nx:=k.nx;refine⟨(k.ob H lt.2 (by omega)).trans s.oh,by omega,by rcases e with e|e<;>omega,λp hp=>?_⟩;obtain⟨h1,h2,h3,h4,h5,h6⟩:=s.pr p hp;exact⟨h1.of (k.ob _ h3 (by omega)) (k.ob _ h5 (by omega)),h2,by omega,h4,by omega,by rcases e with e|e<;>omega⟩
theorem Hl.push{a n H m1 m2:Nat}{h0 h:AH}{hs:List (Nat×Nat)}(s:Hl a n H h hs)(sm:Sm h (m1,m2))(l1:h0.nx<=m1)(l2:h0.nx<=m2)(l3:m1<h.nx)(l4:m2<h.nx)(lH:H<h0.nx)(ln:n≠m1):Hl a n H (h.put H (.lst true ((hs++[(m1,m2)]).map hV))) (hs++[(m1,m2)]):=by
 have lt:=s.lt;refine⟨rX,lt,s.nH,λp hp=>?_⟩;rcases List.mem_append.mp hp with z|z
 .obtain⟨h1,h2,h3,h4,h5,h6⟩:=s.pr p z;exact⟨h1.of (dY (by omega)) (dY (by omega)),h2,h3,h4,h5,h6⟩
 .rw[List.mem_singleton.mp z];exact⟨sm.of (dY (by show m1≠H;omega)) (dY (by show m2≠H;omega)),by show H<m1;omega,l3,by show H<m2;omega,l4,λe=>ln e.symm⟩
theorem St.put{a n x:Nat}{h:AH}{o:cP}{ps:List (Int×Int)}{kb ls:List Row}(s:St a n h ps kb ls)(h1:a+1<x)(h2:n≠x):St a n (h.put x o) ps kb ls:=
 ⟨⟨(dY (by omega)).trans s.b.oa,(dY (by omega)).trans s.b.ow,s.b.lt,s.b.nd,s.b.eR⟩,(dY h2).trans s.on,s.hn,s.pm,s.inc,s.wO⟩
structure Kb(a H:Nat)(h h':AH):Prop where
 nx:h.nx<=h'.nx
 ob:∀n,n<h.nx->n≠a+1->n≠H->h'.ob n=h.ob n
theorem Ka.kb{a H:Nat}{h h':AH}(k:Ka a h h'):Kb a H h h':=⟨k.nx,λn hn h1 _=>k.ob n hn h1⟩
theorem Kb.trans{a H:Nat}{h h' h'':AH}(x:Kb a H h h')(y:Kb a H h' h''):Kb a H h h'':=⟨Nat.le_trans x.nx y.nx,λn hn a1 a2=>(y.ob n (Nat.lt_of_lt_of_le hn x.nx) a1 a2).trans (x.ob n hn a1 a2)⟩
def Gx(a H:Nat)(h:AH)(ps:List (Int×Int))(c m n':Nat)(h':AH):Prop:=∃kb' jK hs',St a n' h' ps kb' jK/\Hl a n' H h' hs'/\jK.length<=c/\hs'.length<=m+1/\Kb a H h h'/\(0<m->hs'≠[])
theorem Xy{k a n H:Nat}{ps:List (Int×Int)}{kb ls:List Row}{hs:List (Nat×Nat)}{u:Int}{h:AH}{R:AV->AH->Prop}(s:St a n h ps kb ls)(hl:Hl a n H h hs)(hz:hs.length<500)
  (q:∀n' h',Gx a H h ps ls.length hs.length n' h'->R (.ref n') h'):Wp (run pg (k+4) Ww [.ref a,.ref n,.int u,.ref H]) h R:=by
 have eR:=s.b.eR;have hpl:=s.pm.length_eq;have hn:=s.hn;have lt:=s.b.lt;have big:=gH;have hlt:=hl.lt;have nH:=hl.nH;have l2:(ls.filter (fB u)).length<=ls.length:=zY;have l3:(ls.filter (pA (fB u))).length<=ls.length:=zY;refine dO rfl rfl ?_;unfold Fd;walk_at "w"
 refine wC s.on ?_;refine um (f:=fB u) (g:=λr=>.int r.t) s.on (by omega) (λr=>?_) (λr=>?_) ?_
 .obtain⟨t,g,d⟩:=r;show Wp (bM _ _ [some (.tup [.int t,.int g,.int d]),some (.int u)]) _ _;walk_at "w"
  exact⟨rfl,rfl⟩
 .obtain⟨t,g,d⟩:=r;show Wp (aB _ _ [some (.tup [.int t,.int g,.int d]),some (.int u)]) _ _;walk_at "w"
  exact⟨rfl,rfl⟩
 rw[Jh];generalize eh:h.new _=h1;have kp1:Kp h h1:=by rw[<- eh];exact Kp.refl.new
 have o1:h1.ob h.nx=some (.lst true (((ls.filter (fB u)).map (·.t)).map AV.int)):=by rw[<- eh];exact cZ
 have nx1:h1.nx=h.nx+1:=by rw[<- eh];rfl
 clear eh;have s1:=s.kp kp1;have oa1:=s1.b.oa;walk_at "w"
 refine⟨a,9,_,19,rfl,oa1,rfl,rfl,?_⟩;walk_at "w"
 refine Sg s1.b s.pm s.inc λm h2 ka b2 m1 m2 om=>?_;have nx2:=ka.nx;have on2:=(ka.ob n (by omega) hn.2).trans s1.on;have o2:=(ka.ob h.nx (by omega) (by omega)).trans o1;have hl2:=hl.ka ((nA kp1).trans ka) (.inl rfl);have oh2:=hl2.oh;walk_at "w"
 refine Eh om o2 (by rw[List.length_map];omega) ?_;walk_at "w"
 refine⟨by simp only[oV,oh2],?_⟩;walk_at "w"
 refine Dw oh2 (by rw[List.length_map];omega) ?_;have e3:hs.map hV++[.tup [.ref m,.ref h.nx]]=(hs++[(m,h.nx)]).map hV:=by rw[List.map_append];rfl
 rw[e3];have hl3:=hl2.push (h0:=h) (m1:=m) (m2:=h.nx) (.inr ⟨_,om,o2,by rw[List.length_map];omega⟩) (by omega) (by omega) m2 (by omega) (by omega) (by omega);have on3:(h2.put H (.lst true ((hs++[(m,h.nx)]).map hV))).ob n=_:=(dY nH).trans on2;have b3:Bn (h2.put H (.lst true ((hs++[(m,h.nx)]).map hV))) a (ps.map pV) (kb.filter (pA (fB u))):=⟨(dY (by omega)).trans b2.oa,(dY (by omega)).trans b2.ow,b2.lt,b2.nd,b2.eR⟩;have kb3:Kb a H h (h2.put H (.lst true ((hs++[(m,h.nx)]).map hV))):=⟨by rw[xK];omega,λx hx x1 x2=>(dY x2).trans ((ka.ob x (by omega) x1).trans (kp1.ob x hx))⟩;have nx3:(h2.put H (.lst true ((hs++[(m,h.nx)]).map hV))).nx=h2.nx:=rfl;generalize h2.put H (.lst true ((hs++[(m,h.nx)]).map hV))=h3 at *;walk_at "w"
 refine wC on3 ?_;refine um (f:=pA (fB u)) (g:=rV) on3 (by omega) (λr=>?_) (λr=>vv) ?_
 .obtain⟨t,g,d⟩:=r;show Wp (bM _ _ [some (.tup [.int t,.int g,.int d]),some (.int u)]) _ _;walk_at "w"
  refine⟨?_,rfl⟩;unfold pA fB;rw[<- decide_not];exact decide_eq_decide.mpr (by show d > u↔¬d<=u;omega)
 .have kp4:Kp h3 (h3.new (.lst true ((ls.filter (pA (fB u))).map rV))):=Kp.refl.new;exact q _ _ ⟨_,_,_,⟨b3.kp kp4,cZ,⟨Nat.lt_succ_self _,by omega⟩,s.pm.filter _,vy s.inc,EY s _⟩,hl3.ka (nA kp4) (.inr (Nat.le_refl _)),l3,by rw[List.length_append];exact Nat.le_refl _,kb3.trans (nA kp4).kb,λ_=>by simp⟩
theorem SR{k a n H:Nat}{ps:List (Int×Int)}{kb ls:List Row}{hs:List (Nat×Nat)}{u z:Int}{h:AH}{R:AV->AH->Prop}(s:St a n h ps kb ls)(hl:Hl a n H h hs)(hz:hs.length<500)
    (q:∀u' n' h',Gx a H h ps ls.length hs.length n' h'->R (.tup [.int u',.ref n']) h'):Wp (run pg (k+5) Xf [.ref a,.ref n,.int u,.int z,.ref H]) h R:=by
  have gI:Gx a H h ps ls.length hs.length n h:=⟨kb,ls,hs,s,hl,Nat.le_refl _,by omega,(nA .refl).kb,λz e=>by rw[e]at z;exact absurd z (by decide)⟩;refine dO rfl rfl ?_;unfold Fl;walk_at "w"
  all_goals first
    |exact q _ _ _ gI
    | (refine Xy (k:=k) s hl hz λn' h' g=>?_
       walk_at "w"
       exact q _ _ _ g)
def nY:bI->Nat->Sx
 |.cons s _,0=>s
 |.cons _ r,n+1=>nY r n
 |.nil,_=>.bad
def Hx:Sx->bI
 |.mU _ _ b=>b
 |_=>.nil
def Ki:bI:=Hx (nY ff 4)
structure Lp(f:Nat->Option cP)(a n H pc i:Nat)(ps:List (Int×Int))(cs:List Int)(h:AH):Prop where
 ex:∃kb ls hs,St a n h ps kb ls/\Hl a n H h hs/\ls.length<=i/\hs.length<=2*i/\(0<i->hs≠[])
 oc:h.ob pc=some (.lst true (cs.map AV.int))
 pa:pc<a
 fr:∀x,x<a->h.ob x=f x
theorem Jf{ps:List (Int×Int)}{z:Int}(hl:0<ps.length):∃(j:Nat) (p:Int×Int),z%((ps.map pV).length:Int)=(j:Int)/\ps[j]?=some p:=by rw[List.length_map];have h0:=Int.emod_nonneg z (b:=(ps.length:Int)) (by omega);have h1:=Int.emod_lt_of_pos z (b:=(ps.length:Int)) (by omega);obtain⟨j,hj⟩:=Int.eq_ofNat_of_zero_le h0;exact⟨j,ps[j]'(by omega),hj,List.getElem?_eq_getElem (by omega)⟩
theorem Si{f:Nat->Option cP}{k a n H pc i:Nat}{ps:List (Int×Int)}{cs:List Int}{x b u:Int}{v9 v10 v11 v12 v13:Option AV}{h:AH}{R:AV->AH->Prop}{N B C:aA->AH->Prop}(L:Lp f a n H pc i ps cs h)(hi:i<62)(tl:0<ps.length)
  (q:∀n' u' h' u9 u10 u11,h.nx<=h'.nx->Lp f a n' H pc (i+1) ps cs h'->N [some (.tup (ps.map pV)),some (.int b),some (.ref pc),some (.ref a),some (.ref n'),some (.int u'),some (.ref H),some (.int i),some (.int x),u9,u10,u11,v12,v13] h') :
  Wt (λ_ _=>False) (cU (run pg (k+6)) Ki [some (.tup (ps.map pV)),some (.int b),some (.ref pc),some (.ref a),some (.ref n),some (.int u),some (.ref H),some (.int i),some (.int x),v9,v10,v11,v12,v13]) h N R B C:=by
 obtain⟨kb,ls,hs,s,hl,l1,l2,l3⟩:=L.ex;have pa:=L.pa;have big:=gH;have ltm:0<((ps.map pV).length:Int):=by rw[List.length_map];omega
 dsimp only[nY,Ki,Hx,ff];walk_at "w"
 refine wx (by omega) (by omega) (by omega) (by omega) λy y0 y1=>?_;walk_at "w"
 refine wx (by omega) (by omega) (by omega) (by omega) λz z0 z1=>?_;walk_at "w"
 refine SR (k:=k+1) s hl (by omega) λu1 n1 h1 g1=>?_;obtain⟨kb1,ls1,hs1,s1,hl1,m1,m2,kb01,m5⟩:=g1;have hlt:=hl.lt;have hlt1:=hl1.lt;have alt:=s.b.lt;have fr1:∀x,x<a->h1.ob x=f x:=λx hx=>(kb01.ob x (by omega) (by omega) (by omega)).trans (L.fr x hx);have oc1:=(kb01.ob pc (by omega) (by omega) (by omega)).trans L.oc;walk_at "w"
 obtain⟨j,p,ej,hp⟩:=Jf (z:=y / 1024) tl;rw[ej];refine RY s1.on λt=>?_;walk_at "w"
 refine PU (k:=k+2) s1 hp (by omega) λn2 h2 nx2=>?_;obtain⟨kb2,ls2,s2,m3,ka2,e2⟩:=nx2;have hl2:=hl1.ka ka2 e2;have nx01:=kb01.nx;have fr2:∀x,x<a->h2.ob x=f x:=λx hx=>(ka2.ob x (by omega) (by omega)).trans (fr1 x hx);have oc2:=(ka2.ob pc (by have:=kb01.nx;omega) (by omega)).trans oc1;have nx2:=ka2.nx;walk_at "w"
 obtain⟨j',p',ej',hp'⟩:=Jf (z:=z / 300) tl;rw[ej'];refine En (k:=k+1) s2 hp' λh3 kp3=>?_;have s3:=s2.kp kp3;have hl3:=hl2.ka (nA kp3) (.inl rfl);have nx3:=kp3.nx;have nx1:=kb01.nx;have oc3:=kp3.get (by omega) oc2;have fr3:∀x,x<a->h3.ob x=f x:=λx hx=>(kp3.ob x (by omega)).trans (fr2 x hx);have push:∀(V:AV->AH->Prop) v7 v8 v9 v10 v11,(∀h',h.nx<=h'.nx->Lp f a n2 H pc (i+1) ps cs h'->V .aE h')->oV h3 (.ref H)=true/\We (λ_ _=>False) (aB (run pg (k+6)) (.tup (.cons (.fS "busy" [(9,20)] (.var 3) .nil) (.cons (.bi .list (.cons (.var 4) .nil)) .nil))) [some (.tup (ps.map pV)),some (.int b),some (.ref pc),some (.ref a),some (.ref n2),some (.int u1),some (.ref H),v7,v8,v9,v10,v11,v12,v13]) h3 λy h2=>We (λ_ _=>False) (rE (.ref H) y) h2 V:=λV v7 v8 v9 v10 v11 q=>by
  have oh3:=hl3.oh;have oa3:=s3.b.oa;have eR:=s3.b.eR;have pl:=s3.pm.length_eq;refine⟨by simp only[oV,oh3],?_⟩;walk_at "w"
  refine⟨a,9,_,20,rfl,oa3,rfl,rfl,?_⟩;walk_at "w"
  refine Fz s3.b s3.pm s3.inc λm h4 kp4 om hm1 hm2=>?_;have s4:=s3.kp kp4;have nx4:=kp4.nx;walk_at "w"
  refine UH (mM s4.on) ?_;generalize eh:h4.new _=h5;have kp5:Kp h4 h5:=by rw[<- eh];exact Kp.refl.new
  have o5:h5.ob h4.nx=some (.lst true (ls2.map rV)):=by rw[<- eh];exact cZ
  have nx5:h5.nx=h4.nx+1:=by rw[<- eh];rfl
  clear eh;have kp45:=kp4.trans kp5;have hl5:=hl3.ka (nA kp45) (.inl rfl);have s5:=s4.kp kp5;have hn5:=s3.hn;walk_at "w"
  refine Dw hl5.oh (by rw[List.length_map];omega) ?_;have e3:hs1.map hV++[.tup [.ref m,.ref h4.nx]]=(hs1++[(m,h4.nx)]).map hV:=by rw[List.map_append];rfl
  rw[e3];have hl6:=hl5.push (h0:=h3) (m1:=m) (m2:=h4.nx) (.inl ⟨ls2,kp5.get hm2 om,o5,by omega⟩) hm1 nx4 (by omega) (by omega) (by have:=hl3.lt;omega) (by omega);refine q _ (by rw[xK];omega) ⟨⟨kb2,ls2,_,s5.put (by omega) hl3.nH,hl6,by omega,?_,λ_=>by simp⟩,?_,pa,λx hx=>(dY (by omega)).trans ((kp45.ob x (by omega)).trans (fr3 x hx))⟩
  .rw[List.length_append];show hs1.length+1<=_;omega
  .exact(dY (by omega)).trans (kp45.get (by omega) oc3)
 walk_at "w"
 .exact push _ _ _ _ _ _ λh' y z=>q _ _ _ _ _ _ y z
 .exact push _ _ _ _ _ _ λh' y z=>q _ _ _ _ _ _ y z
 .rename_i hc1 hc2;refine q _ _ _ _ _ _ (by omega) ⟨⟨kb2,ls2,hs1,s3,hl3,by omega,by omega,λ_=>?_⟩,oc3,pa,fr3⟩;by_cases h0:i=0
  .subst h0;exact absurd rfl hc1
  .exact m5 (List.length_pos_iff.mpr (l3 (by omega)))
def Tb(ps:List (Int×Int)):Prop:=∀p∈ps,0<=p.1
local macro_rules | `(tactic| walk_at "wa")=>`(tactic| first|with_reducible refine Qv ?_|with_reducible refine Qu ?_|with_reducible refine Qt ?_|((with_reducible refine' Qw ?k1 ?k2 ?_);(case k1=>exact rfl);(case k2=>exact rfl)))
theorem Ei{k pc:Nat}{ps:List (Int×Int)}{cs:List Int}{b:Int}{h:AH}{R:AV->AH->Prop}(tb:Tb ps)(tl:0<ps.length)(oc:h.ob pc=some (.lst true (cs.map AV.int)))(lc:pc<h.nx)(c0:0<cs.length)(c1:cs.length<=61)(q:∀h',h.nx<=h'.nx->(∀x,x<h.nx->h'.ob x=h.ob x)->R (.bl true) h') :
  Wp (run pg (k+7) Wq [.tup (ps.map pV),.int b,.ref pc]) h R:=by
 have big:=gH;refine dO rfl rfl ?_;unfold ff;walk_at "w"
 refine Yt cZ (by rw[wz]) λh1 nx1 o1 s1=>?_;refine⟨rfl,?_⟩;have oc1:h1.ob pc=some (.lst true (cs.map AV.int)):=(o1 pc (by omega)).trans ((xE (by omega)).trans oc);have ol1:∀n,n<h.nx->h1.ob n=h.ob n:=λn hn=>(o1 n hn).trans (xE (by omega));walk_at "w"
 simp only[wz];generalize eh:AH.new (AH.new h1 _) _=h2;have kp2:Kp h1 h2:=by rw[<- eh];exact Kp.refl.new.new
 have f0:h2.ob h1.nx=some (.lst true (([]:List Row).map rV)):=by rw[<- eh,xE (by simp only[wz];omega)];exact cZ
 have f1:h2.ob (h1.nx+1)=some (.lst true (([]:List (Nat×Nat)).map hV)):=by rw[<- eh];exact cZ
 have nx2:h2.nx=h1.nx+2:=by rw[<- eh];rfl
 clear eh;have oc2:=kp2.get (by omega) oc1;have s2:=s1.kp kp2;have old:∀n,n<h.nx->h2.ob n=h.ob n:=λn hn=>(kp2.ob n (by omega)).trans (ol1 n hn);have W0:Lp h.ob h.nx h1.nx (h1.nx+1) pc 0 ps cs h2:=⟨⟨[],[],[],⟨s2,f0,by omega,.refl _,List.Pairwise.nil,λi p hp=>tb _ (List.mem_of_getElem? hp)⟩,⟨f1,by omega,by omega,λp hp=>(nomatch hp)⟩,by decide,by decide,λz=>absurd z (by decide)⟩,oc2,lc,old⟩;refine⟨pc,true,_,rfl,oc2,?_⟩;refine Xk (bb:=true) (xs:=cs.map AV.int) (λi U h'=>∃n u v7 v8 v9 v10 v11 v12 v13,U=[some (.tup (ps.map pV)),some (.int b),some (.ref pc),some (.ref h.nx),some (.ref n),some (.int u),some (.ref (h1.nx+1)),v7,v8,v9,v10,v11,v12,v13]/\Lp h.ob h.nx n (h1.nx+1) pc i ps cs h'/\h2.nx<=h'.nx)
  (by rw[List.length_map,mQ];omega) ⟨_,_,_,_,_,_,_,_,_,rfl,W0,Nat.le_refl _⟩ (λi U h' ⟨_,_,_,_,_,_,_,_,_,_,W,_⟩=>W.oc) (λi x U h' hx ⟨n,u,v7,v8,v9,v10,v11,v12,v13,ee,W,kb⟩=>?_) (λU h' ⟨n,u,v7,v8,v9,v10,v11,v12,v13,ee,W,kb⟩=>?_)
 .subst ee;obtain⟨cc,hcc,rfl⟩:=uY hx;have hi:=(List.getElem?_eq_some_iff.mp hcc).1;repeat' walk_at "wa"
  exact Si (k:=k) W (by omega) tl λn' u' h'' u9 u10 u11 nn W'=>⟨_,_,_,_,_,_,_,_,_,rfl,W',Nat.le_trans kb nn⟩
 .subst ee;have hcs:(cs.map AV.int).length<=61/\0<(cs.map AV.int).length:=by rw[List.length_map];omega
  generalize (cs.map AV.int).length=i at *;obtain⟨kb',ls,hs,s,hl,l1,l2,l3⟩:=W.ex;have hne:=l3 hcs.2;have oh:=hl.oh;have hlt:=hl.lt;have sl:=s.b.lt;walk_at "w"
  refine wC oh ?_;refine Ib (bb:=true) (xs:=hs.map hV) (λj U h''=>h''=h'/\∃v7 v8 v9 v10 v11 v12 v13,U=[some (.tup (ps.map pV)),some (.int b),some (.ref pc),some (.ref h.nx),some (.ref n),some (.int u),some (.ref (h1.nx+1)),v7,v8,v9,v10,v11,v12,v13]) (by rw[List.length_map,mQ];omega) ⟨rfl,_,_,_,_,_,_,_,rfl⟩ (λj U h'' ⟨e,_⟩=>by rw[e];exact oh) (λj x U h'' hx ⟨e,w7,w8,w9,w10,w11,w12,w13,e1⟩=>?_) (λU h'' ⟨e,w7,w8,w9,w10,w11,w12,w13,e1⟩=>?_)
  .subst e e1;obtain⟨⟨m1,m2⟩,hp,rfl⟩:=uY hx;have sm:=(hl.pr _ (List.mem_of_getElem? hp)).1;show We _ (hZ _ _ (.tup [.ref m1,.ref m2]) _) _ _;walk_at "w"
   refine Rx (k:=k+2) (p:=(m1,m2)) sm ?_;walk_at "w"
   exact⟨rfl,_,_,_,_,_,_,_,rfl⟩
  .subst e e1;obtain⟨hs',⟨m1,m2⟩,rfl⟩:∃us x,hs=us++[x]:=⟨hs.dropLast,hs.getLast hne,(List.dropLast_concat_getLast hne).symm⟩;obtain⟨sm,g1,g2,g3,g4,g5⟩:=hl.pr (m1,m2) (by simp);dsimp only at g1 g2 g5;have e6:dF ((hs'++[(m1,m2)]).map hV) (-1)=some (.tup [.ref m1,.ref m2]):=by refine(Rz (xs:=(hs'++[(m1,m2)]).map hV) (n:=1) (by omega) (by simp)).trans ?_;simp[hV]
   obtain⟨xs,ox⟩:∃xs,h''.ob m1=some (.lst true xs):=by
    rcases sm with⟨rs,a,_⟩|⟨ts,a,_⟩
    .exact⟨_,a⟩
    .exact⟨_,a⟩
   walk_at "w"
   refine pT (mM oh) e6 ?_;walk_at "w"
   refine TV ox ?_;walk_at "w"
   obtain⟨p0,hp0⟩:∃p,ps[0]?=some p:=⟨ps[0],List.getElem?_eq_getElem tl⟩;refine En (k:=k+1) (i:=0) (s.put (by omega) (λe=>g5 e.symm)) hp0 λh3 kp3=>?_;refine q _ ?_ λn hn=>?_
   .have:=kp3.nx;rw[xK]at this;omega
   .rw[kp3.ob n (by rw[xK];omega),dY (by omega)];exact W.fr n hn
theorem Ha{ns:List Int}{hi:Option Int}(hl:ns.length<=63):(wV ns (some 3) hi).length<=60:=by unfold wV;rw[show(some (3:Int))=some ((3:Nat):Int) from rfl,HT.NM,List.length_take,List.length_drop];omega
theorem RN{k:Nat}{x y:Int}{h:AH}{R:AV->AH->Prop}(q:∀ps h',Kp h h'->Tb ps->0<ps.length->R (.tup (ps.map pV)) h'):Wp (run pg (k+2) Xb [.int x,.int y]) h R:=by
 have big:=gH;have m0:=Int.emod_nonneg x (b:=8) (by omega);have m1:=Int.emod_lt_of_pos x (b:=8) (by omega);refine dO rfl rfl ?_;unfold Fi;walk_at "w"
 obtain⟨c,hc⟩:∃c:Nat,(1+x%8).toNat=c:=⟨_,rfl⟩;rw[hc];have c1:0<c/\c<=8:=by omega
 refine Xl (λj U h'=>∃ps w3 w4,U=[some (.int x),some (.int y),some (.ref h.nx),w3,w4]/\ps.length=j/\Tb ps/\Kp h h'/\h'.ob h.nx=some (.lst true (ps.map pV))/\h.nx<h'.nx) (by rw[mQ];omega) ⟨[],_,_,rfl,rfl,λp hp=>(nomatch hp),Kp.refl.new,cZ,Nat.lt_succ_self _⟩ (λj U h' hj ⟨ps,w3,w4,e1,e2,tb,kp,ob,hn⟩=>?_) (λU h' ⟨ps,w3,w4,e1,e2,tb,kp,ob,hn⟩=>?_)
 .subst e1;walk_at "w"
  refine wx (by omega) (by omega) (by omega) (by omega) λz z0 z1=>?_;walk_at "w"
  refine⟨by simp only[oV,ob],?_⟩;obtain⟨v,hv,v0⟩:∃v:Int,dF [AV.int 8,.int 2] (x / 8%2)=some (.int v)/\0<v:=by
   have hw:x / 8%2=0\/x / 8%2=1:=by omega
   rcases hw with e|e<;>rw[e]
   .exact⟨8,rfl,by decide⟩
   .exact⟨2,rfl,by decide⟩
  have kp2:Kp h' (h'.new (.lst true [.int 8,.int 2])):=Kp.refl.new;have o2:(h'.new (.lst true [.int 8,.int 2])).ob h'.nx=some (.lst true [.int 8,.int 2]):=cZ;have nx2:(h'.new (.lst true [.int 8,.int 2])).nx=h'.nx+1:=rfl;have ob2:=kp2.get hn ob;walk_at "w"
  generalize h'.new (.lst true [.int 8,.int 2])=h2 at *;refine pT (mM o2) hv ?_;walk_at "w"
  have m2:=Int.emod_nonneg z (b:=v) (by omega);refine Dw ob2 (by rw[List.length_map];omega) ?_;walk_at "w"
  refine⟨ps++[(1+z%v,1+z / 8%16)],_,_,rfl,by rw[List.length_append,e2];rfl,λp hp=>?_,⟨by rw[xK];have:=kp.nx;omega,λn hn'=>(dY (by omega)).trans ((kp.trans kp2).ob n hn')⟩,by rw[List.map_append];exact rX,by rw[xK];omega⟩;rcases List.mem_append.mp hp with w|w
  .exact tb p w
  .rw[List.mem_singleton.mp w];show 0<=1+z%v;omega
 .subst e1;walk_at "w"
  exact q ps _ kp tb (by omega)
def wm:bI:=.cons (nY qB 3) (.cons (nY qB 4) .nil)
theorem Qo{N:aA->AH->Prop}{ns:List Int}{ps:List (Int×Int)}{u:Int}{h:AH}(hl:ns.length<=63)(tb:Tb ps)(tl:0<ps.length)(e0:h.ob 0=some (.lst false (ns.map AV.int)))(h0:0<h.nx) :
  Wt (λ_ _=>False) (cU (run pg 11) wm [some (.ref 0),some (.tup (ps.map pV)),some (.int u)]) h N (λv _=>v = .bl true) (λ_ _=>False) (λ_ _=>False):=by
 have big:=gH;dsimp only[wm,nY,qB];walk_at "w"
 refine Rg e0 ?_;rw[Hc];have hc:=Ha (hi:=some 63) hl;generalize wV ns (some 3) (some 63)=cs at *;generalize eh:h.new _=h1;have kp1:Kp h h1:=by rw[<- eh];exact Kp.refl.new
 have o1:h1.ob h.nx=some (.lst true (cs.map AV.int)):=by rw[<- eh];exact cZ
 have nx1:h1.nx=h.nx+1:=by rw[<- eh];rfl
 clear eh;walk_at "w"
 generalize eh:h1.new _=h2;have kp2:Kp h1 h2:=by rw[<- eh];exact Kp.refl.new
 have o2:h2.ob h1.nx=some (.lst true [.int 5]):=by rw[<- eh];exact cZ
 have nx2:h2.nx=h1.nx+1:=by rw[<- eh];rfl
 clear eh;refine Dx (kp2.get (by omega) o1) o2 (by rw[List.length_map];show _+1<=_;omega) ?_;rw[show cs.map AV.int++[AV.int 5]=(cs++[5]).map AV.int by rw[List.map_append];rfl];generalize eh:h2.new _=h3;have kp3:Kp h2 h3:=by rw[<- eh];exact Kp.refl.new
 have o3:h3.ob h2.nx=some (.lst true ((cs++[5]).map AV.int)):=by rw[<- eh];exact cZ
 have nx3:h3.nx=h2.nx+1:=by rw[<- eh];rfl
 clear eh;have e3:=((kp1.trans kp2).trans kp3).get h0 e0;walk_at "w"
 refine Ei (k:=4) tb tl o3 (by omega) (by simp) (by rw[List.length_append];show _+1<=_;omega) λh4 nx4 old4=>?_;have e4:=(old4 0 (by omega)).trans e3;walk_at "w"
 refine Rg e4 ?_;rw[Hc];have hc:=Ha (hi:=some 8) hl;generalize wV ns (some 3) (some 8)=ds at *;generalize eh:h4.new _=h5;have kp5:Kp h4 h5:=by rw[<- eh];exact Kp.refl.new
 have o5:h5.ob h4.nx=some (.lst true (ds.map AV.int)):=by rw[<- eh];exact cZ
 have nx5:h5.nx=h4.nx+1:=by rw[<- eh];rfl
 clear eh;walk_at "w"
 generalize eh:h5.new _=h6;have kp6:Kp h5 h6:=by rw[<- eh];exact Kp.refl.new
 have o6:h6.ob h5.nx=some (.lst true [.int 8]):=by rw[<- eh];exact cZ
 have nx6:h6.nx=h5.nx+1:=by rw[<- eh];rfl
 clear eh;refine Dx (kp6.get (by omega) o5) o6 (by rw[List.length_map];show _+1<=_;omega) ?_;rw[show ds.map AV.int++[AV.int 8]=(ds++[8]).map AV.int by rw[List.map_append];rfl];generalize eh:h6.new _=h7;have o7:h7.ob h6.nx=some (.lst true ((ds++[8]).map AV.int)):=by rw[<- eh];exact cZ
 have nx7:h7.nx=h6.nx+1:=by rw[<- eh];rfl
 clear eh;refine Ei (k:=4) (ps:=[(1,1)]) (λp hp=>by rw[List.mem_singleton.mp hp];decide) (by decide) o7 (by omega) (by simp) (by rw[List.length_append];show _+1<=_;omega) λh8 _ _=>rfl
theorem keeps:Keeps pg 12 Wo:=by
 refine Keeps.of λns hl=>?_;have e0:(h0 ns).ob 0=some (.lst false (ns.map AV.int)):=rfl;have x0:0<(h0 ns).nx:=Nat.zero_lt_one;refine dO (k:=11) rfl rfl ?_;show Wt _ (cU _ (.cons (nY qB 0) (.cons (nY qB 1) (.cons (nY qB 2) wm))) _) _ _ _ _ _;generalize h0 ns=h at *;dsimp only[nY,qB];walk_at "w"
 refine fj e0 (by decide) λz=>?_;walk_at "w"
 refine fj e0 (by decide) λz=>?_;walk_at "w"
 refine RN (k:=9) λps h1 kp tb t0=>?_;have e1:=kp.get x0 e0;have nx:=kp.nx;walk_at "w"
 refine fj e1 (by decide) λz=>?_;walk_at "w"
 .refine fj e1 (by decide) λz=>?_;walk_at "w"
  exact Qo hl tb t0 e1 (by omega)
 .exact Qo hl tb t0 e1 (by omega)
def pr:Pr:=⟨[qG,qH,qR,qT,qU,qV,qW,qX,qY,qZ,qI,qJ,qK,qL,qM,oM,qN,qO,qP,qQ,qS,uH],16,[],["len","int","max","tuple","list","sorted","isinstance","bool","range","enumerate","zip"],[("NoTicket",3),("Busy",4)],[("NoTicket",[(3,true),(4,false)]),("Busy",[(3,false),(4,true)]),("MillError",[(3,true),(4,true)])],[("NoLabel",[(3,false),(4,false)]),("Twice",[(3,false),(4,false)]),("NoRow",[(3,false),(4,false)]),("Halted",[(3,false),(4,false)]),("Nought",[(3,false),(4,false)]),("NoPlace",[(3,false),(4,false)]),("NoTicket",[(3,true),(4,false)]),("Busy",[(3,false),(4,true)]),("ValueError",[(3,true),(4,true)]),("MillError",[(3,true),(4,true)])],[("working",[9]),("table",[9])],[("start",[(9,18)]),("busy",[(9,20)]),("free",[(9,17)]),("done",[(9,19)])],[(("Benches",1),(9,16,[]))],[],[],["working"]⟩
theorem Vc:pr.bodyOf qG=dG.getD 0 (0,0,.nil):=by kernel_rfl
theorem Vd:pr.bodyOf qH=dG.getD 1 (0,0,.nil):=by kernel_rfl
theorem Vo:pr.bodyOf qR=dG.getD 2 (0,0,.nil):=by kernel_rfl
theorem Vr:pr.bodyOf qT=dG.getD 3 (0,0,.nil):=by kernel_rfl
theorem Vs:pr.bodyOf qU=dG.getD 4 (0,0,.nil):=by kernel_rfl
theorem Vt:pr.bodyOf qV=dG.getD 5 (0,0,.nil):=by kernel_rfl
theorem Vu:pr.bodyOf qW=dG.getD 6 (0,0,.nil):=by kernel_rfl
theorem Vv:pr.bodyOf qX=dG.getD 7 (0,0,.nil):=by kernel_rfl
theorem Vw:pr.bodyOf qY=dG.getD 8 (0,0,.nil):=by kernel_rfl
theorem Vx:pr.bodyOf qZ=dG.getD 9 (0,0,.nil):=by kernel_rfl
theorem Ve:pr.bodyOf qI=dG.getD 10 (0,0,.nil):=by kernel_rfl
theorem Vf:pr.bodyOf qJ=dG.getD 11 (0,0,.nil):=by kernel_rfl
theorem Vg:pr.bodyOf qK=dG.getD 12 (0,0,.nil):=by kernel_rfl
theorem Vh:pr.bodyOf qL=dG.getD 13 (0,0,.nil):=by kernel_rfl
theorem Vi:pr.bodyOf qM=dG.getD 14 (0,0,.nil):=by kernel_rfl
theorem Vj:pr.bodyOf oM=dG.getD 15 (0,0,.nil):=by kernel_rfl
theorem Vk:pr.bodyOf qN=dG.getD 16 (0,0,.nil):=by kernel_rfl
theorem Vl:pr.bodyOf qO=dG.getD 17 (0,0,.nil):=by kernel_rfl
theorem Vm:pr.bodyOf qP=dG.getD 18 (0,0,.nil):=by kernel_rfl
theorem Vn:pr.bodyOf qQ=dG.getD 19 (0,0,.nil):=by kernel_rfl
theorem Vp:pr.bodyOf qS=dG.getD 20 (0,0,.nil):=by kernel_rfl
theorem Vq:pr.bodyOf uH=dG.getD 21 (0,0,.nil):=by kernel_rfl
theorem Yz:pr.ir=pg:=by
 have e:pr.defs.map pr.bodyOf=dG:=by show[pr.bodyOf qG,pr.bodyOf qH,pr.bodyOf qR,pr.bodyOf qT,pr.bodyOf qU,pr.bodyOf qV,pr.bodyOf qW,pr.bodyOf qX,pr.bodyOf qY,pr.bodyOf qZ,pr.bodyOf qI,pr.bodyOf qJ,pr.bodyOf qK,pr.bodyOf qL,pr.bodyOf qM,pr.bodyOf oM,pr.bodyOf qN,pr.bodyOf qO,pr.bodyOf qP,pr.bodyOf qQ,pr.bodyOf qS,pr.bodyOf uH]=dG;rw[Vc,Vd,Vo,Vr,Vs,Vt,Vu,Vv,Vw,Vx,Ve,Vf,Vg,Vh,Vi,Vj,Vk,Vl,Vm,Vn,Vp,Vq];rfl
 funext i
 show(pr.defs[i]?).map pr.bodyOf=dG[i]?;rw[<- e,List.getElem?_map]
theorem NN:dE qG.N qG.ps (aJ qG.st):=⟨by kernel_rfl,by kernel_rfl,by kernel_rfl,by decide +kernel,by kernel_rfl,by decide +kernel,by decide +kernel⟩
theorem NO:dE qH.N qH.ps (aJ qH.st):=⟨by kernel_rfl,by kernel_rfl,by kernel_rfl,by decide +kernel,by kernel_rfl,by decide +kernel,by decide +kernel⟩
theorem NZ:dE qR.N qR.ps (aJ qR.st):=⟨by kernel_rfl,by kernel_rfl,by kernel_rfl,by decide +kernel,by kernel_rfl,by decide +kernel,by decide +kernel⟩
theorem OC:dE qT.N qT.ps (aJ qT.st):=⟨by kernel_rfl,by kernel_rfl,by kernel_rfl,by decide +kernel,by kernel_rfl,by decide +kernel,by decide +kernel⟩
theorem OD:dE qU.N qU.ps (aJ qU.st):=⟨by kernel_rfl,by kernel_rfl,by kernel_rfl,by decide +kernel,by kernel_rfl,by decide +kernel,by decide +kernel⟩
theorem OE:dE qV.N qV.ps (aJ qV.st):=⟨by kernel_rfl,by kernel_rfl,by kernel_rfl,by decide +kernel,by kernel_rfl,by decide +kernel,by decide +kernel⟩
theorem OF:dE qW.N qW.ps (aJ qW.st):=⟨by kernel_rfl,by kernel_rfl,by kernel_rfl,by decide +kernel,by kernel_rfl,by decide +kernel,by decide +kernel⟩
theorem OG:dE qX.N qX.ps (aJ qX.st):=⟨by kernel_rfl,by kernel_rfl,by kernel_rfl,by decide +kernel,by kernel_rfl,by decide +kernel,by decide +kernel⟩
theorem OH:dE qY.N qY.ps (aJ qY.st):=⟨by kernel_rfl,by kernel_rfl,by kernel_rfl,by decide +kernel,by kernel_rfl,by decide +kernel,by decide +kernel⟩
theorem OI:dE qZ.N qZ.ps (aJ qZ.st):=⟨by kernel_rfl,by kernel_rfl,by kernel_rfl,by decide +kernel,by kernel_rfl,by decide +kernel,by decide +kernel⟩
theorem NP:dE qI.N qI.ps (aJ qI.st):=⟨by kernel_rfl,by kernel_rfl,by kernel_rfl,by decide +kernel,by kernel_rfl,by decide +kernel,by decide +kernel⟩
theorem NQ:dE qJ.N qJ.ps (aJ qJ.st):=⟨by kernel_rfl,by kernel_rfl,by kernel_rfl,by decide +kernel,by kernel_rfl,by decide +kernel,by decide +kernel⟩
theorem NR:dE qK.N qK.ps (aJ qK.st):=⟨by kernel_rfl,by kernel_rfl,by kernel_rfl,by decide +kernel,by kernel_rfl,by decide +kernel,by decide +kernel⟩
theorem NS:dE qL.N qL.ps (aJ qL.st):=⟨by kernel_rfl,by kernel_rfl,by kernel_rfl,by decide +kernel,by kernel_rfl,by decide +kernel,by decide +kernel⟩
theorem NT:dE qM.N qM.ps (aJ qM.st):=⟨by kernel_rfl,by kernel_rfl,by kernel_rfl,by decide +kernel,by kernel_rfl,by decide +kernel,by decide +kernel⟩
theorem NU:dE oM.N oM.ps (aJ oM.st):=⟨by kernel_rfl,by kernel_rfl,by kernel_rfl,by decide +kernel,by kernel_rfl,by decide +kernel,by decide +kernel⟩
theorem NV:dE qN.N qN.ps (aJ qN.st):=⟨by kernel_rfl,by kernel_rfl,by kernel_rfl,by decide +kernel,by kernel_rfl,by decide +kernel,by decide +kernel⟩
theorem NW:dE qO.N qO.ps (aJ qO.st):=⟨by kernel_rfl,by kernel_rfl,by kernel_rfl,by decide +kernel,by kernel_rfl,by decide +kernel,by decide +kernel⟩
theorem NX:dE qP.N qP.ps (aJ qP.st):=⟨by kernel_rfl,by kernel_rfl,by kernel_rfl,by decide +kernel,by kernel_rfl,by decide +kernel,by decide +kernel⟩
theorem NY:dE qQ.N qQ.ps (aJ qQ.st):=⟨by kernel_rfl,by kernel_rfl,by kernel_rfl,by decide +kernel,by kernel_rfl,by decide +kernel,by decide +kernel⟩
theorem OA:dE qS.N qS.ps (aJ qS.st):=⟨by kernel_rfl,by kernel_rfl,by kernel_rfl,by decide +kernel,by kernel_rfl,by decide +kernel,by decide +kernel⟩
theorem OB:dE uH.N uH.ps (aJ uH.st):=⟨by kernel_rfl,by kernel_rfl,by kernel_rfl,by decide +kernel,by kernel_rfl,by decide +kernel,by decide +kernel⟩
theorem rQ{α:Type}{x:Str}{v:α}(h:([]:List (Str×α)).lookup x=some v):False:=by cases h
theorem eJ{α:Type}{x k:Str}{v u:α}{r:List (Str×α)}(h:((k,u)::r).lookup x=some v):(x=k/\v=u)\/r.lookup x=some v:=by
 rw[List.lookup_cons]at h;split at h
 .rename_i q;exact .inl ⟨eq_of_beq q,(Option.some.inj h).symm⟩
 .exact .inr h
theorem fI{α:Type}{x:Nat}{v:α}(h:([]:List (Nat×α)).lookup x=some v):False:=by cases h
theorem cK{α:Type}{x k:Nat}{v u:α}{r:List (Nat×α)}(h:((k,u)::r).lookup x=some v):(x=k/\v=u)\/r.lookup x=some v:=by
 rw[List.lookup_cons]at h;split at h
 .rename_i q;exact .inl ⟨eq_of_beq q,(Option.some.inj h).symm⟩
 .exact .inr h
theorem AE{α:Type}{x:Str×Nat}{v:α}(h:([]:List ((Str×Nat)×α)).lookup x=some v):False:=by cases h
theorem AD{α:Type}{x y:Str}{m n:Nat}{v u:α}{r:List ((Str×Nat)×α)}(h:(((y,m),u)::r).lookup (x,n)=some v):(x=y/\n=m/\v=u)\/r.lookup (x,n)=some v:=by
 rw[List.lookup_cons]at h;split at h
 .rename_i q;have q:=eq_of_beq q;cases q;exact .inl ⟨rfl,rfl,(Option.some.inj h).symm⟩
 .exact .inr h
theorem all_mk{l:W.OpenLaw} {w:World} {K:W.Frag} {h:Heap} {mg:Str->Option Value} {fa:Addr} (X:K.In h) (G:h.Ns mainGlobals mg) (hfa:mg "law"=some (.ref fa))
  {C_0:Addr}
  {C_1:Addr}
  {C_2:Addr}
  {C_3:Addr}
  {C_4:Addr}
  {C_5:Addr}
  {C_6:Addr}
  {C_7:Addr}
  {C_8:Addr}
  {C_9:Addr}
  {f_0:Addr} {oc_0 kV_0 dc_0 pm_0 cd_0 ct_0:Value} {od_0 an_0:Option Addr} {sl_0:Array (Option Value)}
  {f_1:Addr} {oc_1 kV_1 dc_1 pm_1 cd_1 ct_1:Value} {od_1 an_1:Option Addr} {sl_1:Array (Option Value)}
  {f_2:Addr} {oc_2 kV_2 dc_2 pm_2 cd_2 ct_2:Value} {od_2 an_2:Option Addr} {sl_2:Array (Option Value)}
  {f_3:Addr} {oc_3 kV_3 dc_3 pm_3 cd_3 ct_3:Value} {od_3 an_3:Option Addr} {sl_3:Array (Option Value)}
  {f_4:Addr} {oc_4 kV_4 dc_4 pm_4 cd_4 ct_4:Value} {od_4 an_4:Option Addr} {sl_4:Array (Option Value)}
  {f_5:Addr} {oc_5 kV_5 dc_5 pm_5 cd_5 ct_5:Value} {od_5 an_5:Option Addr} {sl_5:Array (Option Value)}
  {f_6:Addr} {oc_6 kV_6 dc_6 pm_6 cd_6 ct_6:Value} {od_6 an_6:Option Addr} {sl_6:Array (Option Value)}
  {f_7:Addr} {oc_7 kV_7 dc_7 pm_7 cd_7 ct_7:Value} {od_7 an_7:Option Addr} {sl_7:Array (Option Value)}
  {f_8:Addr} {oc_8 kV_8 dc_8 pm_8 cd_8 ct_8:Value} {od_8 an_8:Option Addr} {sl_8:Array (Option Value)}
  {f_9:Addr} {oc_9 kV_9 dc_9 pm_9 cd_9 ct_9:Value} {od_9 an_9:Option Addr} {sl_9:Array (Option Value)}
  {f_10:Addr} {oc_10 kV_10 dc_10 pm_10 cd_10 ct_10:Value} {od_10 an_10:Option Addr} {sl_10:Array (Option Value)}
  {f_11:Addr} {oc_11 kV_11 dc_11 pm_11 cd_11 ct_11:Value} {od_11 an_11:Option Addr} {sl_11:Array (Option Value)}
  {f_12:Addr} {oc_12 kV_12 dc_12 pm_12 cd_12 ct_12:Value} {od_12 an_12:Option Addr} {sl_12:Array (Option Value)}
  {f_13:Addr} {oc_13 kV_13 dc_13 pm_13 cd_13 ct_13:Value} {od_13 an_13:Option Addr} {sl_13:Array (Option Value)}
  {f_14:Addr} {oc_14 kV_14 dc_14 pm_14 cd_14 ct_14:Value} {od_14 an_14:Option Addr} {sl_14:Array (Option Value)}
  {f_15:Addr} {oc_15 kV_15 dc_15 pm_15 cd_15 ct_15:Value} {od_15 an_15:Option Addr} {sl_15:Array (Option Value)}
  {f_16:Addr} {oc_16 kV_16 dc_16 pm_16 cd_16 ct_16:Value} {od_16 an_16:Option Addr} {sl_16:Array (Option Value)}
  {f_17:Addr} {oc_17 kV_17 dc_17 pm_17 cd_17 ct_17:Value} {od_17 an_17:Option Addr} {sl_17:Array (Option Value)}
  {f_18:Addr} {oc_18 kV_18 dc_18 pm_18 cd_18 ct_18:Value} {od_18 an_18:Option Addr} {sl_18:Array (Option Value)}
  {f_19:Addr} {oc_19 kV_19 dc_19 pm_19 cd_19 ct_19:Value} {od_19 an_19:Option Addr} {sl_19:Array (Option Value)}
  {f_20:Addr} {oc_20 kV_20 dc_20 pm_20 cd_20 ct_20:Value} {od_20 an_20:Option Addr} {sl_20:Array (Option Value)}
  {f_21:Addr} {oc_21 kV_21 dc_21 pm_21 cd_21 ct_21:Value} {od_21 an_21:Option Addr} {sl_21:Array (Option Value)}
  (xc_0:W.nsIn K mainGlobals "MillError"=some (some (.ref C_0)))
  (xc_1:W.nsIn K mainGlobals "Nought"=some (some (.ref C_1)))
  (xc_2:W.nsIn K mainGlobals "NoPlace"=some (some (.ref C_2)))
  (xc_3:W.nsIn K mainGlobals "NoTicket"=some (some (.ref C_3)))
  (xc_4:W.nsIn K mainGlobals "Busy"=some (some (.ref C_4)))
  (xc_5:W.nsIn K mainGlobals "Halted"=some (some (.ref C_5)))
  (xc_6:W.nsIn K mainGlobals "NoRow"=some (some (.ref C_6)))
  (xc_7:W.nsIn K mainGlobals "Twice"=some (some (.ref C_7)))
  (xc_8:W.nsIn K mainGlobals "NoLabel"=some (some (.ref C_8)))
  (xc_9:W.nsIn K mainGlobals "Benches"=some (some (.ref C_9)))
  (x_0:W.nsIn K mainGlobals "_law_cell_at"=some (some (.ref f_0)))
  (l_0:K.lookup f_0=some ⟨oc_0,od_0,.func (W.fnOf "_law_cell_at" "_law_cell_at" (aS gT) (aR gT) (aJ gT) .none kV_0 dc_0 pm_0 an_0 cd_0 ct_0),sl_0⟩)
  (c_0:W.codeIn K cd_0 "_law_cell_at"=true)
  (k_0:W.keepIn K (.ref f_0)=true)
  (x_1:W.nsIn K mainGlobals "_law_mixed"=some (some (.ref f_1)))
  (l_1:K.lookup f_1=some ⟨oc_1,od_1,.func (W.fnOf "_law_mixed" "_law_mixed" (aS lQ) (aR lQ) (aJ lQ) .none kV_1 dc_1 pm_1 an_1 cd_1 ct_1),sl_1⟩)
  (c_1:W.codeIn K cd_1 "_law_mixed"=true)
  (k_1:W.keepIn K (.ref f_1)=true)
  (x_2:W.nsIn K mainGlobals "_law_whole"=some (some (.ref f_2)))
  (l_2:K.lookup f_2=some ⟨oc_2,od_2,.func (W.fnOf "_law_whole" "_law_whole" (aS mC) (aR mC) (aJ mC) .none kV_2 dc_2 pm_2 an_2 cd_2 ct_2),sl_2⟩)
  (c_2:W.codeIn K cd_2 "_law_whole"=true)
  (k_2:W.keepIn K (.ref f_2)=true)
  (x_3:W.nsIn K mainGlobals "_law_alike"=some (some (.ref f_3)))
  (l_3:K.lookup f_3=some ⟨oc_3,od_3,.func (W.fnOf "_law_alike" "_law_alike" (aS mF) (aR mF) (aJ mF) .none kV_3 dc_3 pm_3 an_3 cd_3 ct_3),sl_3⟩)
  (c_3:W.codeIn K cd_3 "_law_alike"=true)
  (k_3:W.keepIn K (.ref f_3)=true)
  (x_4:W.nsIn K mainGlobals "_law_table"=some (some (.ref f_4)))
  (l_4:K.lookup f_4=some ⟨oc_4,od_4,.func (W.fnOf "_law_table" "_law_table" (aS mG) (aR mG) (aJ mG) .none kV_4 dc_4 pm_4 an_4 cd_4 ct_4),sl_4⟩)
  (c_4:W.codeIn K cd_4 "_law_table"=true)
  (k_4:W.keepIn K (.ref f_4)=true)
  (x_5:W.nsIn K mainGlobals "_law_free"=some (some (.ref f_5)))
  (l_5:K.lookup f_5=some ⟨oc_5,od_5,.func (W.fnOf "_law_free" "_law_free" (aS mH) (aR mH) (aJ mH) .none kV_5 dc_5 pm_5 an_5 cd_5 ct_5),sl_5⟩)
  (c_5:W.codeIn K cd_5 "_law_free"=true)
  (k_5:W.keepIn K (.ref f_5)=true)
  (x_6:W.nsIn K mainGlobals "_law_class"=some (some (.ref f_6)))
  (l_6:K.lookup f_6=some ⟨oc_6,od_6,.func (W.fnOf "_law_class" "_law_class" (aS mI) (aR mI) (aJ mI) .none kV_6 dc_6 pm_6 an_6 cd_6 ct_6),sl_6⟩)
  (c_6:W.codeIn K cd_6 "_law_class"=true)
  (k_6:W.keepIn K (.ref f_6)=true)
  (x_7:W.nsIn K mainGlobals "_law_refused"=some (some (.ref f_7)))
  (l_7:K.lookup f_7=some ⟨oc_7,od_7,.func (W.fnOf "_law_refused" "_law_refused" (aS mJ) (aR mJ) (aJ mJ) .none kV_7 dc_7 pm_7 an_7 cd_7 ct_7),sl_7⟩)
  (c_7:W.codeIn K cd_7 "_law_refused"=true)
  (k_7:W.keepIn K (.ref f_7)=true)
  (x_8:W.nsIn K mainGlobals "_law_refused_by_any"=some (some (.ref f_8)))
  (l_8:K.lookup f_8=some ⟨oc_8,od_8,.func (W.fnOf "_law_refused_by_any" "_law_refused_by_any" (aS mK) (aR mK) (aJ mK) .none kV_8 dc_8 pm_8 an_8 cd_8 ct_8),sl_8⟩)
  (c_8:W.codeIn K cd_8 "_law_refused_by_any"=true)
  (k_8:W.keepIn K (.ref f_8)=true)
  (x_9:W.nsIn K mainGlobals "_law_ticket"=some (some (.ref f_9)))
  (l_9:K.lookup f_9=some ⟨oc_9,od_9,.func (W.fnOf "_law_ticket" "_law_ticket" (aS mL) (aR mL) (aJ mL) .none kV_9 dc_9 pm_9 an_9 cd_9 ct_9),sl_9⟩)
  (c_9:W.codeIn K cd_9 "_law_ticket"=true)
  (k_9:W.keepIn K (.ref f_9)=true)
  (x_10:W.nsIn K mainGlobals "_law_started"=some (some (.ref f_10)))
  (l_10:K.lookup f_10=some ⟨oc_10,od_10,.func (W.fnOf "_law_started" "_law_started" (aS lR) (aR lR) (aJ lR) .none kV_10 dc_10 pm_10 an_10 cd_10 ct_10),sl_10⟩)
  (c_10:W.codeIn K cd_10 "_law_started"=true)
  (k_10:W.keepIn K (.ref f_10)=true)
  (x_11:W.nsIn K mainGlobals "_law_asked"=some (some (.ref f_11)))
  (l_11:K.lookup f_11=some ⟨oc_11,od_11,.func (W.fnOf "_law_asked" "_law_asked" (aS lS) (aR lS) (aJ lS) .none kV_11 dc_11 pm_11 an_11 cd_11 ct_11),sl_11⟩)
  (c_11:W.codeIn K cd_11 "_law_asked"=true)
  (k_11:W.keepIn K (.ref f_11)=true)
  (x_12:W.nsIn K mainGlobals "_law_gone"=some (some (.ref f_12)))
  (l_12:K.lookup f_12=some ⟨oc_12,od_12,.func (W.fnOf "_law_gone" "_law_gone" (aS lT) (aR lT) (aJ lT) .none kV_12 dc_12 pm_12 an_12 cd_12 ct_12),sl_12⟩)
  (c_12:W.codeIn K cd_12 "_law_gone"=true)
  (k_12:W.keepIn K (.ref f_12)=true)
  (x_13:W.nsIn K mainGlobals "_law_turned"=some (some (.ref f_13)))
  (l_13:K.lookup f_13=some ⟨oc_13,od_13,.func (W.fnOf "_law_turned" "_law_turned" (aS lU) (aR lU) (aJ lU) .none kV_13 dc_13 pm_13 an_13 cd_13 ct_13),sl_13⟩)
  (c_13:W.codeIn K cd_13 "_law_turned"=true)
  (k_13:W.keepIn K (.ref f_13)=true)
  (x_14:W.nsIn K mainGlobals "_law_all"=some (some (.ref f_14)))
  (l_14:K.lookup f_14=some ⟨oc_14,od_14,.func (W.fnOf "_law_all" "_law_all" (aS lV) (aR lV) (aJ lV) .none kV_14 dc_14 pm_14 an_14 cd_14 ct_14),sl_14⟩)
  (c_14:W.codeIn K cd_14 "_law_all"=true)
  (k_14:W.keepIn K (.ref f_14)=true)
  (x_15:W.nsIn K mainGlobals "law"=some (some (.ref f_15)))
  (l_15:K.lookup f_15=some ⟨oc_15,od_15,.func (W.fnOf "law" "law" (aS lW) (aR lW) (aJ lW) .none kV_15 dc_15 pm_15 an_15 cd_15 ct_15),sl_15⟩)
  (c_15:W.codeIn K cd_15 "law"=true)
  (k_15:W.keepIn K (.ref f_15)=true)
  (x_16:W.findIn K (.ref C_9) "__init__"=some (some (.ref f_16)))
  (l_16:K.lookup f_16=some ⟨oc_16,od_16,.func (W.fnOf "__init__" "Benches.__init__" (aS lX) (aR lX) (aJ lX) .none kV_16 dc_16 pm_16 an_16 cd_16 ct_16),sl_16⟩)
  (c_16:W.codeIn K cd_16 "Benches.__init__"=true)
  (k_16:W.keepIn K (.ref f_16)=true)
  (x_17:W.findIn K (.ref C_9) "free"=some (some (.ref f_17)))
  (l_17:K.lookup f_17=some ⟨oc_17,od_17,.func (W.fnOf "free" "Benches.free" (aS lY) (aR lY) (aJ lY) .none kV_17 dc_17 pm_17 an_17 cd_17 ct_17),sl_17⟩)
  (c_17:W.codeIn K cd_17 "Benches.free"=true)
  (k_17:W.keepIn K (.ref f_17)=true)
  (x_18:W.findIn K (.ref C_9) "start"=some (some (.ref f_18)))
  (l_18:K.lookup f_18=some ⟨oc_18,od_18,.func (W.fnOf "start" "Benches.start" (aS lZ) (aR lZ) (aJ lZ) .none kV_18 dc_18 pm_18 an_18 cd_18 ct_18),sl_18⟩)
  (c_18:W.codeIn K cd_18 "Benches.start"=true)
  (k_18:W.keepIn K (.ref f_18)=true)
  (x_19:W.findIn K (.ref C_9) "done"=some (some (.ref f_19)))
  (l_19:K.lookup f_19=some ⟨oc_19,od_19,.func (W.fnOf "done" "Benches.done" (aS mB) (aR mB) (aJ mB) .none kV_19 dc_19 pm_19 an_19 cd_19 ct_19),sl_19⟩)
  (c_19:W.codeIn K cd_19 "Benches.done"=true)
  (k_19:W.keepIn K (.ref f_19)=true)
  (x_20:W.findIn K (.ref C_9) "busy"=some (some (.ref f_20)))
  (l_20:K.lookup f_20=some ⟨oc_20,od_20,.func (W.fnOf "busy" "Benches.busy" (aS mD) (aR mD) (aJ mD) .none kV_20 dc_20 pm_20 an_20 cd_20 ct_20),sl_20⟩)
  (c_20:W.codeIn K cd_20 "Benches.busy"=true)
  (k_20:W.keepIn K (.ref f_20)=true)
  (x_21:W.findIn K (.ref C_9) "throw"=some (some (.ref f_21)))
  (l_21:K.lookup f_21=some ⟨oc_21,od_21,.func (W.fnOf "throw" "Benches.throw" (aS mE) (aR mE) (aJ mE) .none kV_21 dc_21 pm_21 an_21 cd_21 ct_21),sl_21⟩)
  (c_21:W.codeIn K cd_21 "Benches.throw"=true)
  (k_21:W.keepIn K (.ref f_21)=true)
  (pg_9:W.plainGet K C_9 Str.empty=true)
  (hd_9:W.hasDictIn K C_9=true)
  (po_9:W.plainOver K C_9=true)
  (sa_9:W.findIn K (.ref C_9) "__setattr__"=some (some (.builtin "object.__setattr__")))
  (na_9_working:W.findIn K (.ref C_9) "working"=some none)
  (na_9_table:W.findIn K (.ref C_9) "table"=some none)
  (a_9_start:W.findIn K (.ref C_9) "start"=some (some (.ref f_18)))
  (fn_18:W.isFn K (.ref f_18)=true)
  (a_9_busy:W.findIn K (.ref C_9) "busy"=some (some (.ref f_20)))
  (fn_20:W.isFn K (.ref f_20)=true)
  (a_9_free:W.findIn K (.ref C_9) "free"=some (some (.ref f_17)))
  (fn_17:W.isFn K (.ref f_17)=true)
  (a_9_done:W.findIn K (.ref C_9) "done"=some (some (.ref f_19)))
  (fn_19:W.isFn K (.ref f_19)=true)
  (a_9_init:W.findIn K (.ref C_9) "__init__"=some (some (.ref f_16)))
  (fn_16:W.isFn K (.ref f_16)=true)
  (mk_9:W.makesIn K C_9=true)
  (kc_9:W.keepIn K (.ref C_9)=true)
  (cl_0:L2.clsIn K C_0=true)
  (cl_3:L2.clsIn K C_3=true)
  (cl_4:L2.clsIn K C_4=true)
  (xe_3:W.excIn K C_3 [.type "ValueError",.type "Exception",.type "BaseException",.type "object"] "ValueError.__new__"=true)
  (xf_3:W.tX K C_3=true)
  (xe_4:W.excIn K C_4 [.type "ValueError",.type "Exception",.type "BaseException",.type "object"] "ValueError.__new__"=true)
  (xf_4:W.tX K C_4=true)
  (mr_3_3:(L2.mroOf K C_3).contains (.ref C_3)=true)
  (mr_4_3:(L2.mroOf K C_4).contains (.ref C_3)=false)
  (mr_3_4:(L2.mroOf K C_3).contains (.ref C_4)=false)
  (mr_4_4:(L2.mroOf K C_4).contains (.ref C_4)=true)
  (mr_3_0:(L2.mroOf K C_3).contains (.ref C_0)=true)
  (mr_4_0:(L2.mroOf K C_4).contains (.ref C_0)=true)
  (ko_3_8:W.kitOne K (.ref C_3) (.ref C_8)=some false)
  (ko_4_8:W.kitOne K (.ref C_4) (.ref C_8)=some false)
  (ko_3_7:W.kitOne K (.ref C_3) (.ref C_7)=some false)
  (ko_4_7:W.kitOne K (.ref C_4) (.ref C_7)=some false)
  (ko_3_6:W.kitOne K (.ref C_3) (.ref C_6)=some false)
  (ko_4_6:W.kitOne K (.ref C_4) (.ref C_6)=some false)
  (ko_3_5:W.kitOne K (.ref C_3) (.ref C_5)=some false)
  (ko_4_5:W.kitOne K (.ref C_4) (.ref C_5)=some false)
  (ko_3_1:W.kitOne K (.ref C_3) (.ref C_1)=some false)
  (ko_4_1:W.kitOne K (.ref C_4) (.ref C_1)=some false)
  (ko_3_2:W.kitOne K (.ref C_3) (.ref C_2)=some false)
  (ko_4_2:W.kitOne K (.ref C_4) (.ref C_2)=some false)
  (ko_3_3:W.kitOne K (.ref C_3) (.ref C_3)=some true)
  (ko_4_3:W.kitOne K (.ref C_4) (.ref C_3)=some false)
  (ko_3_4:W.kitOne K (.ref C_3) (.ref C_4)=some false)
  (ko_4_4:W.kitOne K (.ref C_4) (.ref C_4)=some true)
  (z_ValueError:W.nsIn K mainGlobals "ValueError"=some none)
  (ko_3_ValueError:W.kitOne K (.ref C_3) (.type "ValueError")=some true)
  (ko_4_ValueError:W.kitOne K (.ref C_4) (.type "ValueError")=some true)
  (ko_3_0:W.kitOne K (.ref C_3) (.ref C_0)=some true)
  (ko_4_0:W.kitOne K (.ref C_4) (.ref C_0)=some true)
  (z_len:W.nsIn K mainGlobals "len"=some none)
  (z_int:W.nsIn K mainGlobals "int"=some none)
  (z_max:W.nsIn K mainGlobals "max"=some none)
  (z_tuple:W.nsIn K mainGlobals "tuple"=some none)
  (z_list:W.nsIn K mainGlobals "list"=some none)
  (z_sorted:W.nsIn K mainGlobals "sorted"=some none)
  (z_isinstance:W.nsIn K mainGlobals "isinstance"=some none)
  (z_bool:W.nsIn K mainGlobals "bool"=some none)
  (z_range:W.nsIn K mainGlobals "range"=some none)
  (z_enumerate:W.nsIn K mainGlobals "enumerate"=some none)
  (z_zip:W.nsIn K mainGlobals "zip"=some none) :
  ∃fd:FuncData,(∀(s:Shared) (v:Value),BindsTo s fd ⟨[v],[]⟩ [("_law_script",v)])/\∀base:Heap,K.In base->base.Ns mainGlobals mg->dD l.prog w K mg base (cD l.prog w) (2*12) fa fd ["_law_script"] (qc K):=by
 have e:=hfa.symm.trans (W.mg_of X G x_15);cases e;have F_0:dP K "_law_cell_at" "_law_cell_at" gT f_0 _:=⟨⟨_,_,_,_,_,_,_,_,_,_,rfl,l_0,c_0⟩,k_0⟩;have b_0:Binds K (W.fnOf "_law_cell_at" "_law_cell_at" (aS gT) (aR gT) (aJ gT) .none kV_0 dc_0 pm_0 an_0 cd_0 ct_0) ["_law_script","_law_k"] []:=.all λus hl=>by obtain⟨v0,v1,rfl⟩:=AM.nZ hl;rfl
 have F_1:dP K "_law_mixed" "_law_mixed" lQ f_1 _:=⟨⟨_,_,_,_,_,_,_,_,_,_,rfl,l_1,c_1⟩,k_1⟩;have b_1:Binds K (W.fnOf "_law_mixed" "_law_mixed" (aS lQ) (aR lQ) (aJ lQ) .none kV_1 dc_1 pm_1 an_1 cd_1 ct_1) ["_law_cell","_law_k","_law_by","_law_prime"] []:=.all λus hl=>by obtain⟨v0,v1,v2,v3,rfl⟩:=AM.yT hl;rfl
 have F_2:dP K "_law_whole" "_law_whole" mC f_2 _:=⟨⟨_,_,_,_,_,_,_,_,_,_,rfl,l_2,c_2⟩,k_2⟩;have b_2:Binds K (W.fnOf "_law_whole" "_law_whole" (aS mC) (aR mC) (aJ mC) .none kV_2 dc_2 pm_2 an_2 cd_2 ct_2) ["_law_found"] []:=.all λus hl=>by obtain⟨v0,rfl⟩:=AM.qr hl;rfl
 have F_3:dP K "_law_alike" "_law_alike" mF f_3 _:=⟨⟨_,_,_,_,_,_,_,_,_,_,rfl,l_3,c_3⟩,k_3⟩;have b_3:Binds K (W.fnOf "_law_alike" "_law_alike" (aS mF) (aR mF) (aJ mF) .none kV_3 dc_3 pm_3 an_3 cd_3 ct_3) ["_law_found","_law_due"] []:=.all λus hl=>by obtain⟨v0,v1,rfl⟩:=AM.nZ hl;rfl
 have F_4:dP K "_law_table" "_law_table" mG f_4 _:=⟨⟨_,_,_,_,_,_,_,_,_,_,rfl,l_4,c_4⟩,k_4⟩;have b_4:Binds K (W.fnOf "_law_table" "_law_table" (aS mG) (aR mG) (aJ mG) .none kV_4 dc_4 pm_4 an_4 cd_4 ct_4) ["_law_one","_law_other"] []:=.all λus hl=>by obtain⟨v0,v1,rfl⟩:=AM.nZ hl;rfl
 have F_5:dP K "_law_free" "_law_free" mH f_5 _:=⟨⟨_,_,_,_,_,_,_,_,_,_,rfl,l_5,c_5⟩,k_5⟩;have b_5:Binds K (W.fnOf "_law_free" "_law_free" (aS mH) (aR mH) (aJ mH) .none kV_5 dc_5 pm_5 an_5 cd_5 ct_5) ["_law_table_here","_law_work","_law_group"] []:=.all λus hl=>by obtain⟨v0,v1,v2,rfl⟩:=AM.Dt hl;rfl
 have F_6:dP K "_law_class" "_law_class" mI f_6 _:=⟨⟨_,_,_,_,_,_,_,_,_,_,rfl,l_6,c_6⟩,k_6⟩;have b_6:Binds K (W.fnOf "_law_class" "_law_class" (aS mI) (aR mI) (aJ mI) .none kV_6 dc_6 pm_6 an_6 cd_6 ct_6) ["_law_caught","_law_busy"] []:=.all λus hl=>by obtain⟨v0,v1,rfl⟩:=AM.nZ hl;rfl
 have F_7:dP K "_law_refused" "_law_refused" mJ f_7 _:=⟨⟨_,_,_,_,_,_,_,_,_,_,rfl,l_7,c_7⟩,k_7⟩;have b_7:Binds K (W.fnOf "_law_refused" "_law_refused" (aS mJ) (aR mJ) (aJ mJ) .none kV_7 dc_7 pm_7 an_7 cd_7 ct_7) ["_law_benches","_law_ticket_here","_law_group","_law_turn","_law_busy"] []:=.all λus hl=>by obtain⟨v0,v1,v2,v3,v4,rfl⟩:=AM.Du hl;rfl
 have F_8:dP K "_law_refused_by_any" "_law_refused_by_any" mK f_8 _:=⟨⟨_,_,_,_,_,_,_,_,_,_,rfl,l_8,c_8⟩,k_8⟩;have b_8:Binds K (W.fnOf "_law_refused_by_any" "_law_refused_by_any" (aS mK) (aR mK) (aJ mK) .none kV_8 dc_8 pm_8 an_8 cd_8 ct_8) ["_law_benches","_law_ticket_here","_law_group","_law_turn"] []:=.all λus hl=>by obtain⟨v0,v1,v2,v3,rfl⟩:=AM.yT hl;rfl
 have F_9:dP K "_law_ticket" "_law_ticket" mL f_9 _:=⟨⟨_,_,_,_,_,_,_,_,_,_,rfl,l_9,c_9⟩,k_9⟩;have b_9:Binds K (W.fnOf "_law_ticket" "_law_ticket" (aS mL) (aR mL) (aJ mL) .none kV_9 dc_9 pm_9 an_9 cd_9 ct_9) ["_law_work","_law_number"] []:=.all λus hl=>by obtain⟨v0,v1,rfl⟩:=AM.nZ hl;rfl
 have F_10:dP K "_law_started" "_law_started" lR f_10 _:=⟨⟨_,_,_,_,_,_,_,_,_,_,rfl,l_10,c_10⟩,k_10⟩;have b_10:Binds K (W.fnOf "_law_started" "_law_started" (aS lR) (aR lR) (aJ lR) .none kV_10 dc_10 pm_10 an_10 cd_10 ct_10) ["_law_benches","_law_table_here","_law_work","_law_ticket_here","_law_spot"] []:=.all λus hl=>by obtain⟨v0,v1,v2,v3,v4,rfl⟩:=AM.Du hl;rfl
 have F_11:dP K "_law_asked" "_law_asked" lS f_11 _:=⟨⟨_,_,_,_,_,_,_,_,_,_,rfl,l_11,c_11⟩,k_11⟩;have b_11:Binds K (W.fnOf "_law_asked" "_law_asked" (aS lS) (aR lS) (aJ lS) .none kV_11 dc_11 pm_11 an_11 cd_11 ct_11) ["_law_benches","_law_table_here","_law_work","_law_group"] []:=.all λus hl=>by obtain⟨v0,v1,v2,v3,rfl⟩:=AM.yT hl;rfl
 have F_12:dP K "_law_gone" "_law_gone" lT f_12 _:=⟨⟨_,_,_,_,_,_,_,_,_,_,rfl,l_12,c_12⟩,k_12⟩;have b_12:Binds K (W.fnOf "_law_gone" "_law_gone" (aS lT) (aR lT) (aJ lT) .none kV_12 dc_12 pm_12 an_12 cd_12 ct_12) ["_law_benches","_law_work","_law_turn","_law_held"] []:=.all λus hl=>by obtain⟨v0,v1,v2,v3,rfl⟩:=AM.yT hl;rfl
 have F_13:dP K "_law_turned" "_law_turned" lU f_13 _:=⟨⟨_,_,_,_,_,_,_,_,_,_,rfl,l_13,c_13⟩,k_13⟩;have b_13:Binds K (W.fnOf "_law_turned" "_law_turned" (aS lU) (aR lU) (aJ lU) .none kV_13 dc_13 pm_13 an_13 cd_13 ct_13) ["_law_benches","_law_work","_law_turn","_law_number","_law_held"] []:=.all λus hl=>by obtain⟨v0,v1,v2,v3,v4,rfl⟩:=AM.Du hl;rfl
 have F_14:dP K "_law_all" "_law_all" lV f_14 _:=⟨⟨_,_,_,_,_,_,_,_,_,_,rfl,l_14,c_14⟩,k_14⟩;have b_14:Binds K (W.fnOf "_law_all" "_law_all" (aS lV) (aR lV) (aJ lV) .none kV_14 dc_14 pm_14 an_14 cd_14 ct_14) ["_law_table_here","_law_begin","_law_cells"] []:=.all λus hl=>by obtain⟨v0,v1,v2,rfl⟩:=AM.Dt hl;rfl
 have F_15:dP K "law" "law" lW fa _:=⟨⟨_,_,_,_,_,_,_,_,_,_,rfl,l_15,c_15⟩,k_15⟩;have b_15:Binds K (W.fnOf "law" "law" (aS lW) (aR lW) (aJ lW) .none kV_15 dc_15 pm_15 an_15 cd_15 ct_15) ["_law_script"] []:=.all λus hl=>by obtain⟨v0,rfl⟩:=AM.qr hl;rfl
 have F_16:dP K "__init__" "Benches.__init__" lX f_16 _:=⟨⟨_,_,_,_,_,_,_,_,_,_,rfl,l_16,c_16⟩,k_16⟩;have b_16:Binds K (W.fnOf "__init__" "Benches.__init__" (aS lX) (aR lX) (aJ lX) .none kV_16 dc_16 pm_16 an_16 cd_16 ct_16) ["self","table"] []:=.all λus hl=>by obtain⟨v0,v1,rfl⟩:=AM.nZ hl;rfl
 have F_17:dP K "free" "Benches.free" lY f_17 _:=⟨⟨_,_,_,_,_,_,_,_,_,_,rfl,l_17,c_17⟩,k_17⟩;have b_17:Binds K (W.fnOf "free" "Benches.free" (aS lY) (aR lY) (aJ lY) .none kV_17 dc_17 pm_17 an_17 cd_17 ct_17) ["self","group"] []:=.all λus hl=>by obtain⟨v0,v1,rfl⟩:=AM.nZ hl;rfl
 have F_18:dP K "start" "Benches.start" lZ f_18 _:=⟨⟨_,_,_,_,_,_,_,_,_,_,rfl,l_18,c_18⟩,k_18⟩;have b_18:Binds K (W.fnOf "start" "Benches.start" (aS lZ) (aR lZ) (aJ lZ) .none kV_18 dc_18 pm_18 an_18 cd_18 ct_18) ["self","ticket","group","turn"] []:=.all λus hl=>by obtain⟨v0,v1,v2,v3,rfl⟩:=AM.yT hl;rfl
 have F_19:dP K "done" "Benches.done" mB f_19 _:=⟨⟨_,_,_,_,_,_,_,_,_,_,rfl,l_19,c_19⟩,k_19⟩;have b_19:Binds K (W.fnOf "done" "Benches.done" (aS mB) (aR mB) (aJ mB) .none kV_19 dc_19 pm_19 an_19 cd_19 ct_19) ["self","turn"] []:=.all λus hl=>by obtain⟨v0,v1,rfl⟩:=AM.nZ hl;rfl
 have F_20:dP K "busy" "Benches.busy" mD f_20 _:=⟨⟨_,_,_,_,_,_,_,_,_,_,rfl,l_20,c_20⟩,k_20⟩;have b_20:Binds K (W.fnOf "busy" "Benches.busy" (aS mD) (aR mD) (aJ mD) .none kV_20 dc_20 pm_20 an_20 cd_20 ct_20) ["self"] []:=.all λus hl=>by obtain⟨v0,rfl⟩:=AM.qr hl;rfl
 have F_21:dP K "throw" "Benches.throw" mE f_21 _:=⟨⟨_,_,_,_,_,_,_,_,_,_,rfl,l_21,c_21⟩,k_21⟩;have b_21:Binds K (W.fnOf "throw" "Benches.throw" (aS mE) (aR mE) (aJ mE) .none kV_21 dc_21 pm_21 an_21 cd_21 ct_21) ["self","ticket"] []:=.all λus hl=>by obtain⟨v0,v1,rfl⟩:=AM.nZ hl;rfl
 have O:so l.prog w pr ⟨K,λkvs a=>False,λi=>match i with|0=>some C_0|1=>some C_1|2=>some C_2|3=>some C_3|4=>some C_4|5=>some C_5|6=>some C_6|7=>some C_7|8=>some C_8|9=>some C_9|_=>none⟩ mg (λi=>([f_0,f_1,f_2,f_3,f_4,f_5,f_6,f_7,f_8,f_9,f_10,f_11,f_12,f_13,f_14,fa,f_16,f_17,f_18,f_19,f_20,f_21]:List Addr).getD i 0) (λi=>([W.fnOf "_law_cell_at" "_law_cell_at" (aS gT) (aR gT) (aJ gT) .none kV_0 dc_0 pm_0 an_0 cd_0 ct_0,W.fnOf "_law_mixed" "_law_mixed" (aS lQ) (aR lQ) (aJ lQ) .none kV_1 dc_1 pm_1 an_1 cd_1 ct_1,W.fnOf "_law_whole" "_law_whole" (aS mC) (aR mC) (aJ mC) .none kV_2 dc_2 pm_2 an_2 cd_2 ct_2,W.fnOf "_law_alike" "_law_alike" (aS mF) (aR mF) (aJ mF) .none kV_3 dc_3 pm_3 an_3 cd_3 ct_3,W.fnOf "_law_table" "_law_table" (aS mG) (aR mG) (aJ mG) .none kV_4 dc_4 pm_4 an_4 cd_4 ct_4,W.fnOf "_law_free" "_law_free" (aS mH) (aR mH) (aJ mH) .none kV_5 dc_5 pm_5 an_5 cd_5 ct_5,W.fnOf "_law_class" "_law_class" (aS mI) (aR mI) (aJ mI) .none kV_6 dc_6 pm_6 an_6 cd_6 ct_6,W.fnOf "_law_refused" "_law_refused" (aS mJ) (aR mJ) (aJ mJ) .none kV_7 dc_7 pm_7 an_7 cd_7 ct_7,W.fnOf "_law_refused_by_any" "_law_refused_by_any" (aS mK) (aR mK) (aJ mK) .none kV_8 dc_8 pm_8 an_8 cd_8 ct_8,W.fnOf "_law_ticket" "_law_ticket" (aS mL) (aR mL) (aJ mL) .none kV_9 dc_9 pm_9 an_9 cd_9 ct_9,W.fnOf "_law_started" "_law_started" (aS lR) (aR lR) (aJ lR) .none kV_10 dc_10 pm_10 an_10 cd_10 ct_10,W.fnOf "_law_asked" "_law_asked" (aS lS) (aR lS) (aJ lS) .none kV_11 dc_11 pm_11 an_11 cd_11 ct_11,W.fnOf "_law_gone" "_law_gone" (aS lT) (aR lT) (aJ lT) .none kV_12 dc_12 pm_12 an_12 cd_12 ct_12,W.fnOf "_law_turned" "_law_turned" (aS lU) (aR lU) (aJ lU) .none kV_13 dc_13 pm_13 an_13 cd_13 ct_13,W.fnOf "_law_all" "_law_all" (aS lV) (aR lV) (aJ lV) .none kV_14 dc_14 pm_14 an_14 cd_14 ct_14,W.fnOf "law" "law" (aS lW) (aR lW) (aJ lW) .none kV_15 dc_15 pm_15 an_15 cd_15 ct_15,W.fnOf "__init__" "Benches.__init__" (aS lX) (aR lX) (aJ lX) .none kV_16 dc_16 pm_16 an_16 cd_16 ct_16,W.fnOf "free" "Benches.free" (aS lY) (aR lY) (aJ lY) .none kV_17 dc_17 pm_17 an_17 cd_17 ct_17,W.fnOf "start" "Benches.start" (aS lZ) (aR lZ) (aJ lZ) .none kV_18 dc_18 pm_18 an_18 cd_18 ct_18,W.fnOf "done" "Benches.done" (aS mB) (aR mB) (aJ mB) .none kV_19 dc_19 pm_19 an_19 cd_19 ct_19,W.fnOf "busy" "Benches.busy" (aS mD) (aR mD) (aJ mD) .none kV_20 dc_20 pm_20 an_20 cd_20 ct_20,W.fnOf "throw" "Benches.throw" (aS mE) (aR mE) (aJ mE) .none kV_21 dc_21 pm_21 an_21 cd_21 ct_21]:List FuncData).getD i (W.fnOf "_law_cell_at" "_law_cell_at" (aS gT) (aR gT) (aJ gT) .none kV_0 dc_0 pm_0 an_0 cd_0 ct_0)):=by
  refine⟨λi d hd=>?_,λi d hd=>?_,λx v hx=>?_,λx hx=>?_,λkvs a ht=>?_,λx c hx=>?_,λx cs hx=>?_,λy cs hx=>?_,λf cs hx=>?_,λm dp hx c i hi=>?_,λx n c i dv hx=>?_,λy cs hx=>?_,λx m i hx=>?_⟩
  .exact wF.get (ds:=[qG,qH,qR,qT,qU,qV,qW,qX,qY,qZ,qI,qJ,qK,qL,qM,oM,qN,qO,qP,qQ,qS,uH]) (.cons ⟨F_0,b_0,NN⟩ (.cons ⟨F_1,b_1,NO⟩ (.cons ⟨F_2,b_2,NZ⟩ (.cons ⟨F_3,b_3,OC⟩ (.cons ⟨F_4,b_4,OD⟩ (.cons ⟨F_5,b_5,OE⟩ (.cons ⟨F_6,b_6,OF⟩ (.cons ⟨F_7,b_7,OG⟩ (.cons ⟨F_8,b_8,OH⟩ (.cons ⟨F_9,b_9,OI⟩ (.cons ⟨F_10,b_10,NP⟩ (.cons ⟨F_11,b_11,NQ⟩ (.cons ⟨F_12,b_12,NR⟩ (.cons ⟨F_13,b_13,NS⟩ (.cons ⟨F_14,b_14,NT⟩ (.cons ⟨F_15,b_15,NU⟩ (.cons ⟨F_16,b_16,NV⟩ (.cons ⟨F_17,b_17,NW⟩ (.cons ⟨F_18,b_18,NX⟩ (.cons ⟨F_19,b_19,NY⟩ (.cons ⟨F_20,b_20,OA⟩ (.cons ⟨F_21,b_21,OB⟩ .nil)))))))))))))))))))))) i d hd
  .exact wG.get (ds:=[qG,qH,qR,qT,qU,qV,qW,qX,qY,qZ,qI,qJ,qK,qL,qM,oM]) (as:=[f_0,f_1,f_2,f_3,f_4,f_5,f_6,f_7,f_8,f_9,f_10,f_11,f_12,f_13,f_14,fa,f_16,f_17,f_18,f_19,f_20,f_21]) (.cons (W.mg_of X G x_0) (.cons (W.mg_of X G x_1) (.cons (W.mg_of X G x_2) (.cons (W.mg_of X G x_3) (.cons (W.mg_of X G x_4) (.cons (W.mg_of X G x_5) (.cons (W.mg_of X G x_6) (.cons (W.mg_of X G x_7) (.cons (W.mg_of X G x_8) (.cons (W.mg_of X G x_9) (.cons (W.mg_of X G x_10) (.cons (W.mg_of X G x_11) (.cons (W.mg_of X G x_12) (.cons (W.mg_of X G x_13) (.cons (W.mg_of X G x_14) (.cons (W.mg_of X G x_15) .nil)))))))))))))))) i d hd
  .exact(rQ hx).elim
  .have hx:x∈(["len","int","max","tuple","list","sorted","isinstance","bool","range","enumerate","zip"]:List Str):=List.contains_iff_mem.mp hx;simp only[List.mem_cons,List.not_mem_nil,or_false]at hx;rcases hx with rfl|rfl|rfl|rfl|rfl|rfl|rfl|rfl|rfl|rfl|rfl
   .exact W.mg_none_of X G z_len
   .exact W.mg_none_of X G z_int
   .exact W.mg_none_of X G z_max
   .exact W.mg_none_of X G z_tuple
   .exact W.mg_none_of X G z_list
   .exact W.mg_none_of X G z_sorted
   .exact W.mg_none_of X G z_isinstance
   .exact W.mg_none_of X G z_bool
   .exact W.mg_none_of X G z_range
   .exact W.mg_none_of X G z_enumerate
   .exact W.mg_none_of X G z_zip
  .exact ht.elim
  .rcases eJ hx with⟨rfl,rfl⟩|hx
   .exact⟨C_3,_,_,_,_,W.mg_of X G xc_3,rfl,xe_3,PySem.F.excBase_ValueError⟩
   rcases eJ hx with⟨rfl,rfl⟩|hx
   .exact⟨C_4,_,_,_,_,W.mg_of X G xc_4,rfl,xe_4,PySem.F.excBase_ValueError⟩
   exact(rQ hx).elim
  .rcases eJ hx with⟨rfl,rfl⟩|hx
   .refine⟨C_3,W.mg_of X G xc_3,cl_3,λc b hc=>?_⟩;rcases cK hc with⟨rfl,rfl⟩|hc
    .exact⟨C_3,rfl,cl_3,mr_3_3⟩
    rcases cK hc with⟨rfl,rfl⟩|hc
    .exact⟨C_4,rfl,cl_4,mr_4_3⟩
    exact(fI hc).elim
   rcases eJ hx with⟨rfl,rfl⟩|hx
   .refine⟨C_4,W.mg_of X G xc_4,cl_4,λc b hc=>?_⟩;rcases cK hc with⟨rfl,rfl⟩|hc
    .exact⟨C_3,rfl,cl_3,mr_3_4⟩
    rcases cK hc with⟨rfl,rfl⟩|hc
    .exact⟨C_4,rfl,cl_4,mr_4_4⟩
    exact(fI hc).elim
   rcases eJ hx with⟨rfl,rfl⟩|hx
   .refine⟨C_0,W.mg_of X G xc_0,cl_0,λc b hc=>?_⟩;rcases cK hc with⟨rfl,rfl⟩|hc
    .exact⟨C_3,rfl,cl_3,mr_3_0⟩
    rcases cK hc with⟨rfl,rfl⟩|hc
    .exact⟨C_4,rfl,cl_4,mr_4_0⟩
    exact(fI hc).elim
   exact(rQ hx).elim
  .rcases eJ hx with⟨rfl,rfl⟩|hx
   .refine⟨.ref C_8,.ref C_8,λu h=>h,rfl,.inl (W.mg_of X G xc_8),λk b hk=>?_⟩;rcases cK hk with⟨rfl,rfl⟩|hk
    .exact⟨C_3,rfl,xf_3,ko_3_8⟩
    rcases cK hk with⟨rfl,rfl⟩|hk
    .exact⟨C_4,rfl,xf_4,ko_4_8⟩
    exact(fI hk).elim
   rcases eJ hx with⟨rfl,rfl⟩|hx
   .refine⟨.ref C_7,.ref C_7,λu h=>h,rfl,.inl (W.mg_of X G xc_7),λk b hk=>?_⟩;rcases cK hk with⟨rfl,rfl⟩|hk
    .exact⟨C_3,rfl,xf_3,ko_3_7⟩
    rcases cK hk with⟨rfl,rfl⟩|hk
    .exact⟨C_4,rfl,xf_4,ko_4_7⟩
    exact(fI hk).elim
   rcases eJ hx with⟨rfl,rfl⟩|hx
   .refine⟨.ref C_6,.ref C_6,λu h=>h,rfl,.inl (W.mg_of X G xc_6),λk b hk=>?_⟩;rcases cK hk with⟨rfl,rfl⟩|hk
    .exact⟨C_3,rfl,xf_3,ko_3_6⟩
    rcases cK hk with⟨rfl,rfl⟩|hk
    .exact⟨C_4,rfl,xf_4,ko_4_6⟩
    exact(fI hk).elim
   rcases eJ hx with⟨rfl,rfl⟩|hx
   .refine⟨.ref C_5,.ref C_5,λu h=>h,rfl,.inl (W.mg_of X G xc_5),λk b hk=>?_⟩;rcases cK hk with⟨rfl,rfl⟩|hk
    .exact⟨C_3,rfl,xf_3,ko_3_5⟩
    rcases cK hk with⟨rfl,rfl⟩|hk
    .exact⟨C_4,rfl,xf_4,ko_4_5⟩
    exact(fI hk).elim
   rcases eJ hx with⟨rfl,rfl⟩|hx
   .refine⟨.ref C_1,.ref C_1,λu h=>h,rfl,.inl (W.mg_of X G xc_1),λk b hk=>?_⟩;rcases cK hk with⟨rfl,rfl⟩|hk
    .exact⟨C_3,rfl,xf_3,ko_3_1⟩
    rcases cK hk with⟨rfl,rfl⟩|hk
    .exact⟨C_4,rfl,xf_4,ko_4_1⟩
    exact(fI hk).elim
   rcases eJ hx with⟨rfl,rfl⟩|hx
   .refine⟨.ref C_2,.ref C_2,λu h=>h,rfl,.inl (W.mg_of X G xc_2),λk b hk=>?_⟩;rcases cK hk with⟨rfl,rfl⟩|hk
    .exact⟨C_3,rfl,xf_3,ko_3_2⟩
    rcases cK hk with⟨rfl,rfl⟩|hk
    .exact⟨C_4,rfl,xf_4,ko_4_2⟩
    exact(fI hk).elim
   rcases eJ hx with⟨rfl,rfl⟩|hx
   .refine⟨.ref C_3,.ref C_3,λu h=>h,rfl,.inl (W.mg_of X G xc_3),λk b hk=>?_⟩;rcases cK hk with⟨rfl,rfl⟩|hk
    .exact⟨C_3,rfl,xf_3,ko_3_3⟩
    rcases cK hk with⟨rfl,rfl⟩|hk
    .exact⟨C_4,rfl,xf_4,ko_4_3⟩
    exact(fI hk).elim
   rcases eJ hx with⟨rfl,rfl⟩|hx
   .refine⟨.ref C_4,.ref C_4,λu h=>h,rfl,.inl (W.mg_of X G xc_4),λk b hk=>?_⟩;rcases cK hk with⟨rfl,rfl⟩|hk
    .exact⟨C_3,rfl,xf_3,ko_3_4⟩
    rcases cK hk with⟨rfl,rfl⟩|hk
    .exact⟨C_4,rfl,xf_4,ko_4_4⟩
    exact(fI hk).elim
   rcases eJ hx with⟨rfl,rfl⟩|hx
   .refine⟨.ty "ValueError",.type "ValueError",λu h=>h,rfl,.inr ⟨W.mg_none_of X G z_ValueError,PyProof.Rows.Boot.«ValueError»⟩,λk b hk=>?_⟩;rcases cK hk with⟨rfl,rfl⟩|hk
    .exact⟨C_3,rfl,xf_3,ko_3_ValueError⟩
    rcases cK hk with⟨rfl,rfl⟩|hk
    .exact⟨C_4,rfl,xf_4,ko_4_ValueError⟩
    exact(fI hk).elim
   rcases eJ hx with⟨rfl,rfl⟩|hx
   .refine⟨.ref C_0,.ref C_0,λu h=>h,rfl,.inl (W.mg_of X G xc_0),λk b hk=>?_⟩;rcases cK hk with⟨rfl,rfl⟩|hk
    .exact⟨C_3,rfl,xf_3,ko_3_0⟩
    rcases cK hk with⟨rfl,rfl⟩|hk
    .exact⟨C_4,rfl,xf_4,ko_4_0⟩
    exact(fI hk).elim
   exact(rQ hx).elim
  .rcases eJ hx with⟨rfl,rfl⟩|hx
   .intro c D hc hD;rw[List.contains_iff_mem]at hc;simp only[List.mem_cons,List.not_mem_nil,or_false]at hc;rcases hc with rfl
    .cases hD;exact⟨⟨pg_9,hd_9,po_9,sa_9⟩,na_9_working⟩
   rcases eJ hx with⟨rfl,rfl⟩|hx
   .intro c D hc hD;rw[List.contains_iff_mem]at hc;simp only[List.mem_cons,List.not_mem_nil,or_false]at hc;rcases hc with rfl
    .cases hD;exact⟨⟨pg_9,hd_9,po_9,sa_9⟩,na_9_table⟩
   exact(rQ hx).elim
  .rcases eJ hx with⟨rfl,rfl⟩|hx
   .rcases cK hi with⟨rfl,rfl⟩|hi
    .exact⟨qP,C_9,rfl,rfl,⟨pg_9,hd_9,po_9,sa_9⟩,a_9_start,fn_18,k_18⟩
    exact(fI hi).elim
   rcases eJ hx with⟨rfl,rfl⟩|hx
   .rcases cK hi with⟨rfl,rfl⟩|hi
    .exact⟨qS,C_9,rfl,rfl,⟨pg_9,hd_9,po_9,sa_9⟩,a_9_busy,fn_20,k_20⟩
    exact(fI hi).elim
   rcases eJ hx with⟨rfl,rfl⟩|hx
   .rcases cK hi with⟨rfl,rfl⟩|hi
    .exact⟨qO,C_9,rfl,rfl,⟨pg_9,hd_9,po_9,sa_9⟩,a_9_free,fn_17,k_17⟩
    exact(fI hi).elim
   rcases eJ hx with⟨rfl,rfl⟩|hx
   .rcases cK hi with⟨rfl,rfl⟩|hi
    .exact⟨qQ,C_9,rfl,rfl,⟨pg_9,hd_9,po_9,sa_9⟩,a_9_done,fn_19,k_19⟩
    exact(fI hi).elim
   exact(rQ hx).elim
  .rcases AD hx with⟨rfl,rfl,hv⟩|hx
   .cases hv;exact⟨qN,C_9,[],[],rfl,rfl,⟨mk_9,a_9_init,fn_16,kc_9⟩,W.mg_of X G xc_9,b_16,.nil,λ_ _=>.nil⟩
   exact(AE hx).elim
  .exact(rQ hx).elim
  .obtain⟨r,h1,h2⟩:=Option.bind_eq_some_iff.mp hx;clear hx;exact(rQ h1).elim
 have hk:Keeps pr.ir 12 15:=by rw[Yz];exact keeps
 exact⟨_,λs v=>.of_eq rfl,λbase _ _=>Zy (T:=⟨K,λkvs a=>False,λi=>match i with|0=>some C_0|1=>some C_1|2=>some C_2|3=>some C_3|4=>some C_4|5=>some C_5|6=>some C_6|7=>some C_7|8=>some C_8|9=>some C_9|_=>none⟩) (d:=oM) O rfl hk⟩
end AMx
open PySem PySem.W PyProof.Rows
namespace PySem.W.Fast
def bO:List Stmt->Nat->Stmt|a::_,0=>a|_::l,n+1=>bO l n | [],_=>.Pass (.mk 0 0 0 0)
def aU:Stmt->List Stmt | .FunctionDef _ _ b _ _ _ _ _ _ _=>b | .ClassDef _ _ _ b _ _ _ _ _ _ _=>b|_=>[]
def bA:Stmt->Arguments | .FunctionDef _ p _ _ _ _ _ _ _ _=>p|_=>default
def bB:Stmt->Scope | .FunctionDef _ _ _ _ _ _ s _ _ _=>s | .ClassDef _ _ _ _ _ _ s _ _ _ _=>s|_=>default
def qf(o:Obj):BT:=.node o .nil .nil
def qb(s:String)(x:Data):Obj:=⟨.type s,.none,x,#[]⟩
def qd(P:Params)(n:Str)(i:Nat)(v:Value):DictEntry:=⟨PySem.PyData.keyHash P n,.str n i,v⟩
def aK:String:=PySem.W.SL.s2766695959194262286x5
def bS:String:=PySem.W.SL.s5856160107412720595x4
def lP:String:=PySem.W.SL.s658472552662922059x5
def cB:String:=PySem.W.SL.s14018661285674007319x4
def kI:String:=PySem.W.SL.s7097527257260152453x26
def dA:String:=PySem.W.SL.s6070975301684473832x10
def eQ:String:=PySem.W.SL.s11030030927630378310x26
def nX:String:=PySem.W.SL.s10062305145149207511x16
def cW:String:=PySem.W.SL.s17162191345867700912x4
def fM:String:=PySem.W.SL.s5946037652744460706x9
def fK:String:=PySem.W.SL.s4278001404047624695x13
def eU:String:=PySem.W.SL.s2742458400755230247x6
def fL:String:=PySem.W.SL.s4209523147560561109x18
def Ck:String:=PySem.W.SL.s14755015743595814543x17
def Nz:String:=PySem.W.SL.s10220274742760427390x26
def nV:String:=PySem.W.SL.s4290257624100764138x5
def nW:String:=PySem.W.SL.s4860613602091757760x24
def dN:String:=PySem.W.SL.s7174869446012820540x8
def ME:String:=PySem.W.SL.s11443829558043349243x14
def MF:String:=PySem.W.SL.s6511155373996960695x17
def MG:String:=PySem.W.SL.s12411053484034534018x21
def LD:Stmt:=bO qMB 0
def Nj:Stmt:=bO qMB 1
def Nk:Stmt:=bO qMB 2
def Nl:Stmt:=bO qMB 3
def Nm:Stmt:=bO qMB 4
def Nn:Stmt:=bO qMB 5
def Np:Stmt:=bO qMB 6
def Cf:Stmt:=bO qMB 7
def nU:Stmt:=bO (aU Cf) 0
def Cg:Stmt:=bO qMB 8
def oy:Stmt:=bO (aU Cg) 0
def Ci:Stmt:=bO qMB 9
def oz:Stmt:=bO (aU Ci) 0
def LF:Stmt:=bO qMB 10
def tB:Stmt:=bO qMB 11
def yG:Stmt:=bO (aU tB) 0
def yH:Stmt:=bO (aU tB) 1
def yI:Stmt:=bO (aU tB) 2
def yJ:Stmt:=bO (aU tB) 3
def yK:Stmt:=bO (aU tB) 4
def yL:Stmt:=bO (aU tB) 5
def LG:Stmt:=bO qMB 12
def tD:Stmt:=bO qMB 13
def tE:Stmt:=bO qMB 14
def tF:Stmt:=bO qMB 15
def tG:Stmt:=bO qMB 16
def tH:Stmt:=bO qMB 17
def tI:Stmt:=bO qMB 18
def tJ:Stmt:=bO qMB 19
def tK:Stmt:=bO qMB 20
def tL:Stmt:=bO qMB 21
def tM:Stmt:=bO qMB 22
def tN:Stmt:=bO qMB 23
def tO:Stmt:=bO qMB 24
def tP:Stmt:=bO qMB 25
def tQ:Stmt:=bO qMB 26
def tR:Stmt:=bO qMB 27
def tS:Stmt:=bO qMB 28
def Lv:Str:=.mk #[60,109,111,100,117,108,101,62]
def aN:Str:=.mk #[47,99,108,97,105,109,47,99,117,116,46,112,121]
def JD:Str:=.mk #[95,95,109,97,105,110,95,95]
def jQ:Str:=.mk #[95,95,110,97,109,101,95,95]
def bP:Str:=.mk #[97,104,101,97,100,109,105,108,108,46,101,114,114,111,114,115]
def eC:Str:=.mk #[95,95,100,111,99,95,95]
def jR:Str:=.mk #[95,95,112,97,99,107,97,103,101,95,95]
def jS:Str:=.mk #[95,95,108,111,97,100,101,114,95,95]
def jT:Str:=.mk #[95,95,115,112,101,99,95,95]
def jU:Str:=.mk #[95,95,97,110,110,111,116,97,116,105,111,110,115,95,95]
def jM:Str:=.mk #[95,95,98,117,105,108,116,105,110,115,95,95]
def jN:Str:=.mk #[95,95,102,105,108,101,95,95]
def jO:Str:=.mk #[95,95,99,97,99,104,101,100,95,95]
def aZ:Str:=.mk #[77,105,108,108,69,114,114,111,114]
def eM:Str:=.mk #[95,95,109,111,100,117,108,101,95,95]
def nE:Str:=.mk #[95,95,113,117,97,108,110,97,109,101,95,95]
def eN:Str:=.mk #[95,95,102,105,114,115,116,108,105,110,101,110,111,95,95]
def eO:Str:=.mk #[95,95,115,116,97,116,105,99,95,97,116,116,114,105,98,117,116,101,115,95,95]
def jv:Str:=.mk #[95,95,119,101,97,107,114,101,102,95,95]
def eZ:Str:=.mk #[78,111,117,103,104,116]
def fJ:Str:=.mk #[78,111,80,108,97,99,101]
def fU:Str:=.mk #[78,111,84,105,99,107,101,116]
def gC:Str:=.mk #[66,117,115,121]
def gS:Str:=.mk #[72,97,108,116,101,100]
def iH:Str:=.mk #[78,111,82,111,119]
def eP:Str:=.mk #[95,95,105,110,105,116,95,95]
def ao:Str:=.mk #[115,101,108,102]
def xM:Str:=.mk #[108,105,110,101]
def xu:Str:=.mk #[78,111,82,111,119,46,95,95,105,110,105,116,95,95]
def jP:Str:=.mk #[84,119,105,99,101]
def xv:Str:=.mk #[84,119,105,99,101,46,95,95,105,110,105,116,95,95]
def nF:Str:=.mk #[97,104,101,97,100,109,105,108,108,46,98,101,110,99,104,101,115]
def lB:Str:=.mk #[78,111,76,97,98,101,108]
def xw:Str:=.mk #[78,111,76,97,98,101,108,46,95,95,105,110,105,116,95,95]
def eT:Str:=.mk #[108,97,119,95,97,104,101,97,100,109,105,108,108,95,107,50,55,95,98,101,110,99,104,101,115]
def nG:Str:=.mk #[66,101,110,99,104,101,115]
def aq:Str:=.mk #[102,114,101,101]
def au:Str:=.mk #[115,116,97,114,116]
def av:Str:=.mk #[100,111,110,101]
def aw:Str:=.mk #[98,117,115,121]
def ax:Str:=.mk #[116,104,114,111,119]
def Lw:Str:=.mk #[116,97,98,108,101]
def xx:Str:=.mk #[66,101,110,99,104,101,115,46,95,95,105,110,105,116,95,95]
def xy:Str:=.mk #[66,101,110,99,104,101,115,46,102,114,101,101]
def JE:Str:=.mk #[116,105,99,107,101,116]
def JF:Str:=.mk #[103,114,111,117,112]
def JG:Str:=.mk #[116,117,114,110]
def JH:Str:=.mk #[100,117,101]
def ya:Str:=.mk #[66,101,110,99,104,101,115,46,115,116,97,114,116]
def yb:Str:=.mk #[66,101,110,99,104,101,115,46,100,111,110,101]
def yc:Str:=.mk #[66,101,110,99,104,101,115,46,98,117,115,121]
def yd:Str:=.mk #[66,101,110,99,104,101,115,46,116,104,114,111,119]
def JI:Str:=.mk #[119,111,114,107,105,110,103]
def Lx:Str:=.mk #[95,95,100,105,99,116,95,95]
def rZ:Str:=.mk #[95,108,97,119,95,99,101,108,108,95,97,116]
def sA:Str:=.mk #[95,108,97,119,95,109,105,120,101,100]
def sC:Str:=.mk #[95,108,97,119,95,119,104,111,108,101]
def sD:Str:=.mk #[95,108,97,119,95,97,108,105,107,101]
def sE:Str:=.mk #[95,108,97,119,95,116,97,98,108,101]
def sF:Str:=.mk #[95,108,97,119,95,102,114,101,101]
def sG:Str:=.mk #[95,108,97,119,95,99,108,97,115,115]
def sH:Str:=.mk #[95,108,97,119,95,114,101,102,117,115,101,100]
def sI:Str:=.mk #[95,108,97,119,95,114,101,102,117,115,101,100,95,98,121,95,97,110,121]
def sJ:Str:=.mk #[95,108,97,119,95,116,105,99,107,101,116]
def sL:Str:=.mk #[95,108,97,119,95,115,116,97,114,116,101,100]
def sM:Str:=.mk #[95,108,97,119,95,97,115,107,101,100]
def sN:Str:=.mk #[95,108,97,119,95,103,111,110,101]
def Ly:Str:=.mk #[95,108,97,119,95,115,99,114,105,112,116]
def jw:Str:=.mk #[95,108,97,119,95,107]
def Lz:Str:=.mk #[95,108,97,119,95,99,101,108,108]
def JJ:Str:=.mk #[95,108,97,119,95,98,121]
def JK:Str:=.mk #[95,108,97,119,95,112,114,105,109,101]
def ye:Str:=.mk #[95,108,97,119,95,102,111,117,110,100]
def Ma:Str:=.mk #[95,108,97,119,95,100,117,101]
def Mb:Str:=.mk #[95,108,97,119,95,111,110,101]
def Mc:Str:=.mk #[95,108,97,119,95,111,116,104,101,114]
def JL:Str:=.mk #[95,108,97,119,95,112,97,105,114,115]
def jx:Str:=.mk #[95,108,97,119,95,110,117,109,98,101,114]
def Md:Str:=.mk #[95,108,97,119,95,99,97,117,103,104,116]
def Me:Str:=.mk #[95,108,97,119,95,98,117,115,121]
def ay:Str:=.mk #[95,108,97,119,95,98,101,110,99,104,101,115]
def Mf:Str:=.mk #[95,108,97,119,95,116,105,99,107,101,116,95,104,101,114,101]
def jy:Str:=.mk #[95,108,97,119,95,103,114,111,117,112]
def jz:Str:=.mk #[95,108,97,119,95,116,117,114,110]
def JM:Str:=.mk #[101,114,114,111,114]
def ke:Str:=.mk #[95,108,97,119,95,119,111,114,107]
def yf:Str:=.mk #[95,108,97,119,95,116,97,98,108,101,95,104,101,114,101]
def vC:Str:=.mk #[95,108,97,119,95,116,117,114,110,101,100]
def vD:Str:=.mk #[95,108,97,119,95,97,108,108]
def vE:Str:=.mk #[108,97,119]
def Mg:Str:=.mk #[95,108,97,119,95,104,101,108,100]
def Mh:Str:=.mk #[95,108,97,119,95,98,101,103,105,110]
def JN:Str:=.mk #[95,108,97,119,95,99,101,108,108,115]
def JO:Str:=.mk #[95,108,97,119,95,112,97,114,116]
variable (P:Params)
def tw12259095219194926278:Params->W.Frag:=λ_=>[]
theorem te12259095219194926278:tw12259095219194926278=tw12259095219194926278:=rfl
def tw18342346070178476043:Program:={ PySem.Challenge.rw_aheadmill_k27_benches.row.toRowW.1 with main:={ PySem.Challenge.rw_aheadmill_k27_benches.row.toRowW.1.main with body:=[Nj,Nk,Nl,Nm,Nn,Np,Cf,Cg,Ci,tB,tD,tE,tF,tG,tH,tI,tJ,tK,tL,tM,tN,tO,tP,tQ,tR,tS] } }
theorem te18342346070178476043:tw18342346070178476043=tw18342346070178476043:=rfl
def gE:=qb aK (.seq #[] 0)
def Ni:Obj:=(.mk .none .none (.fields #[]) #[])
def gF:=qb bS (.fields #[(.str Lv 182),(.str Lv 183),(.str aN 184),(.int 1 0),(.int 0 0),(.int 0 0),(.int 0 0),(.int 0 0),(.ref 11),(.bool .false),(.int 181 0),(.ref 12),.none,.none,.none,.none,(.int 185 0),(.int 1 0),(.str aN 186)])
def gG:Obj:=(.mk (.type lP) .none .plain #[(.some (.ref 13)),(.some (.ref 3)),(.some (.ref 3)),.none,(.some (.str JD 164)),.none,(.some (.ref 0))])
def tw10998965299995980974:Params->Heap:=λP=>(.mk #[(boot_o_0 P),(boot_o_1 P),(boot_o_2 P),(boot_o_3 P),(boot_o_4 P),(boot_o_5 P),(boot_o_6 P),(boot_o_7 P),(boot_o_8 P),(boot_o_9 P),(boot_o_10 P),gE,Ni,gF,gG] (.mk [] [] [] 0 [] [] .false #[] [] 0 .false .false .false 0 [2000,10,10] .false 0 .true [] [] 0 .false))
theorem te10998965299995980974:tw10998965299995980974=tw10998965299995980974:=rfl
def tw1168715535699106492:Params->BT:=λP=>(.node (boot_o_0 P) (.node (boot_o_1 P) (.node (boot_o_3 P) (qf (boot_o_7 P)) (qf gE)) (.node (boot_o_5 P) (qf (boot_o_9 P)) (qf gF))) (.node (boot_o_2 P) (.node (boot_o_4 P) (qf (boot_o_8 P)) (qf Ni)) (.node (boot_o_6 P) (qf (boot_o_10 P)) (qf gG))))
theorem te1168715535699106492:tw1168715535699106492=tw1168715535699106492:=rfl
def KL:=qb cB (.dict #[(qd P jQ 165 (.str bP 187)),(qd P eC 166 .none),(qd P jR 167 .none),(qd P jS 168 (.builtin kI)),(qd P jT 169 .none),(qd P jU 170 (.ref 6)),(qd P jM 171 (.ref 4)),(qd P jN 173 (.str aN 172)),(qd P jO 174 .none),(qd P aZ 206 (.ref 24))] 10)
def tw12526503380254568711:List Stmt:=[LD,Nj]
theorem te12526503380254568711:tw12526503380254568711=tw12526503380254568711:=rfl
def KN:Obj:=(.mk .none .none (.fields #[(.int 2 0),(.int 0 0),(.ref 20)]) #[])
def iI:=qb aK (.seq #[(.type dA)] 0)
def iJ:=qb eQ (.fields #[(.builtin nX),(.type cW)])
def iK:=qb cB (.dict #[(qd P eM 196 (.str bP 187)),(qd P nE 198 (.str aZ 197)),(qd P eN 200 (.int 2 199)),(qd P eO 201 (.ref 22))] 4)
def iL:=qb aK (.seq #[] 0)
def iM:Obj:=(.mk .none .none (.fields #[]) #[])
def iN:=qb bS (.fields #[(.str aZ 191),(.str aZ 192),(.str aN 193),(.int 2 0),(.int 0 0),(.int 0 0),(.int 0 0),(.int 0 0),(.ref 18),(.bool .false),(.int 181 0),(.ref 19),.none,.none,.none,.none,(.int 194 0),(.int 2 0),(.str aN 195)])
def iO:Obj:=(.mk (.type lP) .none .plain #[(.some (.ref 20)),(.some (.ref 3)),(.some (.ref 17)),.none,(.some (.str bP 187)),.none,(.some (.ref 0))])
def iP:=qb aK (.seq #[] 0)
def iQ:=qb cB (.dict #[(qd P eM 196 (.str bP 187)),(qd P eN 200 (.int 2 199)),(qd P eO 201 (.ref 22)),(qd P jv 203 (.ref 25)),(qd P eC 204 .none)] 3)
def KO:Obj:=(.mk (.type cW) .none (.cls (.mk aZ [(.type dA)] [(.ref 24),(.type dA),(.type fM),(.type fK),(.type eU)] 23 aZ .true [] [] .false .none .false)) #[(.some (.ref 15)),.none,(.some (.str aZ 189)),(.some (.str aZ 197)),(.some (.builtin fL)),(.some (.bool .true))])
def iR:=qb Ck (.fields #[(.str jv 202),(.ref 24),(.builtin Nz),.none])
def iS:=qb nV (.fields #[(.ref 24),(.ref 24),(.ref 24)])
def iT:=qb eQ (.fields #[(.builtin nW),(.ref 24)])
def tw12378328572878723825:Params->BT:=λP=>(.node (boot_o_0 P) (.node (boot_o_1 P) (.node (KL P) (.node (boot_o_7 P) (qf iI) (qf (iQ P))) (.node gE (qf iM) (qf iT))) (.node (boot_o_5 P) (.node (boot_o_9 P) (qf (iK P)) (qf iR)) (.node gF (qf iO) .nil))) (.node (boot_o_2 P) (.node (boot_o_4 P) (.node (boot_o_8 P) (qf iJ) (qf KO)) (.node KN (qf iN) .nil)) (.node (boot_o_6 P) (.node (boot_o_10 P) (qf iL) (qf iS)) (.node gG (qf iP) .nil))))
theorem te12378328572878723825:tw12378328572878723825=tw12378328572878723825:=rfl
def KP:=qb cB (.dict #[(qd P jQ 165 (.str bP 187)),(qd P eC 166 .none),(qd P jR 167 .none),(qd P jS 168 (.builtin kI)),(qd P jT 169 .none),(qd P jU 170 (.ref 6)),(qd P jM 171 (.ref 4)),(qd P jN 173 (.str aN 172)),(qd P jO 174 .none),(qd P aZ 206 (.ref 24)),(qd P eZ 222 (.ref 37))] 11)
def tw13447393682932442166:List Stmt:=[Nk]
theorem te13447393682932442166:tw13447393682932442166=tw13447393682932442166:=rfl
def KQ:Obj:=(.mk .none .none (.fields #[(.int 2 0),(.int 0 0),(.ref 20),(.int 4 0),(.int 0 0),(.ref 33)]) #[])
def KR:Obj:=(.mk (.type cW) .none (.cls (.mk aZ [(.type dA)] [(.ref 24),(.type dA),(.type fM),(.type fK),(.type eU)] 23 aZ .true [] [(.ref 37)] .false .none .false)) #[(.some (.ref 15)),.none,(.some (.str aZ 189)),(.some (.str aZ 197)),(.some (.builtin fL)),(.some (.bool .true))])
def jV:=qb aK (.seq #[(.ref 24)] 0)
def jW:=qb eQ (.fields #[(.builtin nX),(.type cW)])
def jX:=qb cB (.dict #[(qd P eM 214 (.str bP 187)),(qd P nE 216 (.str eZ 215)),(qd P eN 218 (.int 4 217)),(qd P eO 219 (.ref 35))] 4)
def jY:=qb aK (.seq #[] 0)
def jZ:Obj:=(.mk .none .none (.fields #[]) #[])
def kB:=qb bS (.fields #[(.str eZ 209),(.str eZ 210),(.str aN 211),(.int 4 0),(.int 0 0),(.int 0 0),(.int 0 0),(.int 0 0),(.ref 31),(.bool .false),(.int 181 0),(.ref 32),.none,.none,.none,.none,(.int 212 0),(.int 4 0),(.str aN 213)])
def kC:Obj:=(.mk (.type lP) .none .plain #[(.some (.ref 33)),(.some (.ref 3)),(.some (.ref 30)),.none,(.some (.str bP 187)),.none,(.some (.ref 0))])
def kD:=qb aK (.seq #[] 0)
def kE:=qb cB (.dict #[(qd P eM 214 (.str bP 187)),(qd P eN 218 (.int 4 217)),(qd P eO 219 (.ref 35)),(qd P eC 220 .none)] 2)
def kF:Obj:=(.mk (.type cW) .none (.cls (.mk eZ [(.ref 24)] [(.ref 37),(.ref 24),(.type dA),(.type fM),(.type fK),(.type eU)] 36 eZ .true [] [] .false .none .false)) #[(.some (.ref 28)),.none,(.some (.str eZ 207)),(.some (.str eZ 215)),(.some (.builtin fL)),(.some (.bool .true))])
def kG:=qb nV (.fields #[(.ref 37),(.ref 37),(.ref 37)])
def kH:=qb eQ (.fields #[(.builtin nW),(.ref 37)])
def tw2818924053829122887:Params->BT:=λP=>(.node (boot_o_0 P) (.node (boot_o_1 P) (.node (KP P) (.node (boot_o_7 P) (.node iI (qf jY) .nil) (.node (iQ P) (qf kH) .nil)) (.node gE (.node iM (qf kD) .nil) (qf iT))) (.node (boot_o_5 P) (.node (boot_o_9 P) (.node (iK P) (qf kB) .nil) (qf iR)) (.node gF (.node iO (qf kF) .nil) (qf jW)))) (.node (boot_o_2 P) (.node (boot_o_4 P) (.node (boot_o_8 P) (.node iJ (qf jZ) .nil) (qf KR)) (.node KQ (.node iN (qf (kE P)) .nil) (qf jV))) (.node (boot_o_6 P) (.node (boot_o_10 P) (.node iL (qf kC) .nil) (qf iS)) (.node gG (.node iP (qf kG) .nil) (qf (jX P))))))
theorem te2818924053829122887:tw2818924053829122887=tw2818924053829122887:=rfl
def KS:=qb cB (.dict #[(qd P jQ 165 (.str bP 187)),(qd P eC 166 .none),(qd P jR 167 .none),(qd P jS 168 (.builtin kI)),(qd P jT 169 .none),(qd P jU 170 (.ref 6)),(qd P jM 171 (.ref 4)),(qd P jN 173 (.str aN 172)),(qd P jO 174 .none),(qd P aZ 206 (.ref 24)),(qd P eZ 222 (.ref 37)),(qd P fJ 238 (.ref 49))] 12)
def tw7061558223831119861:List Stmt:=[Nl]
theorem te7061558223831119861:tw7061558223831119861=tw7061558223831119861:=rfl
def KU:Obj:=(.mk .none .none (.fields #[(.int 2 0),(.int 0 0),(.ref 20),(.int 4 0),(.int 0 0),(.ref 33),(.int 6 0),(.int 0 0),(.ref 45)]) #[])
def KW:Obj:=(.mk (.type cW) .none (.cls (.mk aZ [(.type dA)] [(.ref 24),(.type dA),(.type fM),(.type fK),(.type eU)] 23 aZ .true [] [(.ref 37),(.ref 49)] .false .none .false)) #[(.some (.ref 15)),.none,(.some (.str aZ 189)),(.some (.str aZ 197)),(.some (.builtin fL)),(.some (.bool .true))])
def lC:=qb aK (.seq #[(.ref 24)] 0)
def lD:=qb eQ (.fields #[(.builtin nX),(.type cW)])
def lE:=qb cB (.dict #[(qd P eM 230 (.str bP 187)),(qd P nE 232 (.str fJ 231)),(qd P eN 234 (.int 6 233)),(qd P eO 235 (.ref 47))] 4)
def lF:=qb aK (.seq #[] 0)
def lG:Obj:=(.mk .none .none (.fields #[]) #[])
def lI:=qb bS (.fields #[(.str fJ 225),(.str fJ 226),(.str aN 227),(.int 6 0),(.int 0 0),(.int 0 0),(.int 0 0),(.int 0 0),(.ref 43),(.bool .false),(.int 181 0),(.ref 44),.none,.none,.none,.none,(.int 228 0),(.int 6 0),(.str aN 229)])
def lJ:Obj:=(.mk (.type lP) .none .plain #[(.some (.ref 45)),(.some (.ref 3)),(.some (.ref 42)),.none,(.some (.str bP 187)),.none,(.some (.ref 0))])
def lK:=qb aK (.seq #[] 0)
def lL:=qb cB (.dict #[(qd P eM 230 (.str bP 187)),(qd P eN 234 (.int 6 233)),(qd P eO 235 (.ref 47)),(qd P eC 236 .none)] 2)
def lM:Obj:=(.mk (.type cW) .none (.cls (.mk fJ [(.ref 24)] [(.ref 49),(.ref 24),(.type dA),(.type fM),(.type fK),(.type eU)] 48 fJ .true [] [] .false .none .false)) #[(.some (.ref 40)),.none,(.some (.str fJ 223)),(.some (.str fJ 231)),(.some (.builtin fL)),(.some (.bool .true))])
def lN:=qb nV (.fields #[(.ref 49),(.ref 49),(.ref 49)])
def lO:=qb eQ (.fields #[(.builtin nW),(.ref 49)])
def tw13483236535941011981:Params->BT:=λP=>(.node (boot_o_0 P) (.node (boot_o_1 P) (.node (KS P) (.node (boot_o_7 P) (.node iI (qf jY) (qf lK)) (.node (iQ P) (qf kH) .nil)) (.node gE (.node iM (qf kD) (qf lO)) (.node iT (qf lF) .nil))) (.node (boot_o_5 P) (.node (boot_o_9 P) (.node (iK P) (qf kB) (qf lM)) (.node iR (qf lD) .nil)) (.node gF (.node iO (qf kF) .nil) (.node jW (qf lI) .nil)))) (.node (boot_o_2 P) (.node (boot_o_4 P) (.node (boot_o_8 P) (.node iJ (qf jZ) (qf (lL P))) (.node KW (qf lC) .nil)) (.node KU (.node iN (qf (kE P)) .nil) (.node jV (qf lG) .nil))) (.node (boot_o_6 P) (.node (boot_o_10 P) (.node iL (qf kC) (qf lN)) (.node iS (qf (lE P)) .nil)) (.node gG (.node iP (qf kG) .nil) (.node (jX P) (qf lJ) .nil)))))
theorem te13483236535941011981:tw13483236535941011981=tw13483236535941011981:=rfl
def KY:=qb cB (.dict #[(qd P jQ 165 (.str bP 187)),(qd P eC 166 .none),(qd P jR 167 .none),(qd P jS 168 (.builtin kI)),(qd P jT 169 .none),(qd P jU 170 (.ref 6)),(qd P jM 171 (.ref 4)),(qd P jN 173 (.str aN 172)),(qd P jO 174 .none),(qd P aZ 206 (.ref 24)),(qd P eZ 222 (.ref 37)),(qd P fJ 238 (.ref 49)),(qd P fU 254 (.ref 61))] 13)
def tw2264976533404991343:List Stmt:=[Nm]
theorem te2264976533404991343:tw2264976533404991343=tw2264976533404991343:=rfl
def KZ:Obj:=(.mk .none .none (.fields #[(.int 2 0),(.int 0 0),(.ref 20),(.int 4 0),(.int 0 0),(.ref 33),(.int 6 0),(.int 0 0),(.ref 45),(.int 8 0),(.int 0 0),(.ref 57)]) #[])
def LA:Obj:=(.mk (.type cW) .none (.cls (.mk aZ [(.type dA)] [(.ref 24),(.type dA),(.type fM),(.type fK),(.type eU)] 23 aZ .true [] [(.ref 37),(.ref 49),(.ref 61)] .false .none .false)) #[(.some (.ref 15)),.none,(.some (.str aZ 189)),(.some (.str aZ 197)),(.some (.builtin fL)),(.some (.bool .true))])
def nR:=qb aK (.seq #[(.ref 24)] 0)
def nS:=qb eQ (.fields #[(.builtin nX),(.type cW)])
def nT:=qb cB (.dict #[(qd P eM 246 (.str bP 187)),(qd P nE 248 (.str fU 247)),(qd P eN 250 (.int 8 249)),(qd P eO 251 (.ref 59))] 4)
def nI:=qb aK (.seq #[] 0)
def nJ:Obj:=(.mk .none .none (.fields #[]) #[])
def nK:=qb bS (.fields #[(.str fU 241),(.str fU 242),(.str aN 243),(.int 8 0),(.int 0 0),(.int 0 0),(.int 0 0),(.int 0 0),(.ref 55),(.bool .false),(.int 181 0),(.ref 56),.none,.none,.none,.none,(.int 244 0),(.int 8 0),(.str aN 245)])
def nL:Obj:=(.mk (.type lP) .none .plain #[(.some (.ref 57)),(.some (.ref 3)),(.some (.ref 54)),.none,(.some (.str bP 187)),.none,(.some (.ref 0))])
def nM:=qb aK (.seq #[] 0)
def nN:=qb cB (.dict #[(qd P eM 246 (.str bP 187)),(qd P eN 250 (.int 8 249)),(qd P eO 251 (.ref 59)),(qd P eC 252 .none)] 2)
def nO:Obj:=(.mk (.type cW) .none (.cls (.mk fU [(.ref 24)] [(.ref 61),(.ref 24),(.type dA),(.type fM),(.type fK),(.type eU)] 60 fU .true [] [] .false .none .false)) #[(.some (.ref 52)),.none,(.some (.str fU 239)),(.some (.str fU 247)),(.some (.builtin fL)),(.some (.bool .true))])
def nP:=qb nV (.fields #[(.ref 61),(.ref 61),(.ref 61)])
def nQ:=qb eQ (.fields #[(.builtin nW),(.ref 61)])
def tw11229131537595262446:Params->BT:=λP=>(.node (boot_o_0 P) (.node (boot_o_1 P) (.node (KY P) (.node (boot_o_7 P) (.node iI (.node jY (qf nQ) .nil) (qf lK)) (.node (iQ P) (qf kH) (qf nI))) (.node gE (.node iM (qf kD) (qf lO)) (.node iT (qf lF) (qf nM)))) (.node (boot_o_5 P) (.node (boot_o_9 P) (.node (iK P) (qf kB) (qf lM)) (.node iR (qf lD) (qf nK))) (.node gF (.node iO (qf kF) (qf nS)) (.node jW (qf lI) (qf nO))))) (.node (boot_o_2 P) (.node (boot_o_4 P) (.node (boot_o_8 P) (.node iJ (qf jZ) (qf (lL P))) (.node LA (qf lC) (qf nJ))) (.node KZ (.node iN (qf (kE P)) (qf nR)) (.node jV (qf lG) (qf (nN P))))) (.node (boot_o_6 P) (.node (boot_o_10 P) (.node iL (qf kC) (qf lN)) (.node iS (qf (lE P)) (qf nL))) (.node gG (.node iP (qf kG) (qf (nT P))) (.node (jX P) (qf lJ) (qf nP))))))
theorem te11229131537595262446:tw11229131537595262446=tw11229131537595262446:=rfl
def JP:=qb cB (.dict #[(qd P jQ 165 (.str bP 187)),(qd P eC 166 .none),(qd P jR 167 .none),(qd P jS 168 (.builtin kI)),(qd P jT 169 .none),(qd P jU 170 (.ref 6)),(qd P jM 171 (.ref 4)),(qd P jN 173 (.str aN 172)),(qd P jO 174 .none),(qd P aZ 206 (.ref 24)),(qd P eZ 222 (.ref 37)),(qd P fJ 238 (.ref 49)),(qd P fU 254 (.ref 61)),(qd P gC 270 (.ref 73))] 14)
def tw4061809111802218563:List Stmt:=[Nn]
theorem te4061809111802218563:tw4061809111802218563=tw4061809111802218563:=rfl
def JQ:Obj:=(.mk .none .none (.fields #[(.int 2 0),(.int 0 0),(.ref 20),(.int 4 0),(.int 0 0),(.ref 33),(.int 6 0),(.int 0 0),(.ref 45),(.int 8 0),(.int 0 0),(.ref 57),(.int 10 0),(.int 0 0),(.ref 69)]) #[])
def JR:Obj:=(.mk (.type cW) .none (.cls (.mk aZ [(.type dA)] [(.ref 24),(.type dA),(.type fM),(.type fK),(.type eU)] 23 aZ .true [] [(.ref 37),(.ref 49),(.ref 61),(.ref 73)] .false .none .false)) #[(.some (.ref 15)),.none,(.some (.str aZ 189)),(.some (.str aZ 197)),(.some (.builtin fL)),(.some (.bool .true))])
def pF:=qb aK (.seq #[(.ref 24)] 0)
def pG:=qb eQ (.fields #[(.builtin nX),(.type cW)])
def pH:=qb cB (.dict #[(qd P eM 262 (.str bP 187)),(qd P nE 264 (.str gC 263)),(qd P eN 266 (.int 10 265)),(qd P eO 267 (.ref 71))] 4)
def pI:=qb aK (.seq #[] 0)
def pJ:Obj:=(.mk .none .none (.fields #[]) #[])
def pK:=qb bS (.fields #[(.str gC 257),(.str gC 258),(.str aN 259),(.int 10 0),(.int 0 0),(.int 0 0),(.int 0 0),(.int 0 0),(.ref 67),(.bool .false),(.int 181 0),(.ref 68),.none,.none,.none,.none,(.int 260 0),(.int 10 0),(.str aN 261)])
def pL:Obj:=(.mk (.type lP) .none .plain #[(.some (.ref 69)),(.some (.ref 3)),(.some (.ref 66)),.none,(.some (.str bP 187)),.none,(.some (.ref 0))])
def pM:=qb aK (.seq #[] 0)
def pN:=qb cB (.dict #[(qd P eM 262 (.str bP 187)),(qd P eN 266 (.int 10 265)),(qd P eO 267 (.ref 71)),(qd P eC 268 .none)] 2)
def pO:Obj:=(.mk (.type cW) .none (.cls (.mk gC [(.ref 24)] [(.ref 73),(.ref 24),(.type dA),(.type fM),(.type fK),(.type eU)] 72 gC .true [] [] .false .none .false)) #[(.some (.ref 64)),.none,(.some (.str gC 255)),(.some (.str gC 263)),(.some (.builtin fL)),(.some (.bool .true))])
def pP:=qb nV (.fields #[(.ref 73),(.ref 73),(.ref 73)])
def pQ:=qb eQ (.fields #[(.builtin nW),(.ref 73)])
def tw12528160840149686778:Params->BT:=λP=>(.node (boot_o_0 P) (.node (boot_o_1 P) (.node (JP P) (.node (boot_o_7 P) (.node iI (.node jY (qf nQ) .nil) (qf lK)) (.node (iQ P) (.node kH (qf pM) .nil) (qf nI))) (.node gE (.node iM (.node kD (qf pI) .nil) (qf lO)) (.node iT (.node lF (qf pQ) .nil) (qf nM)))) (.node (boot_o_5 P) (.node (boot_o_9 P) (.node (iK P) (.node kB (qf pG) .nil) (qf lM)) (.node iR (.node lD (qf pO) .nil) (qf nK))) (.node gF (.node iO (.node kF (qf pK) .nil) (qf nS)) (.node jW (qf lI) (qf nO))))) (.node (boot_o_2 P) (.node (boot_o_4 P) (.node (boot_o_8 P) (.node iJ (.node jZ (qf pF) .nil) (qf (lL P))) (.node JR (.node lC (qf (pN P)) .nil) (qf nJ))) (.node JQ (.node iN (.node (kE P) (qf pJ) .nil) (qf nR)) (.node jV (qf lG) (qf (nN P))))) (.node (boot_o_6 P) (.node (boot_o_10 P) (.node iL (.node kC (qf (pH P)) .nil) (qf lN)) (.node iS (.node (lE P) (qf pP) .nil) (qf nL))) (.node gG (.node iP (.node kG (qf pL) .nil) (qf (nT P))) (.node (jX P) (qf lJ) (qf nP))))))
theorem te12528160840149686778:tw12528160840149686778=tw12528160840149686778:=rfl
def JS:=qb cB (.dict #[(qd P jQ 165 (.str bP 187)),(qd P eC 166 .none),(qd P jR 167 .none),(qd P jS 168 (.builtin kI)),(qd P jT 169 .none),(qd P jU 170 (.ref 6)),(qd P jM 171 (.ref 4)),(qd P jN 173 (.str aN 172)),(qd P jO 174 .none),(qd P aZ 206 (.ref 24)),(qd P eZ 222 (.ref 37)),(qd P fJ 238 (.ref 49)),(qd P fU 254 (.ref 61)),(qd P gC 270 (.ref 73)),(qd P gS 286 (.ref 85))] 15)
def tw12628587648076327580:List Stmt:=[Np]
theorem te12628587648076327580:tw12628587648076327580=tw12628587648076327580:=rfl
def JT:Obj:=(.mk .none .none (.fields #[(.int 2 0),(.int 0 0),(.ref 20),(.int 4 0),(.int 0 0),(.ref 33),(.int 6 0),(.int 0 0),(.ref 45),(.int 8 0),(.int 0 0),(.ref 57),(.int 10 0),(.int 0 0),(.ref 69),(.int 12 0),(.int 0 0),(.ref 81)]) #[])
def JU:Obj:=(.mk (.type cW) .none (.cls (.mk aZ [(.type dA)] [(.ref 24),(.type dA),(.type fM),(.type fK),(.type eU)] 23 aZ .true [] [(.ref 37),(.ref 49),(.ref 61),(.ref 73),(.ref 85)] .false .none .false)) #[(.some (.ref 15)),.none,(.some (.str aZ 189)),(.some (.str aZ 197)),(.some (.builtin fL)),(.some (.bool .true))])
def sO:=qb aK (.seq #[(.ref 24)] 0)
def sP:=qb eQ (.fields #[(.builtin nX),(.type cW)])
def sQ:=qb cB (.dict #[(qd P eM 278 (.str bP 187)),(qd P nE 280 (.str gS 279)),(qd P eN 282 (.int 12 281)),(qd P eO 283 (.ref 83))] 4)
def sR:=qb aK (.seq #[] 0)
def sS:Obj:=(.mk .none .none (.fields #[]) #[])
def sT:=qb bS (.fields #[(.str gS 273),(.str gS 274),(.str aN 275),(.int 12 0),(.int 0 0),(.int 0 0),(.int 0 0),(.int 0 0),(.ref 79),(.bool .false),(.int 181 0),(.ref 80),.none,.none,.none,.none,(.int 276 0),(.int 12 0),(.str aN 277)])
def sU:Obj:=(.mk (.type lP) .none .plain #[(.some (.ref 81)),(.some (.ref 3)),(.some (.ref 78)),.none,(.some (.str bP 187)),.none,(.some (.ref 0))])
def sV:=qb aK (.seq #[] 0)
def sW:=qb cB (.dict #[(qd P eM 278 (.str bP 187)),(qd P eN 282 (.int 12 281)),(qd P eO 283 (.ref 83)),(qd P eC 284 .none)] 2)
def sX:Obj:=(.mk (.type cW) .none (.cls (.mk gS [(.ref 24)] [(.ref 85),(.ref 24),(.type dA),(.type fM),(.type fK),(.type eU)] 84 gS .true [] [] .false .none .false)) #[(.some (.ref 76)),.none,(.some (.str gS 271)),(.some (.str gS 279)),(.some (.builtin fL)),(.some (.bool .true))])
def sY:=qb nV (.fields #[(.ref 85),(.ref 85),(.ref 85)])
def sZ:=qb eQ (.fields #[(.builtin nW),(.ref 85)])
def tw8449380628906693176:Params->BT:=λP=>(.node (boot_o_0 P) (.node (boot_o_1 P) (.node (JS P) (.node (boot_o_7 P) (.node iI (.node jY (qf nQ) .nil) (.node lK (qf sR) .nil)) (.node (iQ P) (.node kH (qf pM) .nil) (.node nI (qf sZ) .nil))) (.node gE (.node iM (.node kD (qf pI) .nil) (.node lO (qf sV) .nil)) (.node iT (.node lF (qf pQ) .nil) (qf nM)))) (.node (boot_o_5 P) (.node (boot_o_9 P) (.node (iK P) (.node kB (qf pG) .nil) (.node lM (qf sT) .nil)) (.node iR (.node lD (qf pO) .nil) (qf nK))) (.node gF (.node iO (.node kF (qf pK) .nil) (.node nS (qf sX) .nil)) (.node jW (.node lI (qf sP) .nil) (qf nO))))) (.node (boot_o_2 P) (.node (boot_o_4 P) (.node (boot_o_8 P) (.node iJ (.node jZ (qf pF) .nil) (.node (lL P) (qf sS) .nil)) (.node JU (.node lC (qf (pN P)) .nil) (qf nJ))) (.node JT (.node iN (.node (kE P) (qf pJ) .nil) (.node nR (qf (sW P)) .nil)) (.node jV (.node lG (qf sO) .nil) (qf (nN P))))) (.node (boot_o_6 P) (.node (boot_o_10 P) (.node iL (.node kC (qf (pH P)) .nil) (.node lN (qf sU) .nil)) (.node iS (.node (lE P) (qf pP) .nil) (qf nL))) (.node gG (.node iP (.node kG (qf pL) .nil) (.node (nT P) (qf sY) .nil)) (.node (jX P) (.node lJ (qf (sQ P)) .nil) (qf nP))))))
theorem te8449380628906693176:tw8449380628906693176=tw8449380628906693176:=rfl
def JV:=qb cB (.dict #[(qd P jQ 165 (.str bP 187)),(qd P eC 166 .none),(qd P jR 167 .none),(qd P jS 168 (.builtin kI)),(qd P jT 169 .none),(qd P jU 170 (.ref 6)),(qd P jM 171 (.ref 4)),(qd P jN 173 (.str aN 172)),(qd P jO 174 .none),(qd P aZ 206 (.ref 24)),(qd P eZ 222 (.ref 37)),(qd P fJ 238 (.ref 49)),(qd P fU 254 (.ref 61)),(qd P gC 270 (.ref 73)),(qd P gS 286 (.ref 85)),(qd P iH 311 (.ref 104))] 16)
def tw8384255484059683789:List Stmt:=[Cf]
theorem te8384255484059683789:tw8384255484059683789=tw8384255484059683789:=rfl
def JW:Obj:=(.mk .none .none (.fields #[(.int 2 0),(.int 0 0),(.ref 20),(.int 4 0),(.int 0 0),(.ref 33),(.int 6 0),(.int 0 0),(.ref 45),(.int 8 0),(.int 0 0),(.ref 57),(.int 10 0),(.int 0 0),(.ref 69),(.int 12 0),(.int 0 0),(.ref 81),(.int 14 0),(.int 0 0),(.ref 93)]) #[])
def JX:Obj:=(.mk (.type cW) .none (.cls (.mk aZ [(.type dA)] [(.ref 24),(.type dA),(.type fM),(.type fK),(.type eU)] 23 aZ .true [] [(.ref 37),(.ref 49),(.ref 61),(.ref 73),(.ref 85),(.ref 104)] .false .none .false)) #[(.some (.ref 15)),.none,(.some (.str aZ 189)),(.some (.str aZ 197)),(.some (.builtin fL)),(.some (.bool .true))])
def vF:=qb aK (.seq #[(.ref 24)] 0)
def vG:=qb eQ (.fields #[(.builtin nX),(.type cW)])
def vH:=qb cB (.dict #[(qd P eM 294 (.str bP 187)),(qd P nE 296 (.str iH 295)),(qd P eN 298 (.int 14 297)),(qd P eP 306 (.ref 101)),(qd P eO 308 (.ref 102))] 5)
def vI:=qb aK (.seq #[] 0)
def vJ:Obj:=(.mk .none .none (.fields #[(.int 16 0),(.int 4 0),(.ref 100)]) #[])
def vK:=qb bS (.fields #[(.str iH 289),(.str iH 290),(.str aN 291),(.int 14 0),(.int 0 0),(.int 0 0),(.int 0 0),(.int 0 0),(.ref 91),(.bool .false),(.int 181 0),(.ref 92),.none,.none,.none,.none,(.int 292 0),(.int 14 0),(.str aN 293)])
def vL:Obj:=(.mk (.type lP) .none .plain #[(.some (.ref 93)),(.some (.ref 3)),(.some (.ref 90)),.none,(.some (.str bP 187)),.none,(.some (.ref 0))])
def vM:=qb aK (.seq #[] 0)
def vN:Obj:=(.mk .none .none (.fields #[]) #[])
def vO:=qb aK (.seq #[(.str ao 302),(.str xM 303)] 0)
def vP:=qb aK (.seq #[] 0)
def vQ:Obj:=(.mk .none .none (.func (.mk eP xu (bA nU) (.stmts (aU nU)) (bB nU) 0 [] .none .none .none .none .none .none .none 0)) #[])
def vR:=qb bS (.fields #[(.str eP 299),(.str xu 300),(.str aN 301),(.int 16 0),(.int 2 0),(.int 0 0),(.int 0 0),(.int 3 0),(.ref 95),(.bool .true),(.int 181 0),(.ref 96),.none,(.ref 97),(.ref 98),(.ref 99),(.int 304 0),(.int 16 0),(.str aN 305)])
def vS:=qb dN (.func (.mk eP xu (bA nU) (.stmts (aU nU)) (bB nU) 3 [] .none .none .none (.str bP 187) .none (.ref 100) .none 0))
def vT:=qb aK (.seq #[(.str xM 307)] 0)
def vU:=qb cB (.dict #[(qd P eM 294 (.str bP 187)),(qd P eN 298 (.int 14 297)),(qd P eP 306 (.ref 101)),(qd P eO 308 (.ref 102)),(qd P eC 309 .none)] 2)
def vV:Obj:=(.mk (.type cW) .none (.cls (.mk iH [(.ref 24)] [(.ref 104),(.ref 24),(.type dA),(.type fM),(.type fK),(.type eU)] 103 iH .true [] [] .false .none .false)) #[(.some (.ref 88)),.none,(.some (.str iH 287)),(.some (.str iH 295)),(.some (.builtin fL)),(.some (.bool .true))])
def vW:=qb nV (.fields #[(.ref 104),(.ref 104),(.ref 104)])
def vX:=qb eQ (.fields #[(.builtin nW),(.ref 104)])
def tw12981013687818824023:Params->BT:=λP=>(.node (boot_o_0 P) (.node (boot_o_1 P) (.node (JV P) (.node (boot_o_7 P) (.node iI (.node jY (qf nQ) (qf vM)) (.node lK (qf sR) .nil)) (.node (iQ P) (.node kH (qf pM) (qf (vU P))) (.node nI (qf sZ) .nil))) (.node gE (.node iM (.node kD (qf pI) (qf vQ)) (.node lO (qf sV) .nil)) (.node iT (.node lF (qf pQ) .nil) (.node nM (qf vI) .nil)))) (.node (boot_o_5 P) (.node (boot_o_9 P) (.node (iK P) (.node kB (qf pG) (qf vO)) (.node lM (qf sT) .nil)) (.node iR (.node lD (qf pO) (qf vW)) (.node nK (qf vG) .nil))) (.node gF (.node iO (.node kF (qf pK) (qf vS)) (.node nS (qf sX) .nil)) (.node jW (.node lI (qf sP) .nil) (.node nO (qf vK) .nil))))) (.node (boot_o_2 P) (.node (boot_o_4 P) (.node (boot_o_8 P) (.node iJ (.node jZ (qf pF) (qf vN)) (.node (lL P) (qf sS) .nil)) (.node JX (.node lC (qf (pN P)) (qf vV)) (.node nJ (qf vF) .nil))) (.node JW (.node iN (.node (kE P) (qf pJ) (qf vR)) (.node nR (qf (sW P)) .nil)) (.node jV (.node lG (qf sO) .nil) (.node (nN P) (qf vJ) .nil)))) (.node (boot_o_6 P) (.node (boot_o_10 P) (.node iL (.node kC (qf (pH P)) (qf vP)) (.node lN (qf sU) .nil)) (.node iS (.node (lE P) (qf pP) (qf vX)) (.node nL (qf (vH P)) .nil))) (.node gG (.node iP (.node kG (qf pL) (qf vT)) (.node (nT P) (qf sY) .nil)) (.node (jX P) (.node lJ (qf (sQ P)) .nil) (.node nP (qf vL) .nil))))))
theorem te12981013687818824023:tw12981013687818824023=tw12981013687818824023:=rfl
def JY:=qb cB (.dict #[(qd P jQ 165 (.str bP 187)),(qd P eC 166 .none),(qd P jR 167 .none),(qd P jS 168 (.builtin kI)),(qd P jT 169 .none),(qd P jU 170 (.ref 6)),(qd P jM 171 (.ref 4)),(qd P jN 173 (.str aN 172)),(qd P jO 174 .none),(qd P aZ 206 (.ref 24)),(qd P eZ 222 (.ref 37)),(qd P fJ 238 (.ref 49)),(qd P fU 254 (.ref 61)),(qd P gC 270 (.ref 73)),(qd P gS 286 (.ref 85)),(qd P iH 311 (.ref 104)),(qd P jP 336 (.ref 123))] 17)
def tw12616351110231677307:List Stmt:=[Cg]
theorem te12616351110231677307:tw12616351110231677307=tw12616351110231677307:=rfl
def JZ:Obj:=(.mk .none .none (.fields #[(.int 2 0),(.int 0 0),(.ref 20),(.int 4 0),(.int 0 0),(.ref 33),(.int 6 0),(.int 0 0),(.ref 45),(.int 8 0),(.int 0 0),(.ref 57),(.int 10 0),(.int 0 0),(.ref 69),(.int 12 0),(.int 0 0),(.ref 81),(.int 14 0),(.int 0 0),(.ref 93),(.int 18 0),(.int 0 0),(.ref 112)]) #[])
def KA:Obj:=(.mk (.type cW) .none (.cls (.mk aZ [(.type dA)] [(.ref 24),(.type dA),(.type fM),(.type fK),(.type eU)] 23 aZ .true [] [(.ref 37),(.ref 49),(.ref 61),(.ref 73),(.ref 85),(.ref 104),(.ref 123)] .false .none .false)) #[(.some (.ref 15)),.none,(.some (.str aZ 189)),(.some (.str aZ 197)),(.some (.builtin fL)),(.some (.bool .true))])
def xN:=qb aK (.seq #[(.ref 24)] 0)
def xO:=qb eQ (.fields #[(.builtin nX),(.type cW)])
def xP:=qb cB (.dict #[(qd P eM 319 (.str bP 187)),(qd P nE 321 (.str jP 320)),(qd P eN 323 (.int 18 322)),(qd P eP 331 (.ref 120)),(qd P eO 333 (.ref 121))] 5)
def xQ:=qb aK (.seq #[] 0)
def xR:Obj:=(.mk .none .none (.fields #[(.int 20 0),(.int 4 0),(.ref 119)]) #[])
def xS:=qb bS (.fields #[(.str jP 314),(.str jP 315),(.str aN 316),(.int 18 0),(.int 0 0),(.int 0 0),(.int 0 0),(.int 0 0),(.ref 110),(.bool .false),(.int 181 0),(.ref 111),.none,.none,.none,.none,(.int 317 0),(.int 18 0),(.str aN 318)])
def xT:Obj:=(.mk (.type lP) .none .plain #[(.some (.ref 112)),(.some (.ref 3)),(.some (.ref 109)),.none,(.some (.str bP 187)),.none,(.some (.ref 0))])
def xU:=qb aK (.seq #[] 0)
def xV:Obj:=(.mk .none .none (.fields #[]) #[])
def xW:=qb aK (.seq #[(.str ao 327),(.str xM 328)] 0)
def xX:=qb aK (.seq #[] 0)
def xY:Obj:=(.mk .none .none (.func (.mk eP xv (bA oy) (.stmts (aU oy)) (bB nU) 0 [] .none .none .none .none .none .none .none 0)) #[])
def xZ:=qb bS (.fields #[(.str eP 324),(.str xv 325),(.str aN 326),(.int 20 0),(.int 2 0),(.int 0 0),(.int 0 0),(.int 3 0),(.ref 114),(.bool .true),(.int 181 0),(.ref 115),.none,(.ref 116),(.ref 117),(.ref 118),(.int 329 0),(.int 20 0),(.str aN 330)])
def yA:=qb dN (.func (.mk eP xv (bA oy) (.stmts (aU oy)) (bB nU) 3 [] .none .none .none (.str bP 187) .none (.ref 119) .none 0))
def yB:=qb aK (.seq #[(.str xM 332)] 0)
def yC:=qb cB (.dict #[(qd P eM 319 (.str bP 187)),(qd P eN 323 (.int 18 322)),(qd P eP 331 (.ref 120)),(qd P eO 333 (.ref 121)),(qd P eC 334 .none)] 2)
def yD:Obj:=(.mk (.type cW) .none (.cls (.mk jP [(.ref 24)] [(.ref 123),(.ref 24),(.type dA),(.type fM),(.type fK),(.type eU)] 122 jP .true [] [] .false .none .false)) #[(.some (.ref 107)),.none,(.some (.str jP 312)),(.some (.str jP 320)),(.some (.builtin fL)),(.some (.bool .true))])
def yE:=qb nV (.fields #[(.ref 123),(.ref 123),(.ref 123)])
def yF:=qb eQ (.fields #[(.builtin nW),(.ref 123)])
def tw15099603751399123035:Params->BT:=λP=>(.node (boot_o_0 P) (.node (boot_o_1 P) (.node (JY P) (.node (boot_o_7 P) (.node iI (.node jY (qf nQ) (qf vM)) (.node lK (qf sR) (qf xR))) (.node (iQ P) (.node kH (qf pM) (qf (vU P))) (.node nI (qf sZ) (qf xZ)))) (.node gE (.node iM (.node kD (qf pI) (qf vQ)) (.node lO (qf sV) (qf xV))) (.node iT (.node lF (qf pQ) (qf xN)) (.node nM (qf vI) (qf yD))))) (.node (boot_o_5 P) (.node (boot_o_9 P) (.node (iK P) (.node kB (qf pG) (qf vO)) (.node lM (qf sT) (qf xT))) (.node iR (.node lD (qf pO) (qf vW)) (.node nK (qf vG) (qf yB)))) (.node gF (.node iO (.node kF (qf pK) (qf vS)) (.node nS (qf sX) (qf xX))) (.node jW (.node lI (qf sP) (qf (xP P))) (.node nO (qf vK) (qf yF)))))) (.node (boot_o_2 P) (.node (boot_o_4 P) (.node (boot_o_8 P) (.node iJ (.node jZ (qf pF) (qf vN)) (.node (lL P) (qf sS) (qf xS))) (.node KA (.node lC (qf (pN P)) (qf vV)) (.node nJ (qf vF) (qf yA)))) (.node JZ (.node iN (.node (kE P) (qf pJ) (qf vR)) (.node nR (qf (sW P)) (qf xW))) (.node jV (.node lG (qf sO) (qf xO)) (.node (nN P) (qf vJ) (qf yE))))) (.node (boot_o_6 P) (.node (boot_o_10 P) (.node iL (.node kC (qf (pH P)) (qf vP)) (.node lN (qf sU) (qf xU))) (.node iS (.node (lE P) (qf pP) (qf vX)) (.node nL (qf (vH P)) (qf (yC P))))) (.node gG (.node iP (.node kG (qf pL) (qf vT)) (.node (nT P) (qf sY) (qf xY))) (.node (jX P) (.node lJ (qf (sQ P)) (qf xQ)) (.node nP (qf vL) .nil))))))
theorem te15099603751399123035:tw15099603751399123035=tw15099603751399123035:=rfl
def KC:=qb cB (.dict #[(qd P jQ 165 (.str nF 362)),(qd P eC 166 .none),(qd P jR 167 .none),(qd P jS 168 (.builtin kI)),(qd P jT 169 .none),(qd P jU 170 (.ref 6)),(qd P jM 171 (.ref 4)),(qd P jN 173 (.str aN 172)),(qd P jO 174 .none),(qd P aZ 206 (.ref 24)),(qd P eZ 222 (.ref 37)),(qd P fJ 238 (.ref 49)),(qd P fU 254 (.ref 61)),(qd P gC 270 (.ref 73)),(qd P gS 286 (.ref 85)),(qd P iH 311 (.ref 104)),(qd P jP 336 (.ref 123)),(qd P lB 361 (.ref 142))] 18)
def tw901414439783090233:List Stmt:=[Ci,LF]
theorem te901414439783090233:tw901414439783090233=tw901414439783090233:=rfl
def KD:Obj:=(.mk .none .none (.fields #[(.int 2 0),(.int 0 0),(.ref 20),(.int 4 0),(.int 0 0),(.ref 33),(.int 6 0),(.int 0 0),(.ref 45),(.int 8 0),(.int 0 0),(.ref 57),(.int 10 0),(.int 0 0),(.ref 69),(.int 12 0),(.int 0 0),(.ref 81),(.int 14 0),(.int 0 0),(.ref 93),(.int 18 0),(.int 0 0),(.ref 112),(.int 22 0),(.int 0 0),(.ref 131)]) #[])
def az:Obj:=(.mk (.type cW) .none (.cls (.mk aZ [(.type dA)] [(.ref 24),(.type dA),(.type fM),(.type fK),(.type eU)] 23 aZ .true [] [(.ref 37),(.ref 49),(.ref 61),(.ref 73),(.ref 85),(.ref 104),(.ref 123),(.ref 142)] .false .none .false)) #[(.some (.ref 15)),.none,(.some (.str aZ 189)),(.some (.str aZ 197)),(.some (.builtin fL)),(.some (.bool .true))])
def ba:=qb aK (.seq #[(.ref 24)] 0)
def bc:=qb eQ (.fields #[(.builtin nX),(.type cW)])
def bf:=qb cB (.dict #[(qd P eM 344 (.str bP 187)),(qd P nE 346 (.str lB 345)),(qd P eN 348 (.int 22 347)),(qd P eP 356 (.ref 139)),(qd P eO 358 (.ref 140))] 5)
def bg:=qb aK (.seq #[] 0)
def bh:Obj:=(.mk .none .none (.fields #[(.int 24 0),(.int 4 0),(.ref 138)]) #[])
def bj:=qb bS (.fields #[(.str lB 339),(.str lB 340),(.str aN 341),(.int 22 0),(.int 0 0),(.int 0 0),(.int 0 0),(.int 0 0),(.ref 129),(.bool .false),(.int 181 0),(.ref 130),.none,.none,.none,.none,(.int 342 0),(.int 22 0),(.str aN 343)])
def bo:Obj:=(.mk (.type lP) .none .plain #[(.some (.ref 131)),(.some (.ref 3)),(.some (.ref 128)),.none,(.some (.str bP 187)),.none,(.some (.ref 0))])
def bp:=qb aK (.seq #[] 0)
def bq:Obj:=(.mk .none .none (.fields #[]) #[])
def br:=qb aK (.seq #[(.str ao 352),(.str xM 353)] 0)
def bu:=qb aK (.seq #[] 0)
def bw:Obj:=(.mk .none .none (.func (.mk eP xw (bA oz) (.stmts (aU oz)) (bB nU) 0 [] .none .none .none .none .none .none .none 0)) #[])
def bx:=qb bS (.fields #[(.str eP 349),(.str xw 350),(.str aN 351),(.int 24 0),(.int 2 0),(.int 0 0),(.int 0 0),(.int 3 0),(.ref 133),(.bool .true),(.int 181 0),(.ref 134),.none,(.ref 135),(.ref 136),(.ref 137),(.int 354 0),(.int 24 0),(.str aN 355)])
def bz:=qb dN (.func (.mk eP xw (bA oz) (.stmts (aU oz)) (bB nU) 3 [] .none .none .none (.str bP 187) .none (.ref 138) .none 0))
def cb:=qb aK (.seq #[(.str xM 357)] 0)
def cg:=qb cB (.dict #[(qd P eM 344 (.str bP 187)),(qd P eN 348 (.int 22 347)),(qd P eP 356 (.ref 139)),(qd P eO 358 (.ref 140)),(qd P eC 359 .none)] 2)
def cj:Obj:=(.mk (.type cW) .none (.cls (.mk lB [(.ref 24)] [(.ref 142),(.ref 24),(.type dA),(.type fM),(.type fK),(.type eU)] 141 lB .true [] [] .false .none .false)) #[(.some (.ref 126)),.none,(.some (.str lB 337)),(.some (.str lB 345)),(.some (.builtin fL)),(.some (.bool .true))])
def ck:=qb nV (.fields #[(.ref 142),(.ref 142),(.ref 142)])
def cm:=qb eQ (.fields #[(.builtin nW),(.ref 142)])
def tw5538869566509469155:Params->BT:=λP=>(.node (boot_o_0 P) (.node (boot_o_1 P) (.node (KC P) (.node (boot_o_7 P) (.node iI (.node jY (.node nQ (qf bc) .nil) (qf vM)) (.node lK (.node sR (qf ck) .nil) (qf xR))) (.node (iQ P) (.node kH (.node pM (qf br) .nil) (qf (vU P))) (.node nI (qf sZ) (qf xZ)))) (.node gE (.node iM (.node kD (.node pI (qf bj) .nil) (qf vQ)) (.node lO (qf sV) (qf xV))) (.node iT (.node lF (.node pQ (qf bz) .nil) (qf xN)) (.node nM (qf vI) (qf yD))))) (.node (boot_o_5 P) (.node (boot_o_9 P) (.node (iK P) (.node kB (.node pG (qf bg) .nil) (qf vO)) (.node lM (qf sT) (qf xT))) (.node iR (.node lD (.node pO (qf bw) .nil) (qf vW)) (.node nK (qf vG) (qf yB)))) (.node gF (.node iO (.node kF (.node pK (qf bp) .nil) (qf vS)) (.node nS (qf sX) (qf xX))) (.node jW (.node lI (.node sP (qf (cg P)) .nil) (qf (xP P))) (.node nO (qf vK) (qf yF)))))) (.node (boot_o_2 P) (.node (boot_o_4 P) (.node (boot_o_8 P) (.node iJ (.node jZ (.node pF (qf (bf P)) .nil) (qf vN)) (.node (lL P) (.node sS (qf cm) .nil) (qf xS))) (.node az (.node lC (.node (pN P) (qf bu) .nil) (qf vV)) (.node nJ (qf vF) (qf yA)))) (.node KD (.node iN (.node (kE P) (.node pJ (qf bo) .nil) (qf vR)) (.node nR (qf (sW P)) (qf xW))) (.node jV (.node lG (.node sO (qf cb) .nil) (qf xO)) (.node (nN P) (qf vJ) (qf yE))))) (.node (boot_o_6 P) (.node (boot_o_10 P) (.node iL (.node kC (.node (pH P) (qf bh) .nil) (qf vP)) (.node lN (qf sU) (qf xU))) (.node iS (.node (lE P) (.node pP (qf bx) .nil) (qf vX)) (.node nL (qf (vH P)) (qf (yC P))))) (.node gG (.node iP (.node kG (.node pL (qf bq) .nil) (qf vT)) (.node (nT P) (qf sY) (qf xY))) (.node (jX P) (.node lJ (.node (sQ P) (qf cj) .nil) (qf xQ)) (.node nP (qf vL) (qf ba)))))))
theorem te5538869566509469155:tw5538869566509469155=tw5538869566509469155:=rfl
def KG:=qb cB (.dict #[(qd P jQ 165 (.str eT 429)),(qd P eC 166 .none),(qd P jR 167 .none),(qd P jS 168 (.builtin kI)),(qd P jT 169 .none),(qd P jU 170 (.ref 6)),(qd P jM 171 (.ref 4)),(qd P jN 173 (.str aN 172)),(qd P jO 174 .none),(qd P aZ 206 (.ref 24)),(qd P eZ 222 (.ref 37)),(qd P fJ 238 (.ref 49)),(qd P fU 254 (.ref 61)),(qd P gC 270 (.ref 73)),(qd P gS 286 (.ref 85)),(qd P iH 311 (.ref 104)),(qd P jP 336 (.ref 123)),(qd P lB 361 (.ref 142)),(qd P nG 428 (.ref 188))] 19)
def tw9089551374597358476:List Stmt:=[tB,LG]
theorem te9089551374597358476:tw9089551374597358476=tw9089551374597358476:=rfl
def KH:Obj:=(.mk .none .none (.fields #[(.int 2 0),(.int 0 0),(.ref 20),(.int 4 0),(.int 0 0),(.ref 33),(.int 6 0),(.int 0 0),(.ref 45),(.int 8 0),(.int 0 0),(.ref 57),(.int 10 0),(.int 0 0),(.ref 69),(.int 12 0),(.int 0 0),(.ref 81),(.int 14 0),(.int 0 0),(.ref 93),(.int 18 0),(.int 0 0),(.ref 112),(.int 22 0),(.int 0 0),(.ref 131),(.int 27 0),(.int 0 0),(.ref 150)]) #[])
def kf:=qb aK (.seq #[] 0)
def kg:=qb eQ (.fields #[(.builtin nX),(.type cW)])
def kh:=qb cB (.dict #[(qd P eM 371 (.str nF 362)),(qd P nE 373 (.str nG 372)),(qd P eN 375 (.int 27 374)),(qd P eP 383 (.ref 158)),(qd P aq 389 (.ref 163)),(qd P au 400 (.ref 170)),(qd P av 406 (.ref 175)),(qd P aw 412 (.ref 180)),(qd P ax 418 (.ref 185)),(qd P eO 421 (.ref 186))] 10)
def ki:=qb aK (.seq #[] 0)
def kj:Obj:=(.mk .none .none (.fields #[(.int 29 0),(.int 4 0),(.ref 157),(.int 33 0),(.int 4 0),(.ref 162),(.int 37 0),(.int 4 0),(.ref 169),(.int 46 0),(.int 4 0),(.ref 174),(.int 52 0),(.int 4 0),(.ref 179),(.int 55 0),(.int 4 0),(.ref 184)]) #[])
def kl:=qb bS (.fields #[(.str nG 366),(.str nG 367),(.str aN 368),(.int 27 0),(.int 0 0),(.int 0 0),(.int 0 0),(.int 0 0),(.ref 148),(.bool .false),(.int 181 0),(.ref 149),.none,.none,.none,.none,(.int 369 0),(.int 27 0),(.str aN 370)])
def km:Obj:=(.mk (.type lP) .none .plain #[(.some (.ref 150)),(.some (.ref 3)),(.some (.ref 147)),.none,(.some (.str nF 362)),.none,(.some (.ref 0))])
def kn:=qb aK (.seq #[] 0)
def kr:Obj:=(.mk .none .none (.fields #[]) #[])
def ku:=qb aK (.seq #[(.str ao 379),(.str Lw 380)] 0)
def kx:=qb aK (.seq #[] 0)
def ky:Obj:=(.mk .none .none (.func (.mk eP xx (bA yG) (.stmts (aU yG)) (bB yG) 0 [] .none .none .none .none .none .none .none 0)) #[])
def lg:=qb bS (.fields #[(.str eP 376),(.str xx 377),(.str aN 378),(.int 29 0),(.int 2 0),(.int 0 0),(.int 0 0),(.int 3 0),(.ref 152),(.bool .true),(.int 181 0),(.ref 153),.none,(.ref 154),(.ref 155),(.ref 156),(.int 381 0),(.int 29 0),(.str aN 382)])
def lh:=qb dN (.func (.mk eP xx (bA yG) (.stmts (aU yG)) (bB yG) 3 [] .none .none .none (.str nF 362) .none (.ref 157) .none 0))
def lj:=qb aK (.seq #[] 0)
def ll:Obj:=(.mk .none .none (.fields #[]) #[])
def lp:Obj:=(.mk .none .none (.func (.mk aq xy (bA yH) (.stmts (aU yH)) (bB yH) 0 [] .none .none .none .none .none .none .none 0)) #[])
def lq:=qb bS (.fields #[(.str aq 384),(.str xy 385),(.str aN 386),(.int 33 0),(.int 2 0),(.int 0 0),(.int 0 0),(.int 3 0),(.ref 159),(.bool .true),(.int 181 0),(.ref 160),.none,.none,.none,(.ref 161),(.int 387 0),(.int 33 0),(.str aN 388)])
def lr:=qb dN (.func (.mk aq xy (bA yH) (.stmts (aU yH)) (bB yH) 3 [] .none .none .none (.str nF 362) .none (.ref 162) .none 0))
def lu:=qb aK (.seq #[] 0)
def lx:Obj:=(.mk .none .none (.fields #[]) #[])
def ly:=qb aK (.seq #[(.str ao 393),(.str JE 394),(.str JF 395),(.str JG 396),(.str JH 397)] 0)
def lz:=qb aK (.seq #[] 0)
def md:Obj:=(.mk .none .none (.func (.mk au ya (bA yI) (.stmts (aU yI)) (bB yI) 0 [] .none .none .none .none .none .none .none 0)) #[])
def mf:=qb bS (.fields #[(.str au 390),(.str ya 391),(.str aN 392),(.int 37 0),(.int 4 0),(.int 0 0),(.int 0 0),(.int 3 0),(.ref 164),(.bool .true),(.int 181 0),(.ref 165),.none,(.ref 166),(.ref 167),(.ref 168),(.int 398 0),(.int 37 0),(.str aN 399)])
def mj:=qb dN (.func (.mk au ya (bA yI) (.stmts (aU yI)) (bB yI) 3 [] .none .none .none (.str nF 362) .none (.ref 169) .none 0))
def mm:=qb aK (.seq #[] 0)
def mn:Obj:=(.mk .none .none (.fields #[]) #[])
def mq:Obj:=(.mk .none .none (.func (.mk av yb (bA yJ) (.stmts (aU yJ)) (bB yJ) 0 [] .none .none .none .none .none .none .none 0)) #[])
def mv:=qb bS (.fields #[(.str av 401),(.str yb 402),(.str aN 403),(.int 46 0),(.int 2 0),(.int 0 0),(.int 0 0),(.int 3 0),(.ref 171),(.bool .true),(.int 181 0),(.ref 172),.none,.none,.none,(.ref 173),(.int 404 0),(.int 46 0),(.str aN 405)])
def mw:=qb dN (.func (.mk av yb (bA yJ) (.stmts (aU yJ)) (bB yJ) 3 [] .none .none .none (.str nF 362) .none (.ref 174) .none 0))
def mx:=qb aK (.seq #[] 0)
def my:Obj:=(.mk .none .none (.fields #[]) #[])
def mz:Obj:=(.mk .none .none (.func (.mk aw yc (bA yK) (.stmts (aU yK)) (bB yK) 0 [] .none .none .none .none .none .none .none 0)) #[])
def nc:=qb bS (.fields #[(.str aw 407),(.str yc 408),(.str aN 409),(.int 52 0),(.int 1 0),(.int 0 0),(.int 0 0),(.int 3 0),(.ref 176),(.bool .true),(.int 181 0),(.ref 177),.none,.none,.none,(.ref 178),(.int 410 0),(.int 52 0),(.str aN 411)])
def nh:=qb dN (.func (.mk aw yc (bA yK) (.stmts (aU yK)) (bB yK) 3 [] .none .none .none (.str nF 362) .none (.ref 179) .none 0))
def nj:=qb aK (.seq #[] 0)
def nq:Obj:=(.mk .none .none (.fields #[]) #[])
def nr:Obj:=(.mk .none .none (.func (.mk ax yd (bA yL) (.stmts (aU yL)) (bB yL) 0 [] .none .none .none .none .none .none .none 0)) #[])
def nu:=qb bS (.fields #[(.str ax 413),(.str yd 414),(.str aN 415),(.int 55 0),(.int 2 0),(.int 0 0),(.int 0 0),(.int 3 0),(.ref 181),(.bool .true),(.int 181 0),(.ref 182),.none,.none,.none,(.ref 183),(.int 416 0),(.int 55 0),(.str aN 417)])
def nv:=qb dN (.func (.mk ax yd (bA yL) (.stmts (aU yL)) (bB yL) 3 [] .none .none .none (.str nF 362) .none (.ref 184) .none 0))
def ny:=qb aK (.seq #[(.str Lw 419),(.str JI 420)] 0)
def og:=qb cB (.dict #[(qd P eM 371 (.str nF 362)),(qd P eN 375 (.int 27 374)),(qd P eP 383 (.ref 158)),(qd P aq 389 (.ref 163)),(qd P au 400 (.ref 170)),(qd P av 406 (.ref 175)),(qd P aw 412 (.ref 180)),(qd P ax 418 (.ref 185)),(qd P eO 421 (.ref 186)),(qd P Lx 423 (.ref 189)),(qd P jv 425 (.ref 190)),(qd P eC 426 .none)] 4)
def oj:Obj:=(.mk (.type cW) .none (.cls (.mk nG [(.type eU)] [(.ref 188),(.type eU)] 187 nG .true [] [] .false .none .false)) #[.none,.none,(.some (.str nG 364)),(.some (.str nG 372)),(.some (.builtin ME)),(.some (.bool .true))])
def oo:=qb Ck (.fields #[(.str Lx 422),(.ref 188),(.builtin MF),(.builtin MG)])
def oq:=qb Ck (.fields #[(.str jv 424),(.ref 188),(.builtin Nz),.none])
def ot:=qb nV (.fields #[(.ref 188),(.ref 188),(.ref 188)])
def ou:=qb eQ (.fields #[(.builtin nW),(.ref 188)])
def tw16837606225849474980:Params->BT:=λP=>(.node (boot_o_0 P) (.node (boot_o_1 P) (.node (KG P) (.node (boot_o_7 P) (.node iI (.node jY (.node nQ (qf bc) (qf ot)) (.node vM (qf lj) .nil)) (.node lK (.node sR (qf ck) .nil) (.node xR (qf mw) .nil))) (.node (iQ P) (.node kH (.node pM (qf br) .nil) (.node (vU P) (qf lz) .nil)) (.node nI (.node sZ (qf km) .nil) (.node xZ (qf nr) .nil)))) (.node gE (.node iM (.node kD (.node pI (qf bj) .nil) (.node vQ (qf lr) .nil)) (.node lO (.node sV (qf (kh P)) .nil) (.node xV (qf nc) .nil))) (.node iT (.node lF (.node pQ (qf bz) .nil) (.node xN (qf mm) .nil)) (.node nM (.node vI (qf kx) .nil) (.node yD (qf (og P)) .nil))))) (.node (boot_o_5 P) (.node (boot_o_9 P) (.node (iK P) (.node kB (.node pG (qf bg) .nil) (.node vO (qf lp) .nil)) (.node lM (.node sT (qf kf) .nil) (.node xT (qf my) .nil))) (.node iR (.node lD (.node pO (qf bw) .nil) (.node vW (qf mf) .nil)) (.node nK (.node vG (qf kr) .nil) (.node yB (qf nv) .nil)))) (.node gF (.node iO (.node kF (.node pK (qf bp) .nil) (.node vS (qf lx) .nil)) (.node nS (.node sX (qf kj) .nil) (.node xX (qf nj) .nil))) (.node jW (.node lI (.node sP (qf (cg P)) .nil) (.node (xP P) (qf mq) .nil)) (.node nO (.node vK (qf lg) .nil) (.node yF (qf oo) .nil)))))) (.node (boot_o_2 P) (.node (boot_o_4 P) (.node (boot_o_8 P) (.node iJ (.node jZ (.node pF (qf (bf P)) (qf ou)) (.node vN (qf ll) .nil)) (.node (lL P) (.node sS (qf cm) .nil) (.node xS (qf mx) .nil))) (.node az (.node lC (.node (pN P) (qf bu) .nil) (.node vV (qf md) .nil)) (.node nJ (.node vF (qf kn) .nil) (.node yA (qf nu) .nil)))) (.node KH (.node iN (.node (kE P) (.node pJ (qf bo) .nil) (.node vR (qf lu) .nil)) (.node nR (.node (sW P) (qf ki) .nil) (.node xW (qf nh) .nil))) (.node jV (.node lG (.node sO (qf cb) .nil) (.node xO (qf mn) .nil)) (.node (nN P) (.node vJ (qf ky) .nil) (.node yE (qf oj) .nil))))) (.node (boot_o_6 P) (.node (boot_o_10 P) (.node iL (.node kC (.node (pH P) (qf bh) .nil) (.node vP (qf lq) .nil)) (.node lN (.node sU (qf kg) .nil) (.node xU (qf mz) .nil))) (.node iS (.node (lE P) (.node pP (qf bx) .nil) (.node vX (qf mj) .nil)) (.node nL (.node (vH P) (qf ku) .nil) (.node (yC P) (qf ny) .nil)))) (.node gG (.node iP (.node kG (.node pL (qf bq) .nil) (.node vT (qf ly) .nil)) (.node (nT P) (.node sY (qf kl) .nil) (.node xY (qf nq) .nil))) (.node (jX P) (.node lJ (.node (sQ P) (qf cj) .nil) (.node xQ (qf mv) .nil)) (.node nP (.node vL (qf lh) .nil) (.node ba (qf oq) .nil)))))))
theorem te16837606225849474980:tw16837606225849474980=tw16837606225849474980:=rfl
def KI:=qb cB (.dict #[(qd P jQ 165 (.str eT 429)),(qd P eC 166 .none),(qd P jR 167 .none),(qd P jS 168 (.builtin kI)),(qd P jT 169 .none),(qd P jU 170 (.ref 6)),(qd P jM 171 (.ref 4)),(qd P jN 173 (.str aN 172)),(qd P jO 174 .none),(qd P aZ 206 (.ref 24)),(qd P eZ 222 (.ref 37)),(qd P fJ 238 (.ref 49)),(qd P fU 254 (.ref 61)),(qd P gC 270 (.ref 73)),(qd P gS 286 (.ref 85)),(qd P iH 311 (.ref 104)),(qd P jP 336 (.ref 123)),(qd P lB 361 (.ref 142)),(qd P nG 428 (.ref 188)),(qd P rZ 438 (.ref 199)),(qd P sA 448 (.ref 206)),(qd P sC 455 (.ref 213)),(qd P sD 465 (.ref 220)),(qd P sE 476 (.ref 227)),(qd P sF 482 (.ref 232)),(qd P sG 490 (.ref 239)),(qd P sH 503 (.ref 246)),(qd P sI 513 (.ref 253)),(qd P sJ 521 (.ref 260)),(qd P sL 527 (.ref 265)),(qd P sM 537 (.ref 272)),(qd P sN 543 (.ref 277))] 32)
def tw9317365289439048402:List Stmt:=[tD,tE,tF,tG,tH,tI,tJ,tK,tL,tM,tN,tO,tP]
theorem te9317365289439048402:tw9317365289439048402=tw9317365289439048402:=rfl
def KJ:Obj:=(.mk .none .none (.fields #[(.int 2 0),(.int 0 0),(.ref 20),(.int 4 0),(.int 0 0),(.ref 33),(.int 6 0),(.int 0 0),(.ref 45),(.int 8 0),(.int 0 0),(.ref 57),(.int 10 0),(.int 0 0),(.ref 69),(.int 12 0),(.int 0 0),(.ref 81),(.int 14 0),(.int 0 0),(.ref 93),(.int 18 0),(.int 0 0),(.ref 112),(.int 22 0),(.int 0 0),(.ref 131),(.int 27 0),(.int 0 0),(.ref 150),(.int 61 0),(.int 0 0),(.ref 198),(.int 65 0),(.int 0 0),(.ref 205),(.int 67 0),(.int 0 0),(.ref 212),(.int 69 0),(.int 0 0),(.ref 219),(.int 83 0),(.int 0 0),(.ref 226),(.int 89 0),(.int 0 0),(.ref 231),(.int 91 0),(.int 0 0),(.ref 238),(.int 99 0),(.int 0 0),(.ref 245),(.int 108 0),(.int 0 0),(.ref 252),(.int 114 0),(.int 0 0),(.ref 259),(.int 120 0),(.int 0 0),(.ref 264),(.int 133 0),(.int 0 0),(.ref 271),(.int 137 0),(.int 0 0),(.ref 276)]) #[])
def yg:=qb aK (.seq #[] 0)
def yh:Obj:=(.mk .none .none (.fields #[]) #[])
def yi:=qb aK (.seq #[(.str Ly 434),(.str jw 435)] 0)
def yj:=qb aK (.seq #[] 0)
def yk:Obj:=(.mk .none .none (.func (.mk rZ rZ (bA tD) (.stmts (aU tD)) (bB tD) 0 [] .none .none .none .none .none .none .none 0)) #[])
def ym:=qb bS (.fields #[(.str rZ 431),(.str rZ 432),(.str aN 433),(.int 61 0),(.int 2 0),(.int 0 0),(.int 0 0),(.int 3 0),(.ref 193),(.bool .true),(.int 181 0),(.ref 194),.none,(.ref 195),(.ref 196),(.ref 197),(.int 436 0),(.int 61 0),(.str aN 437)])
def yn:=qb dN (.func (.mk rZ rZ (bA tD) (.stmts (aU tD)) (bB tD) 3 [] .none .none .none (.str eT 429) .none (.ref 198) .none 0))
def yo:=qb aK (.seq #[] 0)
def yp:Obj:=(.mk .none .none (.fields #[]) #[])
def yq:=qb aK (.seq #[(.str Lz 442),(.str jw 443),(.str JJ 444),(.str JK 445)] 0)
def yr:=qb aK (.seq #[] 0)
def yt:Obj:=(.mk .none .none (.func (.mk sA sA (bA tE) (.stmts (aU tE)) (bB tE) 0 [] .none .none .none .none .none .none .none 0)) #[])
def yu:=qb bS (.fields #[(.str sA 439),(.str sA 440),(.str aN 441),(.int 65 0),(.int 4 0),(.int 0 0),(.int 0 0),(.int 3 0),(.ref 200),(.bool .true),(.int 181 0),(.ref 201),.none,(.ref 202),(.ref 203),(.ref 204),(.int 446 0),(.int 65 0),(.str aN 447)])
def yw:=qb dN (.func (.mk sA sA (bA tE) (.stmts (aU tE)) (bB tE) 3 [] .none .none .none (.str eT 429) .none (.ref 205) .none 0))
def yx:=qb aK (.seq #[] 0)
def yy:Obj:=(.mk .none .none (.fields #[]) #[])
def yz:=qb aK (.seq #[(.str ye 452)] 0)
def zc:=qb aK (.seq #[] 0)
def zi:Obj:=(.mk .none .none (.func (.mk sC sC (bA tF) (.stmts (aU tF)) (bB tF) 0 [] .none .none .none .none .none .none .none 0)) #[])
def zj:=qb bS (.fields #[(.str sC 449),(.str sC 450),(.str aN 451),(.int 67 0),(.int 1 0),(.int 0 0),(.int 0 0),(.int 3 0),(.ref 207),(.bool .true),(.int 181 0),(.ref 208),.none,(.ref 209),(.ref 210),(.ref 211),(.int 453 0),(.int 67 0),(.str aN 454)])
def zk:=qb dN (.func (.mk sC sC (bA tF) (.stmts (aU tF)) (bB tF) 3 [] .none .none .none (.str eT 429) .none (.ref 212) .none 0))
def zm:=qb aK (.seq #[] 0)
def zo:Obj:=(.mk .none .none (.fields #[]) #[])
def zq:=qb aK (.seq #[(.str ye 459),(.str Ma 460),(.str Mb 461),(.str Mc 462)] 0)
def zr:=qb aK (.seq #[] 0)
def zt:Obj:=(.mk .none .none (.func (.mk sD sD (bA tG) (.stmts (aU tG)) (bB tG) 0 [] .none .none .none .none .none .none .none 0)) #[])
def zv:=qb bS (.fields #[(.str sD 456),(.str sD 457),(.str aN 458),(.int 69 0),(.int 2 0),(.int 0 0),(.int 0 0),(.int 3 0),(.ref 214),(.bool .true),(.int 181 0),(.ref 215),.none,(.ref 216),(.ref 217),(.ref 218),(.int 463 0),(.int 69 0),(.str aN 464)])
def zw:=qb dN (.func (.mk sD sD (bA tG) (.stmts (aU tG)) (bB tG) 3 [] .none .none .none (.str eT 429) .none (.ref 219) .none 0))
def zx:=qb aK (.seq #[] 0)
def zy:Obj:=(.mk .none .none (.fields #[]) #[])
def zz:=qb aK (.seq #[(.str Mb 469),(.str Mc 470),(.str JL 471),(.str jw 472),(.str jx 473)] 0)
def Aa:=qb aK (.seq #[] 0)
def Ab:Obj:=(.mk .none .none (.func (.mk sE sE (bA tH) (.stmts (aU tH)) (bB tH) 0 [] .none .none .none .none .none .none .none 0)) #[])
def Ac:=qb bS (.fields #[(.str sE 466),(.str sE 467),(.str aN 468),(.int 83 0),(.int 2 0),(.int 0 0),(.int 0 0),(.int 3 0),(.ref 221),(.bool .true),(.int 181 0),(.ref 222),.none,(.ref 223),(.ref 224),(.ref 225),(.int 474 0),(.int 83 0),(.str aN 475)])
def Ad:=qb dN (.func (.mk sE sE (bA tH) (.stmts (aU tH)) (bB tH) 3 [] .none .none .none (.str eT 429) .none (.ref 226) .none 0))
def Ae:=qb aK (.seq #[] 0)
def Af:Obj:=(.mk .none .none (.fields #[]) #[])
def Ag:Obj:=(.mk .none .none (.func (.mk sF sF (bA tI) (.stmts (aU tI)) (bB tI) 0 [] .none .none .none .none .none .none .none 0)) #[])
def Ah:=qb bS (.fields #[(.str sF 477),(.str sF 478),(.str aN 479),(.int 89 0),(.int 3 0),(.int 0 0),(.int 0 0),(.int 3 0),(.ref 228),(.bool .true),(.int 181 0),(.ref 229),.none,.none,.none,(.ref 230),(.int 480 0),(.int 89 0),(.str aN 481)])
def Ai:=qb dN (.func (.mk sF sF (bA tI) (.stmts (aU tI)) (bB tI) 3 [] .none .none .none (.str eT 429) .none (.ref 231) .none 0))
def Aj:=qb aK (.seq #[] 0)
def Ak:Obj:=(.mk .none .none (.fields #[]) #[])
def Al:=qb aK (.seq #[(.str Md 486),(.str Me 487)] 0)
def Am:=qb aK (.seq #[] 0)
def An:Obj:=(.mk .none .none (.func (.mk sG sG (bA tJ) (.stmts (aU tJ)) (bB tJ) 0 [] .none .none .none .none .none .none .none 0)) #[])
def Ao:=qb bS (.fields #[(.str sG 483),(.str sG 484),(.str aN 485),(.int 91 0),(.int 2 0),(.int 0 0),(.int 0 0),(.int 3 0),(.ref 233),(.bool .true),(.int 181 0),(.ref 234),.none,(.ref 235),(.ref 236),(.ref 237),(.int 488 0),(.int 91 0),(.str aN 489)])
def Ap:=qb dN (.func (.mk sG sG (bA tJ) (.stmts (aU tJ)) (bB tJ) 3 [] .none .none .none (.str eT 429) .none (.ref 238) .none 0))
def Aq:=qb aK (.seq #[] 0)
def Ar:Obj:=(.mk .none .none (.fields #[]) #[])
def As:=qb aK (.seq #[(.str ay 494),(.str Mf 495),(.str jy 496),(.str jz 497),(.str Me 498),(.str Md 499),(.str JM 500)] 0)
def Au:=qb aK (.seq #[] 0)
def Av:Obj:=(.mk .none .none (.func (.mk sH sH (bA tK) (.stmts (aU tK)) (bB tK) 0 [] .none .none .none .none .none .none .none 0)) #[])
def Aw:=qb bS (.fields #[(.str sH 491),(.str sH 492),(.str aN 493),(.int 99 0),(.int 5 0),(.int 0 0),(.int 0 0),(.int 3 0),(.ref 240),(.bool .true),(.int 181 0),(.ref 241),.none,(.ref 242),(.ref 243),(.ref 244),(.int 501 0),(.int 99 0),(.str aN 502)])
def Ax:=qb dN (.func (.mk sH sH (bA tK) (.stmts (aU tK)) (bB tK) 3 [] .none .none .none (.str eT 429) .none (.ref 245) .none 0))
def Ay:=qb aK (.seq #[] 0)
def Az:Obj:=(.mk .none .none (.fields #[]) #[])
def Ba:=qb aK (.seq #[(.str ay 507),(.str Mf 508),(.str jy 509),(.str jz 510)] 0)
def Bb:=qb aK (.seq #[] 0)
def Bc:Obj:=(.mk .none .none (.func (.mk sI sI (bA tL) (.stmts (aU tL)) (bB tL) 0 [] .none .none .none .none .none .none .none 0)) #[])
def Bd:=qb bS (.fields #[(.str sI 504),(.str sI 505),(.str aN 506),(.int 108 0),(.int 4 0),(.int 0 0),(.int 0 0),(.int 3 0),(.ref 247),(.bool .true),(.int 181 0),(.ref 248),.none,(.ref 249),(.ref 250),(.ref 251),(.int 511 0),(.int 108 0),(.str aN 512)])
def Be:=qb dN (.func (.mk sI sI (bA tL) (.stmts (aU tL)) (bB tL) 3 [] .none .none .none (.str eT 429) .none (.ref 252) .none 0))
def Bf:=qb aK (.seq #[] 0)
def Bg:Obj:=(.mk .none .none (.fields #[]) #[])
def Bh:=qb aK (.seq #[(.str ke 517),(.str jx 518)] 0)
def Bj:=qb aK (.seq #[] 0)
def Bk:Obj:=(.mk .none .none (.func (.mk sJ sJ (bA tM) (.stmts (aU tM)) (bB tM) 0 [] .none .none .none .none .none .none .none 0)) #[])
def Bl:=qb bS (.fields #[(.str sJ 514),(.str sJ 515),(.str aN 516),(.int 114 0),(.int 2 0),(.int 0 0),(.int 0 0),(.int 3 0),(.ref 254),(.bool .true),(.int 181 0),(.ref 255),.none,(.ref 256),(.ref 257),(.ref 258),(.int 519 0),(.int 114 0),(.str aN 520)])
def Bm:=qb dN (.func (.mk sJ sJ (bA tM) (.stmts (aU tM)) (bB tM) 3 [] .none .none .none (.str eT 429) .none (.ref 259) .none 0))
def Bo:=qb aK (.seq #[] 0)
def Bp:Obj:=(.mk .none .none (.fields #[]) #[])
def Bq:Obj:=(.mk .none .none (.func (.mk sL sL (bA tN) (.stmts (aU tN)) (bB tN) 0 [] .none .none .none .none .none .none .none 0)) #[])
def Br:=qb bS (.fields #[(.str sL 522),(.str sL 523),(.str aN 524),(.int 120 0),(.int 5 0),(.int 0 0),(.int 0 0),(.int 3 0),(.ref 261),(.bool .true),(.int 181 0),(.ref 262),.none,.none,.none,(.ref 263),(.int 525 0),(.int 120 0),(.str aN 526)])
def Bs:=qb dN (.func (.mk sL sL (bA tN) (.stmts (aU tN)) (bB tN) 3 [] .none .none .none (.str eT 429) .none (.ref 264) .none 0))
def Bt:=qb aK (.seq #[] 0)
def Bu:Obj:=(.mk .none .none (.fields #[]) #[])
def Bv:=qb aK (.seq #[(.str ay 531),(.str yf 532),(.str ke 533),(.str jy 534)] 0)
def Bw:=qb aK (.seq #[] 0)
def Bx:Obj:=(.mk .none .none (.func (.mk sM sM (bA tO) (.stmts (aU tO)) (bB tO) 0 [] .none .none .none .none .none .none .none 0)) #[])
def By:=qb bS (.fields #[(.str sM 528),(.str sM 529),(.str aN 530),(.int 133 0),(.int 4 0),(.int 0 0),(.int 0 0),(.int 3 0),(.ref 266),(.bool .true),(.int 181 0),(.ref 267),.none,(.ref 268),(.ref 269),(.ref 270),(.int 535 0),(.int 133 0),(.str aN 536)])
def Bz:=qb dN (.func (.mk sM sM (bA tO) (.stmts (aU tO)) (bB tO) 3 [] .none .none .none (.str eT 429) .none (.ref 271) .none 0))
def Ca:=qb aK (.seq #[] 0)
def Cb:Obj:=(.mk .none .none (.fields #[]) #[])
def Cc:Obj:=(.mk .none .none (.func (.mk sN sN (bA tP) (.stmts (aU tP)) (bB tP) 0 [] .none .none .none .none .none .none .none 0)) #[])
def Cd:=qb bS (.fields #[(.str sN 538),(.str sN 539),(.str aN 540),(.int 137 0),(.int 4 0),(.int 0 0),(.int 0 0),(.int 3 0),(.ref 273),(.bool .true),(.int 181 0),(.ref 274),.none,.none,.none,(.ref 275),(.int 541 0),(.int 137 0),(.str aN 542)])
def Ce:=qb dN (.func (.mk sN sN (bA tP) (.stmts (aU tP)) (bB tP) 3 [] .none .none .none (.str eT 429) .none (.ref 276) .none 0))
def tw15362816058408954754:Params->BT:=λP=>(.node (boot_o_0 P) (.node (boot_o_1 P) (.node (KI P) (.node (boot_o_7 P) (.node iI (.node jY (.node nQ (.node bc (qf Bg) .nil) (qf ot)) (.node vM (qf lj) (qf zz))) (.node lK (.node sR (.node ck (qf By) .nil) (qf yx)) (.node xR (qf mw) (qf Ap)))) (.node (iQ P) (.node kH (.node pM (.node br (qf Bq) .nil) (qf yn)) (.node (vU P) (qf lz) (qf Ah))) (.node nI (.node sZ (qf km) (qf zo)) (.node xZ (qf nr) (qf Ay))))) (.node gE (.node iM (.node kD (.node pI (.node bj (qf Bl) .nil) (qf yi)) (.node vQ (qf lr) (qf Ad))) (.node lO (.node sV (.node (kh P) (qf Cc) .nil) (qf zi)) (.node xV (qf nc) (qf Au)))) (.node iT (.node lF (.node pQ (.node bz (qf Bu) .nil) (qf yr)) (.node xN (qf mm) (qf Al))) (.node nM (.node vI (qf kx) (qf zv)) (.node yD (qf (og P)) (qf Bc)))))) (.node (boot_o_5 P) (.node (boot_o_9 P) (.node (iK P) (.node kB (.node pG (.node bg (qf Bj) .nil) (qf yg)) (.node vO (qf lp) (qf Ab))) (.node lM (.node sT (.node kf (qf Ca) .nil) (qf yz)) (.node xT (qf my) (qf Ar)))) (.node iR (.node lD (.node pO (.node bw (qf Bs) .nil) (qf yp)) (.node vW (qf mf) (qf Aj))) (.node nK (.node vG (qf kr) (qf zr)) (.node yB (qf nv) (qf Ba))))) (.node gF (.node iO (.node kF (.node pK (.node bp (qf Bo) .nil) (qf yk)) (.node vS (qf lx) (qf Af))) (.node nS (.node sX (.node kj (qf Ce) .nil) (qf zk)) (.node xX (qf nj) (qf Aw)))) (.node jW (.node lI (.node sP (.node (cg P) (qf Bw) .nil) (qf yu)) (.node (xP P) (qf mq) (qf An))) (.node nO (.node vK (qf lg) (qf zx)) (.node yF (qf oo) (qf Be))))))) (.node (boot_o_2 P) (.node (boot_o_4 P) (.node (boot_o_8 P) (.node iJ (.node jZ (.node pF (.node (bf P) (qf Bh) .nil) (qf ou)) (.node vN (qf ll) (qf Aa))) (.node (lL P) (.node sS (.node cm (qf Bz) .nil) (qf yy)) (.node xS (qf mx) (qf Aq)))) (.node az (.node lC (.node (pN P) (.node bu (qf Br) .nil) (qf yo)) (.node vV (qf md) (qf Ai))) (.node nJ (.node vF (qf kn) (qf zq)) (.node yA (qf nu) (qf Az))))) (.node KJ (.node iN (.node (kE P) (.node pJ (.node bo (qf Bm) .nil) (qf yj)) (.node vR (qf lu) (qf Ae))) (.node nR (.node (sW P) (.node ki (qf Cd) .nil) (qf zj)) (.node xW (qf nh) (qf Av)))) (.node jV (.node lG (.node sO (.node cb (qf Bv) .nil) (qf yt)) (.node xO (qf mn) (qf Am))) (.node (nN P) (.node vJ (qf ky) (qf zw)) (.node yE (qf oj) (qf Bd)))))) (.node (boot_o_6 P) (.node (boot_o_10 P) (.node iL (.node kC (.node (pH P) (.node bh (qf Bk) .nil) (qf yh)) (.node vP (qf lq) (qf Ac))) (.node lN (.node sU (.node kg (qf Cb) .nil) (qf zc)) (.node xU (qf mz) (qf As)))) (.node iS (.node (lE P) (.node pP (.node bx (qf Bt) .nil) (qf yq)) (.node vX (qf mj) (qf Ak))) (.node nL (.node (vH P) (qf ku) (qf zt)) (.node (yC P) (qf ny) (qf Bb))))) (.node gG (.node iP (.node kG (.node pL (.node bq (qf Bp) .nil) (qf ym)) (.node vT (qf ly) (qf Ag))) (.node (nT P) (.node sY (qf kl) (qf zm)) (.node xY (qf nq) (qf Ax)))) (.node (jX P) (.node lJ (.node (sQ P) (.node cj (qf Bx) .nil) (qf yw)) (.node xQ (qf mv) (qf Ao))) (.node nP (.node vL (qf lh) (qf zy)) (.node ba (qf oq) (qf Bf))))))))
theorem te15362816058408954754:tw15362816058408954754=tw15362816058408954754:=rfl
def Mi:=qb cB (.dict #[(qd P jQ 165 (.str eT 429)),(qd P eC 166 .none),(qd P jR 167 .none),(qd P jS 168 (.builtin kI)),(qd P jT 169 .none),(qd P jU 170 (.ref 6)),(qd P jM 171 (.ref 4)),(qd P jN 173 (.str aN 172)),(qd P jO 174 .none),(qd P aZ 206 (.ref 24)),(qd P eZ 222 (.ref 37)),(qd P fJ 238 (.ref 49)),(qd P fU 254 (.ref 61)),(qd P gC 270 (.ref 73)),(qd P gS 286 (.ref 85)),(qd P iH 311 (.ref 104)),(qd P jP 336 (.ref 123)),(qd P lB 361 (.ref 142)),(qd P nG 428 (.ref 188)),(qd P rZ 438 (.ref 199)),(qd P sA 448 (.ref 206)),(qd P sC 455 (.ref 213)),(qd P sD 465 (.ref 220)),(qd P sE 476 (.ref 227)),(qd P sF 482 (.ref 232)),(qd P sG 490 (.ref 239)),(qd P sH 503 (.ref 246)),(qd P sI 513 (.ref 253)),(qd P sJ 521 (.ref 260)),(qd P sL 527 (.ref 265)),(qd P sM 537 (.ref 272)),(qd P sN 543 (.ref 277)),(qd P vC 554 (.ref 284)),(qd P vD 574 (.ref 291)),(qd P vE 583 (.ref 298))] 35)
def tw5107791193543192587:List Stmt:=[tQ,tR,tS]
theorem te5107791193543192587:tw5107791193543192587=tw5107791193543192587:=rfl
def Mj:Obj:=(.mk .none .none (.fields #[(.int 2 0),(.int 0 0),(.ref 20),(.int 4 0),(.int 0 0),(.ref 33),(.int 6 0),(.int 0 0),(.ref 45),(.int 8 0),(.int 0 0),(.ref 57),(.int 10 0),(.int 0 0),(.ref 69),(.int 12 0),(.int 0 0),(.ref 81),(.int 14 0),(.int 0 0),(.ref 93),(.int 18 0),(.int 0 0),(.ref 112),(.int 22 0),(.int 0 0),(.ref 131),(.int 27 0),(.int 0 0),(.ref 150),(.int 61 0),(.int 0 0),(.ref 198),(.int 65 0),(.int 0 0),(.ref 205),(.int 67 0),(.int 0 0),(.ref 212),(.int 69 0),(.int 0 0),(.ref 219),(.int 83 0),(.int 0 0),(.ref 226),(.int 89 0),(.int 0 0),(.ref 231),(.int 91 0),(.int 0 0),(.ref 238),(.int 99 0),(.int 0 0),(.ref 245),(.int 108 0),(.int 0 0),(.ref 252),(.int 114 0),(.int 0 0),(.ref 259),(.int 120 0),(.int 0 0),(.ref 264),(.int 133 0),(.int 0 0),(.ref 271),(.int 137 0),(.int 0 0),(.ref 276),(.int 144 0),(.int 0 0),(.ref 283),(.int 151 0),(.int 0 0),(.ref 290),(.int 173 0),(.int 0 0),(.ref 297)]) #[])
def Ml:=qb aK (.seq #[] 0)
def Mm:Obj:=(.mk .none .none (.fields #[]) #[])
def Mn:=qb aK (.seq #[(.str ay 547),(.str ke 548),(.str jz 549),(.str jx 550),(.str Mg 551)] 0)
def Mo:=qb aK (.seq #[] 0)
def Mp:Obj:=(.mk .none .none (.func (.mk vC vC (bA tQ) (.stmts (aU tQ)) (bB tQ) 0 [] .none .none .none .none .none .none .none 0)) #[])
def Mq:=qb bS (.fields #[(.str vC 544),(.str vC 545),(.str aN 546),(.int 144 0),(.int 5 0),(.int 0 0),(.int 0 0),(.int 3 0),(.ref 278),(.bool .true),(.int 181 0),(.ref 279),.none,(.ref 280),(.ref 281),(.ref 282),(.int 552 0),(.int 144 0),(.str aN 553)])
def Mr:=qb dN (.func (.mk vC vC (bA tQ) (.stmts (aU tQ)) (bB tQ) 3 [] .none .none .none (.str eT 429) .none (.ref 283) .none 0))
def Ms:=qb aK (.seq #[] 0)
def Mt:Obj:=(.mk .none .none (.fields #[]) #[])
def Mu:=qb aK (.seq #[(.str yf 558),(.str Mh 559),(.str JN 560),(.str ay 561),(.str ke 562),(.str jz 563),(.str Mg 564),(.str jw 565),(.str Lz 566),(.str jx 567),(.str JO 568),(.str jy 569),(.str ye 570),(.str Ma 571)] 0)
def Mv:=qb aK (.seq #[] 0)
def Mw:Obj:=(.mk .none .none (.func (.mk vD vD (bA tR) (.stmts (aU tR)) (bB tR) 0 [] .none .none .none .none .none .none .none 0)) #[])
def Mx:=qb bS (.fields #[(.str vD 555),(.str vD 556),(.str aN 557),(.int 151 0),(.int 3 0),(.int 0 0),(.int 0 0),(.int 3 0),(.ref 285),(.bool .true),(.int 181 0),(.ref 286),.none,(.ref 287),(.ref 288),(.ref 289),(.int 572 0),(.int 151 0),(.str aN 573)])
def My:=qb dN (.func (.mk vD vD (bA tR) (.stmts (aU tR)) (bB tR) 3 [] .none .none .none (.str eT 429) .none (.ref 290) .none 0))
def Mz:=qb aK (.seq #[] 0)
def Na:Obj:=(.mk .none .none (.fields #[]) #[])
def Nb:=qb aK (.seq #[(.str Ly 578),(.str yf 579),(.str Mh 580)] 0)
def Nc:=qb aK (.seq #[] 0)
def Nf:Obj:=(.mk .none .none (.func (.mk vE vE (bA tS) (.stmts (aU tS)) (bB tS) 0 [] .none .none .none .none .none .none .none 0)) #[])
def Ng:=qb bS (.fields #[(.str vE 575),(.str vE 576),(.str aN 577),(.int 173 0),(.int 1 0),(.int 0 0),(.int 0 0),(.int 3 0),(.ref 292),(.bool .true),(.int 181 0),(.ref 293),.none,(.ref 294),(.ref 295),(.ref 296),(.int 581 0),(.int 173 0),(.str aN 582)])
def Nh:=qb dN (.func (.mk vE vE (bA tS) (.stmts (aU tS)) (bB tS) 3 [] .none .none .none (.str eT 429) .none (.ref 297) .none 0))
def tw3912333935551030281:Params->BT:=λP=>(.node (boot_o_0 P) (.node (boot_o_1 P) (.node (Mi P) (.node (boot_o_7 P) (.node iI (.node jY (.node nQ (.node bc (qf Bg) .nil) (qf ot)) (.node vM (.node lj (qf Mu) .nil) (qf zz))) (.node lK (.node sR (.node ck (qf By) .nil) (qf yx)) (.node xR (qf mw) (qf Ap)))) (.node (iQ P) (.node kH (.node pM (.node br (qf Bq) .nil) (qf yn)) (.node (vU P) (.node lz (qf Nc) .nil) (qf Ah))) (.node nI (.node sZ (.node km (qf Mm) .nil) (qf zo)) (.node xZ (qf nr) (qf Ay))))) (.node gE (.node iM (.node kD (.node pI (.node bj (qf Bl) .nil) (qf yi)) (.node vQ (.node lr (qf My) .nil) (qf Ad))) (.node lO (.node sV (.node (kh P) (qf Cc) .nil) (qf zi)) (.node xV (qf nc) (qf Au)))) (.node iT (.node lF (.node pQ (.node bz (qf Bu) .nil) (qf yr)) (.node xN (qf mm) (qf Al))) (.node nM (.node vI (.node kx (qf Mq) .nil) (qf zv)) (.node yD (qf (og P)) (qf Bc)))))) (.node (boot_o_5 P) (.node (boot_o_9 P) (.node (iK P) (.node kB (.node pG (.node bg (qf Bj) .nil) (qf yg)) (.node vO (.node lp (qf Mw) .nil) (qf Ab))) (.node lM (.node sT (.node kf (qf Ca) .nil) (qf yz)) (.node xT (qf my) (qf Ar)))) (.node iR (.node lD (.node pO (.node bw (qf Bs) .nil) (qf yp)) (.node vW (.node mf (qf Ng) .nil) (qf Aj))) (.node nK (.node vG (.node kr (qf Mo) .nil) (qf zr)) (.node yB (qf nv) (qf Ba))))) (.node gF (.node iO (.node kF (.node pK (.node bp (qf Bo) .nil) (qf yk)) (.node vS (.node lx (qf Na) .nil) (qf Af))) (.node nS (.node sX (.node kj (qf Ce) .nil) (qf zk)) (.node xX (qf nj) (qf Aw)))) (.node jW (.node lI (.node sP (.node (cg P) (qf Bw) .nil) (qf yu)) (.node (xP P) (qf mq) (qf An))) (.node nO (.node vK (.node lg (qf Ms) .nil) (qf zx)) (.node yF (qf oo) (qf Be))))))) (.node (boot_o_2 P) (.node (boot_o_4 P) (.node (boot_o_8 P) (.node iJ (.node jZ (.node pF (.node (bf P) (qf Bh) .nil) (qf ou)) (.node vN (.node ll (qf Mv) .nil) (qf Aa))) (.node (lL P) (.node sS (.node cm (qf Bz) .nil) (qf yy)) (.node xS (qf mx) (qf Aq)))) (.node az (.node lC (.node (pN P) (.node bu (qf Br) .nil) (qf yo)) (.node vV (.node md (qf Nf) .nil) (qf Ai))) (.node nJ (.node vF (.node kn (qf Mn) .nil) (qf zq)) (.node yA (qf nu) (qf Az))))) (.node Mj (.node iN (.node (kE P) (.node pJ (.node bo (qf Bm) .nil) (qf yj)) (.node vR (.node lu (qf Mz) .nil) (qf Ae))) (.node nR (.node (sW P) (.node ki (qf Cd) .nil) (qf zj)) (.node xW (qf nh) (qf Av)))) (.node jV (.node lG (.node sO (.node cb (qf Bv) .nil) (qf yt)) (.node xO (qf mn) (qf Am))) (.node (nN P) (.node vJ (.node ky (qf Mr) .nil) (qf zw)) (.node yE (qf oj) (qf Bd)))))) (.node (boot_o_6 P) (.node (boot_o_10 P) (.node iL (.node kC (.node (pH P) (.node bh (qf Bk) .nil) (qf yh)) (.node vP (.node lq (qf Mx) .nil) (qf Ac))) (.node lN (.node sU (.node kg (qf Cb) .nil) (qf zc)) (.node xU (qf mz) (qf As)))) (.node iS (.node (lE P) (.node pP (.node bx (qf Bt) .nil) (qf yq)) (.node vX (.node mj (qf Nh) .nil) (qf Ak))) (.node nL (.node (vH P) (.node ku (qf Mp) .nil) (qf zt)) (.node (yC P) (qf ny) (qf Bb))))) (.node gG (.node iP (.node kG (.node pL (.node bq (qf Bp) .nil) (qf ym)) (.node vT (.node ly (qf Nb) .nil) (qf Ag))) (.node (nT P) (.node sY (.node kl (qf Ml) .nil) (qf zm)) (.node xY (qf nq) (qf Ax)))) (.node (jX P) (.node lJ (.node (sQ P) (.node cj (qf Bx) .nil) (qf yw)) (.node xQ (qf mv) (qf Ao))) (.node nP (.node vL (.node lh (qf Mt) .nil) (qf zy)) (.node ba (qf oq) (qf Bf))))))))
theorem te3912333935551030281:tw3912333935551030281=tw3912333935551030281:=rfl
def tw1053091631972176411:Params->Heap:=λP=>(.mk #[(boot_o_0 P),(boot_o_1 P),(boot_o_2 P),(Mi P),(boot_o_4 P),(boot_o_5 P),(boot_o_6 P),(boot_o_7 P),(boot_o_8 P),(boot_o_9 P),(boot_o_10 P),gE,Mj,gF,gG,iI,iJ,(iK P),iL,iM,iN,iO,iP,(iQ P),az,iR,iS,iT,jV,jW,(jX P),jY,jZ,kB,kC,kD,(kE P),kF,kG,kH,lC,lD,(lE P),lF,lG,lI,lJ,lK,(lL P),lM,lN,lO,nR,nS,(nT P),nI,nJ,nK,nL,nM,(nN P),nO,nP,nQ,pF,pG,(pH P),pI,pJ,pK,pL,pM,(pN P),pO,pP,pQ,sO,sP,(sQ P),sR,sS,sT,sU,sV,(sW P),sX,sY,sZ,vF,vG,(vH P),vI,vJ,vK,vL,vM,vN,vO,vP,vQ,vR,vS,vT,(vU P),vV,vW,vX,xN,xO,(xP P),xQ,xR,xS,xT,xU,xV,xW,xX,xY,xZ,yA,yB,(yC P),yD,yE,yF,ba,bc,(bf P),bg,bh,bj,bo,bp,bq,br,bu,bw,bx,bz,cb,(cg P),cj,ck,cm,kf,kg,(kh P),ki,kj,kl,km,kn,kr,ku,kx,ky,lg,lh,lj,ll,lp,lq,lr,lu,lx,ly,lz,md,mf,mj,mm,mn,mq,mv,mw,mx,my,mz,nc,nh,nj,nq,nr,nu,nv,ny,(og P),oj,oo,oq,ot,ou,yg,yh,yi,yj,yk,ym,yn,yo,yp,yq,yr,yt,yu,yw,yx,yy,yz,zc,zi,zj,zk,zm,zo,zq,zr,zt,zv,zw,zx,zy,zz,Aa,Ab,Ac,Ad,Ae,Af,Ag,Ah,Ai,Aj,Ak,Al,Am,An,Ao,Ap,Aq,Ar,As,Au,Av,Aw,Ax,Ay,Az,Ba,Bb,Bc,Bd,Be,Bf,Bg,Bh,Bj,Bk,Bl,Bm,Bo,Bp,Bq,Br,Bs,Bt,Bu,Bv,Bw,Bx,By,Bz,Ca,Cb,Cc,Cd,Ce,Ml,Mm,Mn,Mo,Mp,Mq,Mr,Ms,Mt,Mu,Mv,Mw,Mx,My,Mz,Na,Nb,Nc,Nf,Ng,Nh] (.mk [] [] [] 0 [] [] .false #[] [] 0 .false .false .false 0 [2000,10,10] .false 0 .true [] [] 0 .false))
theorem te1053091631972176411:tw1053091631972176411=tw1053091631972176411:=rfl
end PySem.W.Fast
theorem PySem.Challenge.cw_aheadmill_k27_benches_holds : PySem.Challenge.rw_aheadmill_k27_benches.Holds := by
 w_on;o_law;k_head;(case hw=>w_witness2)
 k_fill
 refine AM.walk (k:=2*12) (x:="_law_script") (l:=PySem.Challenge.rw_aheadmill_k27_benches) rfl rfl ⟨rfl,by decide,by decide⟩ (λw h Y=>W.kIn_of Y) ?F
 case F=>
  intro w mg fa h KX G hmg;refine' AMx.all_mk KX G hmg ?xc_0 ?xc_1 ?xc_2 ?xc_3 ?xc_4 ?xc_5 ?xc_6 ?xc_7 ?xc_8 ?xc_9 ?x_0 ?l_0 ?c_0 ?k_0 ?x_1 ?l_1 ?c_1 ?k_1 ?x_2 ?l_2 ?c_2 ?k_2 ?x_3 ?l_3 ?c_3 ?k_3 ?x_4 ?l_4 ?c_4 ?k_4 ?x_5 ?l_5 ?c_5 ?k_5 ?x_6 ?l_6 ?c_6 ?k_6 ?x_7 ?l_7 ?c_7 ?k_7 ?x_8 ?l_8 ?c_8 ?k_8 ?x_9 ?l_9 ?c_9 ?k_9 ?x_10 ?l_10 ?c_10 ?k_10 ?x_11 ?l_11 ?c_11 ?k_11 ?x_12 ?l_12 ?c_12 ?k_12 ?x_13 ?l_13 ?c_13 ?k_13 ?x_14 ?l_14 ?c_14 ?k_14 ?x_15 ?l_15 ?c_15 ?k_15 ?x_16 ?l_16 ?c_16 ?k_16 ?x_17 ?l_17 ?c_17 ?k_17 ?x_18 ?l_18 ?c_18 ?k_18 ?x_19 ?l_19 ?c_19 ?k_19 ?x_20 ?l_20 ?c_20 ?k_20 ?x_21 ?l_21 ?c_21 ?k_21 ?pg_9 ?hd_9 ?po_9 ?sa_9 ?na_9_working ?na_9_table ?a_9_start ?fn_18 ?a_9_busy ?fn_20 ?a_9_free ?fn_17 ?a_9_done ?fn_19 ?a_9_init ?fn_16 ?mk_9 ?kc_9 ?cl_0 ?cl_3 ?cl_4 ?xe_3 ?xf_3 ?xe_4 ?xf_4 ?mr_3_3 ?mr_4_3 ?mr_3_4 ?mr_4_4 ?mr_3_0 ?mr_4_0 ?ko_3_8 ?ko_4_8 ?ko_3_7 ?ko_4_7 ?ko_3_6 ?ko_4_6 ?ko_3_5 ?ko_4_5 ?ko_3_1 ?ko_4_1 ?ko_3_2 ?ko_4_2 ?ko_3_3 ?ko_4_3 ?ko_3_4 ?ko_4_4 ?z_ValueError ?ko_3_ValueError ?ko_4_ValueError ?ko_3_0 ?ko_4_0 ?z_len ?z_int ?z_max ?z_tuple ?z_list ?z_sorted ?z_isinstance ?z_bool ?z_range ?z_enumerate ?z_zip
  (case xc_0=>k_is)
  (case xc_1=>k_is)
  (case xc_2=>k_is)
  (case xc_3=>k_is)
  (case xc_4=>k_is)
  (case xc_5=>k_is)
  (case xc_6=>k_is)
  (case xc_7=>k_is)
  (case xc_8=>k_is)
  (case xc_9=>k_is)
  (case x_0=>k_is)
  (case l_0=>k_is)
  (case c_0=>k_is)
  (case k_0=>k_is)
  (case x_1=>k_is)
  (case l_1=>k_is)
  (case c_1=>k_is)
  (case k_1=>k_is)
  (case x_2=>k_is)
  (case l_2=>k_is)
  (case c_2=>k_is)
  (case k_2=>k_is)
  (case x_3=>k_is)
  (case l_3=>k_is)
  (case c_3=>k_is)
  (case k_3=>k_is)
  (case x_4=>k_is)
  (case l_4=>k_is)
  (case c_4=>k_is)
  (case k_4=>k_is)
  (case x_5=>k_is)
  (case l_5=>k_is)
  (case c_5=>k_is)
  (case k_5=>k_is)
  (case x_6=>k_is)
  (case l_6=>k_is)
  (case c_6=>k_is)
  (case k_6=>k_is)
  (case x_7=>k_is)
  (case l_7=>k_is)
  (case c_7=>k_is)
  (case k_7=>k_is)
  (case x_8=>k_is)
  (case l_8=>k_is)
  (case c_8=>k_is)
  (case k_8=>k_is)
  (case x_9=>k_is)
  (case l_9=>k_is)
  (case c_9=>k_is)
  (case k_9=>k_is)
  (case x_10=>k_is)
  (case l_10=>k_is)
  (case c_10=>k_is)
  (case k_10=>k_is)
  (case x_11=>k_is)
  (case l_11=>k_is)
  (case c_11=>k_is)
  (case k_11=>k_is)
  (case x_12=>k_is)
  (case l_12=>k_is)
  (case c_12=>k_is)
  (case k_12=>k_is)
  (case x_13=>k_is)
  (case l_13=>k_is)
  (case c_13=>k_is)
  (case k_13=>k_is)
  (case x_14=>k_is)
  (case l_14=>k_is)
  (case c_14=>k_is)
  (case k_14=>k_is)
  (case x_15=>k_is)
  (case l_15=>k_is)
  (case c_15=>k_is)
  (case k_15=>k_is)
  (case x_16=>k_is)
  (case l_16=>k_is)
  (case c_16=>k_is)
  (case k_16=>k_is)
  (case x_17=>k_is)
  (case l_17=>k_is)
  (case c_17=>k_is)
  (case k_17=>k_is)
  (case x_18=>k_is)
  (case l_18=>k_is)
  (case c_18=>k_is)
  (case k_18=>k_is)
  (case x_19=>k_is)
  (case l_19=>k_is)
  (case c_19=>k_is)
  (case k_19=>k_is)
  (case x_20=>k_is)
  (case l_20=>k_is)
  (case c_20=>k_is)
  (case k_20=>k_is)
  (case x_21=>k_is)
  (case l_21=>k_is)
  (case c_21=>k_is)
  (case k_21=>k_is)
  (case pg_9=>k_is)
  (case hd_9=>k_is)
  (case po_9=>k_is)
  (case sa_9=>k_is)
  (case na_9_working=>k_is)
  (case na_9_table=>k_is)
  (case a_9_start=>k_is)
  (case fn_18=>k_is)
  (case a_9_busy=>k_is)
  (case fn_20=>k_is)
  (case a_9_free=>k_is)
  (case fn_17=>k_is)
  (case a_9_done=>k_is)
  (case fn_19=>k_is)
  (case a_9_init=>k_is)
  (case fn_16=>k_is)
  (case mk_9=>k_is)
  (case kc_9=>k_is)
  (case cl_0=>kernel_rfl)
  (case cl_3=>kernel_rfl)
  (case cl_4=>kernel_rfl)
  (case xe_3=>k_exc)
  (case xf_3=>kernel_rfl)
  (case xe_4=>k_exc)
  (case xf_4=>kernel_rfl)
  (case mr_3_3=>kernel_rfl)
  (case mr_4_3=>kernel_rfl)
  (case mr_3_4=>kernel_rfl)
  (case mr_4_4=>kernel_rfl)
  (case mr_3_0=>kernel_rfl)
  (case mr_4_0=>kernel_rfl)
  (case ko_3_8=>kernel_rfl)
  (case ko_4_8=>kernel_rfl)
  (case ko_3_7=>kernel_rfl)
  (case ko_4_7=>kernel_rfl)
  (case ko_3_6=>kernel_rfl)
  (case ko_4_6=>kernel_rfl)
  (case ko_3_5=>kernel_rfl)
  (case ko_4_5=>kernel_rfl)
  (case ko_3_1=>kernel_rfl)
  (case ko_4_1=>kernel_rfl)
  (case ko_3_2=>kernel_rfl)
  (case ko_4_2=>kernel_rfl)
  (case ko_3_3=>kernel_rfl)
  (case ko_4_3=>kernel_rfl)
  (case ko_3_4=>kernel_rfl)
  (case ko_4_4=>kernel_rfl)
  (case z_ValueError=>k_is)
  (case ko_3_ValueError=>kernel_rfl)
  (case ko_4_ValueError=>kernel_rfl)
  (case ko_3_0=>kernel_rfl)
  (case ko_4_0=>kernel_rfl)
  (case z_len=>k_is)
  (case z_int=>k_is)
  (case z_max=>k_is)
  (case z_tuple=>k_is)
  (case z_list=>k_is)
  (case z_sorted=>k_is)
  (case z_isinstance=>k_is)
  (case z_bool=>k_is)
  (case z_range=>k_is)
  (case z_enumerate=>k_is)
  (case z_zip=>k_is)
