import PyProof.Rows.All
import Wide.All
import OpenK.AllK
import Wide.FinOn
import Lean
import PyProof.EqAt
import PyProof.EqKinds
import PyProof.TupleCall
import OpenK.KOwn
import PySem.Challenge.RW_aheadmill_k10_rows_read
import PyProof.NeKinds
set_option Elab.async false
set_option linter.all false
set_option maxRecDepth 100000
set_option exponentiation.threshold 2000
set_option maxHeartbeats 0
set_option compiler.extract_closed false
set_option genSizeOf false
local macro_rules | `(command| $d:definition) => `(command| noncomputable $d:definition)
namespace L2
open PySem PySem.Spec PyProof.Rows
abbrev dO:=Sum Int Str
def yp:dO->Value->Bool
 |.inl k,v=>Value.isInt k v
 |.inr x,v=>Value.isStrOf x v
def Oq(w:World):dO->Int
 |.inl k=>hashInt k
 |.inr x=>hashStr w x
theorem lO:∀{k:dO} {v:Value},yp k v=true->(∃i t,k=Sum.inl i/\v=Value.int i t)\/(∃x t,k=Sum.inr x/\v=Value.str x t)
 |.inl i,v,h=>by obtain⟨t,e⟩:=Value.isInt_shape (k:=i) (v:=v) h;exact .inl ⟨i,t,rfl,e⟩
 |.inr x,v,h=>by obtain⟨t,e⟩:=Value.isStrOf_shape (x:=x) (v:=v) h;exact .inr ⟨x,t,rfl,e⟩
theorem Ot(a b:Int):decide ((Sum.inl a:dO)=Sum.inl b)=(a==b):=by
 by_cases e:a=b
 .subst e;simp
 .have h:¬(Sum.inl a:dO)=Sum.inl b:=λq=>e (Sum.inl.inj q);rw[decide_eq_false h];exact(beq_eq_false_iff_ne.mpr e).symm
theorem Ow(a b:Str):decide ((Sum.inr a:dO)=Sum.inr b)=decide (a=b):=by
 by_cases e:a=b
 .subst e;simp
 .have h:¬(Sum.inr a:dO)=Sum.inr b:=λq=>e (Sum.inr.inj q);rw[decide_eq_false h,decide_eq_false e]
theorem Ou(a:Int)(b:Str):decide ((Sum.inl a:dO)=Sum.inr b)=false:=decide_eq_false (λq=>nomatch q)
theorem Ov(a:Str)(b:Int):decide ((Sum.inr a:dO)=Sum.inl b)=false:=decide_eq_false (λq=>nomatch q)
def jh(prog:Program)(w:World):PySem.KeyKind prog w dO where
 is:=yp
 hash:=Oq w
 inj:=λv a b ha hb=>by
  rcases lO ha with⟨i,t,rfl,rfl⟩|⟨x,t,rfl,rfl⟩
  .rcases lO hb with⟨j,u,rfl,e⟩|⟨y,u,rfl,e⟩
   .injection e with e1 _;rw[e1]
   .exact nomatch e
  .rcases lO hb with⟨j,u,rfl,e⟩|⟨y,u,rfl,e⟩
   .exact nomatch e
   .injection e with e1 _;rw[e1]
 byValue:=λk v h=>by rcases lO h with⟨i,t,rfl,rfl⟩|⟨x,t,rfl,rfl⟩<;>rfl
 pyHash:=λhv h=>by
  rcases lO hv with⟨i,t,rfl,rfl⟩|⟨x,t,rfl,rfl⟩
  .exact wpAny_pyHash_int h
  .exact wpAny_pyHash_str h
 eqBool:=λhu hv h=>by
  rcases lO hu with⟨i,t,rfl,rfl⟩|⟨x,t,rfl,rfl⟩
  .rcases lO hv with⟨j,u,rfl,rfl⟩|⟨y,u,rfl,rfl⟩
   .rw[Ot]at h;exact wpAny_eqBool_int h
   .rw[Ou]at h;exact SeqAt.EqAt.int_str i t y u _ _ _ _ h
  .rcases lO hv with⟨j,u,rfl,rfl⟩|⟨y,u,rfl,rfl⟩
   .rw[Ov]at h;exact SeqAt.EqAt.str_int x t j u _ _ _ _ h
   .rw[Ow]at h;exact wpAny_eqBool_str h
 «strs»:=λk x t v h=>by
  rcases lO h with⟨i,u,rfl,e⟩|⟨y,u,rfl,e⟩
  .exact nomatch e
  .injection e with e1 _;subst e1;cases v<;>rfl
inductive V where
 |aC|bl (b:Bool)|int (i:Int)|str (x:Str)|gJ (b:Array UInt8)|xQ (b:UInt64)|ref (a:Addr)|ty (n:String)
 deriving DecidableEq
def RelV:V->Value->Prop
 |.aC,u=>u=Value.none
 |.bl b,u=>u=Value.bool b
 |.int i,u=>∃t,u=Value.int i t
 |.str x,u=>∃t,u=Value.str x t
 |.gJ b,u=>∃t,u=Value.bytes b t
 |.xQ b,u=>∃t,u=Value.float b t
 |.ref a,u=>u=Value.ref a
 |.ty n,u=>u=Value.type n
abbrev Vals:List V->List Value->Prop:=Paired RelV
theorem Vals.length{xs:List V}{us:List Value}(r:Vals xs us):xs.length=us.length:=Paired.length r
theorem Vals.get:∀{xs:List V} {us:List Value} {i:Nat} {x:V},Vals xs us->xs[i]?=some x->∃u,us[i]?=some u/\RelV x u
 |_,_,_,_,.nil,e=>by simp at e
 |_,_,0,_,.cons r _,e=>by simp at e;subst e;exact⟨_,rfl,r⟩
 |_,_,i+1,x,.cons _ t,e=>by obtain⟨u,h1,h2⟩:=Vals.get (i:=i) (x:=x) t (by simpa using e);exact⟨u,by simpa using h1,h2⟩
theorem Vals.set{x:V}{u:Value}(r:RelV x u):∀{xs:List V} {us:List Value} (i:Nat),Vals xs us->Vals (xs.set i x) (us.set i u)
 |_,_,_,.nil=>.nil
 |_,_,0,.cons _ t=>.cons r t
 |_,_,i+1,.cons q t=>.cons q (Vals.set r i t)
theorem Vals.append:∀{xs ys:List V} {us ws:List Value},Vals xs us->Vals ys ws->Vals (xs++ys) (us++ws)
 |_,_,_,_,.nil,s=>s
 |_,_,_,_,.cons r t,s=>.cons r (Vals.append t s)
theorem Vals.take:∀{xs:List V} {us:List Value} (n:Nat),Vals xs us->Vals (xs.take n) (us.take n)
 |_,_,0,_=>.nil
 |_,_,_+1,.nil=>.nil
 |_,_,n+1,.cons r t=>.cons r (Vals.take n t)
theorem Vals.drop:∀{xs:List V} {us:List Value} (n:Nat),Vals xs us->Vals (xs.drop n) (us.drop n)
 |_,_,0,r=>r
 |_,_,_+1,.nil=>.nil
 |_,_,n+1,.cons _ t=>Vals.drop n t
theorem Vals.none_of:∀{xs:List V} {us:List Value} {i:Nat},Vals xs us->xs[i]?=none->us[i]?=none:=λ{xs us i} r e=>by have h1:=r.length;have h2:xs.length<=i:=List.getElem?_eq_none_iff.mp e;exact List.getElem?_eq_none_iff.mpr (by omega)
def qN:Option V->Option Value->Prop
 |some v,some u=>RelV v u
 |none,none=>True
 |_,_=>False
def KV{κ:Type}:List (κ×V)->List (κ×Value)->Prop:=Paired λ(p:κ×V) (q:κ×Value)=>p.1=q.1/\RelV p.2 q.2
def kV:dO->V
 |.inl i=>.int i
 |.inr x=>.str x
inductive HO where
 |lst (xs:List V)
 |tup (xs:List V)
 |dK (aE:List (dO×V))|dT (aE:List (List dO×V))
 |set (S:Int->Bool) (n:Nat)
 |ins (C dx:Addr) (fs:List (Str×V))
 |own (x:Addr)
 |xd (fs:List (Str×V))
 |met (f x:Addr)
 |ak (lo hi:Int)
 |bO (o:Obj) (u:HO)
 |nV (ps:Array Value)
 |ext (φ:Heap->Prop)
abbrev Hp:=Addr->Option HO
def aK(H:Hp)(a:Addr)(o:HO):Hp:=λb=>if b=a then some o else H b
theorem eF{H:Hp}{a:Addr}{o:HO}:aK H a o a=some o:=by unfold aK;rw[if_pos rfl]
theorem aT{H:Hp}{a b:Addr}{o:HO}(h:b≠a):aK H a o b=H b:=by unfold aK;rw[if_neg h]
theorem rM{H:Hp}{a b:Addr}{o u:HO}(h:H a=some o)(h':H b=some u)(d:o≠u):a≠b:=by intro e;subst e;rw[h]at h';exact d (Option.some.inj h')
theorem dG{H:Hp}{a b:Addr}{o:HO}(h:H a=some o)(h':H b=none):a≠b:=by intro e;subst e;rw[h]at h';cases h'
section
variable (P:Program)(w:World)
def dD(H:Hp)(h:Heap)(a:Addr):HO->Prop
 |.lst xs=>xs.length<=sizeLine/\∃(its:List Value) (n:Nat),Vals xs its/\h.get? a=some { cls:=.type "list",data:=.seq its.toArray n }
 |.tup xs=>xs.length<=sizeLine/\∃its:List Value,Vals xs its/\IsTup h a its.toArray
 |.dK aE=>aE.length<=sizeLine/\(a==sysModules)=false/\∃vs,KV aE vs/\h.DictOf (jh P w) a vs
 |.dT aE=>aE.length<=sizeLine/\(a==sysModules)=false/\∃xs:List (List dO×Addr×Value),
  Paired (λ(p:List dO×V) (q:List dO×Addr×Value)=>p.1=q.1/\H q.2.1=some (.tup (p.1.map kV))/\RelV p.2 q.2.2) aE xs /\
  ∃o es ep,h.get? a=some o/\o.ExactDict/\o.data = .dict es ep/\es.toList=xs.map (entryOfKey (tupleKind (jh P w)))/\(xs.map (·.1)).Nodup
 |.set S n=>h.SetOf (intKind P w) a S n
 |.ins C dx fs=>H dx=some (.own a)/\fs.length<=1000/\dx≠a/\h.get? a=some (W.instObj C dx) /\
  ∃mA,h.Ns1 dx mA/\(∀f,qN (fs.lookup f) (mA f))/\PySem.Within mA (fs.map (·.1))
 |.own _=>∃o,h.get? a=some o
 |.xd fs=>∃mA,h.Ns1 a mA/\∀f,qN (fs.lookup f) (mA f)
 |.ak lo hi=>∃t u v,h.get? a=some { cls:=.type "range",data:=.fields #[.int lo t,.int hi u,.int 1 v] }
 |.bO o u=>h.get? a=some o/\dD H h a u
 |.nV ps=>h.get? a=some { cls:=.none,data:=.fields ps }
 |.met f x=>h.get? a=some (W.methodObj (.ref f) (.ref x))
 |.ext φ=>φ h/\(∃o,h.get? a=some o)/\∀h1 h2:Heap,φ h1->(∀o,h1.get? a=some o->h2.get? a=some o)->φ h2
def cJ(H:Hp)(h:Heap):Prop:=∀a o,H a=some o->dD P w H h a o
end
section
variable {P:Program}{w:World}{H H':Hp}{h h':Heap}{a:Addr}{o:HO}
theorem dD.lt(x:dD P w H h a o):a<h.objs.size:=by
 cases o with
 |lst xs=>obtain⟨_,_,_,_,e⟩:=x;exact Heap.lt_size e|tup xs=>obtain⟨_,_,_,p⟩:=x;exact p.lt|dK aE=>obtain⟨_,_,_,_,o,_,_,e,_⟩:=x;exact Heap.lt_size e|dT aE=>obtain⟨_,_,_,_,o,_,_,e,_⟩:=x;exact Heap.lt_size e|set S n=>obtain⟨o,_,_,_,e,_⟩:=x;exact Heap.lt_size e|ins C dx fs=>obtain⟨_,_,_,e,_⟩:=x;exact Heap.lt_size e|own y=>obtain⟨_,e⟩:=x;exact Heap.lt_size e|xd fs=>obtain⟨_,⟨_,_,_,e,_⟩,_⟩:=x;exact Heap.lt_size e|ak lo hi=>obtain⟨_,_,_,e⟩:=x;exact Heap.lt_size e|bO ob u=>obtain⟨e,_⟩:=x;exact Heap.lt_size e|nV ps=>exact Heap.lt_size (show h.get? a=some _ from x)|met f y=>exact Heap.lt_size (show h.get? a=some _ from x)|ext φ=>obtain⟨_,⟨_,e⟩,_⟩:=x;exact Heap.lt_size e
theorem Paired.zk{α β:Type}{F G:α->β->Prop}:∀{l₁:List α} {l₂:List β},Paired F l₁ l₂->(∀a b,F a b->G a b)->Paired G l₁ l₂
 |_,_,.nil,_=>.nil
 |_,_,.cons r t,f=>.cons (f _ _ r) (Paired.zk t f)
theorem dD.iY(x:dD P w H h a o)(k:∀b u,(b=a\/H b=some (.own a))->h.get? b=some u->h'.get? b=some u)
  (ho:∀b,H b=some (.own a)->H' b=some (.own a)) (ht:∀b xs,H b=some (.tup xs)->H' b=some (.tup xs)):dD P w H' h' a o:=by
 induction o with
 |lst xs=>obtain⟨z,its,n,r,e⟩:=x;exact⟨z,its,n,r,k _ _ (.inl rfl) e⟩|tup xs=>obtain⟨z,its,r,ob,e,c⟩:=x;exact⟨z,its,r,ob,k _ _ (.inl rfl) e,c⟩|dK aE=>obtain⟨z,y,vs,r,ob,es,ep,e,c⟩:=x;exact⟨z,y,vs,r,ob,es,ep,k _ _ (.inl rfl) e,c⟩|dT aE=>obtain⟨z,y,xs,r,ob,es,ep,e,c⟩:=x;exact⟨z,y,xs,Paired.zk r λp q z=>⟨z.1,ht _ _ z.2.1,z.2.2⟩,ob,es,ep,k _ _ (.inl rfl) e,c⟩
 |set S n=>obtain⟨ob,es,ep,t,e,c⟩:=x;exact⟨ob,es,ep,t,k _ _ (.inl rfl) e,c⟩|ins C dx fs=>obtain⟨d,z,ne,e,mA,⟨od,es,ep,e2,c⟩,r⟩:=x;exact⟨ho _ d,z,ne,k _ _ (.inl rfl) e,mA,⟨od,es,ep,k _ _ (.inr d) e2,c⟩,r⟩
 |own y=>obtain⟨ob,e⟩:=x;exact⟨ob,k _ _ (.inl rfl) e⟩|xd fs=>obtain⟨mA,⟨od,es,ep,e,c⟩,r⟩:=x;exact⟨mA,⟨od,es,ep,k _ _ (.inl rfl) e,c⟩,r⟩|ak lo hi=>obtain⟨t,u,v,e⟩:=x;exact⟨t,u,v,k _ _ (.inl rfl) e⟩|bO ob u ih=>obtain⟨e,q⟩:=x;exact⟨k _ _ (.inl rfl) e,ih q⟩|nV ps=>have e:h.get? a=some { cls:=.none,data:=.fields ps }:=x;show h'.get? a=some { cls:=.none,data:=.fields ps };exact k a _ (.inl rfl) e
 |met f y=>have e:h.get? a=some (W.methodObj (.ref f) (.ref y)):=x;show h'.get? a=some (W.methodObj (.ref f) (.ref y));exact k a _ (.inl rfl) e
 |ext φ=>obtain⟨p,⟨o,e⟩,st⟩:=x;exact⟨st _ _ p λo q=>k _ _ (.inl rfl) q,⟨o,k _ _ (.inl rfl) e⟩,st⟩
theorem cJ.lt(x:cJ P w H h)(e:H a=some o):a<h.objs.size:=(x a o e).lt
theorem cJ.fresh(x:cJ P w H h)(e:h.objs.size<=a):H a=none:=by
 cases q:H a with
 |none=>rfl|some u=>exact absurd (Nat.lt_of_lt_of_le (x.lt q) e) (Nat.lt_irrefl _)
theorem cJ.kept(x:cJ P w H h)(k:∀b u,h.get? b=some u->h'.get? b=some u):cJ P w H h':=λa o e=>
 (x a o e).iY (λb u _ q=>k b u q) (λ_ q=>q) λ_ _ q=>q
theorem cJ.laid(x:cJ P w H h)(k:∀b u,h.get? b=some u->h'.get? b=some u)(hp:h.objs.size<=a)(new:dD P w (aK H a o) h' a o):cJ P w (aK H a o) h':=λb u e=>by
 have hn:=x.fresh hp;by_cases hb:b=a
 .subst hb;rw[eF]at e;cases e;exact new
 .rw[aT hb]at e;exact(x b u e).iY (λc v _ q=>k c v q) (λc q=>by rw[aT (dG q hn)];exact q) λc xs q=>by rw[aT (dG q hn)];exact q
end
def Rd(H:Hp)(a:Addr)(u:HO):Prop:=H a=some u\/∃o,H a=some (.bO o u)
theorem Rd.ok{P:Program}{w:World}{H:Hp}{h:Heap}{a:Addr}{u:HO}(r:Rd H a u)(x:cJ P w H h):dD P w H h a u:=by
 rcases r with r|⟨o,r⟩
 .exact x a u r
 .obtain⟨_,q⟩:=x a _ r;exact q
def wM:Option HO->Prop
 |some (.lst _)=>True
 |some (.dK _)=>True
 |some (.dT _)=>True
 |some (.set _ _)=>True
 |some (.ins _ _ _)=>True
 |some (.ext _)=>True
 |_=>False
section
variable {P:Program}{w:World}{H:Hp}{h h':Heap}{x e:Addr}{o':HO}
theorem cJ.write(ok:cJ P w H h)(mu:wM (H x))(he:e=x\/H e=some (.own x))(k:∀b u,b≠e->h.get? b=some u->h'.get? b=some u)(heo:∃u,h'.get? e=some u)
  (new:dD P w (aK H x o') h' x o'):cJ P w (aK H x o') h':=λb u q=>by
 have nown:∀c y,H c=some (.own y)->c≠x:=λc y r z=>by subst z;rw[r]at mu;exact mu
 have ntup:∀c xs,H c=some (.tup xs)->c≠x:=λc xs r z=>by subst z;rw[r]at mu;exact mu
 by_cases hb:b=x
 .subst hb;rw[eF]at q;cases q;exact new
 .rw[aT hb]at q;by_cases hbe:b=e
  .have q':H b=some (.own x):=by
    rcases he with z|z
    .exact absurd (hbe.trans z) hb
    .rw[hbe];exact z
   rw[q]at q';cases q';obtain⟨v,hv⟩:=heo;exact⟨v,by rw[hbe];exact hv⟩
  .refine(ok b u q).iY (λc v hc r=>k c v ?_ r) (λc r=>by rw[aT (nown c b r)];exact r) λc xs r=>by rw[aT (ntup c xs r)];exact r
   rcases hc with rfl|hc
   .exact hbe
   .rintro rfl
    rcases he with z|z
    .exact nown c b hc z
    .rw[hc]at z;cases z;exact hb rfl
end
structure Un(fs ex:List Addr)(H H':Hp)(h h':Heap):Prop where
 keep:∀b o,h.get? b=some o->H b=none->b∉fs->b∉ex->h'.get? b=some o
 slot:∀b o,h.get? b=some o->H b=none->b∈fs->b∉ex->∃sl,h'.get? b=some { o with slots:=sl }
 free:∀b o,h.get? b=some o->H b=none->b∉ex->H' b=none
 there:∀b o,h.get? b=some o->b∉ex->∃o',h'.get? b=some o'
 gQ:∀b xs,H b=some (.tup xs)->H' b=some (.tup xs)
 fT:∀b o u,H b=some (.bO o u)->H' b=some (.bO o u)
 gP:∀b ps,H b=some (.nV ps)->∃more,H' b=some (.nV (ps++more))
section
variable {fs fs' ex ex':List Addr}{H H1 H2:Hp}{h h1 h2 h':Heap}{a x e:Addr}{o:HO}
theorem Un.any(u:Un fs ex H H1 h h1){b:Addr}{ob:Obj}(q:h.get? b=some ob)(n:H b=none)(hx:b∉ex):∃sl,h1.get? b=some { ob with slots:=sl }:=by
 by_cases hb:b∈fs
 .exact u.slot b ob q n hb hx
 .exact⟨ob.slots,u.keep b ob q n hb hx⟩
theorem Un.kept(k:∀b u,h.get? b=some u->h'.get? b=some u):Un fs ex H H h h':=
 ⟨λb ob q _ _ _=>k b ob q,λb ob q _ _ _=>⟨ob.slots,k b ob q⟩,λ_ _ _ n _=>n,λb ob q _=>⟨ob,k b ob q⟩,λ_ _ q=>q,λ_ _ _ q=>q,λ_ ps q=>⟨#[],by rw[q];simp⟩⟩
theorem Un.refl:Un fs ex H H h h:=Un.kept λ_ _ q=>q
theorem Un.laid(k:∀b u,h.get? b=some u->h'.get? b=some u)(hp:h.objs.size<=a)(hn:H a=none):Un fs ex H (aK H a o) h h' where
 keep:=λb u q _ _ _=>k b u q
 slot:=λb u q _ _ _=>⟨u.slots,k b u q⟩
 free:=λb u q n _=>by rw[aT (Nat.ne_of_lt (Nat.lt_of_lt_of_le (Heap.lt_size q) hp))];exact n
 there:=λb u q _=>⟨u,k b u q⟩
 gQ:=λb xs q=>by rw[aT (dG q hn)];exact q
 fT:=λb u xs q=>by rw[aT (dG q hn)];exact q
 gP:=λb ps q=>⟨#[],by rw[aT (dG q hn),q];simp⟩
theorem Un.write(mu:wM (H x))(he:e=x\/H e=some (.own x))(k:∀b u,b≠e->h.get? b=some u->h'.get? b=some u)(heo:∃u,h'.get? e=some u):Un fs ex H (aK H x o) h h':=by
 have hx:∀b,H b=none->b≠x:=λb n z=>by subst z;rw[n]at mu;exact mu
 have hb:∀b,H b=none->b≠e:=λb n z=>by
  subst z;rcases he with r|r
  .exact hx b n r
  .rw[n]at r;cases r
 have hm:∀b u,H b=some u->¬wM (some u)->b≠x:=λb u q nm z=>by subst z;rw[q]at mu;exact nm mu
 refine⟨λb u q n _ _=>k b u (hb b n) q,λb u q n _ _=>⟨u.slots,k b u (hb b n) q⟩,λb u q n _=>by rw[aT (hx b n)];exact n,λb u q _=>?_,
  λb xs q=>by rw[aT (hm b _ q λz=>z)];exact q,λb u xs q=>by rw[aT (hm b _ q λz=>z)];exact q,λb ps q=>⟨#[],by rw[aT (hm b _ q λz=>z),q];simp⟩⟩
 by_cases hbe:b=e
 .subst hbe;exact heo
 .exact⟨u,k b u hbe q⟩
end
def bw(h:Heap)(H:Hp):List Addr:=(List.range h.objs.size).filter λa=>(H a).isSome
def lM(h:Heap)(H:Hp):Heap:=W.hideAll h (bw h H)
theorem Nd(h:Heap)(H:Hp):(lM h H).objs.size=h.objs.size:=W.hideAll_size _ _
theorem Nc{h:Heap}{H:Hp}{b:Addr}{o:Obj}(e:h.get? b=some o)(n:H b=none):(lM h H).get? b=some o:=
 W.hideAll_get _ e λhm=>by have q:(H b).isSome=true:=(List.mem_filter.mp hm).2;rw[n]at q;simp at q
theorem Rg{h:Heap}{H:Hp}{b:Addr}{o:Obj}(e:(lM h H).get? b=some o):h.get? b=some o/\H b=none:=by
 have e':h.get? b=some o:=W.of_hideAll (bw h H) e;refine⟨e',?_⟩;cases q:H b with
 |none=>rfl|some x=>have hm:b∈bw h H:=List.mem_filter.mpr ⟨List.mem_range.mpr (Heap.lt_size e'),by simp[q]⟩;have z:(lM h H).get? b=none:=W.hideAll_none (bw h H) hm;rw[z]at e;cases e
structure Mod(K:W.Frag)(mg:Str->Option Value)(base:Heap):Prop where
 rF:K.In base
 glob:base.Ns mainGlobals mg
 blt:∃mb,base.Ns builtinsNs mb/\∀x:Str,x≠"__name__"->mb x=bootBuiltins x
 nolimit:base.NoLimit
structure Cx where
 prog:Program
 w:World
 K:W.Frag
 mg:Str->Option Value
 base:Heap
 A:Around
 N:List Str
 s₀:Shared
 H₀:Hp
 env:Env
 outer:List Env
 stack:List Env
 ex:List Addr
 fn:Str->Bool
 calm:Bool
 pn:List (Addr×Obj)
 xe:Value->Shared->Prop
def bN(l:List Env):List Addr:=l.filterMap (·.frame)
noncomputable abbrev Cx.fs(X:Cx):List Addr:=bN X.outer
def qO(sc:Scope)(x:Str):Prop:=sc.names.lookup x=some .local\/sc.names.lookup x=some .cell\/sc.names.lookup x=some .free
def kX(sc:Scope)(x:Str):Prop:=sc.names.lookup x=some .local\/sc.names.lookup x=some .cell
def Gy(env:Env)(h:Heap)(m:Str->Option Value)(x:Str)(u:Value):Prop:=
 (env.kindOf x=some .local/\m x=some u)\/((env.kindOf x=some .cell\/env.kindOf x=some .free)/\∃c,env.cells.lookup x=some c/\h.IsCell c (some u))
structure Cx.Ok(X:Cx):Prop where
 mod:Mod X.K X.mg X.base
 kind:X.env.scope.kind = .function
 glob:X.env.globals=mainGlobals
 blt:X.env.builtins=builtinsNs
 above:X.s₀.heap.objs.size<=X.env.locals
 inj:∀x y c,X.env.cells.lookup x=some c->X.env.cells.lookup y=some c->x=y
 has:∀x,(X.env.kindOf x=some .cell\/X.env.kindOf x=some .free)->∃c,X.env.cells.lookup x=some c
 lC:∀x c,X.fn x=true->X.env.cells.lookup x=some c->X.s₀.heap.objs.size<=c
 hd:X.calm=true->X.A.handled=none
 frames:X.A.frames=some X.stack
 fH:X.stack=X.outer\/(X.stack=X.env::X.outer/\X.env.frame=some X.env.locals)
 lG:∀b∈X.ex,b≠X.env.locals/\∀x c,X.env.cells.lookup x=some c->c≠b
 bs:∀b o,X.base.get? b=some o->X.s₀.heap.get? b=some o/\X.H₀ b=none
 gY:X.base.objs.size<=X.s₀.heap.objs.size
 lQ:∀b o,X.base.get? b=some o->b∉X.ex
 kC:∀b∈X.ex,b∉X.fs
 fE:X.s₀.heap.FunFrames X.base X.outer
 jI:∀b∈X.fs,X.H₀ b=none
structure Inv(X:Cx)(pins:List (Addr×Obj))(σ:List (Option V))(H:Hp)(s:Shared):Prop where
 ok:X.Ok
 os:s.os=X.s₀.os
 bare:AllBare s.gens
 base:Un X.fs X.ex X.H₀ H X.s₀.heap s.heap
 loc:∃m,s.heap.Ns X.env.locals m/\∀(i:Nat) (x:Str) (v:V),X.N[i]?=some x->σ[i]?=some (some v)->qO X.env.scope x->∃u,RelV v u/\Gy X.env s.heap m x u
 cell:∀x c,X.env.cells.lookup x=some c->∃v,s.heap.IsCell c v
 free:H X.env.locals=none
 eS:∀x c,X.env.cells.lookup x=some c->H c=none
 pin:∀p∈X.pn++pins,s.heap.get? p.1=some p.2/\H p.1=none/\p.1≠X.env.locals/\p.1∉X.fs/\∀v,p.2.data ≠ .cell v
 aI:cJ X.prog X.w H s.heap
 len:σ.length=X.N.length
section
variable {X:Cx}{pins:List (Addr×Obj)}{σ:List (Option V)}{H H':Hp}{s:Shared}{h':Heap}
theorem Cx.Ok.Qy(ok:X.Ok){b:Addr}{o:Obj}(e:X.base.get? b=some o):b∉X.fs:=λhb=>by have:=(ok.fE.mem hb).1;rw[e]at this;cases this
theorem Inv.bs(I:Inv X pins σ H s):∀b o,X.base.get? b=some o->s.heap.get? b=some o/\H b=none:=λb o e=>
 ⟨I.base.keep b o (I.ok.bs b o e).1 (I.ok.bs b o e).2 (I.ok.Qy e) (I.ok.lQ b o e),I.base.free b o (I.ok.bs b o e).1 (I.ok.bs b o e).2 (I.ok.lQ b o e)⟩
theorem Inv.bk(I:Inv X pins σ H s):∀b o,X.base.get? b=some o->s.heap.get? b=some o:=λb o e=>(I.bs b o e).1
theorem Inv.mod(I:Inv X pins σ H s):Mod X.K X.mg X.base:=I.ok.mod
theorem Inv.cW(I:Inv X pins σ H s):X.K.In s.heap:=I.ok.mod.rF.keeps I.bk
theorem Inv.lt(I:Inv X pins σ H s):X.env.locals<s.heap.objs.size:=let ⟨_,hn,_⟩:=I.loc;hn.lt
theorem Inv.sz(I:Inv X pins σ H s):X.s₀.heap.objs.size<=s.heap.objs.size:=Nat.le_trans I.ok.above (Nat.le_of_lt I.lt)
theorem Inv.Ra(I:Inv X pins σ H s){a:Addr}(h:s.heap.objs.size<=a):a∉X.fs:=λhb=>by obtain⟨_,o,ho,_⟩:=I.ok.fE.mem hb;exact absurd (Nat.lt_of_lt_of_le (Heap.lt_size ho) (Nat.le_trans I.sz h)) (Nat.lt_irrefl _)
theorem Inv.jF(I:Inv X pins σ H s):∀x c,X.env.cells.lookup x=some c->c≠X.env.locals:=λx c e z=>by obtain⟨v,o,ho,hd⟩:=I.cell x c e;obtain⟨m,⟨o',es,ep,ho',hd',_⟩,_⟩:=I.loc;rw[z,ho']at ho;cases ho;rw[hd']at hd;cases hd
theorem Inv.fE(I:Inv X pins σ H s):s.heap.FunFrames X.base X.outer:=by
 have all:∀(l:List Env),(∀b∈bN l,b∈X.fs)->X.s₀.heap.FunFrames X.base l->s.heap.FunFrames X.base l:=by
  intro l;induction l with
  |nil=>intro _ _;trivial|cons env r ih=>intro hs hl;obtain⟨hk,⟨L,o,hf,hn,ho,hd⟩,hr⟩:=hl;have hL:L∈X.fs:=hs L (by unfold bN;rw[List.filterMap_cons,hf];exact List.mem_cons_self);obtain⟨sl,e⟩:=I.base.slot L o ho (I.ok.jI L hL) hL λz=>I.ok.kC L z hL;exact⟨hk,⟨L,_,hf,hn,e,hd⟩,ih (λb hb=>hs b (by unfold bN;rw[List.filterMap_cons,hf];exact List.mem_cons_of_mem _ hb)) hr⟩
 exact all X.outer (λ_ hb=>hb) I.ok.fE
theorem Inv.stack(I:Inv X pins σ H s):s.heap.FunFrames X.base X.stack:=by
 rcases I.ok.fH with e|⟨e,hf⟩
 .rw[e];exact I.fE
 .rw[e];obtain⟨m,hn,_⟩:=I.loc;refine .cons (by rw[I.ok.kind];decide) hf hn ?_ I.fE;exact Heap.get?_none_of_le (Nat.le_trans I.ok.gY I.ok.above)
theorem Inv.vR(I:Inv X pins σ H s):∀b∈bN X.stack,b∈X.env.locals::X.fs:=λb hb=>by
 rcases I.ok.fH with e|⟨e,hf⟩
 .rw[e]at hb;exact List.mem_cons_of_mem _ hb
 .rw[e]at hb;unfold bN at hb;rw[List.filterMap_cons,hf]at hb;exact hb
theorem Inv.sL(I:Inv X pins σ H s):∀b∈bN X.stack,H b=none:=λb hb=>by
 rcases List.mem_cons.mp (I.vR b hb)with e|hb
 .rw[e];exact I.free
 .obtain⟨_,o,ho,_⟩:=I.ok.fE.mem hb;exact I.base.free b o ho (I.ok.jI b hb) λz=>I.ok.kC b z hb
theorem Inv.step{g':Array GenState}{t':Nat}{d':Drawn}{ch:List Addr}(I:Inv X pins σ H s)
  (hch:∀b∈ch,(b∈X.ex\/X.s₀.heap.objs.size<=b)/\b≠X.env.locals/\(∀x c,X.env.cells.lookup x=some c->c≠b)/\∀p∈X.pn++pins,p.1≠b)
  (keep:∀b o,b≠X.env.locals->b∉X.fs->b∉ch->s.heap.get? b=some o->H b=none->h'.get? b=some o)
  (slot:∀b o,b≠X.env.locals->b∈X.fs->b∉ch->s.heap.get? b=some o->H b=none->∃sl,h'.get? b=some { o with slots:=sl }) (free:∀b o,b∉ch->s.heap.get? b=some o->H b=none->H' b=none)
  (there:∀b o,b∉ch->s.heap.get? b=some o->∃o',h'.get? b=some o')
  (gQ:∀b xs,H b=some (.tup xs)->H' b=some (.tup xs)) (fT:∀b o u,H b=some (.bO o u)->H' b=some (.bO o u)) (gP:∀b ps,H b=some (.nV ps)->∃more,H' b=some (.nV (ps++more)))
  (ns:∀m,s.heap.Ns X.env.locals m->h'.Ns X.env.locals m) (aI:cJ X.prog X.w H' h') (hg:AllBare g') :
  Inv X pins σ H' { s with heap:=h',gens:=g',drawn:=d',toks:=t' }:=by
 have neL:∀b o,X.s₀.heap.get? b=some o->b≠X.env.locals:=λb o e=>Nat.ne_of_lt (Nat.lt_of_lt_of_le (Heap.lt_size e) I.ok.above);have neC:∀b o,X.s₀.heap.get? b=some o->b∉X.ex->b∉ch:=λb o e hx hb=>by
  rcases(hch b hb).1 with z|z
  .exact hx z
  .exact absurd (Nat.lt_of_lt_of_le (Heap.lt_size e) z) (Nat.lt_irrefl _)
 have cellK:∀x c,X.env.cells.lookup x=some c->∀v,s.heap.IsCell c v->h'.IsCell c v:=λx c e v ⟨o,ho,hd⟩=>by
  have nch:c∉ch:=λz=>(hch c z).2.2.1 x c e rfl;by_cases hc:c∈X.fs
  .obtain⟨sl,q⟩:=slot c o (I.jF x c e) hc nch ho (I.eS x c e);exact⟨_,q,hd⟩
  .exact⟨o,keep c o (I.jF x c e) hc nch ho (I.eS x c e),hd⟩
 refine⟨I.ok,I.os,hg,⟨λb o e n hb hx=>?_,λb o e n hb hx=>?_,λb o e n hx=>?_,λb o e hx=>?_,λb xs e=>gQ b xs (I.base.gQ b xs e),λb o xs e=>fT b o xs (I.base.fT b o xs e),λb ps e=>?_⟩,?_,λx c e=>?_,?_,λx c e=>?_,λp hp=>?_,aI,I.len⟩
 .exact keep b o (neL b o e) hb (neC b o e hx) (I.base.keep b o e n hb hx) (I.base.free b o e n hx)
 .obtain⟨sl,e1⟩:=I.base.slot b o e n hb hx;obtain⟨sl',e2⟩:=slot b _ (neL b o e) hb (neC b o e hx) e1 (I.base.free b o e n hx);exact⟨sl',e2⟩
 .obtain⟨o',e1⟩:=I.base.there b o e hx;exact free b o' (neC b o e hx) e1 (I.base.free b o e n hx)
 .obtain⟨o',e1⟩:=I.base.there b o e hx;exact there b o' (neC b o e hx) e1
 .obtain⟨m1,e1⟩:=I.base.gP b ps e;obtain⟨m2,e2⟩:=gP b _ e1;exact⟨m1++m2,by rw[e2,Array.append_assoc]⟩
 .obtain⟨m,hn,hl⟩:=I.loc;refine⟨m,ns m hn,λi x v e1 e2 e3=>?_⟩;obtain⟨u,r,l⟩:=hl i x v e1 e2 e3;refine⟨u,r,?_⟩;rcases l with l|⟨k,c,e,z⟩
  .exact .inl l
  .exact .inr ⟨k,c,e,cellK x c e _ z⟩
 .obtain⟨v,z⟩:=I.cell x c e;exact⟨v,cellK x c e v z⟩
 .obtain⟨m,⟨o,_,_,ho,_⟩,_⟩:=I.loc;exact free _ o (λz=>(hch _ z).2.1 rfl) ho I.free
 .obtain⟨v,o,ho,hd⟩:=I.cell x c e;exact free c o (λz=>(hch c z).2.2.1 x c e rfl) ho (I.eS x c e)
 .obtain⟨e,n,ne,nf,d⟩:=I.pin p hp;have nch:p.1∉ch:=λz=>(hch p.1 z).2.2.2 p hp rfl;exact⟨keep p.1 p.2 ne nf nch e n,free p.1 p.2 nch e n,ne,nf,d⟩
theorem Inv.un{t':Nat}(I:Inv X pins σ H s)(u:Un X.fs [] H H' s.heap h')(aI:cJ X.prog X.w H' h'):Inv X pins σ H' { s with heap:=h',toks:=t' }:=by
 obtain⟨m,⟨o,es,ep,ho,r⟩,_⟩:=id I.loc;obtain⟨sl,hL⟩:=u.any ho I.free (by simp);exact I.step (g':=s.gens) (d':=s.drawn) (ch:=[]) (λ_ z=>nomatch z) (λb o _ hb _ e n=>u.keep b o e n hb (by simp)) (λb o _ hb _ e n=>u.slot b o e n hb (by simp)) (λb o _ e n=>u.free b o e n (by simp)) (λb o _ e=>u.there b o e (by simp)) u.gQ u.fT u.gP (λm' hm=>by obtain⟨o',es',ep',ho',r'⟩:=hm;rw[ho]at ho';cases ho';exact⟨_,es',ep',hL,r'⟩) aI I.bare
theorem Inv.call{g':Array GenState}{t':Nat}{d':Drawn}{ch:List Addr}(I:Inv X pins σ H s)(u:Un (bN X.stack) ch H H' s.heap h')(aI:cJ X.prog X.w H' h')(hg:AllBare g')
  (hch:∀b∈ch,(b∈X.ex\/X.s₀.heap.objs.size<=b)/\b≠X.env.locals/\(∀x c,X.env.cells.lookup x=some c->c≠b)/\∀p∈X.pn++pins,p.1≠b) :
  Inv X pins σ H' { s with heap:=h',gens:=g',drawn:=d',toks:=t' }:=by
 obtain⟨m,⟨o,es,ep,ho,r⟩,_⟩:=id I.loc;obtain⟨sl,hL⟩:=u.any ho I.free λz=>(hch _ z).2.1 rfl;exact I.step (ch:=ch) hch (λb o hL hb hc e n=>u.keep b o e n (λz=>(List.mem_cons.mp (I.vR b z)).elim hL hb) hc) (λb o _ _ hc e n=>u.any e n hc) (λb o hc e n=>u.free b o e n hc) (λb o hc e=>u.there b o e hc) u.gQ u.fT u.gP (λm' hm=>by obtain⟨o',es',ep',ho',r'⟩:=hm;rw[ho]at ho';cases ho';exact⟨_,es',ep',hL,r'⟩) aI hg
theorem Inv.turned{t':Nat}{it:Addr}(I:Inv X pins σ H s)(k:∀b o,b≠it->s.heap.get? b=some o->h'.get? b=some o)(hn:H it=none)(hL:it≠X.env.locals)
  (h1:it∈X.ex\/X.s₀.heap.objs.size<=it) (h2:∀x c,X.env.cells.lookup x=some c->c≠it) (h3:∀p∈X.pn++pins,p.1≠it):Inv X pins σ H { s with heap:=h',toks:=t' }:=by
 have nit:∀b u,H b=some u->b≠it:=λb u e z=>by rw[z,hn]at e;cases e
 refine I.step (g':=s.gens) (d':=s.drawn) (ch:=[it]) (λb hb=>?_) (λb o _ _ hc e _=>k b o (λz=>hc (by simp[z])) e) (λb o _ _ hc e _=>⟨o.slots,k b o (λz=>hc (by simp[z])) e⟩) (λ_ _ _ _ n=>n)
  (λb o hc e=>⟨o,k b o (λz=>hc (by simp[z])) e⟩) (λ_ _ e=>e) (λ_ _ _ e=>e) (λb ps e=>⟨#[],by rw[e];simp⟩) (λm hm=>?_) (λb u e=>?_) I.bare
 .have e:b=it:=by simpa using hb
  subst e;exact⟨h1,hL,h2,h3⟩
 .obtain⟨o,es,ep,ho,r⟩:=hm;exact⟨o,es,ep,k _ o (Ne.symm hL) ho,r⟩
 .refine(I.aI b u e).iY (λc v hc q=>k c v ?_ q) (λ_ q=>q) λ_ _ q=>q;rcases hc with z|z
  .rw[z];exact nit b u e
  .exact nit c _ z
theorem Inv.tok(I:Inv X pins σ H s)(t:Nat):Inv X pins σ H { s with toks:=t }:=I.un (h':=s.heap) (t':=t) Un.refl I.aI
theorem Inv.kept{t':Nat}(I:Inv X pins σ H s)(k:∀b u,s.heap.get? b=some u->h'.get? b=some u):Inv X pins σ H { s with heap:=h',toks:=t' }:=I.un (Un.kept k) (I.aI.kept k)
theorem Inv.laid{a:Addr}{o:HO}{t':Nat}(I:Inv X pins σ H s)(k:∀b u,s.heap.get? b=some u->h'.get? b=some u)(hp:s.heap.objs.size<=a)(new:dD X.prog X.w (aK H a o) h' a o) :
 Inv X pins σ (aK H a o) { s with heap:=h',toks:=t' }:=I.un (Un.laid k hp (I.aI.fresh hp)) (I.aI.laid k hp new)
theorem Inv.write{x e:Addr}{o:HO}{t':Nat}(I:Inv X pins σ H s)(mu:wM (H x))(he:e=x\/H e=some (.own x))(k:∀b u,b≠e->s.heap.get? b=some u->h'.get? b=some u)(heo:∃u,h'.get? e=some u)
 (new:dD X.prog X.w (aK H x o) h' x o):Inv X pins σ (aK H x o) { s with heap:=h',toks:=t' }:=I.un (Un.write mu he k heo) (I.aI.write mu he k heo new)
theorem Inv.rR{pins':List (Addr×Obj)}(I:Inv X pins σ H s)(h:∀p∈pins',s.heap.get? p.1=some p.2/\H p.1=none/\p.1≠X.env.locals/\p.1∉X.fs/\∀v,p.2.data ≠ .cell v):Inv X pins' σ H s:=
 ⟨I.ok,I.os,I.bare,I.base,I.loc,I.cell,I.free,I.eS,λp hp=>(List.mem_append.mp hp).elim (λz=>I.pin p (List.mem_append_left _ z)) (h p),I.aI,I.len⟩
theorem jr{N:List Str}(hN:N.Nodup){i j:Nat}{x:Str}(a:N[i]?=some x)(b:N[j]?=some x):i=j:=by obtain⟨h1,e1⟩:=List.getElem?_eq_some_iff.mp a;obtain⟨h2,e2⟩:=List.getElem?_eq_some_iff.mp b;exact(List.getElem_inj hN).mp (e1.trans e2.symm)
theorem FX{M:Model}{A:Around}{E:Value->Shared->Prop}{i:Nat}{x:Str}{v:V}{u:Value}{Q:Unit->Shared->Prop}(I:Inv X pins σ H s)(hN:X.N.Nodup)(hi:X.N[i]?=some x)(hx:kX X.env.scope x)(r:RelV v u)
  (h:∀s',Inv X pins (σ.set i (some v)) H s'->(∃a,Heap.SameBut a s.heap s'.heap/\(a=X.env.locals\/X.env.cells.lookup x=some a))->Q () s') (hf:X.fn x=true\/X.env.scope.names.lookup x=some .local:=by first|exact .inl rfl|exact .inr rfl|assumption):wpAny M A (storeName X.env x u) Q E s:=by
 obtain⟨m,hn,hl⟩:=id I.loc;have hcls:(X.env.scope.kind == .class||(X.env.scope.kind == .module&&X.env.locals != X.env.globals))=false:=by rw[I.ok.kind];rfl
 have hiσ:i<σ.length:=by rw[I.len];exact(List.getElem?_eq_some_iff.mp hi).1
 have jF:=I.jF;have tracked:∀{a:Addr} {h':Heap},(∃o,s.heap.get? a=some o/\H a=none)->Heap.SameBut a s.heap h'->cJ X.prog X.w H h':=λ{a h'} ha hs b ob e=>by
  obtain⟨_,_,hfree⟩:=ha;refine(I.aI b ob e).iY (λc w' hc q=>(hs.2 c ?_).trans q) (λ_ q=>q) λ_ _ q=>q;rintro rfl
  rcases hc with rfl|hc
  .rw[hfree]at e;cases e
  .rw[hfree]at hc;cases hc
 rcases hx with hk|hk
 .refine wpAny_storeName_local hk hn (λh' hn' hs=>?_) hcls;obtain⟨oL,_,_,hoL,_⟩:=id hn;refine h _ ⟨I.ok,I.os,I.bare,⟨λb o e n hb hx=>?_,λb o e n hb hx=>?_,I.base.free,λb o e hx=>?_,I.base.gQ,I.base.fT,I.base.gP⟩,⟨_,hn',λj y v' e1 e2 e3=>?_⟩,λy c e=>?_,I.free,I.eS,λp hp=>?_,tracked ⟨oL,hoL,I.free⟩ hs,by simpa using I.len⟩ ⟨_,hs,.inl rfl⟩
  .exact(hs.2 b (Nat.ne_of_lt (Nat.lt_of_lt_of_le (Heap.lt_size e) I.ok.above))).trans (I.base.keep b o e n hb hx)
  .obtain⟨sl,e1⟩:=I.base.slot b o e n hb hx;exact⟨sl,(hs.2 b (Nat.ne_of_lt (Nat.lt_of_lt_of_le (Heap.lt_size e) I.ok.above))).trans e1⟩
  .obtain⟨o',e1⟩:=I.base.there b o e hx;exact⟨o',(hs.2 b (Nat.ne_of_lt (Nat.lt_of_lt_of_le (Heap.lt_size e) I.ok.above))).trans e1⟩
  .by_cases hj:j=i
   .subst hj;rw[hi]at e1;cases e1;rw[List.getElem?_set_self hiσ]at e2;cases e2;exact⟨u,r,.inl ⟨hk,by simp⟩⟩
   .rw[List.getElem?_set_ne (Ne.symm hj)]at e2;obtain⟨u',r',q⟩:=hl j y v' e1 e2 e3;refine⟨u',r',?_⟩;rcases q with⟨k,e⟩|⟨k,c,e,z⟩
    .refine .inl ⟨k,?_⟩;have:y≠x:=λe=>hj (jr hN e1 (e▸hi));simp[this,e]
    .exact .inr ⟨k,c,e,z.sameBut hs (jF y c e)⟩
  .obtain⟨w',z⟩:=I.cell y c e;exact⟨w',z.sameBut hs (jF y c e)⟩
  .obtain⟨e,n,ne,nf,d⟩:=I.pin p hp;exact⟨(hs.2 p.1 ne).trans e,n,ne,nf,d⟩
 .have hfn:X.fn x=true:=by
   rcases hf with z|z
   .exact z
   .rw[z]at hk;cases hk
  obtain⟨c,hc⟩:=I.ok.has x (.inl hk);obtain⟨w',z⟩:=I.cell x c hc;refine wpAny_storeName_cell I.ok.kind hk hc z (λh' hc' hs=>?_);obtain⟨oc,hoc,hocd⟩:=id z;refine h { s with heap:=h' } ⟨I.ok,I.os,I.bare,⟨λb o e n hb hx=>?_,λb o e n hb hx=>?_,I.base.free,λb o e hx=>?_,I.base.gQ,I.base.fT,I.base.gP⟩,⟨m,hn.sameBut hs (Ne.symm (jF x c hc)),λj y v' e1 e2 e3=>?_⟩,λy c' e=>?_,I.free,I.eS,λp hp=>?_,tracked ⟨oc,hoc,I.eS x c hc⟩ hs,by simpa using I.len⟩ ⟨c,hs,.inr hc⟩
  .exact(hs.2 b (Nat.ne_of_lt (Nat.lt_of_lt_of_le (Heap.lt_size e) (I.ok.lC x c hfn hc)))).trans (I.base.keep b o e n hb hx)
  .obtain⟨sl,e1⟩:=I.base.slot b o e n hb hx;exact⟨sl,(hs.2 b (Nat.ne_of_lt (Nat.lt_of_lt_of_le (Heap.lt_size e) (I.ok.lC x c hfn hc)))).trans e1⟩
  .obtain⟨o',e1⟩:=I.base.there b o e hx;exact⟨o',(hs.2 b (Nat.ne_of_lt (Nat.lt_of_lt_of_le (Heap.lt_size e) (I.ok.lC x c hfn hc)))).trans e1⟩
  .by_cases hj:j=i
   .subst hj;rw[hi]at e1;cases e1;rw[List.getElem?_set_self hiσ]at e2;cases e2;exact⟨u,r,.inr ⟨.inl hk,c,hc,hc'⟩⟩
   .rw[List.getElem?_set_ne (Ne.symm hj)]at e2;obtain⟨u',r',q⟩:=hl j y v' e1 e2 e3;refine⟨u',r',?_⟩;rcases q with q|⟨k,c',e,z'⟩
    .exact .inl q
    .refine .inr ⟨k,c',e,z'.sameBut hs ?_⟩;rintro rfl
     exact hj (jr hN e1 (I.ok.inj _ _ _ e hc▸hi))
  .by_cases hcc:c'=c
   .subst hcc;exact⟨_,hc'⟩
   .obtain⟨w2,z2⟩:=I.cell y c' e;exact⟨w2,z2.sameBut hs hcc⟩
  .obtain⟨e,n,ne,nf,d⟩:=I.pin p hp;refine⟨(hs.2 p.1 ?_).trans e,n,ne,nf,d⟩;intro q;rw[q,hoc]at e;have q':oc=p.2:=Option.some.inj e;exact d w' (by rw[<- q'];exact hocd)
theorem lZ{M:Model}{A:Around}{E:Value->Shared->Prop}{i:Nat}{x:Str}{v:V}{u:Value}{Q:Unit->Shared->Prop}(I:Inv X pins σ H s)(hN:X.N.Nodup)(hi:X.N[i]?=some x)(hx:kX X.env.scope x)(r:RelV v u)
  (h:∀s',Inv X pins (σ.set i (some v)) H s'->Q () s') (hf:X.fn x=true\/X.env.scope.names.lookup x=some .local:=by first|exact .inl rfl|exact .inr rfl|assumption):wpAny M A (storeName X.env x u) Q E s:=
 FX I hN hi hx r (λs' I' _=>h s' I') hf
theorem Inv.ud{s':Shared}{ch:List Addr}(I:Inv X pins σ H s)(ho:s'.os=s.os)(u:Un (bN X.stack) ch H H' s.heap s'.heap)(aI:cJ X.prog X.w H' s'.heap)(hg:AllBare s'.gens)
  (hch:∀b∈ch,(b∈X.ex\/X.s₀.heap.objs.size<=b)/\b≠X.env.locals/\(∀x c,X.env.cells.lookup x=some c->c≠b)/\∀p∈X.pn++pins,p.1≠b):Inv X pins σ H' s':=by
 obtain⟨h',g',d',t',o'⟩:=s';have e:o'=s.os:=ho;subst e;exact I.call (g':=g') (t':=t') (d':=d') u aI hg hch
end
abbrev XK:=Value->Option Addr->Hp->Prop
abbrev St:=List (Option V)
abbrev VK:=V->Hp->Prop
abbrev TE:=St->Hp->VK->Prop
abbrev TT:=St->Hp->(Bool->Hp->Prop)->Prop
abbrev TA:=St->Hp->(List V->Hp->Prop)->Prop
structure Ends where
 nx:St->Hp->Prop
 rt:VK
 bk:St->Hp->Prop:=λ_ _=>False
 ct:St->Hp->Prop:=λ_ _=>False
abbrev TS:=Ends->St->Hp->Prop
def EP(X:Cx)(pins:List (Addr×Obj))(σ:St)(Q:VK)(u:Value)(s':Shared):Prop:=∃v H',Inv X pins σ H' s'/\RelV v u/\Q v H'
def TP(X:Cx)(pins:List (Addr×Obj))(σ:St)(Q:Bool->Hp->Prop)(b:Bool)(s':Shared):Prop:=∃H',Inv X pins σ H' s'/\Q b H'
def AP(X:Cx)(pins:List (Addr×Obj))(σ:St)(Q:List V->Hp->Prop)(us:List Value)(s':Shared):Prop:=∃vs H',Inv X pins σ H' s'/\Vals vs us/\Q vs H'
def SP(X:Cx)(pins:List (Addr×Obj))(D:Ends)(f:Flow)(s':Shared):Prop:=
 match f with
 |.next=>∃σ' H',Inv X pins σ' H' s'/\D.nx σ' H'
 |.brk=>∃σ' H',Inv X pins σ' H' s'/\D.bk σ' H'
 |.cont=>∃σ' H',Inv X pins σ' H' s'/\D.ct σ' H'
 |.ret u=>∃v σ' H',Inv X pins σ' H' s'/\RelV v u/\D.rt v H'
def PE(X:Cx)(e:Expr)(t:TE):Prop:=
 ∀(pins:List (Addr×Obj)) (s:Shared) (σ:St) (H:Hp) (Q:VK),Inv X pins σ H s->t σ H Q->wpAny (model X.prog X.w) X.A (eval e X.env) (EP X pins σ Q) X.xe s
def PT(X:Cx)(e:Expr)(t:TT):Prop:=
 ∀(pins:List (Addr×Obj)) (s:Shared) (σ:St) (H:Hp) (Q:Bool->Hp->Prop),Inv X pins σ H s->t σ H Q->wpAny (model X.prog X.w) X.A (isTrue e X.env (eval e X.env)) (TP X pins σ Q) X.xe s
def PW(X:Cx)(e:Expr)(t:TT):Prop:=
 ∀(whole:Sem Value) (pins:List (Addr×Obj)) (s:Shared) (σ:St) (H:Hp) (Q:Bool->Hp->Prop),Inv X pins σ H s->t σ H Q->wpAny (model X.prog X.w) X.A (isTrue e X.env whole) (TP X pins σ Q) X.xe s
theorem PW.pt{X:Cx}{e:Expr}{t:TT}(h:PW X e t):PT X e t:=h _
def PA(X:Cx)(es:List Expr)(t:TA):Prop:=
 ∀(pos:Pos) (pins:List (Addr×Obj)) (s:Shared) (σ:St) (H:Hp) (Q:List V->Hp->Prop),Inv X pins σ H s->t σ H Q->wpAny (model X.prog X.w) X.A (spliced (backTo pos (starEach es X.env))) (AP X pins σ Q) X.xe s
def PS(X:Cx)(st:Stmt)(t:TS):Prop:=
 ∀(pins:List (Addr×Obj)) (s:Shared) (σ:St) (H:Hp) (D:Ends),Inv X pins σ H s->t D σ H->wpAny (model X.prog X.w) X.A (exec st X.env) (SP X pins D) X.xe s
def iL(X:Cx)(st:List Stmt)(t:TS):Prop:=
 ∀(pins:List (Addr×Obj)) (s:Shared) (σ:St) (H:Hp) (D:Ends),Inv X pins σ H s->t D σ H->wpAny (model X.prog X.w) X.A (execs st X.env) (SP X pins D) X.xe s
theorem aJ{α:Type}{t:Sem α}{Q Q':α->Shared->Prop}{M:Model}{A:Around}{E:Value->Shared->Prop}{s:Shared}(h:wpAny M A t Q E s)(hQ:∀a s,Q a s->Q' a s):wpAny M A t Q' E s:=wpAny_mono h hQ λ_ _ x=>x
section
variable {X:Cx}
def HP(i:Nat):TE:=λσ H Q=>∃v,σ[i]?=some (some v)/\Q v H
def tC(v:V):TE:=λ_ H Q=>Q v H
theorem kb{i:Nat} {x:Str} {pos:Pos} (hN:X.N[i]?=some x) (hv:qO X.env.scope x) (hd:(x==("__debug__":Str))=false:=by decide) (hcd:(x==("__classdict__":Str))=false:=by decide):PE X (.Name x pos) (HP i):=by
 intro pins s σ H Q I h;obtain⟨v,e,h⟩:=h;obtain⟨m,hn,hl⟩:=I.loc;obtain⟨u,r,l⟩:=hl i x v hN e hv;have fin:EP X pins σ Q u s:=⟨v,H,I,r,h⟩;rcases l with⟨hk,hm⟩|⟨hk,c,hc,hcell⟩
 .exact wpAny_Name (wpAny_loadName_local I.ok.kind hk hn hm fin) hd
 .rcases hk with hk|hk
  .exact wpAny_Name (wpAny_loadName_cell I.ok.kind hk hc hcell fin) hd
  .exact wpAny_Name (wpAny_loadName_free I.ok.kind hk hc hcell fin hcd) hd
theorem jz{i j pos}:PE X (.Constant (.int i) j pos) (tC (.int i)):=λ_ _ _ H _ I h=>wpAny_Constant_int ⟨.int i,H,I.tok _,⟨_,rfl⟩,h⟩
theorem yU{b j pos}:PE X (.Constant (.bool b) j pos) (tC (.bl b)):=λ_ _ _ H _ I h=>Constant_bool ⟨.bl b,H,I,rfl,h⟩
theorem yW{j pos}:PE X (.Constant .none j pos) (tC .aC):=λ_ _ _ H _ I h=>Constant_none ⟨.aC,H,I,rfl,h⟩
theorem yX{x j pos}:PE X (.Constant (.str x) j pos) (tC (.str x)):=λ_ _ _ H _ I h=>Calls.Constant_str ⟨.str x,H,I.tok _,⟨_,rfl⟩,h⟩
def Gl(X:Cx)(x:Str):Prop:=X.env.kindOf x=some .globalImplicit
theorem pK{E:Value->Shared->Prop}{pins:List (Addr×Obj)}{s:Shared}{σ:St}{H:Hp}{x:Str}{u:Value}{pos:Pos}{Q:Value->Shared->Prop}(I:Inv X pins σ H s)(hg:Gl X x)(hm:X.mg x=some u)(h:Q u s)
  (hd:(x==("__debug__":Str))=false:=by decide):wpAny (model X.prog X.w) X.A (eval (.Name x pos) X.env) Q E s:=
 Calls.Name_function_global I.ok.kind hg (Calls.loadGlobal_global (by rw[I.ok.glob];exact I.mod.glob.keeps I.bk) hm h) hd
theorem nG{E:Value->Shared->Prop}{pins:List (Addr×Obj)}{s:Shared}{σ:St}{H:Hp}{x:Str}{u:Value}{pos:Pos}{Q:Value->Shared->Prop}(I:Inv X pins σ H s)(hg:Gl X x)(hm:X.mg x=none)(hv:bootBuiltins x=some u)(h:Q u s)
  (hn:x≠"__name__":=by decide) (hd:(x==("__debug__":Str))=false:=by decide):wpAny (model X.prog X.w) X.A (eval (.Name x pos) X.env) Q E s:=by
 obtain⟨mb,h1,h2⟩:=I.mod.blt;exact Calls.Name_function_global I.ok.kind hg (Calls.loadGlobal_builtin (by rw[I.ok.glob];exact I.mod.glob.keeps I.bk) hm (by rw[I.ok.blt];exact h1.keeps I.bk) ((h2 x hn).trans hv) h) hd
theorem rQ{x:Str} {v:V} {u:Value} {pos:Pos} (hg:Gl X x) (hm:X.mg x=some u) (r:RelV v u) (hd:(x==("__debug__":Str))=false:=by decide):PE X (.Name x pos) (tC v):=
 λ_ _ _ H _ I h=>pK I hg hm ⟨v,H,I,r,h⟩ hd
theorem An{x:Str} {v:V} {u:Value} {pos:Pos} (hg:Gl X x) (hm:X.mg x=none) (hv:bootBuiltins x=some u) (r:RelV v u) (hn:x≠"__name__":=by decide) (hd:(x==("__debug__":Str))=false:=by decide):PE X (.Name x pos) (tC v):=
 λ_ _ _ H _ I h=>nG I hg hm hv ⟨v,H,I,r,h⟩ hn hd
variable {a b:Expr}{ta tb:TE}{pos:Pos}
variable {tA tB':TT}{rest:List Expr}
def GL(t u:TT):TT:=λσ H Q=>t σ H λc H1=>if c=true then u σ H1 Q else Q false H1
def HC(t u:TT):TT:=λσ H Q=>t σ H λc H1=>if c=true then Q true H1 else u σ H1 Q
def HA(t:TT):TT:=λσ H Q=>t σ H λc H1=>Q (!c) H1
theorem Xb(ha:PT X a tA):PW X (.BoolOp .And [a] pos) tA:=by
 intro wh pins s σ H Q I h;refine isTrue_and (aJ (ha pins s σ H Q I h) λc s1 e=>?_);cases c with
 |true=>exact isTrue_and_nil e|false=>exact e
theorem Xe(ha:PT X a tA):PW X (.BoolOp .Or [a] pos) tA:=by
 intro wh pins s σ H Q I h;refine isTrue_or (aJ (ha pins s σ H Q I h) λc s1 e=>?_);cases c with
 |false=>exact isTrue_or_nil e|true=>exact e
theorem Xa(ha:PT X a tA)(hb:PW X (.BoolOp .And (b::rest) pos) tB'):PW X (.BoolOp .And (a::b::rest) pos) (GL tA tB'):=by
 intro wh pins s σ H Q I h;refine isTrue_and (aJ (ha pins s σ H _ I h) λc s1 ⟨H1,I1,q1⟩=>?_);cases c with
 |true=>exact hb wh pins s1 σ H1 Q I1 q1|false=>exact⟨H1,I1,q1⟩
theorem Xd(ha:PT X a tA)(hb:PW X (.BoolOp .Or (b::rest) pos) tB'):PW X (.BoolOp .Or (a::b::rest) pos) (HC tA tB'):=by
 intro wh pins s σ H Q I h;refine isTrue_or (aJ (ha pins s σ H _ I h) λc s1 ⟨H1,I1,q1⟩=>?_);cases c with
 |true=>exact⟨H1,I1,q1⟩|false=>exact hb wh pins s1 σ H1 Q I1 q1
theorem Wu(ha:PT X a tA):PT X (.UnaryOp .Not a pos) (HA tA):=by intro pins s σ H Q I h;exact isTrue_not (ha pins s σ H (λc H1=>Q (!c) H1) I h)
theorem Ux{op}{t:TE}(h:PE X a t):PE X (.BoolOp op [a] pos) t:=λpins s σ H Q I hw=>BoolOp_one (h pins s σ H Q I hw)
def GV(t:TT)(ta tb:TE):TE:=λσ H Q=>t σ H λc H1=>if c=true then ta σ H1 Q else tb σ H1 Q
theorem Uu{c:Expr}(hc:PT X c tA)(ha:PE X a ta)(hb:PE X b tb):PE X (.IfExp c a b pos) (GV tA ta tb):=by
 intro pins s σ H Q I h;refine wpAny_IfExp (aJ (hc pins s σ H _ I h) λd s1 ⟨H1,I1,q1⟩=>?_);cases d with
 |true=>exact ha pins s1 σ H1 Q I1 q1|false=>exact hb pins s1 σ H1 Q I1 q1
end
def bA(K:W.Frag)(H:Hp)(a:Addr)(xs:List V):Prop:=
 Rd H a (.lst xs) \/
  ∃(o:Obj) (its:Array Value) (n:Nat),K.lookup a=some o/\o.cls = .type "list"/\o.dict=none/\o.data = .seq its n/\its.size<=sizeLine/\Vals xs its.toList
def bG(K:W.Frag)(H:Hp)(a:Addr)(xs:List V):Prop:=
 Rd H a (.tup xs) \/
  ∃(o:Obj) (its:Array Value) (n:Nat),K.lookup a=some o/\o.cls = .type "tuple"/\o.data = .seq its n/\its.size<=sizeLine/\Vals xs its.toList
def Hc:Value->Option V
 |.none=>some .aC
 |.bool b=>some (.bl b)
 |.int i _=>some (.int i)
 |.str x _=>some (.str x)
 |.bytes b _=>some (.gJ b)
 |.float b _=>some (.xQ b)
 |.ref a=>some (.ref a)
 |.type n=>some (.ty n)
 |_=>none
theorem RelV.abs{x:V}{u:Value}(r:RelV x u):Hc u=some x:=by
 cases x with
 |aC=>cases r;rfl|bl _=>cases r;rfl|int _=>obtain⟨t,rfl⟩:=r;rfl|str _=>obtain⟨t,rfl⟩:=r;rfl|gJ _=>obtain⟨t,rfl⟩:=r;rfl|xQ _=>obtain⟨t,rfl⟩:=r;rfl|ref _=>cases r;rfl|ty _=>cases r;rfl
theorem RelV.inj{x y:V}{u:Value}(r:RelV x u)(q:RelV y u):x=y:=Option.some.inj (r.abs.symm.trans q.abs)
theorem Vals.inj:∀{xs ys:List V} {us:List Value},Vals xs us->Vals ys us->xs=ys
 |_,_,_,.nil,.nil=>rfl|_,_,_,.cons r t,.cons r' t'=>by rw[r.inj r',Vals.inj t t']
section
variable {X:Cx}{pins:List (Addr×Obj)}{σ:St}{H:Hp}{s:Shared}{a:Addr}{xs ys:List V}
theorem bA.of{K:W.Frag}(h:H a=some (.lst xs)):bA K H a xs:=.inl (.inl h)
theorem bG.of{K:W.Frag}(h:H a=some (.tup xs)):bG K H a xs:=.inl (.inl h)
theorem Inv.list(I:Inv X pins σ H s)(h:bA X.K H a xs):∃its:List Value,Vals xs its/\PlainL s.heap a its.toArray/\xs.length<=sizeLine:=by
 rcases h with h|⟨o,its,n,hk,hc,hd,hs,hz,r⟩
 .obtain⟨z,its,n,r,e⟩:=h.ok I.aI;exact⟨its,r,⟨_,n,e,rfl,rfl,rfl⟩,z⟩
 .refine⟨its.toList,r,⟨o,n,I.cW a o hk,hc,hd,by simpa using hs⟩,?_⟩;have e:=r.length;simp only[Array.length_toList]at e;omega
theorem Inv.tuple(I:Inv X pins σ H s)(h:bG X.K H a xs):∃its:List Value,Vals xs its/\IsTup s.heap a its.toArray/\xs.length<=sizeLine:=by
 rcases h with h|⟨o,its,n,hk,hc,hs,hz,r⟩
 .obtain⟨z,its,r,p⟩:=h.ok I.aI;exact⟨its,r,p,z⟩
 .refine⟨its.toList,r,⟨o,I.cW a o hk,hc,n,by simpa using hs⟩,?_⟩;have e:=r.length;simp only[Array.length_toList]at e;omega
theorem Inv.jd(I:Inv X pins σ H s)(h:bA X.K H a xs)(h':bA X.K H a ys):xs=ys:=by
 obtain⟨its,r,⟨o,n,e,_,_,d⟩,_⟩:=I.list h;obtain⟨its',r',⟨o',n',e',_,_,d'⟩,_⟩:=I.list h';rw[e]at e';cases e';rw[d]at d';injection d' with d1 _;have:its=its':=by simpa using congrArg Array.toList d1
 subst this;exact r.inj r'
theorem Inv.Ez(I:Inv X pins σ H s)(h:bG X.K H a xs)(h':bG X.K H a ys):xs=ys:=by
 obtain⟨its,r,⟨o,e,_,n,d⟩,_⟩:=I.tuple h;obtain⟨its',r',⟨o',e',_,n',d'⟩,_⟩:=I.tuple h';rw[e]at e';cases e';rw[d]at d';injection d' with d1 _;have:its=its':=by simpa using congrArg Array.toList d1
 subst this;exact r.inj r'
end
abbrev Cx.mE(X:Cx)(E:Value->Shared->Prop):Cx:={ X with xe:=E }
abbrev Cx.rN(X:Cx):Cx:=X.mE λ_ _=>False
theorem Cx.Ok.mE{X:Cx}(ok:X.Ok)(E:Value->Shared->Prop):(X.mE E).Ok:=
 ⟨ok.mod,ok.kind,ok.glob,ok.blt,ok.above,ok.inj,ok.has,ok.lC,ok.hd,ok.frames,ok.fH,ok.lG,ok.bs,ok.gY,ok.lQ,ok.kC,ok.fE,ok.jI⟩
theorem Cx.Ok.pq{X:Cx}{E:Value->Shared->Prop}(ok:(X.mE E).Ok):X.Ok:=
 ⟨ok.mod,ok.kind,ok.glob,ok.blt,ok.above,ok.inj,ok.has,ok.lC,ok.hd,ok.frames,ok.fH,ok.lG,ok.bs,ok.gY,ok.lQ,ok.kC,ok.fE,ok.jI⟩
section
variable {X:Cx}{pins:List (Addr×Obj)}{σ:St}{H:Hp}{s:Shared}{E:Value->Shared->Prop}
theorem Inv.mE(I:Inv X pins σ H s)(E:Value->Shared->Prop):Inv (X.mE E) pins σ H s:=⟨I.ok.mE E,I.os,I.bare,I.base,I.loc,I.cell,I.free,I.eS,I.pin,I.aI,I.len⟩
theorem Inv.pq(I:Inv (X.mE E) pins σ H s):Inv X pins σ H s:=⟨I.ok.pq,I.os,I.bare,I.base,I.loc,I.cell,I.free,I.eS,I.pin,I.aI,I.len⟩
end
section
variable {X:Cx}{st:Stmt}{rest:List Stmt}{t u:TS}{e:Expr}{te:TE}{pos:Pos}
def vT:TS:=λD σ H=>D.nx σ H
def bg(t u:TS):TS:=λD σ H=>t { D with nx:=u D } σ H
theorem uG:iL X [] vT:=λ_ _ σ H _ I h=>wpAny_execs_nil ⟨σ,H,I,h⟩
theorem uF(h1:PS X st t)(h2:iL X rest u):iL X (st::rest) (bg t u):=by
 intro pins s σ H D I h;refine wpAny_execs_cons (aJ (h1 pins s σ H { D with nx:=u D } I h) λf s1 q=>?_);cases f with
 |next=>obtain⟨σ',H',I',q⟩:=q;exact h2 pins s1 σ' H' D I' q
 |ret v=>exact q|brk=>exact q|cont=>exact q
def GQ:TS:=λD σ H=>D.bk σ H
def GS:TS:=λD σ H=>D.ct σ H
theorem Wh:PS X (.Pass pos) vT:=λ_ _ σ H _ I h=>wpAny_Pass ⟨σ,H,I,h⟩
theorem Vx:PS X (.Break pos) GQ:=λ_ _ σ H _ I h=>wpAny_Break ⟨σ,H,I,h⟩
theorem Vy:PS X (.Continue pos) GS:=λ_ _ σ H _ I h=>wpAny_Continue ⟨σ,H,I,h⟩
theorem Inv.quiet{pins:List (Addr×Obj)}{σ:St}{H:Hp}{s:Shared}(I:Inv X pins σ H s):interactive X.env=false:=by simp[interactive,I.ok.kind]
def Ef(te:TE):TS:=λD σ H=>te σ H λ_ H1=>D.nx σ H1
theorem Aw(he:PE X e te)(hs:swapsWith e none pos.line X.env=pure false:=by rfl):PS X (.Expr e pos) (Ef te):=by intro pins s σ H D I h;exact wpAny_Expr_any (aJ (he pins s σ H _ I h) λv s1 ⟨x,H1,I1,r1,q1⟩=>⟨σ,H1,I1,q1⟩) I.quiet hs
def Ej(te:TE):TS:=λD σ H=>te σ H D.rt
theorem Ax(he:PE X e te):PS X (.Return (some e) pos) (Ej te):=by intro pins s σ H D I h;exact wpAny_Return_some (aJ (he pins s σ H _ I h) λv s1 ⟨x,H1,I1,r1,q1⟩=>⟨x,σ,H1,I1,r1,q1⟩)
def HJ:TS:=λD _ H=>D.rt .aC H
theorem Wk:PS X (.Return none pos) HJ:=λ_ _ σ H _ I h=>wpAny_Return_none ⟨.aC,σ,H,I,rfl,h⟩
def GW(c:TT)(t u:TS):TS:=λD σ H=>c σ H λb H1=>if b=true then t D σ H1 else u D σ H1
theorem Wb{c:Expr}{a b:List Stmt}{tc:TT}(hc:PT X c tc)(ha:iL X a t)(hb:iL X b u):PS X (.If c a b pos) (GW tc t u):=by
 intro pins s σ H D I h;refine wpAny_If (aJ (hc pins s σ H _ I h) λd s1 ⟨H1,I1,q1⟩=>?_);cases d with
 |true=>exact ha pins s1 σ H1 D I1 q1|false=>exact hb pins s1 σ H1 D I1 q1
def GY:TS:=λ_ _ _=>False
theorem Wc:PS X st GY:=λ_ _ _ _ _ _ h=>h.elim
end
abbrev TG:=V->St->Hp->(St->Hp->Prop)->Prop
abbrev oM:=List V->St->Hp->(St->Hp->Prop)->Prop
def PG(X:Cx)(target:Expr)(t:TG):Prop:=
 ∀(pins:List (Addr×Obj)) (s:Shared) (σ:St) (H:Hp) (v:V) (u:Value) (Q:St->Hp->Prop),Inv X pins σ H s->RelV v u->t v σ H Q ->
  wpAny (model X.prog X.w) X.A (assign target X.env u) (λ_ s'=>∃σ' H',Inv X pins σ' H' s'/\Q σ' H') X.xe s
def sX(X:Cx)(ts:List Expr)(t:oM):Prop:=
 ∀(pins:List (Addr×Obj)) (s:Shared) (σ:St) (H:Hp) (vs:List V) (us:List Value) (Q:St->Hp->Prop),Inv X pins σ H s->Vals vs us->t vs σ H Q ->
  wpAny (model X.prog X.w) X.A (assignInOrder ((assignEach ts X.env).map (·.2)) us) (λ_ s'=>∃σ' H',Inv X pins σ' H' s'/\Q σ' H') X.xe s
abbrev dm:=V->V->V->Hp->(Hp->Prop)->Prop
def rf(X:Cx)(t:dm):Prop:=
 ∀(pins:List (Addr×Obj)) (s:Shared) (σ:St) (H:Hp) (o i v:V) (ov iv u:Value) (Q:Hp->Prop),Inv X pins σ H s->RelV o ov->RelV i iv->RelV v u->t o i v H Q ->
  wpAny (model X.prog X.w) X.A (setItem ov iv u) (λ_ s'=>∃H',Inv X pins σ H' s'/\Q H') X.xe s
section
variable {X:Cx}{pos:Pos}
def xT(i:Nat):TG:=λv σ H Q=>Q (σ.set i (some v)) H
theorem Ve{i:Nat}{x:Str}(hN:X.N.Nodup)(hi:X.N[i]?=some x)(hx:kX X.env.scope x)(hf:X.fn x=true\/X.env.scope.names.lookup x=some .local:=by first|exact .inl rfl|exact .inr rfl|assumption):PG X (.Name x pos) (xT i):=by intro pins s σ H v u Q I r h;exact wpAny_assign_Name (lZ I hN hi hx r (λs' I'=>⟨_,H,I',h⟩) hf)
def Ms:oM:=λvs σ H Q=>vs=[]/\Q σ H
def Mq(t:TG)(u:oM):oM:=λvs σ H Q=>∃v r,vs=v::r/\t v σ H λσ' H'=>u r σ' H' Q
theorem Vi:sX X [] Ms:=by intro pins s σ H vs us Q I r h;obtain⟨e,h⟩:=h;subst e;cases r;exact assignInOrder_nil ⟨σ,H,I,h⟩
theorem Vh{e:Expr}{es:List Expr}{t:TG}{u:oM}(h1:PG X e t)(h2:sX X es u)
  (hs:(assignEach (e::es) X.env).map (·.2)=assign e X.env::(assignEach es X.env).map (·.2):=by rfl):sX X (e::es) (Mq t u):=by
 intro pins s σ H vs us Q I r h;obtain⟨v,vr,e1,h⟩:=h;subst e1;cases r with
 |cons r rr=>rw[hs];refine assignInOrder_cons (aJ (h1 pins s σ H _ _ _ I r h) λ_ s1 ⟨σ1,H1,I1,q1⟩=>?_);exact h2 pins s1 σ1 H1 _ _ Q I1 rr q1
def xW(to ti:TE)(t:dm):TG:=λv σ H Q=>to σ H λo H1=>ti σ H1 λi H2=>t o i v H2 λH3=>Q σ H3
theorem Vg{o i:Expr}{to ti:TE}{t:dm}(ho:PE X o to)(hi:PE X i ti)(hs:rf X t)
  (ha:∀v,assign (.Subscript o i pos) X.env v=(do
   let ov <- holding [v] (eval o X.env)
   let iv <- holding [v,ov] (eval i X.env)
   standAt pos
   holding [v,ov,iv] (setItem ov iv v)
   release [v,ov,iv] []):=by intro _;rfl):PG X (.Subscript o i pos) (xW to ti t):=by
 intro pins s σ H v u Q I r h;rw[ha];refine wpAny_bind (wpAny_holding (aJ (ho pins s σ H _ I h) λov s1 ⟨x,H1,I1,r1,q1⟩=>?_));refine wpAny_bind (wpAny_holding (aJ (hi pins s1 σ H1 _ I1 q1) λiv s2 ⟨y,H2,I2,r2,q2⟩=>?_));refine wpAny_bind (wpAny_standAt (wpAny_bind (wpAny_holding (aJ (hs pins s2 σ H2 x y v ov iv u _ I2 r1 r2 r q2) λ_ s3 ⟨H3,I3,q3⟩=>?_))));exact wpAny_release ⟨σ,H3,I3,q3⟩
def ba(te:TE)(g:TG):TS:=λD σ H=>te σ H λx H1=>g x σ H1 D.nx
theorem Av{tg e:Expr}{te:TE}{g:TG}(he:PE X e te)(hg:PG X tg g)(hs:swapsWithSole [tg] e pos.line X.env=pure false:=by rfl)(hw:swappedStores [tg] e X.env=pure none:=by rfl)
  (h1:(assignEach [tg] X.env).map (·.2)=[assign tg X.env]:=by rfl):PS X (.Assign [tg] e pos) (ba te g):=by
 intro pins s σ H D I h;refine wpAny_Assign_stores (aJ (he pins s σ H _ I h) λv s1 ⟨x,H1,I1,r1,q1⟩=>?_) hs hw;rw[h1];exact aJ (hg pins s1 σ H1 x v _ I1 r1 q1) λ_ s2 q=>q
theorem Wl{i:Nat}{x:Str}{e:Expr}{te:TE}{pos':Pos}(hN:X.N.Nodup)(hi:X.N[i]?=some x)(hx:kX X.env.scope x)(he:PE X e te)(hs:swapsWith e (some (.Name x pos')) pos.line X.env=pure false:=by rfl)(hf:X.fn x=true\/X.env.scope.names.lookup x=some .local:=by first|exact .inl rfl|exact .inr rfl|assumption) :
  PS X (.Assign [.Name x pos'] e pos) (ba te (xT i)):=by
 intro pins s σ H D I h;refine wpAny_Assign_Name (aJ (he pins s σ H _ I h) λv s1 ⟨y,H1,I1,r1,q1⟩=>?_) hs;exact lZ I1 hN hi hx r1 (λs2 I2=>⟨_,H1,I2,q1⟩) hf
def HE(i j:Nat)(ta:TA):TS:=λD σ H=>ta σ H λvs H1=>∃v w,vs=[v,w]/\D.nx ((σ.set i (some v)).set j (some w)) H1
theorem Wf{i j:Nat}{x y:Str}{a b:Expr}{ta:TA}{px py pt:Pos}{kt k2 pt2}(hc:X.calm=true)(hN:X.N.Nodup)(hi:X.N[i]?=some x)(hj:X.N[j]?=some y)(hij:i≠j)
  (hx:X.env.scope.names.lookup x=some .local) (hy:X.env.scope.names.lookup y=some .local) (ha:PA X [a,b] ta)
  (hw:swappedStores [.Tuple [.Name x px,.Name y py] kt pt] (.Tuple [a,b] k2 pt2) X.env=pure (some [x,y]))
  (hs:swapsWithSole [.Tuple [.Name x px,.Name y py] kt pt] (.Tuple [a,b] k2 pt2) pos.line X.env=pure false:=by rfl) :
  PS X (.Assign [.Tuple [.Name x px,.Name y py] kt pt] (.Tuple [a,b] k2 pt2) pos) (HE i j ta):=by
 intro pins s σ H D I h;rw[exec_Assign_arm];refine wpAny_bind (wpAny_standAt ?_);rw[hs];refine wpAny_bind (wpAny_pure ?_);rw[if_neg (by decide)];refine wpAny_bind (Tuple_ (aJ (ha _ pins s σ H _ I h) λus s1 ⟨vs,H1,I1,r1,q1⟩=>?_));obtain⟨v,w,e1,q1⟩:=q1;subst e1;obtain⟨u1,u2,rfl,rv,rw'⟩:∃u1 u2,us=[u1,u2]/\RelV v u1/\RelV w u2:=by
  cases r1 with
  |cons p q=>
   cases q with
   |cons p' q'=>cases q';exact⟨_,_,rfl,p,p'⟩
 refine wpAny_newObj_type ?_ (by show 2<=sizeLine;decide);have I2:Inv X pins σ H1 { s1 with heap:=s1.heap.push { cls:=.type "tuple",data:=.seq [u1,u2].toArray } }:=I1.kept (t':=s1.toks) λb o e=>Heap.get?_push_of_some _ e;rw[hw];refine wpAny_bind (wpAny_pure ?_);show wpAny (model X.prog X.w) X.A (do rule "assign.swapped-stores";let items <- unpackItems (.ref s1.heap.objs.size) 2 none;assignInOrder [λv=>bindName X.env y v,λv=>bindName X.env x v] items.reverse;pure Flow.next) _ _ _;refine wpAny_bind (wpAny_rule (wpAny_bind (unpackItems_tuple (items:=#[u1,u2]) (I.ok.hd hc) (IsTup.new s1.heap _) λh' hx'=>?_)));have I3:=I2.kept (h':=h') (t':=s1.toks) λb o e=>hx' b o (Nat.ne_of_lt (Heap.lt_size e)) e;show wpAny _ _ (assignInOrder [λv=>bindName X.env y v,λv=>bindName X.env x v] [u2,u1]>>=λ_=>pure Flow.next) _ _ _;refine wpAny_bind (assignInOrder_cons (wpAny_bindName (lZ I3 hN hj (.inl hy) rw' (λs2 I4=>?_) (.inr hy))));refine assignInOrder_cons (wpAny_bindName (lZ I4 hN hi (.inl hx) rv (λs3 I5=>assignInOrder_nil (wpAny_pure ?_)) (.inr hx)));rw[List.set_comm _ _ (Ne.symm hij)]at I5;exact⟨_,H1,I5,q1⟩
end
structure It where
 go:Nat->Hp->Prop
 wI:Nat->Hp->V->Hp->Prop
 stop:Nat->Hp->Prop
def eK(X:Cx)(pins:List (Addr×Obj))(H:Hp)(b:Addr):Prop:=
 H b=none/\b≠X.env.locals/\b∉X.fs/\(b∈X.ex\/X.s₀.heap.objs.size<=b)/\(∀x c,X.env.cells.lookup x=some c->c≠b)/\∀p∈X.pn++pins,p.1≠b
theorem Inv.lH{X:Cx}{pins:List (Addr×Obj)}{σ:St}{H H':Hp}{s:Shared}{b:Addr}(I:Inv X pins σ H s)(hb:s.heap.objs.size<=b)(hn:H' b=none):eK X pins H' b:=by
 refine⟨hn,Nat.ne_of_gt (Nat.lt_of_lt_of_le I.lt hb),I.Ra hb,.inr (Nat.le_trans I.sz hb),λx c e z=>?_,λp hp z=>?_⟩
 .obtain⟨v,q⟩:=I.cell x c e;exact absurd (Nat.lt_of_lt_of_le q.lt (by rw[z];exact hb)) (Nat.lt_irrefl _)
 .exact absurd (Nat.lt_of_lt_of_le (Heap.lt_size (I.pin p hp).1) (by rw[z];exact hb)) (Nat.lt_irrefl _)
structure Turn(P:Program)(w:World)(K:W.Frag)(tg:Expr)(J:It)(fp:List Addr)(it:Addr)(tn:Nat->Heap->Prop):Prop where
 mem:it∈fp
 obj:∀i h,tn i h->∀b∈fp,∃o,h.get? b=some o/\∀v,o.data ≠ .cell v
 keep:∀i h h',tn i h->(∀b∈fp,∀o,h.get? b=some o->h'.get? b=some o)->tn i h'
 item:∀(X:Cx),X.prog=P->X.w=w->X.K=K->X.calm=true->∀(i:Nat) (pins:List (Addr×Obj)) (s:Shared) (σ:St) (H:Hp) (E:Value->Shared->Prop),Inv X pins σ H s->(∀b∈fp,eK X pins H b)->tn i s.heap->J.go i H ->
  wpAny (model P w) X.A (pyNext (.ref it)) (λr s1=>∃u,r=some u /\
   wpAny (model P w) X.A (letOwnedTupleGo tg (.ref it) u) (λ_ s2=>∃x H',Inv X pins σ H' s2/\RelV x u/\J.wI i H x H'/\tn (i+1) s2.heap/\∀b∈fp,H' b=none) E s1) E s
 done:∀(X:Cx),X.prog=P->X.w=w->X.K=K->X.calm=true->∀(i:Nat) (pins:List (Addr×Obj)) (s:Shared) (σ:St) (H:Hp) (E:Value->Shared->Prop),Inv X pins σ H s->(∀b∈fp,eK X pins H b)->tn i s.heap->J.stop i H ->
  wpAny (model P w) X.A (pyNext (.ref it)) (λr s1=>r=none/\Inv X pins σ H s1) E s
 self:∀(A:Around) (i:Nat) (s:Shared) (Q:Value->Shared->Prop) (E:Value->Shared->Prop),tn i s.heap->Q (.ref it) s->wpAny (model P w) A (pyIter (.ref it)) Q E s
abbrev TI:=St->Hp->(It->Hp->Prop)->Prop
def dj(X:Cx)(pins:List (Addr×Obj))(σ:St)(tg:Expr)(R:It->Hp->Prop)(itv:Value)(s2:Shared):Prop:=
 ∃(it:Addr) (fp:List Addr) (tn:Nat->Heap->Prop) (J:It) (H':Hp),itv = .ref it/\Inv X pins σ H' s2/\Turn X.prog X.w X.K tg J fp it tn/\tn 0 s2.heap/\(∀b∈fp,eK X pins H' b)/\R J H'
def PI(X:Cx)(tg aZ:Expr)(wi:TI):Prop:=
 ∀(pins:List (Addr×Obj)) (s:Shared) (σ:St) (H:Hp) (R:It->Hp->Prop),Inv X pins σ H s->wi σ H R ->
  wpAny (model X.prog X.w) X.A (eval aZ X.env) (λv s1=>wpAny (model X.prog X.w) X.A (pyIter v) (dj X pins σ tg R) X.xe s1) X.xe s
theorem xZ{M:Model}{A:Around}{E:Value->Shared->Prop}{s:Shared}{tg:Expr}{it:Addr}{u:Value}{o:Obj}{n:String}{vs:Array Value}{Q:Unit->Shared->Prop}(ho:s.heap.get? it=some o)(hc:o.cls = .type n)(hd:o.data = .fields vs)
    (hn:["enumerate","zip","dict_itemiterator","dict_reverseitemiterator","odict_iterator","itertools.zip_longest","itertools.pairwise"].contains n=false) (hQ:Q () s):wpAny M A (letOwnedTupleGo tg (.ref it) u) Q E s:=by
  unfold letOwnedTupleGo;cases tg<;>first
    |exact wpAny_pure hQ
    | (cases u<;>first
        |exact wpAny_pure hQ
        | (refine wpAny_bind (wpAny_load ho ?_)
           rw[hc,hd];show wpAny M A (if(["enumerate","zip","dict_itemiterator","dict_reverseitemiterator","odict_iterator","itertools.zip_longest","itertools.pairwise"].contains n&&vs[0]?==some (rawInt _))=true then _ else _) Q E s;rw[if_neg (by intro h;rw[hn,Bool.false_and]at h;cases h)];exact wpAny_pure hQ))
def da(K:W.Frag)(a:Addr):It:=
 ⟨λi H=>∃xs x,bA K H a xs/\xs[i]?=some x,λi H x H'=>H'=H/\∀xs,bA K H a xs->xs[i]?=some x,λi H=>∃xs,bA K H a xs/\xs.length<=i⟩
def de(K:W.Frag)(a:Addr):It:=
 ⟨λi H=>∃xs x,bG K H a xs/\xs[i]?=some x,λi H x H'=>H'=H/\∀xs,bG K H a xs->xs[i]?=some x,λi H=>∃xs,bG K H a xs/\xs.length<=i⟩
def sW(lo:Int)(n:Nat):It:=⟨λi _=>i<n,λi H x H'=>H'=H/\x = .int (lo+i),λi _=>n<=i⟩
theorem II{P:Program}{w:World}{K:W.Frag}{tg:Expr}(a it:Addr):Turn P w K tg (da K a) [it] it (λi h=>h.IsListIter it a i) where
 mem:=by simp
 obj:=λi h st b hb=>by
  have e:b=it:=by simpa using hb
  subst e;obtain⟨o,e,c,d⟩:=st;exact⟨o,e,λv z=>by rw[d]at z;cases z⟩
 keep:=λi h h' st k=>st.at λo e=>k it (by simp) o e
 item:=by intro X hP hw hK hc i pins s σ H E I hf st hg;subst hP hw hK;obtain⟨xs,x,hq,hx⟩:=hg;obtain⟨its,rv,p,hz⟩:=I.list hq;obtain⟨u,hu,ru⟩:=rv.get hx;obtain⟨f0,f1,f2,f3,f4,f5⟩:=hf it (by simp);refine wpAny_pyNext_list_item st p.isList (x:=u) (by simpa using hu) λh' st' sb=>?_;have I1:Inv X pins σ H { s with heap:=h' }:=I.turned (t':=s.toks) (λb o hb e=>(sb.2 b hb).trans e) f0 f1 f3 f4 f5;obtain⟨o,e,c,d⟩:=id st';exact⟨u,rfl,xZ (s:={ s with heap:=h' }) e c d (by decide) ⟨x,H,I1,ru,⟨rfl,λys hy=>by rw[I.jd hy hq];exact hx⟩,st',λb hb=>(hf b hb).1⟩⟩
 done:=by intro X hP hw hK hc i pins s σ H E I hf st hg;subst hP hw hK;obtain⟨xs,hq,hx⟩:=hg;obtain⟨its,rv,p,hz⟩:=I.list hq;obtain⟨f0,f1,f2,f3,f4,f5⟩:=hf it (by simp);have hl:=rv.length;exact wpAny_pyNext_list_end (I.ok.hd hc) st p.isList (by simp;omega) λh' eb=>⟨rfl,I.turned (t':=s.toks) (λb o hb e=>eb b o hb e) f0 f1 f3 f4 f5⟩
 self:=λ_ _ _ _ _ st h=>wpAny_pyIter_listiter st h
theorem IL{P:Program}{w:World}{K:W.Frag}{tg:Expr}(a it:Addr):Turn P w K tg (de K a) [it] it (λi h=>h.IsTupleIter it a i) where
 mem:=by simp
 obj:=λi h st b hb=>by
  have e:b=it:=by simpa using hb
  subst e;obtain⟨o,e,c,d⟩:=st;exact⟨o,e,λv z=>by rw[d]at z;cases z⟩
 keep:=λi h h' st k=>st.at λo e=>k it (by simp) o e
 item:=by intro X hP hw hK hc i pins s σ H E I hf st hg;subst hP hw hK;obtain⟨xs,x,hq,hx⟩:=hg;obtain⟨its,rv,p,hz⟩:=I.tuple hq;obtain⟨u,hu,ru⟩:=rv.get hx;obtain⟨f0,f1,f2,f3,f4,f5⟩:=hf it (by simp);refine wpAny_pyNext_tuple_item st (show s.heap.IsTuple a its.toArray from p) (x:=u) (by simpa using hu) λh' st' sb=>?_;have I1:Inv X pins σ H { s with heap:=h' }:=I.turned (t':=s.toks) (λb o hb e=>(sb.2 b hb).trans e) f0 f1 f3 f4 f5;obtain⟨o,e,c,d⟩:=id st';exact⟨u,rfl,xZ (s:={ s with heap:=h' }) e c d (by decide) ⟨x,H,I1,ru,⟨rfl,λys hy=>by rw[I.Ez hy hq];exact hx⟩,st',λb hb=>(hf b hb).1⟩⟩
 done:=by intro X hP hw hK hc i pins s σ H E I hf st hg;subst hP hw hK;obtain⟨xs,hq,hx⟩:=hg;obtain⟨its,rv,p,hz⟩:=I.tuple hq;obtain⟨f0,f1,f2,f3,f4,f5⟩:=hf it (by simp);have hl:=rv.length;exact wpAny_pyNext_tuple_end (I.ok.hd hc) st (show s.heap.IsTuple a its.toArray from p) (by simp;omega) λh' eb=>⟨rfl,I.turned (t':=s.toks) (λb o hb e=>eb b o hb e) f0 f1 f3 f4 f5⟩
 self:=λ_ _ _ _ _ st h=>wpAny_pyIter_tupleiter st h
theorem IJ{P:Program}{w:World}{K:W.Frag}{tg:Expr}(it:Addr)(lo:Int)(n:Nat):Turn P w K tg (sW lo n) [it] it (λi h=>IsRangeIter h it (lo+(i:Nat)*1) ((n:Int)-(i:Nat)) 1) where
 mem:=by simp
 obj:=λi h st b hb=>by
  have e:b=it:=by simpa using hb
  subst e;exact⟨_,st,λv z=>by have z':Data.fields _=Data.cell v:=z;cases z'⟩
 keep:=λi h h' st k=>k it (by simp) _ st
 item:=by intro X hP hw hK hc i pins s σ H E I hf st hg;subst hP hw hK;obtain⟨f0,f1,f2,f3,f4,f5⟩:=hf it (by simp);have W:=Walks.range (prog:=X.prog) (w:=X.w) (I.ok.hd hc) it lo 1 n;refine W.item i s _ _ hg st λv h' tk hv st' kk=>?_;obtain⟨t,rfl⟩:=hv;have I1:Inv X pins σ H { s with heap:=h',toks:=tk }:=I.turned (λb o hb e=>kk b o (by simpa using hb) e) f0 f1 f3 f4 f5;refine⟨_,rfl,xZ (s:={ s with heap:=h',toks:=tk }) (n:="range_iterator") st' rfl rfl (by decide) ⟨.int (lo+i),H,I1,⟨t,?_⟩,⟨rfl,rfl⟩,st',λb hb=>(hf b hb).1⟩⟩;rw[Int.mul_one]
 done:=by intro X hP hw hK hc i pins s σ H E I hf st hg;subst hP hw hK;obtain⟨f0,f1,f2,f3,f4,f5⟩:=hf it (by simp);exact wpAny_pyNext_range_end (I.ok.hd hc) st (by have:n<=i:=hg;omega) λh' eb=>⟨rfl,I.turned (t':=s.toks) (λb o hb e=>eb b o hb e) f0 f1 f3 f4 f5⟩
 self:=λ_ _ _ _ _ st h=>wpAny_pyIter_rangeiter st h
section
variable {X:Cx}{tg:Expr}
theorem Ck{pins:List (Addr×Obj)}{σ:St}{H:Hp}{s:Shared}{R:It->Hp->Prop}{E:Value->Shared->Prop}{lo hi:Int}{t u v:Tok}{tk:Nat}(I:Inv X pins σ H s)(h1:-(2 ^ 62)<=lo)(h2:lo<2 ^ 62)(h3:-(2 ^ 62)<=hi)(h4:hi<2 ^ 62)
  (q:R (sW lo (hi-lo).toNat) H):wpAny (model X.prog X.w) X.A (pyIter (.ref s.heap.objs.size)) (dj X pins σ tg R) E { s with heap:=s.heap.push { cls:=.type "range",data:=.fields #[.int lo t,.int hi u,.int 1 v] },toks:=tk }:=by
 refine wpAny_pyIter_range (IsRange.new ..) (small_one h1 h2 h3 h4) ?_;have I1:Inv X pins σ H { s with heap:=s.heap.push { cls:=.type "range",data:=.fields #[.int lo t,.int hi u,.int 1 v] },toks:=tk }:=I.kept λb o e=>Heap.get?_push_of_some _ e;refine⟨(s.heap.push { cls:=.type "range",data:=.fields #[.int lo t,.int hi u,.int 1 v] }).objs.size,[(s.heap.push { cls:=.type "range",data:=.fields #[.int lo t,.int hi u,.int 1 v] }).objs.size],_,_,H,rfl,
  I1.kept (t':=tk) λb o e=>Heap.get?_push_of_some _ e,IJ _ lo (hi-lo).toNat,?_,λb hb=>?_,q⟩
 .have e1:lo+((0:Nat):Int)*1=lo:=by simp
  have e2:(((hi-lo).toNat:Nat):Int)-((0:Nat):Int)=Builtin.Range.rangeSize lo hi 1:=by rw[rangeSize_one];split<;>omega
  show IsRangeIter _ _ (lo+((0:Nat):Int)*1) ((((hi-lo).toNat:Nat):Int)-((0:Nat):Int)) 1;rw[e1,e2];exact Heap.get?_push_size _ rfl
 .have e:b=(s.heap.push { cls:=.type "range",data:=.fields #[.int lo t,.int hi u,.int 1 v] }).objs.size:=by simpa using hb
  subst e;exact I1.lH (Nat.le_refl _) (I1.aI.fresh (Nat.le_refl _))
def Ni(ta:TA):TI:=λσ H R=>ta σ H λvs H1=>∃j:Int,vs=[.int j]/\-(2 ^ 62)<=j/\j<2 ^ 62/\R (sW 0 j.toNat) H1
def Nj(ta:TA):TI:=λσ H R=>ta σ H λvs H1=>∃i j:Int,vs=[.int i,.int j]/\(-(2 ^ 62)<=i/\i<2 ^ 62/\-(2 ^ 62)<=j/\j<2 ^ 62)/\R (sW i (j-i).toNat) H1
theorem Vk{a:Expr} {ta:TA} {p pos:Pos} (hg:Gl X "range") (hm:X.mg "range"=none) (ha:PA X [a] ta) (hs:starEach [a] X.env=[(false,eval a X.env)]:=by rfl):PI X tg (.Call (.Name "range" p) [a] [] pos) (Ni ta):=by
 intro pins s σ H R I h;refine Call_ (nG I hg hm boot_range (PyProof.Rows.callWith_type1 (aJ (ha pos pins s σ H _ I h) λus s1 ⟨vs,H1,I1,r1,q1⟩=>?_) hs rfl));obtain⟨j,e,q1,q2,q⟩:=q1;subst e;cases r1 with
 |cons r rr=>cases rr;obtain⟨t,rfl⟩:=r;exact call_range_1 (Ck I1 (by omega) (by omega) q1 q2 (by simpa using q))
theorem Vl{a b:Expr} {ta:TA} {p pos:Pos} (hg:Gl X "range") (hm:X.mg "range"=none) (ha:PA X [a,b] ta) (hs:starEach [a,b] X.env=[(false,eval a X.env),(false,eval b X.env)]:=by rfl) (hs2:starEach [b] X.env=[(false,eval b X.env)]:=by rfl) :
  PI X tg (.Call (.Name "range" p) [a,b] [] pos) (Nj ta):=by
 intro pins s σ H R I h;refine Call_ (nG I hg hm boot_range (PyProof.Rows.callWith_type1 (aJ (ha pos pins s σ H _ I h) λus s1 ⟨vs,H1,I1,r1,q1⟩=>?_) (by rw[hs,hs2]) (by rw[hs2];rfl)));obtain⟨i,j,e,⟨q1,q2,q3,q4⟩,q⟩:=q1;subst e;cases r1 with
 |cons r rr=>
  cases rr with
  |cons r' rr=>cases rr;obtain⟨t,rfl⟩:=r;obtain⟨t',rfl⟩:=r';exact call_range_2 (Ck I1 q1 q2 q3 q4 q)
def GU(wi:TI)(g:TG)(tb:TS):TS:=λD σ H=>wi σ H λJ H1=>∃W:Nat->Nat->St->Hp->Prop,(∃m,W 0 m σ H1)/\∀i m σ H,W i m σ H ->
 (J.stop i H/\D.nx σ H)\/(J.go i H/\∃N:St->Hp->Prop,(∀σ' H',N σ' H'->∃m',m'<m/\W (i+1) m' σ' H')/\∀x H',J.wI i H x H'->g x σ H' λσ2 H2=>tb { D with nx:=N,ct:=N,bk:=D.nx } σ2 H2)
def yY(fp:List Addr)(h:Heap):List (Addr×Obj):=fp.filterMap λb=>(h.get? b).map λo=>(b,o)
theorem yI{fp:List Addr}{h:Heap}{b:Addr}{o:Obj}(hb:b∈fp)(e:h.get? b=some o):(b,o)∈yY fp h:=List.mem_filterMap.mpr ⟨b,hb,by rw[e];rfl⟩
theorem Aa{fp:List Addr}{h:Heap}{p:Addr×Obj}(hp:p∈yY fp h):p.1∈fp/\h.get? p.1=some p.2:=by
 obtain⟨b,hb,e⟩:=List.mem_filterMap.mp hp;cases q:h.get? b with
 |none=>rw[q]at e;cases e|some o=>rw[q]at e;have e':(b,o)=p:=Option.some.inj e;subst e';exact⟨hb,q⟩
theorem Inv.pinned{pins:List (Addr×Obj)}{σ:St}{H:Hp}{s:Shared}{fp:List Addr}(I:Inv X pins σ H s)(hf:∀b∈fp,eK X pins H b)(ho:∀b∈fp,∃o,s.heap.get? b=some o/\∀v,o.data ≠ .cell v):Inv X (pins++yY fp s.heap) σ H s:=
 I.rR λp hp=>(List.mem_append.mp hp).elim (λz=>I.pin p (List.mem_append_right _ z)) λz=>by obtain⟨hb,e⟩:=Aa z;obtain⟨f0,f1,f2,_⟩:=hf p.1 hb;obtain⟨o,e',d⟩:=ho p.1 hb;rw[e]at e';cases e';exact⟨e,f0,f1,f2,d⟩
theorem Inv.cc{pins pl:List (Addr×Obj)}{σ:St}{H:Hp}{s:Shared}(I:Inv X (pins++pl) σ H s):Inv X pins σ H s:=I.rR λp hp=>I.pin p (List.mem_append_right _ (List.mem_append_left _ hp))
theorem Wa{aZ:Expr}{body:List Stmt}{wi:TI}{g:TG}{tb:TS}{pos:Pos}(hp:PassesOwn (model X.prog X.w) X.A X.env X.xe)(hc:X.calm=true)(hi:PI X tg aZ wi)(hg:PG X tg g)(hb:iL X body tb)
  (hs:∀x,foldedSetIterable aZ X.env x=pure x:=by intro _;rfl):PS X (.For tg aZ body [] pos) (GU wi g tb):=by
 intro pins s σ H D I h;refine wpAny_For (aJ (hi pins s σ H _ I h) λv s1 h1=>aJ h1 λitv s2 h2=>?_) hs;obtain⟨it,fp,tn,J,H2,e,I2,T,st2,f2,W,⟨m0,w0⟩,turn⟩:=h2;subst e;have stat:∀{H':Hp},(∀b∈fp,H' b=none)->∀b∈fp,eK X pins H' b:=λhn b hb=>⟨hn b hb,(f2 b hb).2⟩;refine codeAny_forLoop_any (λn s'=>∃i σ' H',Inv X pins σ' H' s'/\tn i s'.heap/\(∀b∈fp,H' b=none)/\W i n σ' H') ?_ m0 ⟨0,σ,H2,I2,st2,λb hb=>(f2 b hb).1,w0⟩;rintro n s3 ⟨i,σ3,H3,I3,st3,fr3,w3⟩
 rcases turn i n σ3 H3 w3 with⟨stop,qn⟩|⟨go,N,hN,step⟩
 .refine wpAny_passesOwn hp (aJ (T.done X rfl rfl rfl hc i pins s3 σ3 H3 X.xe I3 (stat fr3) st3 stop) λr s4 ⟨hr,I4⟩=>?_);subst hr;exact wpAny_execs_nil ⟨σ3,H3,I4,qn⟩
 .refine wpAny_passesOwn hp (aJ (T.item X rfl rfl rfl hc i pins s3 σ3 H3 X.xe I3 (stat fr3) st3 go) λr s4 ⟨u,hr,h4⟩=>?_);subst hr;refine wpAny_passesOwn hp (aJ h4 λ_ s5 ⟨x,H5,I5,r5,y5,st5,fr5⟩=>?_);have I5':=I5.pinned (stat fr5) (T.obj _ _ st5);refine wpAny_passesOwn hp (aJ (hg _ s5 σ3 H5 x u _ I5' r5 (step x H5 y5)) λ_ s6 ⟨σ6,H6,I6,q6⟩=>?_);refine wpAny_passesOwn hp (aJ (hb _ s6 σ6 H6 _ I6 q6) λf s7 q7=>?_);have again:∀{σ7:St} {H7:Hp},Inv X (pins++yY fp s5.heap) σ7 H7 s7->N σ7 H7->∃m,m<n/\∃i σ' H',Inv X pins σ' H' s7/\tn i s7.heap/\(∀b∈fp,H' b=none)/\W i m σ' H':=λ{σ7 H7} I7 n7=>by obtain⟨m',hm,w7⟩:=hN σ7 H7 n7;refine⟨m',hm,i+1,σ7,H7,I7.cc,T.keep _ _ _ st5 λb hb o e=>(I7.pin (b,o) (List.mem_append_right _ (List.mem_append_right _ (yI hb e)))).1,λb hb=>?_,w7⟩;obtain⟨o,e,d⟩:=T.obj _ _ st5 b hb;exact(I7.pin (b,o) (List.mem_append_right _ (List.mem_append_right _ (yI hb e)))).2.1
  cases f with
  |next=>obtain⟨σ7,H7,I7,n7⟩:=q7;exact again I7 n7|cont=>obtain⟨σ7,H7,I7,n7⟩:=q7;exact again I7 n7|brk=>obtain⟨σ7,H7,I7,q7⟩:=q7;exact⟨σ7,H7,I7.cc,q7⟩|ret v=>obtain⟨x7,σ7,H7,I7,r7,q7⟩:=q7;exact⟨x7,σ7,H7,I7.cc,r7,q7⟩
end
abbrev R2:=V->V->Hp->VK->Prop
def aS(X:Cx)(f:Value->Value->Sem Value)(r:R2):Prop:=
 ∀(pins:List (Addr×Obj)) (s:Shared) (σ:St) (H:Hp) (x y:V) (v u:Value) (Q:VK),Inv X pins σ H s->RelV x v->RelV y u->r x y H Q ->
  wpAny (model X.prog X.w) X.A (f v u) (EP X pins σ Q) X.xe s
def wY(X:Cx)(f:Value->Sem Value)(r:V->Hp->VK->Prop):Prop:=
 ∀(pins:List (Addr×Obj)) (s:Shared) (σ:St) (H:Hp) (x:V) (v:Value) (Q:VK),Inv X pins σ H s->RelV x v->r x H Q ->
  wpAny (model X.prog X.w) X.A (f v) (EP X pins σ Q) X.xe s
def dA(X:Cx)(f:Value)(r:List V->Hp->VK->Prop):Prop:=
 ∀(pins:List (Addr×Obj)) (s:Shared) (σ:St) (H:Hp) (xs:List V) (us:List Value) (Q:VK),Inv X pins σ H s->Vals xs us->r xs H Q ->
  wpAny (model X.prog X.w) X.A (call f us) (EP X pins σ Q) X.xe s
def Hb(X:Cx)(r:V->Hp->(Bool->Hp->Prop)->Prop):Prop:=
 ∀(pins:List (Addr×Obj)) (s:Shared) (σ:St) (H:Hp) (x:V) (v:Value) (Q:Bool->Hp->Prop),Inv X pins σ H s->RelV x v->r x H Q ->
  wpAny (model X.prog X.w) X.A (truthy v) (TP X pins σ Q) X.xe s
def bf(r:R2)(ta tb:TE):TE:=λσ H Q=>ta σ H λx H1=>tb σ H1 λy H2=>r x y H2 Q
def HN(r:V->Hp->VK->Prop)(ta:TE):TE:=λσ H Q=>ta σ H λx H1=>r x H1 Q
def rI(C:Int->Int->Prop)(g:Int->Int->V):R2:=λx y H Q=>∃i j,x = .int i/\y = .int j/\C i j/\Q (g i j) H
def iF(g:Int->Int->V):R2:=λx y H Q=>∃i j,x = .int i/\y = .int j/\Q (g i j) H
def rU(g:Int->V):V->Hp->VK->Prop:=λx H Q=>∃i,x = .int i/\Q (g i) H
section
variable {X:Cx}{a b c:Expr}{ta tb tc:TE}{pos:Pos}
theorem ee(ha:PE X a ta)(hb:PE X b tb){pins:List (Addr×Obj)}{s:Shared}{σ:St}{H:Hp}{R:V->V->Hp->Prop}(I:Inv X pins σ H s)
  (h:ta σ H λx H1=>tb σ H1 λy H2=>R x y H2) {Q:Value->Shared->Prop} {f:Value->Value->Sem Value}
  (hf:∀v u s2 x y H2,Inv X pins σ H2 s2->RelV x v->RelV y u->R x y H2->wpAny (model X.prog X.w) X.A (f v u) Q X.xe s2) :
  wpAny (model X.prog X.w) X.A (eval a X.env) (λv s₁=>wpAny (model X.prog X.w) X.A (eval b X.env) (λu s₂=>wpAny (model X.prog X.w) X.A (f v u) Q X.xe s₂) X.xe s₁) X.xe s:=by
 refine aJ (ha pins s σ H _ I h) λv s1 ⟨x,H1,I1,r1,q1⟩=>?_;refine aJ (hb pins s1 σ H1 _ I1 q1) λu s2 ⟨y,H2,I2,r2,q2⟩=>?_;exact hf v u s2 x y H2 I2 r1 r2 q2
theorem Uy{op:Operator}{r:R2}(ho:aS X (binaryOp op) r)(ha:PE X a ta)(hb:PE X b tb):PE X (.BinOp a op b pos) (bf r ta tb):=by intro pins s σ H Q I h;exact wpAny_BinOp (ee ha hb I h λv u s2 x y H2 I2 rx ry q=>ho pins s2 σ H2 x y v u Q I2 rx ry q)
theorem Vc{op:UnaryOp}{r:V->Hp->VK->Prop}(ho:wY X (unaryOp op) r)(ha:PE X a ta):PE X (.UnaryOp op a pos) (HN r ta):=by intro pins s σ H Q I h;exact UnaryOp_ (aJ (ha pins s σ H _ I h) λv s1 ⟨x,H1,I1,r1,q1⟩=>ho pins s1 σ H1 x v Q I1 r1 q1)
theorem rO{f:Value->Value->Sem Value}{C:Int->Int->Prop}{g:Int->Int->Int}
  (rule:∀(i j:Int) (t u:Tok) (s:Shared) (Q:Value->Shared->Prop) (E:Value->Shared->Prop),C i j->Q (.int (g i j) s.toks) { s with toks:=s.toks+1 }->wpAny (model X.prog X.w) X.A (f (.int i t) (.int j u)) Q E s) :
  aS X f (rI C λi j=>.int (g i j)):=by
 intro pins s σ H x y v u Q I rx ry h;obtain⟨i,j,rfl,rfl,hc,q⟩:=h;obtain⟨t,rfl⟩:=rx;obtain⟨t',rfl⟩:=ry;exact rule i j t t' s _ _ hc ⟨.int (g i j),H,I.tok _,⟨_,rfl⟩,q⟩
theorem uA{f:Value->Value->Sem Value}{g:Int->Int->Int}
  (rule:∀(i j:Int) (t u:Tok) (s:Shared) (Q:Value->Shared->Prop) (E:Value->Shared->Prop),Q (.int (g i j) s.toks) { s with toks:=s.toks+1 }->wpAny (model X.prog X.w) X.A (f (.int i t) (.int j u)) Q E s) :
  aS X f (iF λi j=>.int (g i j)):=by
 intro pins s σ H x y v u Q I rx ry h;obtain⟨i,j,rfl,rfl,q⟩:=h;obtain⟨t,rfl⟩:=rx;obtain⟨t',rfl⟩:=ry;exact rule i j t t' s _ _ ⟨.int (g i j),H,I.tok _,⟨_,rfl⟩,q⟩
theorem yS{f:Value->Value->Sem Value}{g:Int->Int->Bool}
  (rule:∀(i j:Int) (t u:Tok) (s:Shared) (Q:Value->Shared->Prop) (E:Value->Shared->Prop),Q (.bool (g i j)) s->wpAny (model X.prog X.w) X.A (f (.int i t) (.int j u)) Q E s) :
  aS X f (iF λi j=>.bl (g i j)):=by
 intro pins s σ H x y v u Q I rx ry h;obtain⟨i,j,rfl,rfl,q⟩:=h;obtain⟨t,rfl⟩:=rx;obtain⟨t',rfl⟩:=ry;exact rule i j t t' s _ _ ⟨.bl (g i j),H,I,rfl,q⟩
def cy(i j:Int):Prop:=0<=j/\j<=1000000/\i.natAbs<2 ^ 64
theorem IS(k:Nat):(0:Int)<=2 ^ k:=by rw[two_pow_cast];exact Int.natCast_nonneg _
theorem Rm:aS X (binaryOp .Add) (iF λi j=>.int (i+j)):=uA λ_ _ _ _ _ _ _ q=>add_int q
theorem Sw:aS X (binaryOp .Sub) (iF λi j=>.int (i-j)):=uA λ_ _ _ _ _ _ _ q=>sub_int q
theorem Sh:aS X (binaryOp .Mod) (rI (λ_ j=>0<j) λi j=>.int (i%j)):=rO λi j _ _ _ _ _ hc q=>by have h1:(0:Int)<j:=hc;exact mod_int' (by omega) (by rw[Int.fmod_eq_emod_of_nonneg i (by omega)];exact q)
theorem Sr:aS X (binaryOp .Pow) (rI cy λi j=>.int (i ^ j.toNat)):=rO λ_ _ _ _ _ _ _ hc q=>pow_int_small hc.1 hc.2.1 hc.2.2 q
theorem Su:aS X (binaryOp .LShift) (rI cy λi j=>.int (i*2 ^ j.toNat)):=rO λ_ _ _ _ _ _ _ hc q=>lshift_int_small hc.1 hc.2.1 hc.2.2 q
theorem Sv:aS X (binaryOp .RShift) (rI (λ_ j=>0<=j) λi j=>.int (i / 2 ^ j.toNat)):=rO λi j _ _ _ _ _ hc q=>rshift_int hc (by rw[Int.fdiv_eq_ediv_of_nonneg i (IS _)];exact q)
theorem Ro:aS X (binaryOp .BitAnd) (iF λi j=>.int (Builtin.bitAnd i j)):=uA λ_ _ _ _ _ _ _ q=>and_int q
theorem Sq:aS X (binaryOp .BitOr) (iF λi j=>.int (Builtin.bitOr i j)):=uA λ_ _ _ _ _ _ _ q=>or_int q
theorem Sy:aS X (binaryOp .BitXor) (iF λi j=>.int (Builtin.bitXor i j)):=uA λ_ _ _ _ _ _ _ q=>xor_int q
theorem IT{f:Value->Sem Value}{g:Int->Int}
  (rule:∀(i:Int) (t:Tok) (s:Shared) (Q:Value->Shared->Prop) (E:Value->Shared->Prop),Q (.int (g i) s.toks) { s with toks:=s.toks+1 }->wpAny (model X.prog X.w) X.A (f (.int i t)) Q E s) :
  wY X f (rU λi=>.int (g i)):=by
 intro pins s σ H x v Q I rx h;obtain⟨i,rfl,q⟩:=h;obtain⟨t,rfl⟩:=rx;exact rule i t s _ _ ⟨.int (g i),H,I.tok _,⟨_,rfl⟩,q⟩
theorem IU:wY X (unaryOp .USub) (rU λi=>.int (-i)):=IT λ_ _ _ _ _ q=>neg_int q
end
def aq:V->V->Bool
 |.aC,.aC=>true | .aC,.int _=>true | .int _,.aC=>true | .aC,.bl _=>true | .bl _,.aC=>true | .aC,.str _=>true | .str _,.aC=>true
 |.int _,.int _=>true | .bl _,.bl _=>true | .str _,.str _=>true | .gJ _,.gJ _=>true
 |.int _,.str _=>true | .str _,.int _=>true | .bl _,.str _=>true | .str _,.bl _=>true
 |_,_=>false
def Cb:R2:=λx y H Q=>aq x y=true/\Q (.bl (decide (x=y))) H
def Cg:R2:=λx y H Q=>aq x y=true/\Q (.bl (!decide (x=y))) H
theorem ve{i j:Int}:decide (V.int i=V.int j)=(i==j):=by rw[Bool.eq_iff_iff];simp
theorem vc{i j:Bool}:decide (V.bl i=V.bl j)=(i==j):=by rw[Bool.eq_iff_iff];simp
theorem vf{i j:Str}:decide (V.str i=V.str j)=(i==j):=by rw[Bool.eq_iff_iff];simp
theorem vd{i j:Array UInt8}:decide (V.gJ i=V.gJ j)=(i.toList==j.toList):=by rw[Bool.eq_iff_iff];cases i;cases j;simp
section
variable {X:Cx}{a b c:Expr}{ta tb tc:TE}{pos:Pos}
theorem bQ{pins:List (Addr×Obj)}{σ:St}{H:Hp}{s:Shared}{Q:VK}{k k':Bool}(I:Inv X pins σ H s)(q:Q (.bl k) H)(e:k=k'):EP X pins σ Q (.bool k') s:=by subst e;exact⟨.bl k,H,I,rfl,q⟩
theorem Rv:aS X (compareOp .Eq) Cb:=by
 intro pins s σ H x y v u Q I rx ry h;obtain⟨hs,q⟩:=h;cases x with
 |aC=>
  cases rx;cases y with
  |aC=>cases ry;exact PySem.EqNone.eq_none_none (bQ I q (by simp))|bl j=>cases ry;exact PySem.EqNone.eq_none_bool (bQ I q (by simp))|int j=>obtain⟨t',rfl⟩:=ry;exact PySem.EqNone.eq_none_int (bQ I q (by simp))|str j=>obtain⟨t',rfl⟩:=ry;exact PySem.EqNone.eq_none_str (bQ I q (by simp))|_=>exact absurd (show false=true from hs) Bool.false_ne_true
 |bl i=>
  cases rx;cases y with
  |aC=>cases ry;exact PySem.EqNone.eq_bool_none (bQ I q (by simp))|bl j=>cases ry;exact eq_bool (bQ I q vc)|str j=>obtain⟨t',rfl⟩:=ry;exact PySem.EqMixed.eq_bool_str (bQ I q (by simp))|_=>exact absurd (show false=true from hs) Bool.false_ne_true
 |int i=>
  obtain⟨t,rfl⟩:=rx;cases y with
  |aC=>cases ry;exact PySem.EqNone.eq_int_none (bQ I q (by simp))|int j=>obtain⟨t',rfl⟩:=ry;exact eq_int (bQ I q ve)|str j=>obtain⟨t',rfl⟩:=ry;exact PySem.EqMixed.eq_int_str (bQ I q (by simp))|_=>exact absurd (show false=true from hs) Bool.false_ne_true
 |str i=>
  obtain⟨t,rfl⟩:=rx;cases y with
  |aC=>cases ry;exact PySem.EqNone.eq_str_none (bQ I q (by simp))|bl j=>cases ry;exact PySem.EqMixed.eq_str_bool (bQ I q (by simp))|int j=>obtain⟨t',rfl⟩:=ry;exact PySem.EqMixed.eq_str_int (bQ I q (by simp))|str j=>obtain⟨t',rfl⟩:=ry;exact eq_str (bQ I q vf)|_=>exact absurd (show false=true from hs) Bool.false_ne_true
 |gJ i=>
  obtain⟨t,rfl⟩:=rx;cases y with
  |gJ j=>obtain⟨t',rfl⟩:=ry;exact W.eq_bytes (bQ I q vd)|_=>exact absurd (show false=true from hs) Bool.false_ne_true
 |_=>cases y<;>exact absurd (show false=true from hs) Bool.false_ne_true
theorem Sk:aS X (compareOp .NotEq) Cg:=by
 intro pins s σ H x y v u Q I rx ry h;obtain⟨hs,q⟩:=h;cases x with
 |aC=>
  cases rx;cases y with
  |aC=>cases ry;exact PySem.EqNone.ne_none_none (bQ I q (by simp))|bl j=>cases ry;exact PySem.EqNone.ne_none_bool (bQ I q (by simp))|int j=>obtain⟨t',rfl⟩:=ry;exact PySem.EqNone.ne_none_int (bQ I q (by simp))|str j=>obtain⟨t',rfl⟩:=ry;exact PySem.EqNone.ne_none_str (bQ I q (by simp))|_=>exact absurd (show false=true from hs) Bool.false_ne_true
 |bl i=>
  cases rx;cases y with
  |aC=>cases ry;exact PySem.EqNone.ne_bool_none (bQ I q (by simp))|bl j=>cases ry;exact ne_bool (bQ I q (congrArg not vc))|str j=>obtain⟨t',rfl⟩:=ry;exact PySem.EqMixed.ne_bool_str (bQ I q (by simp))|_=>exact absurd (show false=true from hs) Bool.false_ne_true
 |int i=>
  obtain⟨t,rfl⟩:=rx;cases y with
  |aC=>cases ry;exact PySem.EqNone.ne_int_none (bQ I q (by simp))|int j=>obtain⟨t',rfl⟩:=ry;exact ne_int (bQ I q (congrArg not ve))|str j=>obtain⟨t',rfl⟩:=ry;exact PySem.EqMixed.ne_int_str (bQ I q (by simp))|_=>exact absurd (show false=true from hs) Bool.false_ne_true
 |str i=>
  obtain⟨t,rfl⟩:=rx;cases y with
  |aC=>cases ry;exact PySem.EqNone.ne_str_none (bQ I q (by simp))|bl j=>cases ry;exact PySem.EqMixed.ne_str_bool (bQ I q (by simp))|int j=>obtain⟨t',rfl⟩:=ry;exact PySem.EqMixed.ne_str_int (bQ I q (by simp))|str j=>obtain⟨t',rfl⟩:=ry;exact ne_str (bQ I q (congrArg not vf))|_=>exact absurd (show false=true from hs) Bool.false_ne_true
 |gJ i=>
  obtain⟨t,rfl⟩:=rx;cases y with
  |gJ j=>obtain⟨t',rfl⟩:=ry;exact W.ne_bytes (bQ I q (congrArg not vd))|_=>exact absurd (show false=true from hs) Bool.false_ne_true
 |_=>cases y<;>exact absurd (show false=true from hs) Bool.false_ne_true
theorem Sg:aS X (compareOp .Lt) (iF λi j=>.bl (decide (i<j))):=yS λ_ _ _ _ _ _ _ q=>lt_int q
theorem Sf:aS X (compareOp .LtE) (iF λi j=>.bl (decide (i<=j))):=yS λ_ _ _ _ _ _ _ q=>le_int q
theorem Rz:aS X (compareOp .Gt) (iF λi j=>.bl (decide (j<i))):=yS λ_ _ _ _ _ _ _ q=>gt_int q
theorem Ry:aS X (compareOp .GtE) (iF λi j=>.bl (decide (j<=i))):=yS λ_ _ _ _ _ _ _ q=>ge_int q
theorem Se:aS X (compareOp .Is) (λx y H Q=>y = .aC/\Q (.bl (decide (x = .aC))) H):=by
 intro pins s σ H x y v u Q I rx ry h;obtain⟨rfl,q⟩:=h;cases ry;refine is_none_gen (bQ I q ?_);cases x<;>first
  | (cases rx;rfl)
  | (obtain⟨t,rfl⟩:=rx;rfl)
theorem So:aS X (compareOp .IsNot) (λx y H Q=>y = .aC/\Q (.bl (!decide (x = .aC))) H):=by
 intro pins s σ H x y v u Q I rx ry h;obtain⟨rfl,q⟩:=h;cases ry;refine isnot_none_gen (bQ I q ?_);cases x<;>first
  | (cases rx;rfl)
  | (obtain⟨t,rfl⟩:=rx;rfl)
theorem aS.or{f:Value->Value->Sem Value}{r r':R2}(h:aS X f r)(h':aS X f r'):aS X f (λx y H Q=>r x y H Q\/r' x y H Q):=by
 intro pins s σ H x y v u Q I rx ry q;rcases q with q|q
 .exact h pins s σ H x y v u Q I rx ry q
 .exact h' pins s σ H x y v u Q I rx ry q
theorem Ap{op:CmpOp}{r:R2}(ho:aS X (compareOp op) r)(ha:PE X a ta)(hb:PE X b tb)(hm:behindInMarks op b=false):PE X (.Compare a [op] [b] pos) (bf r ta tb):=by intro pins s σ H Q I h;exact wpAny_Compare1 (ee ha hb I h λv u s2 x y H2 I2 rx ry q=>ho pins s2 σ H2 x y v u Q I2 rx ry q) hm
def oj(t:TE):TT:=λσ H Q=>t σ H λx H'=>∃k,x = .bl k/\Q k H'
theorem Ay{op:CmpOp}{r:R2}(ho:aS X (compareOp op) r)(ha:PE X a ta)(hb:PE X b tb)(hm:behindInMarks op b=false):PT X (.Compare a [op] [b] pos) (oj (bf r ta tb)):=by
 intro pins s σ H Q I h;refine wpAny_isTrue_Compare1 (aJ (ha pins s σ H _ I h) λv s1 ⟨x,H1,I1,r1,q1⟩=>aJ (hb pins s1 σ H1 _ I1 q1) λu s2 ⟨y,H2,I2,r2,q2⟩=>aJ (ho pins s2 σ H2 x y v u _ I2 r1 r2 q2) λc s3 ⟨z,H3,I3,r3,k,e,q3⟩=>?_) hm
 subst e;cases r3;exact wpAny_truthy_bool ⟨H3,I3,q3⟩
def nu(r r':R2)(ta tb tc:TE):TE:=λσ H Q=>ta σ H λx H1=>tb σ H1 λy H2=>r x y H2 λz H3=>∃k,z = .bl k /\
 (if k=true then tc σ H3 λw' H4=>r' y w' H4 Q else Q (.bl false) H3)
theorem Ur{op op':CmpOp}{r r':R2}(ho:aS X (compareOp op) r)(ho':aS X (compareOp op') r')(ha:PE X a ta)(hb:PE X b tb)(hc:PE X c tc)
  (hm:lastMarks [op,op'] [b,c]=false:=by with_unfolding_all rfl):PE X (.Compare a [op,op'] [b,c] pos) (nu r r' ta tb tc):=by
 intro pins s σ H Q I h;refine Compare_chain (aJ (ha pins s σ H _ I h) λv s1 ⟨x,H1,I1,r1,q1⟩=>chain_link (aJ (hb pins s1 σ H1 _ I1 q1) λu s2 ⟨y,H2,I2,r2,q2⟩=>aJ (ho pins s2 σ H2 x y v u _ I2 r1 r2 q2) λd s3 ⟨z,H3,I3,r3,k,e,q3⟩=>?_)) hm
 subst e;cases r3;refine wpAny_truthy_bool ?_;cases k with
 |false=>exact ite_ff ⟨.bl false,H3,I3,rfl,q3⟩|true=>exact ite_tt (chain_last (aJ (hc pins s3 σ H3 _ I3 q3) λw' s4 ⟨z',H4,I4,r4,q4⟩=>ho' pins s4 σ H4 y z' u w' Q I4 r2 r4 q4))
theorem Wq{op op':CmpOp}{r r':R2}(ho:aS X (compareOp op) r)(ho':aS X (compareOp op') r')(ha:PE X a ta)(hb:PE X b tb)(hc:PE X c tc)
  (hm:lastMarks [op,op'] [b,c]=false:=by with_unfolding_all rfl):PT X (.Compare a [op,op'] [b,c] pos) (oj (nu r r' ta tb tc)):=by
 intro pins s σ H Q I h;refine isTrue_chain (aJ (ha pins s σ H _ I h) λv s1 ⟨x,H1,I1,r1,q1⟩=>test_link (aJ (hb pins s1 σ H1 _ I1 q1) λu s2 ⟨y,H2,I2,r2,q2⟩=>aJ (ho pins s2 σ H2 x y v u _ I2 r1 r2 q2) λd s3 ⟨z,H3,I3,r3,k,e,q3⟩=>?_)) hm
 subst e;cases r3;refine wpAny_truthy_bool ?_;cases k with
 |false=>obtain⟨k',e',q'⟩:=q3;cases e';exact ite_ff ⟨H3,I3,q'⟩
 |true=>refine ite_tt (test_last (aJ (hc pins s3 σ H3 _ I3 q3) λw' s4 ⟨z',H4,I4,r4,q4⟩=>aJ (ho' pins s4 σ H4 y z' u w' _ I4 r2 r4 q4) λd' s5 ⟨z2,H5,I5,r5,k2,e2,q5⟩=>?_));subst e2;cases r5;exact wpAny_truthy_bool ⟨H5,I5,q5⟩
def oO(K:W.Frag)(x:V)(H:Hp)(k:Bool):Prop:=
 match x with
 |.aC=>k=false
 |.bl b=>k=b
 |.int i=>k=(i != 0)
 |.str y=>y.length<=sizeLine/\k=((y.length:Int) != 0)
 |.gJ y=>y.size<=sizeLine/\k=((y.size:Int) != 0)
 |.ref p=>(∃xs,bA K H p xs/\k = !xs.isEmpty)\/(∃xs,bG K H p xs/\k = !xs.isEmpty)\/∃aE,H p=some (.dK aE)/\k = !aE.isEmpty
 |_=>False
theorem Nx{κ:Type}{aE:List (κ×V)}{vs:List (κ×Value)}(r:KV aE vs):(!vs.isEmpty) = !aE.isEmpty:=by cases r<;>rfl
theorem ye{xs:List V}{its:List Value}(r:Vals xs its):(!its.toArray.isEmpty) = !xs.isEmpty:=by cases r<;>simp
theorem pL:(sizeLine:Nat)<2 ^ 63:=by rw[sizeLine_eq];decide
theorem bz:Hb X (λx H Q=>∃k,oO X.K x H k/\Q k H):=by
 intro pins s σ H x v Q I rx h;obtain⟨k,e,q⟩:=h;have hl:=pL;have hs:sizeLine=16777216:=sizeLine_eq;cases x with
 |aC=>cases rx;have e':k=false:=e;subst e';exact truthy_none ⟨H,I,q⟩
 |bl b=>cases rx;have e':k=b:=e;subst e';exact wpAny_truthy_bool ⟨H,I,q⟩
 |int i=>obtain⟨t,rfl⟩:=rx;have e':k=(i != 0):=e;subst e';exact PySem.P.truthy_int ⟨H,I,q⟩
 |str y=>obtain⟨t,rfl⟩:=rx;obtain⟨hy,e'⟩:y.length<=sizeLine/\k=((y.length:Int) != 0):=e;subst e';exact PySem.P.truthy_str (by omega) ⟨H,I.tok _,q⟩
 |gJ y=>obtain⟨t,rfl⟩:=rx;obtain⟨hy,e'⟩:y.size<=sizeLine/\k=((y.size:Int) != 0):=e;subst e';exact W.truthy_bytes (by omega) ⟨H,I.tok _,q⟩
 |ref p=>
  cases rx;have e':(∃xs,bA X.K H p xs/\k = !xs.isEmpty)\/(∃xs,bG X.K H p xs/\k = !xs.isEmpty)\/∃aE,H p=some (.dK aE)/\k = !aE.isEmpty:=e;rcases e' with⟨xs,hx,e'⟩|⟨xs,hx,e'⟩|⟨aE,hx,e'⟩
  .subst e';obtain⟨its,r,pl,hz⟩:=I.list hx;have hlen:=r.length;exact wpAny_truthy_list pl.isList (by simp only[List.size_toArray];omega) ⟨H,I.tok _,by rw[ye r];exact q⟩
  .subst e';obtain⟨its,r,pl,hz⟩:=I.tuple hx;have hlen:=r.length;exact truthy_tuple pl (by simp only[List.size_toArray];omega) ⟨H,I.tok _,by rw[ye r];exact q⟩
  .subst e';obtain⟨hz,hS,vs,r,m⟩:aE.length<=sizeLine/\(p==sysModules)=false/\∃vs,KV aE vs/\s.heap.DictOf (jh X.prog X.w) p vs:=I.aI p _ hx;have hlen:aE.length=vs.length:=Paired.length r;exact wpAny_truthy_dict hS m (by omega) ⟨H,I.tok _,by rw[Nx r];exact q⟩
 |_=>exact(show False from e).elim
theorem Wv(ha:PE X a ta)(he:∀whole,isTrue a X.env whole=(do let v <- whole;standAt a.pos;holding [v] (truthy v))) :
  PT X a (λσ H Q=>ta σ H λx H'=>∃k,oO X.K x H' k/\Q k H'):=by
 intro pins s σ H Q I h;exact isTrue_plain (aJ (ha pins s σ H _ I h) λv s1 ⟨x,H1,I1,r1,q1⟩=>bz pins s1 σ H1 x v Q I1 r1 q1) (he _)
theorem Rn:aS X (binaryOp .Add) (λx y H Q=>∃i j,x = .str i/\y = .str j/\i.length+j.length<=sizeLine/\Q (.str (i++j)) H):=by intro pins s σ H x y v u Q I rx ry h;obtain⟨i,j,rfl,rfl,hz,q⟩:=h;obtain⟨t,rfl⟩:=rx;obtain⟨t',rfl⟩:=ry;exact add_str (λt' tk=>⟨.str (i++j),H,I.tok _,⟨_,rfl⟩,q⟩) hz
theorem eW{x:V}{us:List Value}(r:Vals [x] us):∃u,us=[u]/\RelV x u:=by
 cases r with
 |cons r1 r2=>cases r2;exact⟨_,rfl,r1⟩
theorem wD{x y:V}{us:List Value}(r:Vals [x,y] us):∃u w',us=[u,w']/\RelV x u/\RelV y w':=by
 cases r with
 |cons r1 r2=>
  cases r2 with
  |cons r3 r4=>cases r4;exact⟨_,_,rfl,r1,r3⟩
theorem Js(hc:X.calm=true):dA X (.builtin "max") (λxs H Q=>∃i j,xs=[.int i,.int j]/\Q (.int (if j > i then j else i)) H):=by
 intro pins s σ H xs us Q I r h;obtain⟨i,j,rfl,q⟩:=h;obtain⟨u,w',rfl,⟨t,rfl⟩,⟨t',rfl⟩⟩:=wD r;refine max_two_ints (I.ok.hd hc) λh' tk k=>⟨_,H,I.kept k,?_,q⟩;by_cases hj:j > i
 .rw[if_pos hj,if_pos hj];exact⟨_,rfl⟩
 .rw[if_neg hj,if_neg hj];exact⟨_,rfl⟩
theorem Ju(hc:X.calm=true):dA X (.builtin "min") (λxs H Q=>∃i j,xs=[.int i,.int j]/\Q (.int (if j<i then j else i)) H):=by
 intro pins s σ H xs us Q I r h;obtain⟨i,j,rfl,q⟩:=h;obtain⟨u,w',rfl,⟨t,rfl⟩,⟨t',rfl⟩⟩:=wD r;refine min_two_ints (I.ok.hd hc) λh' tk k=>⟨_,H,I.kept k,?_,q⟩;by_cases hj:j<i
 .rw[if_pos hj,if_pos hj];exact⟨_,rfl⟩
 .rw[if_neg hj,if_neg hj];exact⟨_,rfl⟩
theorem Jl:dA X (.type "int") (λxs H Q=>(∃i,xs=[.int i]/\Q (.int i) H)\/∃k,xs=[.bl k]/\Q (.int (if k then 1 else 0)) H):=by
 intro pins s σ H xs us Q I r h;rcases h with⟨i,rfl,q⟩|⟨k,rfl,q⟩
 .obtain⟨u,rfl,t,rfl⟩:=eW r;exact call_int_int ⟨.int i,H,I,⟨_,rfl⟩,q⟩
 .obtain⟨u,rfl,r1⟩:=eW r;cases r1;exact call_int_bool ⟨.int (if k then 1 else 0),H,I.tok _,⟨_,rfl⟩,q⟩
theorem Jx:dA X (.type "str") (λxs H Q=>∃i,xs=[.int i]/\i.natAbs.log2<1920/\Q (.str (toString i)) H):=by intro pins s σ H xs us Q I r h;obtain⟨i,rfl,hz,q⟩:=h;obtain⟨u,rfl,t,rfl⟩:=eW r;exact PySem.P.str_of_int hz ⟨.str _,H,I.tok _,⟨_,rfl⟩,q⟩
end
theorem Pm{h:Heap}{dx:Addr}{mA:Str->Option Value}(n:h.Ns1 dx mA):∃od,h.get? dx=some od/\∀name,W.lookIn name od=some (mA name):=by
 obtain⟨o,es,ep,ho,hd,hk,_,hm⟩:=n;refine⟨o,ho,λname=>?_⟩;have e:=hm name;unfold nsFind findBy at e;rw[<- Array.find?_toList]at e;unfold W.lookIn;rw[hd];dsimp only;split
 .rename_i y q;rw[q]at e;exact congrArg some e
 .rename_i q;rw[q]at e;have a:es.toList.any (·.refKey)=false:=by rw[List.any_eq_false];intro y hy;obtain⟨z,t,hkey⟩:=hk y (Array.mem_toList_iff.mp hy);simp[DictEntry.refKey,hkey]
  have a':¬es.toList.any (·.refKey)=true:=by rw[a];exact Bool.false_ne_true
  rw[if_neg a'];exact congrArg some e
theorem qN.some_of{v:V}{o:Option Value}(r:qN (some v) o):∃u,o=some u/\RelV v u:=by
 cases o with
 |none=>exact(show False from r).elim|some u=>exact⟨u,rfl,r⟩
theorem My{v:V}{u:Value}(r:RelV v u):W.handedIn u=true:=by
 cases v with
 |aC=>cases(show u=Value.none from r);rfl|bl b=>cases(show u=Value.bool b from r);rfl|int i=>obtain⟨t,e⟩:=(show∃t,u=Value.int i t from r);cases e;rfl|str x=>obtain⟨t,e⟩:=(show∃t,u=Value.str x t from r);cases e;rfl|gJ b=>obtain⟨t,e⟩:=(show∃t,u=Value.bytes b t from r);cases e;rfl|xQ b=>obtain⟨t,e⟩:=(show∃t,u=Value.float b t from r);cases e;rfl|ref a=>cases(show u=Value.ref a from r);rfl|ty n=>cases(show u=Value.type n from r);rfl
section
variable {X:Cx}{pins:List (Addr×Obj)}{σ:St}{H:Hp}{s:Shared}{a C dx:Addr}{fs:List (Str×V)}{f:Str}{v:V}{A:Around}{E:Value->Shared->Prop}
theorem Hm{prog:Program}{w:World}{env:Env}{e:Expr}{f:Str}{pos:Pos}{s:Shared}{Q:Value->Shared->Prop}(hb:attributeBase e f env (eval e env)=eval e env)
  (h:wpAny (model prog w) A (eval e env) (λo s₁=>wpAny (model prog w) A (getAttr o f true) Q E s₁) E s):wpAny (model prog w) A (eval (.Attribute e f pos) env) Q E s:=
 Attribute_any_ h (by rw[arm_eval_Attribute,hb])
end
structure cM(k:Nat)(A:Around):Prop where
 hd:A.handled=none
 dp:A.depth+3*k+5<recursionLimit
 un:A.units+16*k+200<cLine
theorem cM.mono{j k:Nat}{A:Around}(r:cM k A)(h:j<=k):cM j A:=⟨r.hd,by have:=r.dp;omega,by have:=r.un;omega⟩
theorem cM.deeper{k:Nat}{A:Around}(r:cM (k+1) A)(env:Env):cM k (A.deeper env):=
 ⟨r.hd,by have:=r.dp;show A.depth+1+3*k+5<_;omega,by have:=r.un;show A.units+3+16*k+200<_;omega⟩
theorem Pw{A:Around}{C:Addr}{us:List Value}{kw:List (Str×Value)}:(A.under (.builtin "type.__call__" ⟨.ref C::us,kw⟩)).depth=A.depth+1:=by first|rfl|simp[Around.under,Code.weight,Code.isCreation,Code.isGuard,Code.isCaller,Code.frames,Code.isFrame,guardIds]
theorem Px{A:Around}{C:Addr}{us:List Value}{kw:List (Str×Value)}:(A.under (.builtin "type.__call__" ⟨.ref C::us,kw⟩)).units=A.units+1:=by first|rfl|simp[Around.under,Code.cUnits,Code.frames,Code.isFrame]
theorem cM.make{k:Nat}{A:Around}(r:cM (k+1) A)(C:Addr)(us:List Value)(kw:List (Str×Value)):cM k (A.under (.builtin "type.__call__" ⟨.ref C::us,kw⟩)):=
 ⟨r.hd,by have:=r.dp;rw[Pw];omega,by have:=r.un;rw[Px];omega⟩
theorem cM.depth{k:Nat}{A:Around}(r:cM k A):A.depth<recursionLimit:=by have:=r.dp;omega
theorem cM.units{k:Nat}{A:Around}(r:cM k A):A.units+64<cLine:=by have:=r.un;omega
def vU:TA:=λ_ H Q=>Q [] H
def bc(ta:TE)(tr:TA):TA:=λσ H Q=>ta σ H λx H1=>tr σ H1 λxs H2=>Q (x::xs) H2
section
variable {X:Cx}{e:Expr}{es:List Expr}{te:TE}{t:TA}{pos:Pos}
theorem hZ:PA X [] vU:=λ_ _ _ _ H Q I h=>Calls.spliced_nil ⟨[],H,I,.nil,h⟩
theorem gB(ha:PE X e te)(hr:PA X es t)(hs:starEach (e::es) X.env=(false,eval e X.env)::starEach es X.env:=by rfl):PA X (e::es) (bc te t):=by intro pos pins s σ H Q I h;rw[hs];show wpAny _ _ (spliced ((false,eval e X.env)::backTo pos (starEach es X.env))) _ _ s;refine Calls.spliced_cons (aJ (ha pins s σ H _ I h) λu s1 ⟨x,H1,I1,r1,q1⟩=>?_);exact aJ (hr pos pins s1 σ H1 _ I1 q1) λus s2 ⟨xs,H2,I2,r2,q2⟩=>⟨x::xs,H2,I2,.cons r1 r2,q2⟩
def HM(t:TA):TE:=λσ H Q=>t σ H λxs H1=>xs.length<=sizeLine/\∀p,H1 p=none->Q (.ref p) (aK H1 p (.tup xs))
def GX(t:TA):TE:=λσ H Q=>t σ H λxs H1=>xs.length<=sizeLine/\∀p,H1 p=none->Q (.ref p) (aK H1 p (.lst xs))
theorem Vb{x1}(h:PA X es t):PE X (.Tuple es x1 pos) (HM t):=by intro pins s σ H Q I hq;refine wpAny_Tuple_spliced (aJ (h pos pins s σ H _ I hq) λus s1 ⟨xs,H1,I1,r,z,q⟩=>⟨by rw[<- r.length];exact z,?_⟩);have hf:H1 s1.heap.objs.size=none:=I1.aI.fresh (Nat.le_refl _);refine⟨.ref s1.heap.objs.size,aK H1 s1.heap.objs.size (.tup xs),I1.laid (t':=s1.toks) (λb u e=>Heap.get?_push_of_some _ e) (Nat.le_refl _) ?_,rfl,q _ hf⟩;exact⟨z,us,r,⟨_,Heap.get?_push_size _ rfl,rfl,_,rfl⟩⟩
theorem Uv(h:PA X es t):PE X (.List es pos) (GX t):=by intro pins s σ H Q I hq;refine wpAny_List_spliced (aJ (h pos pins s σ H _ I hq) λus s1 ⟨xs,H1,I1,r,z,q⟩=>⟨by rw[<- r.length];exact z,?_⟩);have hf:H1 s1.heap.objs.size=none:=I1.aI.fresh (Nat.le_refl _);refine⟨.ref s1.heap.objs.size,aK H1 s1.heap.objs.size (.lst xs),I1.laid (t':=s1.toks) (λb u e=>Heap.get?_push_of_some _ e) (Nat.le_refl _) ?_,rfl,q _ hf⟩;exact⟨z,us,0,r,Heap.get?_push_size _ rfl⟩
end
abbrev Sp:=List V->Hp->VK->XK->Prop
abbrev gI:=List Env->Hp->Shared->XK->Value->Shared->Prop
structure oH(P:Program)(w:World)(K:W.Frag)(mg:Str->Option Value)(base:Heap)(A:Around)(outer:List Env)(s:Shared)(H:Hp):Prop where
 frames:A.frames=some outer
 mod:Mod K mg base
 bs:∀b o,base.get? b=some o->s.heap.get? b=some o/\H b=none
 gY:base.objs.size<=s.heap.objs.size
 fE:s.heap.FunFrames base outer
 jI:∀b∈bN outer,H b=none
 aI:cJ P w H s.heap
 bare:AllBare s.gens
def CE(outer:List Env)(P:Program)(w:World)(H:Hp)(s:Shared)(Q:VK)(u:Value)(s':Shared):Prop:=
 ∃v H',s'.os=s.os/\AllBare s'.gens/\Un (bN outer) [] H H' s.heap s'.heap/\cJ P w H' s'.heap/\RelV v u/\Q v H'
def CR(CX:gI)(outer:List Env)(P:Program)(w:World)(H:Hp)(s:Shared)(Q:VK)(E:XK)(r:Result)(s':Shared):Prop:=
 match r with
 |.ok (.ret u)=>CE outer P w H s Q u s'
 |.ok _=>False
 |.error e=>CX outer H s E e s'
structure dW(P:Program)(w:World)(K:W.Frag)(mg:Str->Option Value)(base:Heap)(CX:gI)(k:Nat)(f:Addr)(fd:FuncData)(ps:List Str)(sp:Sp):Prop where
 len:∀vs H Q E,sp vs H Q E->vs.length=ps.length
 run:∀(A:Around) (outer:List Env) (s:Shared) (H:Hp) (args:Args) (us:List Value) (vs:List V) (Q:VK) (E:XK),cM k A->oH P w K mg base A outer s H->BindsTo s fd args (ps.zip us)->Vals vs us->sp vs H Q E ->
  codeAny (model P w) A (.call (.ref f) args) (CR CX outer P w H s Q E) s
theorem dW.imp{P:Program}{w:World}{K:W.Frag}{mg:Str->Option Value}{base:Heap}{CX:gI}{k:Nat}{f:Addr}{fd:FuncData}{ps:List Str}{sp sp':Sp}(F:dW P w K mg base CX k f fd ps sp)
  (h:∀vs H Q E,sp' vs H Q E->sp vs H Q E):dW P w K mg base CX k f fd ps sp':=
 ⟨λvs H Q E q=>F.len vs H Q E (h _ _ _ _ q),λA outer s H args us vs Q E hr he hb hv hs=>F.run A outer s H args us vs Q E hr he hb hv (h _ _ _ _ hs)⟩
theorem oH.make{P:Program}{w:World}{K:W.Frag}{mg:Str->Option Value}{base:Heap}{A:Around}{outer:List Env}{s:Shared}{H:Hp}(e:oH P w K mg base A outer s H)(C:Addr)(us:List Value)(kw:List (Str×Value)) :
 oH P w K mg base (A.under (.builtin "type.__call__" ⟨.ref C::us,kw⟩)) outer s H:=⟨by first|exact e.frames|(simpa[Around.under,Code.envs,Code.isFrame,pushEnvs]using e.frames),e.mod,e.bs,e.gY,e.fE,e.jI,e.aI,e.bare⟩
section
variable {X:Cx}{pins:List (Addr×Obj)}{σ:St}{H:Hp}{s s':Shared}
theorem Inv.gi(I:Inv X pins σ H s):oH X.prog X.w X.K X.mg X.base X.A X.stack s H:=
 ⟨I.ok.frames,I.ok.mod,I.bs,Nat.le_trans I.ok.gY I.sz,I.stack,I.sL,I.aI,I.bare⟩
theorem Inv.after{Q:VK}{u:Value}(I:Inv X pins σ H s)(h:CE X.stack X.prog X.w H s Q u s'):EP X pins σ Q u s':=by obtain⟨v,H',os,bare,un,aI,r,q⟩:=h;obtain⟨hh,g,d,t,os'⟩:=s';obtain rfl:os'=s.os:=os;exact⟨v,H',I.call (h':=hh) (g':=g) (d':=d) (t':=t) (ch:=[]) un aI bare (λb z=>absurd z (by simp)),r,q⟩
end
def Ee(sp:Sp)(dvs:List V)(E:XK)(t:TA):TE:=λσ H Q=>t σ H λvs H1=>sp (vs++dvs) H1 Q E
def Binds(K:W.Frag)(fd:FuncData)(ps:List Str)(ds:List Value):Prop:=
 ∀(s:Shared) (us:List Value),K.In s.heap->(us++ds).length=ps.length->BindsTo s fd ⟨us,[]⟩ (ps.zip (us++ds))
theorem Binds.all{K:W.Frag}{fd:FuncData}{ps:List Str}(h:∀us:List Value,us.length=ps.length->bindArgs fd ⟨us,[]⟩=pure (ps.zip us)):Binds K fd ps []:=λs us _ hl=>by rw[List.append_nil]at hl ⊢;exact .of_eq (h us hl)
def sY(CX:gI)(X:Cx)(E:XK):Prop:=∀(pins:List (Addr×Obj)) (σ:St) (H:Hp) (s:Shared) (e:Value) (s':Shared),Inv X pins σ H s->CX X.stack H s E e s'->X.xe e s'
section
variable {X:Cx}{CX:gI}{k:Nat}{f C:Addr}{fd:FuncData}{ps:List Str}{sp:Sp}{dvs:List V}{ds:List Value}{E:XK}{x m:Str}{p pos apos:Pos}{e o:Expr}{es:List Expr}{ta:TE}{t:TA}
theorem Cr{pins:List (Addr×Obj)}{σ:St}{H:Hp}{s:Shared}{Q:VK}{us:List Value}{vs:List V}(F:dW X.prog X.w X.K X.mg X.base CX k f fd ps sp)(hr:cM k X.A)(hb:Binds X.K fd ps ds)(hd:Vals dvs ds)(hx:sY CX X E)
  (I:Inv X pins σ H s) (r:Vals vs us) (h:sp (vs++dvs) H Q E):wpAny (model X.prog X.w) X.A (call (.ref f) us) (EP X pins σ Q) X.xe s:=by
 have r2:Vals (vs++dvs) (us++ds):=r.append hd;have hl:(us++ds).length=ps.length:=by rw[<- r2.length];exact F.len _ _ _ _ h
 refine wpAny_call (codeAny_mono (F.run X.A X.stack s H ⟨us,[]⟩ (us++ds) (vs++dvs) Q E hr I.gi (hb s us I.cW hl) r2 h) λr s' hq=>?_);cases r with
 |error e=>exact hx pins σ H s e s' I hq|ok fl=>
  cases fl with
  |ret u=>exact I.after hq|next=>exact False.elim hq|brk=>exact False.elim hq|cont=>exact False.elim hq
theorem Um(F:dW X.prog X.w X.K X.mg X.base CX k f fd ps sp)(hr:cM k X.A)(hg:Gl X x)(hm:X.mg x=some (.ref f))(hk:W.keepIn X.K (.ref f)=true)(hb:Binds X.K fd ps ds)(hd:Vals dvs ds)(hx:sY CX X E)
  (ha:PA X (e::es) t) (hdb:(x==("__debug__":Str))=false:=by decide) (he:starEach (e::es) X.env=(false,eval e X.env)::starEach es X.env:=by rfl) (hpl:(backTo pos (starEach es X.env)).any (·.1)=false:=by rfl) :
  PE X (.Call (.Name x p) (e::es) [] pos) (Ee sp dvs E t):=by
 intro pins s σ H Q I h;refine wpAny_Call_Name_kw (pK I hg hm ?_ hdb);refine W.callWith_K (h₀:=X.base) I.ok.mod.rF hk (aJ (ha pos pins s σ H _ I h) λus s1 ⟨vs,H1,I1,r,q⟩=>⟨I1.cW,?_⟩) he hpl;exact Cr F hr hb hd hx I1 r q
theorem Uo(F:dW X.prog X.w X.K X.mg X.base CX k f fd ps sp)(hr:cM k X.A)(hg:Gl X x)(hm:X.mg x=some (.ref f))(hk:W.keepIn X.K (.ref f)=true)(hb:Binds X.K fd ps ds)(hd:Vals dvs ds)(hx:sY CX X E)
  (hdb:(x==("__debug__":Str))=false:=by decide):PE X (.Call (.Name x p) [] [] pos) (Ee sp dvs E vU):=by
 intro pins s σ H Q I h;refine wpAny_Call_Name_kw (pK I hg hm ?_ hdb);exact W.callWith_K0 I.cW hk (Cr (us:=[]) F hr hb hd hx I .nil h)
end
def PK(X:Cx)(kws:List Keyword)(t:TA):Prop:=
 ∀(pos:Pos) (pins:List (Addr×Obj)) (s:Shared) (σ:St) (H:Hp) (Q:List V->Hp->Prop),Inv X pins σ H s->t σ H Q->wpAny (model X.prog X.w) X.A (evalAll ((backToKw pos (keywordEach kws X.env)).map (·.2))) (AP X pins σ Q) X.xe s
section
variable {X:Cx}{CX:gI}{k:Nat}{f C:Addr}{fd:FuncData}{ps ks:List Str}{sp:Sp}{E:XK}{x m:Str}{p pos apos kpos:Pos}{e o:Expr}{es:List Expr}{kws:List Keyword}{te ta:TE}{t tk:TA}{nm:Option Str}
theorem Vq:PK X [] vU:=λ_ _ _ _ H Q I h=>wpAny_evalAll_nil ⟨[],H,I,.nil,h⟩
theorem Vp(ha:PE X e te)(hr:PK X kws t):PK X (⟨nm,e,kpos⟩::kws) (bc te t):=by intro pos pins s σ H Q I h;show wpAny _ _ (evalAll ((do let v <- eval e X.env;standAt pos;pure v)::(backToKw pos (keywordEach kws X.env)).map (·.2))) _ _ s;refine wpAny_evalAll_cons (wpAny_bind (aJ (ha pins s σ H _ I h) λu s1 ⟨x,H1,I1,r1,q1⟩=>wpAny_bind (wpAny_standAt (wpAny_pure ?_))));exact aJ (hr pos pins s1 σ H1 _ I1 q1) λus s2 ⟨xs,H2,I2,r2,q2⟩=>⟨x::xs,H2,I2,.cons r1 r2,q2⟩
variable {g:List Value->List Value->List Value}{gV:List V->List V->List V}
end
structure sV(N P:List Str)(sc:Scope):Prop where
 kind:sc.kind = .function
 co:sc.isCoroutine=false
 gen:sc.isGenerator=false
 nd:N.Nodup
 pre:N.take P.length=P
 par:∀x∈P,sc.names.lookup x=some .local\/sc.names.lookup x=some .cell
 Qz:∀y∈sc.names,y.2 ≠ .free
theorem tf{kindOf:Str->Option NameKind}{x:Str}:∀{binds:List (Str×Value)} {m:Str->Option Value},(∀v,(x,v)∉binds)->bindL kindOf binds m x=m x
 |[],_,_=>rfl
 | (n,v)::r,m,h=>by
  unfold bindL;rw[tf λw hw=>h w (List.mem_cons_of_mem _ hw)];split
  .have:x≠n:=by rintro rfl;exact h v List.mem_cons_self
   simp[this]
  .rfl
theorem sx{kindOf:Str->Option NameKind}{x:Str}:∀{binds:List (Str×Value)} {m:Str->Option Value},(∀v,(x,v)∉binds)->bindC kindOf binds m x=m x
 |[],_,_=>rfl
 | (n,v)::r,m,h=>by
  unfold bindC;rw[sx λw hw=>h w (List.mem_cons_of_mem _ hw)];split
  .rfl
  .have:x≠n:=by rintro rfl;exact h v List.mem_cons_self
   simp[this]
theorem sy{kindOf:Str->Option NameKind}{x:Str}{v:Value}:∀{P:List Str} {vs:List Value} {i:Nat} {m:Str->Option Value},P.Nodup->P[i]?=some x->vs[i]?=some v->kindOf x=some .local ->
  bindL kindOf (P.zip vs) m x=some v
 |[],_,_,_,_,h,_,_=>by simp at h
 |_::_,[],_,_,_,_,h,_=>by simp at h
 |p::P,w::vs,0,m,nd,h1,h2,hk=>by simp at h1 h2;subst h1;subst h2;show bindL kindOf ((p,w)::P.zip vs) m p=_;unfold bindL;rw[tf λv hv=>(List.nodup_cons.mp nd).1 (List.of_mem_zip hv).1,if_pos hk];simp
 |p::P,w::vs,i+1,m,nd,h1,h2,hk=>by show bindL kindOf ((p,w)::P.zip vs) m x=_;unfold bindL;exact sy (i:=i) (List.nodup_cons.mp nd).2 (by simpa using h1) (by simpa using h2) hk
theorem sv{kindOf:Str->Option NameKind}{x:Str}{v:Value}:∀{P:List Str} {vs:List Value} {i:Nat} {m:Str->Option Value},P.Nodup->P[i]?=some x->vs[i]?=some v->kindOf x≠some .local ->
  bindC kindOf (P.zip vs) m x=some v
 |[],_,_,_,_,h,_,_=>by simp at h
 |_::_,[],_,_,_,_,h,_=>by simp at h
 |p::P,w::vs,0,m,nd,h1,h2,hk=>by simp at h1 h2;subst h1;subst h2;show bindC kindOf ((p,w)::P.zip vs) m p=_;unfold bindC;rw[sx λv hv=>(List.nodup_cons.mp nd).1 (List.of_mem_zip hv).1,if_neg hk];simp
 |p::P,w::vs,i+1,m,nd,h1,h2,hk=>by show bindC kindOf ((p,w)::P.zip vs) m x=_;unfold bindC;exact sv (i:=i) (List.nodup_cons.mp nd).2 (by simpa using h1) (by simpa using h2) hk
def start(N:List Str)(vs:List V):St:=vs.map some++List.replicate (N.length-vs.length) none
def jZ(CX:gI)(P:Program)(w:World)(K:W.Frag)(mg:Str->Option Value)(base:Heap)(N:List Str)(qual:Str)(scope:Scope)(f:Addr)(cd:Value)(A:Around)(outer:List Env)(s:Shared)(H:Hp)(E:XK):Cx where
 prog:=P
 w:=w
 K:=K
 mg:=mg
 base:=base
 A:=A.deeper (envOfC qual scope s.heap.objs.size f cd)
 N:=N
 s₀:=s
 H₀:=H
 env:=envOfC qual scope s.heap.objs.size f cd
 outer:=outer
 stack:=envOfC qual scope s.heap.objs.size f cd::outer
 ex:=[]
 calm:=true
 fn:=λ_=>true
 pn:=[]
 xe:=λe s'=>wpAny (model P w) (A.deeper (envOfC qual scope s.heap.objs.size f cd)) (leaving (envOfC qual scope s.heap.objs.size f cd) e) (λ_ s''=>CX outer H s E e s'') (λe' s''=>CX outer H s E e' s'') s'
theorem ug{sc:Scope}{n:Nat}{x:Str}(h:sc.names.lookup x=some .cell):∃c,(cellsFrom n sc.names []).lookup x=some c:=by have q:=W.cellsFrom_some sc.names n [] (.inl h);exact Option.isSome_iff_exists.mp q
theorem Nu{CX:gI}{P:Program}{w:World}{K:W.Frag}{mg:Str->Option Value}{base:Heap}{N ps:List Str}{qual:Str}{scope:Scope}{f:Addr}{cd:Value}{A:Around}{outer:List Env}{s s1:Shared}{H:Hp}{E:XK}{us:List Value}{vs:List V}
  (S:sV N ps scope) (hd:A.handled=none) (e0:oH P w K mg base A outer s H) (hl:vs.length=ps.length) (r:Vals vs us)
  (x:InCallC s s.heap.objs.size (bindL (envOfC qual scope s.heap.objs.size f cd).kindOf (ps.zip us) λ_=>none) (cellsFrom (s.heap.objs.size+1) scope.names []) (bindC (envOfC qual scope s.heap.objs.size f cd).kindOf (ps.zip us) λ_=>none) s1) :
  Inv (jZ CX P w K mg base N qual scope f cd A outer s H E) [] (start N vs) H s1:=by
 have hpl:ps.length<=N.length:=by have:=congrArg List.length S.pre;rw[List.length_take]at this;omega
 obtain⟨h1,tk,rfl,hk⟩:=x.done;have noA:∀b:Addr,b∉(jZ CX P w K mg base N qual scope f cd A outer s H E).ex:=λb z=>absurd (show b∈([]:List Addr) from z) (by simp);refine⟨⟨e0.mod,S.kind,rfl,rfl,Nat.le_refl _,λy z c h1 h2=>?_,λy hy=>?_,λy c _ h=>?_,λ_=>hd,Around.frames_deeper e0.frames,.inr ⟨rfl,rfl⟩,λb z=>absurd z (noA b),e0.bs,e0.gY,λb _ _=>noA b,λb z=>absurd z (noA b),e0.fE,e0.jI⟩,
  rfl,e0.bare,Un.kept hk,⟨_,x.toInCall.ns,λi y v h1 h2 h3=>?_⟩,λy c h=>⟨_,x.cell y c h⟩,e0.aI.fresh (Nat.le_refl _),λy c h=>?_,λp hp=>absurd (show p∈([]:List (Addr×Obj)) from hp) (by simp),e0.aI.kept hk,?_⟩
 .exact name_of_addr x.apart (PySem.mem_of_lookup h1) (PySem.mem_of_lookup h2)
 .have hy:scope.names.lookup y=some .cell\/scope.names.lookup y=some .free:=hy;rcases hy with hy|hy
  .exact ug hy
  .exact absurd rfl (S.Qz _ (PySem.mem_of_lookup hy))
 .exact Nat.le_of_lt (x.above y c (PySem.mem_of_lookup h))
 .have hi:i<vs.length:=by
   unfold start at h2;by_cases hi:i<vs.length
   .exact hi
   .rw[List.getElem?_append_right (by simpa using hi)]at h2;rw[List.getElem?_replicate]at h2;split at h2<;>cases h2
  have ha:vs[i]?=some v:=by
   unfold start at h2;rw[List.getElem?_append_left (by simpa using hi),List.getElem?_map]at h2;cases e:vs[i]? with
   |none=>rw[e]at h2;cases h2|some a=>rw[e]at h2;cases h2;rfl
  obtain⟨u,hu,rv⟩:=r.get ha;have hp:ps[i]?=some y:=by rw[<- S.pre,List.getElem?_take_of_lt (by omega)];exact h1
  have ndP:ps.Nodup:=by rw[<- S.pre];exact S.nd.sublist (List.take_sublist _ _)
  refine⟨u,rv,?_⟩;rcases S.par y (List.mem_of_getElem? hp)with k|k
  .exact .inl ⟨k,sy ndP hp hu k⟩
  .obtain⟨c,e⟩:=ug (n:=s.heap.objs.size+1) k;refine .inr ⟨.inl k,c,e,?_⟩;have q:=x.cell y c e;rw[sv ndP hp hu (by show scope.names.lookup y≠_;rw[k];decide)]at q;exact q
 .exact e0.aI.fresh (Nat.le_of_lt (x.above y c (PySem.mem_of_lookup h)))
 .unfold start;show _=N.length;rw[List.length_append,List.length_map,List.length_replicate];omega
theorem Ml{CX:gI}{P:Program}{w:World}{K:W.Frag}{mg:Str->Option Value}{base:Heap}{k:Nat}{f:Addr}{name qual:Str}{params:Arguments}{body:List Stmt}{scope:Scope}{dV kV doc pm cdv ct oc:Value}{an od:Option Addr}
  {osl:Array (Option Value)} {N ps:List Str} {sp:Sp} (lk:K.lookup f=some ⟨oc,od,.func (W.fnOf name qual params body scope dV kV doc pm an cdv ct),osl⟩) (hcd:W.codeIn K cdv qual=true) (S:sV N ps scope)
  (len:∀vs H Q E,sp vs H Q E->vs.length=ps.length)
  (hbody:∀(A:Around) (outer:List Env) (s:Shared) (H:Hp) (vs:List V) (Q:VK) (E:XK),cM k (A.deeper (envOfC qual scope s.heap.objs.size f cdv))->sp vs H Q E ->
   ∃t,iL (jZ CX P w K mg base N qual scope f cdv A outer s H E) body t/\t { nx:=λ_ H'=>Q .aC H',rt:=Q } (start N vs) H) :
  dW P w K mg base CX (k+1) f (W.fnOf name qual params body scope dV kV doc pm an cdv ct) ps sp:=by
 refine⟨len,λA outer s H args us vs Q E hr e0 hb r hsp=>?_⟩;have hl:=len _ _ _ _ hsp;have KX:K.In s.heap:=e0.mod.rF.keeps λb o e=>(e0.bs b o e).1;have lim:s.heap.NoLimit:=e0.mod.nolimit.keeps λb o e=>(e0.bs b o e).1;have hkind:∀y∈ps.zip us,scope.names.lookup y.1=some .local\/(scope.names.lookup y.1=some .cell/\((cellsFrom (s.heap.objs.size+1) scope.names []).lookup y.1).isSome=true):=λ⟨n,v⟩ hy=>by
  rcases S.par n (List.of_mem_zip hy).1 with q|q
  .exact .inl q
  .exact .inr ⟨q,W.cellsFrom_some _ _ _ (.inl q)⟩
 refine codeAny_call_function hr.depth (KX _ _ lk) rfl S.co S.gen rfl (W.codeRec_of KX hcd) (hb _ _ _ _ ?_);refine wpAny_newFunctionEnv_cells S.kind hkind λenv he s1 x=>?_;subst he;refine⟨lim.keeps x.toInCall.keep,codeAny_func ?_⟩;obtain⟨t,ht,hq⟩:=hbody A outer s H vs Q E (hr.deeper _) hsp;have I:Inv (jZ CX P w K mg base N qual scope f cdv A outer s H E) [] (start N vs) H s1:=Nu S hr.hd e0 hl r x;refine wpAny_mono (ht [] s1 (start N vs) H _ I hq) (λfl s' hs=>?_) λe s' hs=>hs;have fin:∀{σ':St} {H':Hp} {v:V} {u:Value},Inv (jZ CX P w K mg base N qual scope f cdv A outer s H E) [] σ' H' s'->RelV v u->Q v H'->CE outer P w H s Q u s':=
  λ{σ' H' v u} J rv q=>⟨v,H',J.os,J.bare,J.base,J.aI,rv,q⟩
 cases fl with
 |ret u=>obtain⟨v,σ',H',J,rv,q⟩:=hs;exact fin J rv q
 |next=>obtain⟨σ',H',J,q⟩:=hs;exact fin (v:=V.aC) (u:=Value.none) J rfl q
 |brk=>obtain⟨_,_,_,q⟩:=hs;exact False.elim q
 |cont=>obtain⟨_,_,_,q⟩:=hs;exact False.elim q
section
variable {X:Cx}{x:Str}{p pos:Pos}{e:Expr}{es:List Expr}{t:TA}{id T:String}{r:List V->Hp->VK->Prop}
def Ed(r:List V->Hp->VK->Prop)(t:TA):TE:=λσ H Q=>t σ H λvs H1=>r vs H1 Q
theorem rP(hc:dA X (.builtin id) r) (hg:Gl X x) (hm:X.mg x=none) (hv:bootBuiltins x=some (.builtin id)) (ha:PA X (e::es) t) (hn:x≠"__name__":=by decide) (hdb:(x==("__debug__":Str))=false:=by decide)
  (he:starEach (e::es) X.env=(false,eval e X.env)::starEach es X.env:=by rfl) (hpl:(backTo pos (starEach es X.env)).any (·.1)=false:=by rfl):PE X (.Call (.Name x p) (e::es) [] pos) (Ed r t):=by
 intro pins s σ H Q I h;refine wpAny_Call_Name_kw (nG I hg hm hv ?_ hn hdb);exact PyProof.Rows.callWith_builtin1 (aJ (ha pos pins s σ H _ I h) λus s1 ⟨vs,H1,I1,r1,q1⟩=>hc pins s1 σ H1 vs us Q I1 r1 q1) he hpl
theorem Uq(hc:dA X (.type T) r) (hg:Gl X x) (hm:X.mg x=none) (hv:bootBuiltins x=some (.type T)) (ha:PA X (e::es) t) (hn:x≠"__name__":=by decide) (hdb:(x==("__debug__":Str))=false:=by decide)
  (he:starEach (e::es) X.env=(false,eval e X.env)::starEach es X.env:=by rfl) (hpl:(backTo pos (starEach es X.env)).any (·.1)=false:=by rfl):PE X (.Call (.Name x p) (e::es) [] pos) (Ed r t):=by
 intro pins s σ H Q I h;refine wpAny_Call_Name_kw (nG I hg hm hv ?_ hn hdb);exact PyProof.Rows.callWith_type1 (aJ (ha pos pins s σ H _ I h) λus s1 ⟨vs,H1,I1,r1,q1⟩=>hc pins s1 σ H1 vs us Q I1 r1 q1) he hpl
end
end L2
namespace HT
open PySem PyProof.Rows
section
open PySem.SeqAt
open PySem.AutoSeq1 (wpAny_loadPart')
open PySem.MeetsSeq PySem.MeetsSeq2 PySem.MeetsSeq3
end
section
variable {prog:Program}{w:World}{A:Around}{E:Value->Shared->Prop}{s:Shared}
theorem Kb{t b:Addr}{vs ws:List Value}{Q:Value->Shared->Prop}(ht:IsTup s.heap t vs.toArray)(hb:IsTup s.heap b ws.toArray)(hv:vs≠[])
  (h1:ws=[]->Q (.ref t) s) (h2:ws≠[]->Q (.ref s.heap.objs.size) { s with heap:=s.heap.push { cls:=.type "tuple",data:=.seq (vs++ws).toArray } })
  (hsz:vs.length+ws.length<=sizeLine):wpAny (model prog w) A (binaryOp .Add (.ref t) (.ref b)) Q E s:=by
 obtain⟨⟨cls,dd,data,sl⟩,ho,hc,n,hd⟩:=id ht;obtain⟨⟨cls2,dd2,data2,sl2⟩,ho2,hc2,n2,hd2⟩:=id hb;simp only at hc hd hc2 hd2;subst hc hd hc2 hd2;have e:vs.toArray++ws.toArray=(vs++ws).toArray:=by simp
 by_cases hw:ws=[]
 .exact concat_meets ⟨_,ho,rfl⟩ ⟨_,ho2,rfl⟩ noFill_tuple_add seq_tuple_add PySem.F.slot_tuple_add PySem.F.entry_tuple_add (PySem.F.args_tuple_add_2 _ _)
   (tuple_addW1 t b vs.toArray ws.toArray n n2 dd dd2 sl sl2 (by simpa using hv) (by simp[hw])) ⟨ho,ho2,h1 hw⟩
 .refine concat_meets ⟨_,ho,rfl⟩ ⟨_,ho2,rfl⟩ noFill_tuple_add seq_tuple_add PySem.F.slot_tuple_add PySem.F.entry_tuple_add (PySem.F.args_tuple_add_2 _ _)
   (tuple_addW2 t b vs.toArray ws.toArray n n2 dd dd2 sl sl2 (by simpa using hv) (by simpa using hw) (by rw[List.size_toArray,List.size_toArray];exact hsz)) ⟨ho,ho2,?_⟩
  rw[e];exact h2 hw
def aP(n d:Nat):Option Int->Nat
 |none=>d
 |some v=>if v<0 then(v+(n:Int)).toNat else min v.toNat n
theorem Cu(n d:Nat):aP n d none=d:=rfl
theorem Ct(n d k:Nat):aP n d (some (k:Int))=min k n:=by show(if(k:Int)<0 then((k:Int)+(n:Int)).toNat else min (k:Int).toNat n)=min k n;rw[if_neg (by omega),Int.toNat_natCast]
theorem DY(n d:Nat)(hd:d<=n)(o:Option Int):aP n d o<=n:=by
 cases o with
 |none=>exact hd|some v=>
  show(if v<0 then(v+(n:Int)).toNat else min v.toNat n)<=n;by_cases hv:v<0
  .rw[if_pos hv];omega
  .rw[if_neg hv];exact Nat.min_le_right _ _
theorem um(v:Int)(n d:Nat):(if v<0 then max (v+(n:Int)) 0 else min v (n:Int))=((aP n d (some v):Nat):Int):=by
 show(if v<0 then max (v+(n:Int)) 0 else min v (n:Int))=(((if v<0 then(v+(n:Int)).toNat else min v.toNat n):Nat):Int);by_cases hv:v<0
 .simp only[if_pos hv];omega
 .simp only[if_neg hv];omega
theorem He(lo hi:Option Int)(n:Nat):Builtin.Slice.sliceAdjust lo hi 1 (n:Int)=(((aP n 0 lo:Nat):Int),((aP n n hi:Nat):Int)):=by
 have h1:¬((1:Int)<0):=by omega
 unfold Builtin.Slice.sliceAdjust;simp only[h1,if_false];refine Prod.ext ?_ ?_
 .cases lo with
  |none=>rfl|some v=>exact um v n 0
 .cases hi with
  |none=>rfl|some v=>exact um v n n
theorem Vr(i j:Nat):Builtin.Slice.slicePlaces (i:Int) (j:Int) 1=j-i:=by
 unfold Builtin.Slice.slicePlaces;have h1:(1:Int) > 0:=by omega
 simp only[h1,if_true,Int.ediv_one];split<;>omega
theorem De{v:Value}{o:Option Int}{Q:Option Int->Shared->Prop}(p:IsPart v o)(h:Q o s):wpAny (model prog w) A (Builtin.Slice.slicePartIndex v) Q E s:=by
 cases p with
 |none=>exact slicePart_none h|int i t=>exact slicePart_int h
theorem EK{sl:Addr}{vl vu:Value}{lo hi:Option Int}{n:Nat}{Q:Int×Int×Nat->Shared->Prop}(hs:s.heap.IsSliceOf sl vl vu .none)(pl:IsPart vl lo)(pu:IsPart vu hi)
  (h:Q (((aP n 0 lo:Nat):Int),1,aP n n hi-aP n 0 lo) s):wpAny (model prog w) A (Builtin.Slice.sliceApplied (.ref sl) (pure (n:Int))) Q E s:=by
 obtain⟨os,hos,hcs,hds⟩:=id hs;unfold Builtin.Slice.sliceApplied Builtin.Slice.sliceFields;refine wpAny_bind (wpAny_bind (wpAny_field hos hds (x:=vl) rfl (wpAny_bind (wpAny_field hos hds (x:=vu) rfl (wpAny_bind (wpAny_field hos hds (x:=.none) rfl (wpAny_pure ?_)))))));refine wpAny_bind (slicePart_none ?_);show wpAny _ _ (if((1:Int)==0)=true then _ else _) _ _ s;rw[if_neg (by decide)];refine wpAny_bind (De pl (wpAny_bind (De pu (wpAny_bind (wpAny_pure ?_)))));show wpAny _ _ (match Builtin.Slice.sliceAdjust lo hi 1 (n:Int)with|(lo,hi)=>pure (lo,(1:Int),Builtin.Slice.slicePlaces lo hi 1)) _ _ s;rw[He lo hi n];show wpAny _ _ (pure (((aP n 0 lo:Nat):Int),(1:Int),Builtin.Slice.slicePlaces ((aP n 0 lo:Nat):Int) ((aP n n hi:Nat):Int) 1)) _ _ s;rw[Vr];exact wpAny_pure h
theorem Vo(xs:Array Value)(i k:Nat):((List.range k).filterMap λ(m:Nat)=>xs[((i:Int)+(m:Int)*1).toNat]?).toArray=((xs.toList.drop i).take k).toArray:=by
 have e:(λ(m:Nat)=>xs[((i:Int)+(m:Int)*1).toNat]?)=λm=>xs[i+m]?:=by
  funext m
  have:((i:Int)+(m:Int)*1).toNat=i+m:=by omega
  rw[this]
 rw[e];have:=pick_run xs i k;rw[List.filterMap_map]at this;have e2:((λx=>xs[x]?) ∘ λx=>i+x)=λm=>xs[i+m]?:=rfl;rw[e2]at this;rw[this]
theorem Mu{t sl:Addr}{items:Array Value}{vl vu:Value}{lo hi:Option Int}{Q:Value->Shared->Prop}(ht:IsTup s.heap t items)(hs:s.heap.IsSliceOf sl vl vu .none)(pl:IsPart vl lo)(pu:IsPart vu hi)
  (hw:¬(aP items.size 0 lo=0/\aP items.size items.size hi=items.size))
  (h:Q (.ref s.heap.objs.size) { s with heap:=s.heap.push { cls:=.type "tuple",data:=.seq ((items.toList.drop (aP items.size 0 lo)).take (aP items.size items.size hi-aP items.size 0 lo)).toArray } })
  (hsz:items.size<=sizeLine):wpAny (model prog w) A (getItem (.ref t) (.ref sl)) Q E s:=by
 have htake:sizeOk (.seq ((items.toList.drop (aP items.size 0 lo)).take (aP items.size items.size hi-aP items.size 0 lo)).toArray):=by show((items.toList.drop (aP items.size 0 lo)).take (aP items.size items.size hi-aP items.size 0 lo)).toArray.size<=sizeLine;rw[List.size_toArray,List.length_take,List.length_drop,Array.length_toList];omega
 have hj:aP items.size items.size hi<=items.size:=DY _ _ (Nat.le_refl _) hi;obtain⟨os,hos,hcs,hds⟩:=id hs;have hTs:s.TypeIs (.ref sl) "slice":=⟨os,hos,hcs⟩;unfold getItem;try with_reducible refine wpAny_holding ?_
 first|refine wpAny_bind (wpAny_pure ?_)|skip
 refine wpAny_bind (wpAny_sequenceKey ht.typeIs (by decide) ?_);refine wpAny_bind (wpAny_callSpecial?_slot (name:=Str.ofString "__getitem__") ht.typeIs PyProof.Rows.slot_tuple_getitem
  (wpAny_call_entry PyProof.Rows.slot_tuple_getitem ht.typeIs entry_tuple_getitem ?_ (args_tuple_getitem _ _)))
 show wpAny _ _ (Builtin.Tuple.tupleItemsOf (.ref t)>>=_) _ _ s;refine wpAny_bind (tupleItemsOf_ ht ?_);refine wpAny_bind (wpAny_typeOf hTs ?_);rw[if_pos (by decide)];refine wpAny_bind (EK hs pl pu ?_);have hno:¬((((aP items.size 0 lo:Nat):Int)==0&&(1:Int)==1&&(aP items.size items.size hi-aP items.size 0 lo)==items.size)=true):=by intro q;rw[Bool.and_eq_true,Bool.and_eq_true]at q;have q1:((aP items.size 0 lo:Nat):Int)=0:=eq_of_beq q.1.1;have q2:aP items.size items.size hi-aP items.size 0 lo=items.size:=eq_of_beq q.2;exact hw ⟨by omega,by omega⟩
 show wpAny _ _ (if(((aP items.size 0 lo:Nat):Int)==0&&(1:Int)==1&&(aP items.size items.size hi-aP items.size 0 lo)==items.size)=true then _ else _) _ _ s;rw[if_neg hno,Vo];first
  |exact wpAny_bind (m:=Builtin.Tuple.tupleExact _) (wpAny_newObj_type (wpAny_pure ⟨_,rfl,wpAny_pure h⟩) htake)|exact wpAny_bind (m:=Builtin.Tuple.tupleExact _) (wpAny_newObj_type (wpAny_bind (wpAny_pure (wpAny_pure ⟨_,rfl,wpAny_pure h⟩))) htake)|exact wpAny_bind (wpAny_bind (m:=Builtin.Tuple.tupleExact _) (wpAny_newObj_type (wpAny_pure (wpAny_pure ⟨_,rfl,wpAny_pure h⟩)) htake))|exact wpAny_bind (wpAny_bind (m:=Builtin.Tuple.tupleExact _) (wpAny_newObj_type (wpAny_pure ⟨_,rfl,wpAny_pure h⟩) htake))
end
end HT
namespace L2
open PySem PySem.Spec PyProof.Rows
abbrev TO:=St->Hp->(Option Int->Hp->Prop)->Prop
def PO(X:Cx)(e:Option Expr)(t:TO):Prop:=
 ∀(pins:List (Addr×Obj)) (s:Shared) (σ:St) (H:Hp) (Q:Option Int->Hp->Prop),Inv X pins σ H s->t σ H Q ->
  wpAny (model X.prog X.w) X.A (evalPart e X.env) (λu s'=>∃o H',Inv X pins σ H' s'/\IsPart u o/\Q o H') X.xe s
def GZ:TO:=λ_ H Q=>Q none H
def HG(t:TE):TO:=λσ H Q=>t σ H λx H1=>∃i,x = .int i/\Q (some i) H1
section
variable {X:Cx}{e:Expr}{te:TE}{lo hi:Option Expr}{tl th:TO}{pos p2:Pos}
theorem Vt:PO X none GZ:=by intro pins s σ H Q I h;rw[evalPart_none];exact wpAny_pure ⟨none,H,I,.none,h⟩
theorem Vu(h:PE X e te):PO X (some e) (HG te):=by intro pins s σ H Q I hw;rw[evalPart_some];refine aJ (h pins s σ H _ I hw) λu s1 ⟨x,H1,I1,r1,q1⟩=>?_;obtain⟨i,rfl,q⟩:=q1;obtain⟨t,rfl⟩:=r1;exact⟨some i,H1,I1,.int i t,q⟩
def mK(X:Cx)(r:V->Option Int->Option Int->Hp->VK->Prop):Prop:=
 ∀(pins:List (Addr×Obj)) (s:Shared) (σ:St) (H:Hp) (x:V) (v vl vu:Value) (lo hi:Option Int) (sl:Addr) (Q:VK),Inv X pins σ H s->RelV x v->s.heap.IsSliceOf sl vl vu .none->IsPart vl lo->IsPart vu hi->r x lo hi H Q ->
  ∃T id,typeLookup (.type T) "__getitem__"=pure (some (.builtin id))/\s.TypeIs v T/\wpAny (model X.prog X.w) X.A (getItem v (.ref sl)) (EP X pins σ Q) X.xe s
theorem mK.or{r r':V->Option Int->Option Int->Hp->VK->Prop}(h:mK X r)(h':mK X r'):mK X (λx lo hi H Q=>r x lo hi H Q\/r' x lo hi H Q):=by
 intro pins s σ H x v vl vu lo hi sl Q I rx hs pl pu q;rcases q with q|q
 .exact h pins s σ H x v vl vu lo hi sl Q I rx hs pl pu q
 .exact h' pins s σ H x v vl vu lo hi sl Q I rx hs pl pu q
def HK(r:V->Option Int->Option Int->Hp->VK->Prop)(te:TE)(tl th:TO):TE:=λσ H Q=>te σ H λx H1=>tl σ H1 λl H2=>th σ H2 λu H3=>r x l u H3 Q
theorem Va{r:V->Option Int->Option Int->Hp->VK->Prop}(hr:mK X r)(he:PE X e te)(hl:PO X lo tl)(hu:PO X hi th):PE X (.Subscript e (.Slice lo hi none p2) pos) (HK r te tl th):=by intro pins s σ H Q I h;refine Subscript_ (aJ (he pins s σ H _ I h) λv s1 ⟨x,H1,I1,r1,q1⟩=>?_);refine wpAny_Slice (aJ (hl pins s1 σ H1 _ I1 q1) λvl s2 ⟨l,H2,I2,pl,q2⟩=>aJ (hu pins s2 σ H2 _ I2 q2) λvu s3 ⟨u,H3,I3,pu,q3⟩=>?_);rw[evalPart_none];refine wpAny_pure ?_;have I4:Inv X pins σ H3 { s3 with heap:=s3.heap.push { cls:=.type "slice",data:=.fields #[vl,vu,.none] } }:=I3.kept (t':=s3.toks) λb ob q=>Heap.get?_push_of_some _ q;obtain⟨T,id,hT,ht,hg⟩:=hr pins { s3 with heap:=s3.heap.push { cls:=.type "slice",data:=.fields #[vl,vu,.none] } } σ H3 x v vl vu l u s3.heap.objs.size Q I4 r1 (Heap.IsSliceOf.new ..) pl pu q3;show wpAny (model X.prog X.w) X.A (subscriptTail e (.Slice lo hi none p2) v (.ref s3.heap.objs.size)) (EP X pins σ Q) X.xe { s3 with heap:=s3.heap.push { cls:=.type "slice",data:=.fields #[vl,vu,.none] } };exact tail_any (ops:=[.ref s3.heap.objs.size,v]) ht hT hg (by with_unfolding_all rfl)
def mR(xs:List V)(lo hi:Option Int):List V:=(xs.drop (HT.aP xs.length 0 lo)).take (HT.aP xs.length xs.length hi-HT.aP xs.length 0 lo)
theorem ux(xs:List V)(lo hi:Option Int):(mR xs lo hi).length<=xs.length:=by unfold mR;rw[List.length_take,List.length_drop];omega
def DH(K:W.Frag):V->Option Int->Option Int->Hp->VK->Prop:=λx lo hi H Q=>∃a xs,x = .ref a/\bG K H a xs /\
 ¬(HT.aP xs.length 0 lo=0/\HT.aP xs.length xs.length hi=xs.length)/\∀p,H p=none->Q (.ref p) (aK H p (.tup (mR xs lo hi)))
theorem EJ:mK X (DH X.K):=by
 intro pins s σ H x v vl vu lo hi sl Q I rx hs pl pu h;obtain⟨a,xs,rfl,hx,hw,q⟩:=h;cases rx;obtain⟨its,r,ht,hz⟩:=I.tuple hx;have hlen:its.toArray.size=xs.length:=by rw[List.size_toArray];exact r.length.symm
 refine⟨"tuple",_,PyProof.Rows.slot_tuple_getitem.lookup,ht.typeIs,?_⟩;refine HT.Mu ht hs pl pu (by rw[hlen];exact hw) ?_ (by rw[hlen];exact hz);rw[hlen];refine⟨.ref s.heap.objs.size,_,I.laid (t':=s.toks) (o:=.tup (mR xs lo hi)) (λb ob q=>Heap.get?_push_of_some _ q) (Nat.le_refl _) ?_,rfl,q _ (I.aI.fresh (Nat.le_refl _))⟩;exact⟨Nat.le_trans (ux xs lo hi) hz,_,(r.drop (HT.aP xs.length 0 lo)).take (HT.aP xs.length xs.length hi-HT.aP xs.length 0 lo),IsTup.new _ _⟩
def CW(K:W.Frag):R2:=λx y H Q=>∃a b xs ys,x = .ref a/\y = .ref b/\bG K H a xs/\bG K H b ys/\xs≠[]/\xs.length+ys.length<=sizeLine /\
 (ys=[]->Q (.ref a) H)/\(ys≠[]->∀p,H p=none->Q (.ref p) (aK H p (.tup (xs++ys))))
theorem Vals.jl{xs:List V}{us:List Value}(r:Vals xs us):us=[]↔xs=[]:=by
 cases r with
 |nil=>simp|cons _ _=>simp
theorem Rt:aS X (binaryOp .Add) (CW X.K):=by intro pins s σ H x y v u Q I rx ry h;obtain⟨a,b,xs,ys,rfl,rfl,ha,hb,hx,hz,q1,q2⟩:=h;cases rx;cases ry;obtain⟨its,r1,p1,_⟩:=I.tuple ha;obtain⟨its2,r2,p2,_⟩:=I.tuple hb;refine HT.Kb p1 p2 (λz=>hx (r1.jl.mp z)) (λz=>⟨.ref a,H,I,rfl,q1 (r2.jl.mp z)⟩) (λz=>?_) (by rw[<- r1.length,<- r2.length];exact hz);refine⟨.ref s.heap.objs.size,_,I.laid (t':=s.toks) (o:=.tup (xs++ys)) (λb ob q=>Heap.get?_push_of_some _ q) (Nat.le_refl _) ?_,rfl,q2 (λw=>z (r2.jl.mpr w)) _ (I.aI.fresh (Nat.le_refl _))⟩;exact⟨by rw[List.length_append];exact hz,_,r1.append r2,IsTup.new _ _⟩
end
def fX(n:Nat)(i:Int):Option Nat:=if 0<=i then(if i<n then some i.toNat else none) else if -(n:Int)<=i then some (i+n).toNat else none
def bJ{α:Type}(xs:List α)(i:Int):Option α:=(fX xs.length i).bind λj=>xs[j]?
theorem yk{n:Nat}{i:Int}{j:Nat}(h:fX n i=some j):seqIndex? i n=some j/\j<n/\-(n:Int)<=i/\i<n:=by
 unfold fX at h;by_cases h0:0<=i
 .rw[if_pos h0]at h;by_cases h1:i<n
  .rw[if_pos h1]at h;have e:i.toNat=j:=Option.some.inj h;exact⟨by rw[seqIndex_of h0 h1,e],by omega,by omega,h1⟩
  .rw[if_neg h1]at h;cases h
 .rw[if_neg h0]at h;by_cases h1:-(n:Int)<=i
  .rw[if_pos h1]at h;have e:(i+n).toNat=j:=Option.some.inj h;exact⟨by rw[seqIndex_neg (by omega) h1,e],by omega,h1,by omega⟩
  .rw[if_neg h1]at h;cases h
theorem dq{α:Type}{xs:List α}{i:Int}{v:α}(h:bJ xs i=some v):∃j,seqIndex? i xs.length=some j/\xs[j]?=some v/\j<xs.length/\-(xs.length:Int)<=i/\i<xs.length:=by
 unfold bJ at h;cases e:fX xs.length i with
 |none=>rw[e]at h;cases h|some j=>rw[e]at h;obtain⟨h1,h2,h3,h4⟩:=yk e;exact⟨j,h1,h,h2,h3,h4⟩
theorem xA{α:Type}{xs:List α}{j:Nat}{v:α}(h:xs[j]?=some v):bJ xs (j:Int)=some v:=by
 have hj:j<xs.length:=(List.getElem?_eq_some_iff.mp h).1;have e:fX xs.length (j:Int)=some j:=by unfold fX;rw[if_pos (by omega),if_pos (by omega)];simp
 unfold bJ;rw[e];exact h
def wR(b:Expr):Prop:=∀o i,subscripted b false o i=operate [o,i] (getItem o i)
def jB(X:Cx)(r:R2):Prop:=
 ∀(value slice:Expr) (pins:List (Addr×Obj)) (s:Shared) (σ:St) (H:Hp) (x y:V) (v u:Value) (Q:VK),Inv X pins σ H s->RelV x v->RelV y u->r x y H Q ->
  subscripted slice false v u=operate [v,u] (getItem v u)->wpAny (model X.prog X.w) X.A (subscriptTail value slice v u) (EP X pins σ Q) X.xe s
def iK(X:Cx)(id:String)(r:V->List V->Hp->VK->Prop):Prop:=
 ∀(pins:List (Addr×Obj)) (s:Shared) (σ:St) (H:Hp) (x:V) (xs:List V) (v:Value) (us:List Value) (Q:VK),Inv X pins σ H s->RelV x v->Vals xs us->r x xs H Q ->
  wpAny (model X.prog X.w) X.A (call (.builtin id) (v::us)) (EP X pins σ Q) X.xe s
section
variable {X:Cx}{a b:Expr}{ta tb:TE}{pos:Pos}
theorem jB.or{r r':R2}(h:jB X r)(h':jB X r'):jB X (λx y H Q=>r x y H Q\/r' x y H Q):=by
 intro value slice pins s σ H x y v u Q I rx ry q hs;rcases q with q|q
 .exact h value slice pins s σ H x y v u Q I rx ry q hs
 .exact h' value slice pins s σ H x y v u Q I rx ry q hs
theorem Aq{r:R2}(hr:jB X r)(ha:PE X a ta)(hb:PE X b tb)(hs:wR b):PE X (.Subscript a b pos) (bf r ta tb):=by intro pins s σ H Q I h;exact Subscript_ (ee ha hb I h λv u s2 x y H2 I2 rx ry q=>hr a b pins s2 σ H2 x y v u Q I2 rx ry q (hs _ _))
def Cd(K:W.Frag):R2:=λx y H Q=>∃p xs i v,x = .ref p/\y = .int i/\bA K H p xs/\bJ xs i=some v/\Q v H
def Cf(K:W.Frag):R2:=λx y H Q=>∃p xs i v,x = .ref p/\y = .int i/\bG K H p xs/\bJ xs i=some v/\Q v H
def Ce:R2:=λx y H Q=>∃z i c,x = .str z/\y = .int i/\z.length<=sizeLine/\bJ z.cps.toList i=some c/\Q (.str ⟨#[c]⟩) H
theorem Of:jB X (Cd X.K):=by
 intro value slice pins s σ H x y v u Q I rx ry h hs;obtain⟨p,xs,i,z,rfl,rfl,hq,he,q⟩:=h;cases rx;obtain⟨t,rfl⟩:=ry;obtain⟨its,r,pl,hz⟩:=I.list hq;obtain⟨j,h1,h2,h3,h4,h5⟩:=dq he;obtain⟨w,ew,rw'⟩:=r.get h2;have hl:=r.length;have hn:=pL;have fin:EP X pins σ Q w s:=⟨z,H,I,rw',q⟩;by_cases h0:0<=i
 .have hj:i.toNat=j:=by rw[seqIndex_of h0 h5]at h1;exact Option.some.inj h1
  exact item_listR pl.isList h0 (by omega) (by rw[hj];simpa using ew) fin hs
 .have hj:(i+(its.toArray.size:Int)).toNat=j:=by rw[seqIndex_neg (by omega) h4]at h1;rw[List.size_toArray,<- hl];exact Option.some.inj h1
  exact subscriptTail_builtinR (x:=w) pl.isList.typeIs slot_list_getitem.lookup
   (wpAny_getItem_list_neg (Q:=λr s'=>r=w/\EP X pins σ Q r s') pl.isList (by omega) (by rw[List.size_toArray]<;>omega) (by omega) (by rw[hj];simpa using ew) ⟨rfl,fin⟩) hs
theorem Oj:jB X (Cf X.K):=by
 intro value slice pins s σ H x y v u Q I rx ry h hs;obtain⟨p,xs,i,z,rfl,rfl,hq,he,q⟩:=h;cases rx;obtain⟨t,rfl⟩:=ry;obtain⟨its,r,pl,hz⟩:=I.tuple hq;obtain⟨j,h1,h2,h3,h4,h5⟩:=dq he;obtain⟨w,ew,rw'⟩:=r.get h2;have hl:=r.length;have hn:=pL;have fin:EP X pins σ Q w s:=⟨z,H,I,rw',q⟩;exact subscriptTail_builtinR (x:=w) pl.typeIs slot_tuple_getitem.lookup
  (getItem_tuple (j:=j) (Q:=λr s'=>r=w/\EP X pins σ Q r s') pl (by omega) (by omega) (by rw[List.size_toArray,<- hl];exact h1) (by simpa using ew) ⟨rfl,fin⟩) hs
theorem Oh:jB X Ce:=by
 intro value slice pins s σ H x y v u Q I rx ry h hs;obtain⟨z,i,c,rfl,rfl,hz,he,q⟩:=h;obtain⟨t,rfl⟩:=rx;obtain⟨t',rfl⟩:=ry;obtain⟨j,h1,h2,h3,h4,h5⟩:=dq he;have hl:z.cps.toList.length=z.length:=by simp[Str.length]
 rw[hl]at h1 h4 h5;have hn:=pL;exact tail_any (typeIs_str s z t) slot_str_getitem.lookup (getItem_str (c:=c) (by
  have e1:decide (i < -(2 ^ 63:Int))=false:=decide_eq_false (by omega);have e2:decide (i ≥ 2 ^ 63)=false:=decide_eq_false (by omega);rw[e1,e2,Bool.or_false]) (by rw[h1];simpa using h2) ⟨.str ⟨#[c]⟩,H,I.tok _,⟨_,rfl⟩,q⟩) hs
def kz(K:W.Frag):R2:=λx y H Q=>Cd K x y H Q\/Cf K x y H Q\/Ce x y H Q
theorem Og:jB X (kz X.K):=Of.or (Oj.or Oh)
theorem Py(its:List Value)(n j:Nat)(u:Value):Obj.mapSeq (·.setIfInBounds j u) { cls:=.type "list",data:=.seq its.toArray n }={ cls:=.type "list",data:=.seq (its.set j u).toArray n }:=by simp[Obj.mapSeq]
theorem Inv.lst{pins:List (Addr×Obj)}{σ:St}{H:Hp}{s:Shared}{p:Addr}{xs:List V}(I:Inv X pins σ H s)(h:H p=some (.lst xs)) :
  ∃(its:List Value) (n:Nat),Vals xs its/\s.heap.get? p=some { cls:=.type "list",data:=.seq its.toArray n }/\xs.length<=sizeLine:=by
 obtain⟨z,its,n,r,e⟩:=I.aI p _ h;exact⟨its,n,r,e,z⟩
theorem Inv.Pp{pins:List (Addr×Obj)}{σ:St}{H:Hp}{s:Shared}{p:Addr}{xs ys:List V}{its its':List Value}{n n':Nat}{f:Obj->Obj}(I:Inv X pins σ H s)(h:H p=some (.lst xs))
  (ho:s.heap.get? p=some { cls:=.type "list",data:=.seq its.toArray n }) (hf:f { cls:=.type "list",data:=.seq its.toArray n }={ cls:=.type "list",data:=.seq its'.toArray n' }) (r:Vals ys its') (hz:ys.length<=sizeLine) (t:Nat) :
  Inv X pins σ (aK H p (.lst ys)) { s with heap:=s.heap.update p f,toks:=t }:=by
 have e:(s.heap.update p f).get? p=some { cls:=.type "list",data:=.seq its'.toArray n' }:=by rw[Heap.get?_update_self f ho (by rw[hf]<;>rfl),hf]
 refine I.write (x:=p) (e:=p) (by rw[h];trivial) (.inl rfl) (λb u hb q=>(Heap.get?_update_other _ _ (Ne.symm hb)).trans q) ⟨_,e⟩ ?_;exact⟨hz,its',n',r,e⟩
def DE:V->V->V->Hp->(Hp->Prop)->Prop:=λo i v H Q=>∃p xs k j,o = .ref p/\i = .int k/\H p=some (.lst xs)/\fX xs.length k=some j/\Q (aK H p (.lst (xs.set j v)))
theorem EB:rf X DE:=by
 intro pins s σ H o i v ov iv u Q I ro ri rv h;obtain⟨p,xs,k,j,rfl,rfl,hp,hj,q⟩:=h;cases ro;obtain⟨t,rfl⟩:=ri;obtain⟨its,n,r,ho,hz⟩:=I.lst hp;obtain⟨h1,h2,h3,h4⟩:=yk hj;have hl:=r.length;have hn:=pL;have I':Inv X pins σ (aK H p (.lst (xs.set j v))) { s with heap:=s.heap.update p (Obj.mapSeq (·.setIfInBounds j u)) }:=
  I.Pp hp ho (Py its n j u) (r.set rv j) (by rw[List.length_set];exact hz) s.toks
 by_cases h0:0<=k
 .have hk:k.toNat=j:=by rw[seqIndex_of h0 h4]at h1;exact Option.some.inj h1
  exact W.ki_setAt ho h0 (by omega) (by rw[List.size_toArray,<- hl];exact h4) (by rw[hk];exact⟨_,I',q⟩)
 .have hk:(k+(its.toArray.size:Int)).toNat=j:=by rw[seqIndex_neg (by omega) h3]at h1;rw[List.size_toArray,<- hl];exact Option.some.inj h1
  exact W.ki_setBack ho (by omega) (by rw[List.size_toArray,<- hl];exact h3) (by omega) (by rw[hk];exact⟨_,I',q⟩)
theorem EN(lo hi:Option Int)(n:Nat):(sliceBounds lo hi none n).1=((HT.aP n 0 lo:Nat):Int)/\(sliceBounds lo hi none n).2.1=((HT.aP n n hi:Nat):Int)/\(sliceBounds lo hi none n).2.2=1:=by
 refine⟨?_,?_,rfl⟩
 .cases lo with
  |none=>simp[sliceBounds,HT.aP]|some i=>
   simp only[sliceBounds,HT.aP,Option.getD_none,show(1:Int) > 0 by decide,if_true];by_cases h:i<0
   .simp only[h,if_true]<;>omega
   .simp only[h,if_false]<;>omega
 .cases hi with
  |none=>simp[sliceBounds,HT.aP]|some i=>
   simp only[sliceBounds,HT.aP,Option.getD_none,show(1:Int) > 0 by decide,if_true];by_cases h:i<0
   .simp only[h,if_true]<;>omega
   .simp only[h,if_false]<;>omega
theorem EL(its:List Value)(lo hi:Option Int):slicePick its.toArray lo hi none=((its.drop (HT.aP its.length 0 lo)).take (HT.aP its.length its.length hi-HT.aP its.length 0 lo)).toArray:=by obtain⟨h1,h2,h3⟩:=EN lo hi its.toArray.size;unfold slicePick;rw[h1,h2,h3];simp only[sliceRange_one,pick_run,List.size_toArray]<;>rfl
def DF(K:W.Frag):V->Option Int->Option Int->Hp->VK->Prop:=λx lo hi H Q=>∃a xs,x = .ref a/\bA K H a xs/\∀p,H p=none->Q (.ref p) (aK H p (.lst (mR xs lo hi)))
theorem EH:mK X (DF X.K):=by intro pins s σ H x v vl vu lo hi sl Q I rx hs pl pu h;obtain⟨a,xs,rfl,hx,q⟩:=h;cases rx;obtain⟨its,r,ht,hz⟩:=I.list hx;have hlen:=r.length;refine⟨"list",_,slot_list_getitem.lookup,ht.isList.typeIs,?_⟩;refine wpAny_getItem_list_slice ht.isList hs pl pu .none (by simp) ?_ (by rw[List.size_toArray]<;>omega);rw[EL,<- hlen];refine⟨.ref s.heap.objs.size,_,I.laid (t':=s.toks) (o:=.lst (mR xs lo hi)) (λb ob q=>Heap.get?_push_of_some _ q) (Nat.le_refl _) ?_,rfl,q _ (I.aI.fresh (Nat.le_refl _))⟩;exact⟨Nat.le_trans (ux xs lo hi) hz,_,0,(r.drop (HT.aP xs.length 0 lo)).take (HT.aP xs.length xs.length hi-HT.aP xs.length 0 lo),Heap.get?_push_size _ rfl⟩
def fS:V->Bool
 |.aC=>true
 |.bl _=>true
 |.int _=>true
 |.str _=>true
 |_=>false
def iQ:V->V->Bool
 |.aC,.aC=>true
 |.bl a,.bl b=>a==b
 |.bl a,.int b=>(if a then 1 else 0)==b
 |.int a,.bl b=>a==(if b then 1 else 0)
 |.int a,.int b=>a==b
 |.str a,.str b=>a==b
 |_,_=>false
theorem vp{A:Around}{s:Shared}{y x:V}{u v:Value}(ry:RelV y u)(rx:RelV x v)(fy:fS y=true)(fx:fS x=true):SeqAt.EqAt A s u v (iQ y x):=by
 cases y with
 |aC=>
  cases ry;cases x with
  |aC=>cases rx;exact SeqAt.EqAt.same _|bl b=>cases rx;exact SeqAt.EqAt.none_bool b|int b=>obtain⟨t,rfl⟩:=rx;exact SeqAt.EqAt.none_int b t|str b=>obtain⟨t,rfl⟩:=rx;exact SeqAt.EqAt.none_str b t|_=>exact absurd (show false=true from fx) Bool.false_ne_true
 |bl a=>
  cases ry;cases x with
  |aC=>cases rx;exact SeqAt.EqAt.bool_none a|bl b=>cases rx;exact SeqAt.EqAt.bool_bool a b|int b=>obtain⟨t,rfl⟩:=rx;exact SeqAt.EqAt.bool_int a b t|str b=>obtain⟨t,rfl⟩:=rx;exact SeqAt.EqAt.bool_str a b t|_=>exact absurd (show false=true from fx) Bool.false_ne_true
 |int a=>
  obtain⟨t',rfl⟩:=ry;cases x with
  |aC=>cases rx;exact SeqAt.EqAt.int_none a t'|bl b=>cases rx;exact SeqAt.EqAt.int_bool a t' b|int b=>obtain⟨t,rfl⟩:=rx;exact SeqAt.EqAt.int_int a t' b t|str b=>obtain⟨t,rfl⟩:=rx;exact SeqAt.EqAt.int_str a t' b t|_=>exact absurd (show false=true from fx) Bool.false_ne_true
 |str a=>
  obtain⟨t',rfl⟩:=ry;cases x with
  |aC=>cases rx;exact SeqAt.EqAt.str_none a t'|bl b=>cases rx;exact SeqAt.EqAt.str_bool a t' b|int b=>obtain⟨t,rfl⟩:=rx;exact SeqAt.EqAt.str_int a t' b t|str b=>obtain⟨t,rfl⟩:=rx;exact SeqAt.EqAt.str_str a t' b t|_=>exact absurd (show false=true from fx) Bool.false_ne_true
 |_=>exact absurd (show false=true from fy) Bool.false_ne_true
def fR(x:V)(u:Value):Bool:=match u with
 |.none=>iQ .aC x
 |.bool b=>iQ (.bl b) x
 |.int i _=>iQ (.int i) x
 |.str z _=>iQ (.str z) x
 |_=>false
theorem vw{x y:V}{u:Value}(r:RelV y u)(f:fS y=true):fR x u=iQ y x:=by
 cases y with
 |aC=>cases r;rfl|bl b=>cases r;rfl|int i=>obtain⟨t,rfl⟩:=r;rfl|str z=>obtain⟨t,rfl⟩:=r;rfl|_=>exact absurd (show false=true from f) Bool.false_ne_true
theorem sZ{x:V}:∀{xs:List V} {us:List Value},Vals xs us->xs.all fS=true->us.any (fR x)=xs.any λy=>iQ y x
 |_,_,.nil,_=>rfl|y::xs,u::us,.cons r t,f=>by rw[List.all_cons,Bool.and_eq_true]at f;rw[List.any_cons,List.any_cons,vw r f.1,sZ t f.2]
theorem tU{A:Around}{s:Shared}{x:V}{v:Value}(rx:RelV x v)(fx:fS x=true):∀{xs:List V} {us:List Value},Vals xs us->xs.all fS=true->∀u∈us,SeqAt.EqAt A s u v (fR x u)
 |_,_,.nil,_=>λu hu=>by cases hu
 |y::xs,u::us,.cons r t,f=>λu' hu=>by
  rw[List.all_cons,Bool.and_eq_true]at f;rcases List.mem_cons.mp hu with rfl|hu
  .rw[vw r f.1];exact vp r rx f.1 fx
  .exact tU rx fx t f.2 u' hu
def yD(x:V)(xs:List V):Bool:=xs.any λy=>iQ y x
def Cc(K:W.Frag)(neg:Bool):R2:=λx y H Q=>∃p xs,y = .ref p/\(bA K H p xs\/bG K H p xs)/\fS x=true/\xs.all fS=true/\Q (.bl (if neg then !yD x xs else yD x xs)) H
theorem Sd:aS X (compareOp .In) (Cc X.K false):=by
 intro pins s σ H x y v u Q I rx ry h;obtain⟨p,xs,rfl,hq,fx,fs,q⟩:=h;cases ry;rcases hq with hq|hq
 .obtain⟨its,r,pl,hz⟩:=I.list hq;refine SeqAt.in_listAt (fR x) pl.isList (λw hw=>tU rx fx r fs w (by simpa using hw)) ⟨.bl _,H,I,rfl,?_⟩;rw[show its.toArray.any (fR x)=its.any (fR x) by simp,sZ r fs];exact q
 .obtain⟨its,r,pl,hz⟩:=I.tuple hq;refine SeqAt.in_tupleAt (fR x) pl (λw hw=>tU rx fx r fs w (by simpa using hw)) ⟨.bl _,H,I,rfl,?_⟩;rw[show its.toArray.any (fR x)=its.any (fR x) by simp,sZ r fs];exact q
theorem Sn:aS X (compareOp .NotIn) (Cc X.K true):=by
 intro pins s σ H x y v u Q I rx ry h;obtain⟨p,xs,rfl,hq,fx,fs,q⟩:=h;cases ry;rcases hq with hq|hq
 .obtain⟨its,r,pl,hz⟩:=I.list hq;refine SeqAt.notIn_listAt (fR x) pl.isList (λw hw=>tU rx fx r fs w (by simpa using hw)) ⟨.bl _,H,I,rfl,?_⟩;rw[show its.toArray.any (fR x)=its.any (fR x) by simp,sZ r fs];exact q
 .obtain⟨its,r,pl,hz⟩:=I.tuple hq;refine SeqAt.notIn_tupleAt (fR x) pl (λw hw=>tU rx fx r fs w (by simpa using hw)) ⟨.bl _,H,I,rfl,?_⟩;rw[show its.toArray.any (fR x)=its.any (fR x) by simp,sZ r fs];exact q
theorem Jp:dA X (.builtin "len") (λxs H Q=>∃p ys,xs=[.ref p]/\(bA X.K H p ys\/bG X.K H p ys)/\Q (.int ys.length) H):=by
 intro pins s σ H xs us Q I r h;obtain⟨p,ys,rfl,hq,q⟩:=h;obtain⟨u,rfl,rx⟩:=eW r;cases rx;have hn:=pL;rcases hq with hq|hq
 .obtain⟨its,r',pl,hz⟩:=I.list hq;have hlen:=r'.length;exact Calls.call_len_list pl.isList (by simp only[List.size_toArray]<;>omega) ⟨.int ys.length,H,I.tok _,⟨s.toks+1,by rw[List.size_toArray,hlen]⟩,q⟩
 .obtain⟨its,r',pl,hz⟩:=I.tuple hq;have hlen:=r'.length;exact len_tuple pl (by simp only[List.size_toArray]<;>omega) ⟨.int ys.length,H,I.tok _,⟨s.toks+1,by rw[List.size_toArray,hlen]⟩,q⟩
theorem Jq:dA X (.builtin "len") (λxs H Q=>∃z,xs=[.str z]/\z.length<=sizeLine/\Q (.int z.length) H):=by intro pins s σ H xs us Q I r h;obtain⟨z,rfl,hz,q⟩:=h;obtain⟨u,rfl,t,rfl⟩:=eW r;have hn:=pL;exact len_str (by omega) ⟨.int z.length,H,I.tok _,⟨_,rfl⟩,q⟩
theorem dA.or{f:Value}{r r':List V->Hp->VK->Prop}(h:dA X f r)(h':dA X f r'):dA X f (λxs H Q=>r xs H Q\/r' xs H Q):=by
 intro pins s σ H xs us Q I rs q;rcases q with q|q
 .exact h pins s σ H xs us Q I rs q
 .exact h' pins s σ H xs us Q I rs q
theorem Jr:dA X (.type "list") (λxs H Q=>∃p ys,xs=[.ref p]/\(bA X.K H p ys\/bG X.K H p ys)/\∀l,H l=none->Q (.ref l) (aK H l (.lst ys))):=by
 intro pins s σ H xs us Q I r h;obtain⟨p,ys,rfl,hq,q⟩:=h;obtain⟨u,rfl,rx⟩:=eW r;cases rx;have fin:∀(its:List Value),Vals ys its->ys.length<=sizeLine->∀(h':Heap) (c':Nat),(∀b o',s.heap.get? b=some o'->h'.get? b=some o') ->
   h'.get? s.heap.objs.size=some { cls:=.type "list",dict:=none,data:=.seq its.toArray c',slots:=#[] }->EP X pins σ Q (.ref s.heap.objs.size) { s with heap:=h' }:=λits r' hz h' c' kp e=>
  ⟨.ref s.heap.objs.size,_,I.laid (t':=s.toks) kp (Nat.le_refl _) (show dD X.prog X.w _ h' _ (.lst ys) from⟨hz,its,c',r',e⟩),rfl,q _ (I.aI.fresh (Nat.le_refl _))⟩
 rcases hq with hq|hq
 .obtain⟨its,r',pl,hz⟩:=I.list hq;have hlen:=r'.length;obtain⟨o,ho,hc,n,hd⟩:=pl.isList;exact call_list_seq p (.inl rfl) ho hc hd (λh' c' kp e=>fin its r' hz h' c' kp e) (by simp only[List.size_toArray]<;>omega)
 .obtain⟨its,r',pl,hz⟩:=I.tuple hq;have hlen:=r'.length;obtain⟨o,ho,hc,n,hd⟩:=pl;exact call_list_seq p (.inr rfl) ho hc hd (λh' c' kp e=>fin its r' hz h' c' kp e) (by simp only[List.size_toArray]<;>omega)
theorem Jz:dA X (.type "tuple") (λxs H Q=>∃p ys,xs=[.ref p]/\((bA X.K H p ys/\∀l,H l=none->Q (.ref l) (aK H l (.tup ys)))\/(bG X.K H p ys/\Q (.ref p) H))):=by
 intro pins s σ H xs us Q I r h;obtain⟨p,ys,rfl,h⟩:=h;obtain⟨u,rfl,rx⟩:=eW r;cases rx;rcases h with⟨hq,q⟩|⟨hq,q⟩
 .obtain⟨its,r',pl,hz⟩:=I.list hq;have hlen:=r'.length;refine call_tuple_list pl.isList (λh' kp=>?_) (by simp only[List.size_toArray]<;>omega);have I1:Inv X pins σ H { s with heap:=h' }:=I.kept (t':=s.toks) kp;have I2:Inv X pins σ (aK H h'.objs.size (.tup ys)) { s with heap:=h'.push { cls:=.type "tuple",data:=.seq its.toArray } }:=
   I1.laid (t':=s.toks) (λb o e=>Heap.get?_push_of_some _ e) (Nat.le_refl _) (show dD X.prog X.w _ _ _ (.tup ys) from⟨hz,its,r',IsTup.new _ _⟩)
  exact⟨.ref h'.objs.size,_,I2,rfl,q _ (I1.aI.fresh (Nat.le_refl _))⟩
 .obtain⟨its,r',pl,hz⟩:=I.tuple hq;exact call_tuple_same pl ⟨.ref p,H,I,rfl,q⟩
def pj(K:W.Frag)(T:String)(x:V)(H:Hp):Prop:=match x with
 |.str _=>T="str"
 |.int _=>T="int"
 |.ref p=>(T="list"/\∃xs,bA K H p xs)\/(T="tuple"/\∃o,K.lookup p=some o/\o.cls = .type "tuple"/\o.dict=none) \/
  (T="dict"/\((∃aE,H p=some (.dK aE))\/∃aE,H p=some (.dT aE)))\/(T="set"/\∃S n,H p=some (.set S n))
 |_=>False
theorem Ff{pins:List (Addr×Obj)}{σ:St}{H:Hp}{s:Shared}{T:String}{x:V}{v:Value}(I:Inv X pins σ H s)(r:RelV x v)(ty:pj X.K T x H) :
  s.TypeIs v T/\∀a,v = .ref a->∃ob,s.heap.get? a=some ob/\ob.dict=none:=by
 cases x with
 |str z=>obtain⟨t,rfl⟩:=r;cases(show T="str" from ty);exact⟨typeIs_str s z t,λ_ e=>nomatch e⟩
 |int i=>obtain⟨t,rfl⟩:=r;cases(show T="int" from ty);exact⟨typeIs_int s i t,λ_ e=>nomatch e⟩
 |ref p=>
  cases r;rcases ty with⟨rfl,xs,hq⟩|⟨rfl,o,hk,hc,hd⟩|⟨rfl,hk⟩|⟨rfl,S,n,hk⟩
  .obtain⟨its,_,pl,_⟩:=I.list hq;refine⟨pl.isList.typeIs,λa e=>?_⟩;cases e;obtain⟨o,n,e,c,hd,_⟩:=pl;exact⟨o,e,hd⟩
  .refine⟨⟨o,I.cW p o hk,hc⟩,λa e=>?_⟩;cases e;exact⟨o,I.cW _ o hk,hd⟩
  .have z:∃o,s.heap.get? p=some o/\o.ExactDict:=by
    rcases hk with⟨aE,hk⟩|⟨aE,hk⟩
    .obtain⟨_,_,_,_,o,_,_,e,ex,_⟩:=I.aI p _ hk;exact⟨o,e,ex⟩
    .obtain⟨_,_,_,_,o,_,_,e,ex,_⟩:=I.aI p _ hk;exact⟨o,e,ex⟩
   obtain⟨o,e,ex⟩:=z;refine⟨⟨o,e,ex.1⟩,λa e2=>?_⟩;cases e2;exact⟨o,e,ex.2.1⟩
  .obtain⟨o,_,_,_,e,ex,_⟩:=I.aI p _ hk;refine⟨⟨o,e,ex.1⟩,λa e2=>?_⟩;cases e2;exact⟨o,e,ex.2.1⟩
 |_=>exact False.elim ty
def GP(K:W.Frag)(T:String)(r:V->List V->Hp->VK->Prop)(to:TE):TE:=λσ H Q=>to σ H λx H1=>pj K T x H1/\r x [] H1 Q
def GO(K:W.Frag)(T:String)(r:V->List V->Hp->VK->Prop)(to:TE)(t:TA):TE:=λσ H Q=>to σ H λx H1=>pj K T x H1/\t σ H1 λxs H2=>r x xs H2 Q
variable {o e:Expr}{es:List Expr}{to:TE}{t:TA}{name:Str}{apos cpos:Pos}{T id:String}{r:V->List V->Hp->VK->Prop}
theorem Ul(pa:PlainAttrs T) (slot:Slot T name id) (hty:typeOf (.builtin id)=pure (.type "method_descriptor")) (hm:iK X id r) (ho:PE X o to)
  (hbase:attributeBase o name X.env (eval o X.env)=eval o X.env:=by rfl) (hline:(apos.endLine==cpos.line)=true:=by rfl):PE X (.Call (.Attribute o name apos) [] [] cpos) (GP X.K T r to):=by
 intro pins s σ H Q I h;refine wpAny_Call_method0_late hbase hline (aJ (ho pins s σ H _ I h) λv s1 ⟨x,H1,I1,r1,ty,q1⟩=>?_);obtain⟨h1,h2⟩:=Ff I1 r1 ty;exact⟨T,id,pa,slot,hty,h1,h2,Calls.callWith_builtin rfl (PySem.evalArgs_none (hm pins s1 σ H1 x [] v [] Q I1 r1 .nil q1))⟩
theorem yV(pa:PlainAttrs T) (slot:Slot T name id) (hty:typeOf (.builtin id)=pure (.type "method_descriptor")) (hm:iK X id r) (ho:PE X o to) (ha:PA X (e::es) t)
  (hbase:attributeBase o name X.env (eval o X.env)=eval o X.env:=by rfl)
  (hfew:((backTo cpos (starEach (e::es) X.env)).all (λx=>!x.1)&&(backToKw cpos (keywordEach [] X.env)).all (λx=>x.1.isSome)
  &&decide ((e::es).length+([]:List Keyword).length+(if([]:List Keyword).isEmpty then 0 else 1)<30))=true:=by rfl)
  (hline:(apos.endLine==cpos.line)=true:=by rfl) (hs:starEach (e::es) X.env=(false,eval e X.env)::starEach es X.env:=by rfl) (hplain:(backTo cpos (starEach es X.env)).any (·.1)=false:=by rfl) :
  PE X (.Call (.Attribute o name apos) (e::es) [] cpos) (GO X.K T r to t):=by
 intro pins s σ H Q I h;refine wpAny_Call_method_late hbase hfew hline rfl (aJ (ho pins s σ H _ I h) λv s1 ⟨x,H1,I1,r1,ty,q1⟩=>?_);obtain⟨h1,h2⟩:=Ff I1 r1 ty;refine⟨T,id,pa,slot,hty,h1,h2,?_⟩;have hA:=ha cpos pins s1 σ H1 _ I1 q1;rw[hs]at hA ⊢;refine Calls.callWith_builtin (by show(false||(backTo cpos (starEach es X.env)).any (·.1))=false;rw[hplain]<;>rfl) (Calls.evalArgs_plain ?_);exact aJ hA λus s2 ⟨vs,H2,I2,r2,q2⟩=>hm pins s2 σ H2 x vs v us Q I2 r1 r2 q2
end
def Gz(X:Cx)(id:String)(r:V->List V->Hp->VK->Prop):Prop:=
 ∀(pins:List (Addr×Obj)) (s:Shared) (σ:St) (H:Hp) (x:V) (xs:List V) (v:Value) (us:List Value) (Q:VK),Inv X pins σ H s->RelV x v->Vals xs us->r x xs H Q ->
  wpAny (model X.prog X.w) X.A (call (.builtin id) (v::us)) (EP X pins σ Q) X.xe s
theorem Vals.one:∀{x:V} {us:List Value},Vals [x] us->∃u,us=[u]/\RelV x u
 |_,_,.cons r .nil=>⟨_,rfl,r⟩
theorem Vals.rep{xs:List V}{us:List Value}(h:Vals xs us):∀k:Nat,Vals (List.replicate k xs).flatten (List.replicate k us).flatten
 |0=>.nil
 |k+1=>by rw[List.replicate_succ,List.replicate_succ,List.flatten_cons,List.flatten_cons];exact Vals.append h (Vals.rep h k)
theorem wg(its:List Value):∀(k:Nat) (acc:List Value),
  List.foldl (λx1 x2=>x1++x2) acc.toArray (List.replicate k its.toArray)=(acc++(List.replicate k its).flatten).toArray
 |0,acc=>by simp
 |k+1,acc=>by
  have e:acc.toArray++its.toArray=(acc++its).toArray:=by simp
  have e2:(acc++its)++(List.replicate k its).flatten=acc++(List.replicate (k+1) its).flatten:=by rw[List.replicate_succ,List.flatten_cons,List.append_assoc]
  rw[<- e2,<- wg its k (acc++its),<- e,List.replicate_succ,List.foldl_cons]
section
variable {X:Cx}{pins:List (Addr×Obj)}{σ:St}{H:Hp}{s:Shared}{l b:Addr}{xs ys zs:List V}
theorem Inv.zi{its its':List Value}{n:Nat}{f:Array Value->Array Value}{t':Nat}(I:Inv X pins σ H s)(hH:H l=some (.lst xs))
  (e:s.heap.get? l=some { cls:=.type "list",data:=.seq its.toArray n }) (hf:f its.toArray=its'.toArray) (hv:Vals ys its') (hz:ys.length<=sizeLine) :
  Inv X pins σ (aK H l (.lst ys)) { s with heap:=s.heap.update l (Obj.mapSeq f),toks:=t' }:=by
 have q:=PySem.IsL.update e f;rw[hf]at q;refine I.write (x:=l) (e:=l) (by rw[hH];exact trivial) (.inl rfl) (λb' u hb hu=>(Heap.get?_update_other s.heap (Obj.mapSeq f) (Ne.symm hb)).trans hu) ⟨_,q⟩ ?_;exact⟨hz,its',_,hv,q⟩
theorem Inv.yx{its:List Value}{t':Nat}(I:Inv X pins σ H s)(hv:Vals ys its)(hz:ys.length<=sizeLine) :
  Inv X pins σ (aK H s.heap.objs.size (.lst ys)) { s with heap:=s.heap.push { cls:=.type "list",data:=.seq its.toArray },toks:=t' }:=
 I.laid (λ_ _ q=>Heap.get?_push_of_some _ q) (Nat.le_refl _) ⟨hz,its,0,hv,Heap.get?_push_size _ rfl⟩
theorem Inv.fresh(I:Inv X pins σ H s):H s.heap.objs.size=none:=I.aI.fresh (Nat.le_refl _)
theorem Inv.nI(I:Inv X pins σ H s)(hH:H l=some (.lst xs)):xs.length<=sizeLine/\∃(its:List Value) (n:Nat),Vals xs its/\xs.length=its.length/\s.heap.get? l=some { cls:=.type "list",data:=.seq its.toArray n }:=by obtain⟨z,its,n,r,e⟩:=I.aI l _ hH;exact⟨z,its,n,r,r.length,e⟩
theorem Rb{n:Nat}(h:n<=sizeLine):Builtin.List.listTooLong n=false:=by unfold Builtin.List.listTooLong;exact decide_eq_false (by omega)
end
section
variable {X:Cx}
def Bz:V->List V->Hp->VK->Prop:=λx vs H Q=>∃l xs y,x = .ref l/\vs=[y]/\H l=some (.lst xs)/\xs.length<sizeLine/\Q .aC (aK H l (.lst (xs++[y])))
theorem Qg:Gz X "list.append" Bz:=by intro pins s σ H x vs v us Q I rx rv h;obtain⟨l,xs,y,rfl,rfl,hH,hz,q⟩:=h;cases rx;obtain⟨u,rfl,ru⟩:=rv.one;obtain⟨z,its,n,r,hl,e⟩:=I.nI hH;refine call_meets F.slot_list_append ⟨_,e,rfl⟩ F.entry_list_append (F.args_list_append_2 _ _) (PySem.list_append l its.toArray n u (by rw[List.size_toArray];omega)) ⟨e,?_⟩;refine⟨.aC,_,I.zi (its':=its++[u]) hH e (by simp) (r.append (.cons ru .nil)) ?_,rfl,q⟩;rw[List.length_append,List.length_singleton];omega
def Ca:R2:=λx y H Q=>∃l b xs zs,x = .ref l/\y = .ref b/\H l=some (.lst xs)/\H b=some (.lst zs)/\xs.length+zs.length<=sizeLine/\∀p,H p=none->Q (.ref p) (aK H p (.lst (xs++zs)))
theorem Rr:aS X (binaryOp .Add) Ca:=by
 intro pins s σ H x y v u Q I rx ry h;obtain⟨l,b,xs,zs,rfl,rfl,hH,hB,hz,q⟩:=h;cases rx;cases ry;obtain⟨z,its,n,r,hl,e⟩:=I.nI hH;obtain⟨z2,its2,n2,r2,hl2,e2⟩:=I.nI hB;refine PySem.P.add_list e e2 ?_ (by rw[List.size_toArray,List.size_toArray];omega);have ea:its.toArray++its2.toArray=(its++its2).toArray:=by simp
 rw[ea];exact⟨.ref _,_,I.yx (t':=s.toks) (r.append r2) (by rw[List.length_append];omega),rfl,q _ I.fresh⟩
def DD:R2:=λx y H Q=>∃l k xs,x = .ref l/\y = .int k/\H l=some (.lst xs)/\-(2 ^ 63)<=k/\k<2 ^ 63/\xs.length*k.toNat<=sizeLine /\
 ∀p,H p=none->Q (.ref p) (aK H p (.lst (List.replicate k.toNat xs).flatten))
theorem Pj{α:Type}(xs:List α)(k:Nat):(List.replicate k xs).flatten.length=k*xs.length:=by
 induction k with
 |zero=>simp|succ k ih=>rw[List.replicate_succ,List.flatten_cons,List.length_append,ih,Nat.succ_mul,Nat.add_comm]
theorem Ss:aS X (binaryOp .Mult) DD:=by
 intro pins s σ H x y v u Q I rx ry h;obtain⟨l,k,xs,rfl,rfl,hH,h1,h2,hz,q⟩:=h;cases rx;obtain⟨t,rfl⟩:=ry;obtain⟨z,its,n,r,hl,e⟩:=I.nI hH;have hlen:its.toArray.size*k.toNat<=sizeLine:=by rw[List.size_toArray,<- hl];exact hz
 have hcap:¬its.toArray.size*k.toNat > (2 ^ 63-1) / 8:=by
  have:(sizeLine:Nat)<=(2 ^ 63-1) / 8:=by decide
  omega
 have hfit:¬(!Builtin.List.listFitsIndex k)=true:=by rw[fitsIndex_both h1 h2];exact Bool.false_ne_true
 have hlong:¬Builtin.List.listTooLong (its.toArray.size*k.toNat)=true:=by rw[Rb hlen];exact Bool.false_ne_true
 have hnew:List.foldl (λx1 x2=>x1++x2) #[] (List.replicate (if its.toArray.isEmpty=true then 0 else k.toNat) its.toArray)=(List.replicate k.toNat its).flatten.toArray:=by
  have f0:∀m:Nat,List.foldl (λx1 x2=>x1++x2) #[] (List.replicate m its.toArray)=(List.replicate m its).flatten.toArray:=λm=>by have:=wg its m [];rw[List.nil_append]at this;exact this
  rw[f0];cases its with
  |nil=>simp|cons a r'=>rw[if_neg (by simp)]
 refine wpAny_binaryOp_repeat_ref (T:="list") (U:="int") (by decide) ⟨_,e,rfl⟩ (λs'=>typeIs_int s' k t) noFill_list_mul F.fills_int_mul F.slot_int_rmul repeat_list F.slot_int_index.lookup
  (call_meets F.slot_int_rmul (typeIs_int s k t) F.entry_int_rmul (F.args_int_rmul_2 _ _) (int___rmul___int_list k t l its.toArray n)
   ⟨e,rfl,⟨_,e,rfl⟩,call_meets F.slot_list_mul ⟨_,e,rfl⟩ F.entry_list_mul (F.args_list_mul_2 _ _) (AutoListH.list___mul___list_int_3 l its.toArray n k t hfit hcap hlong) ⟨e,?_⟩⟩)
 rw[hnew];exact⟨.ref _,_,I.yx (t':=s.toks) (r.rep k.toNat) (by rw[Pj,Nat.mul_comm];exact hz),rfl,q _ I.fresh⟩
end
end L2
namespace Att
open PySem PySem.W PySem.Calls PyProof.Rows
theorem Nt{P:Params}{h:Heap}:∀(ns:List Int) (vs:List Value),WellAll P h vs (ns.map WData.int)->IntsAre vs ns:=by
 intro ns;induction ns with
 |nil=>intro vs w;rw[List.map_nil]at w;cases w;exact .nil
 |cons n ns ih=>
  intro vs w;rw[List.map_cons]at w;cases w with
  |cons a b=>cases a;exact .cons _ _ (ih _ b)
theorem EA{l:OpenLaw}{n:Nat}(hn:l.most=some n){P:Params}{h:Heap}{args:List WData}{vals:List Value}
  (hpre:l.row.toRowW.claim.pre args=true) (hwl:WellAll P h vals args) :
  ∃a vs ns,vals=[Value.ref a]/\args=[WData.list (ns.map WData.int)]/\h.get? a=some { cls:=.type "list",data:=.seq vs.toArray }/\IntsAre vs ns/\ns.length<=n:=by
 have hsh:WShape.hasAll [] args [.list .int]=true:=(pre_splitW hpre).1;have hc:l.pre.holds [] { args:=args }=true:=(pre_splitW hpre).2;obtain⟨d,r,rfl,h1,h2⟩:=hasAllW_cons hsh;obtain rfl:=hasAllW_nil h2;obtain⟨xs,rfl,h3⟩:=hasW_list h1;obtain⟨ns,rfl⟩:=items_int h3;have hlen:ns.length<=n:=by
  unfold OpenLaw.pre at hc;have h4:(WTm.not (.lt (.lit (.int (n:Int))) (.len (.arg 0)))).holds [] { args:=[.list (ns.map .int)] }=true:=by have h4:=(holds_andW hc).1;rw[hn]at h4;exact h4
  have h5:=condW_of h4 (w_not (w_lt w_lit (w_len_list (w_arg rfl))));rw[List.length_map]at h5;refine Nat.le_of_not_lt λq=>?_;have q':(n:Int)<((ns.length:Nat):Int):=by omega
  first
   | (rw[decide_eq_true q']at h5;exact absurd h5 (by decide))
   | (simp at h5;omega)
 cases hwl with
 |cons w1 w2=>
  cases w2;cases w1 with
  |list ho hall=>exact⟨_,_,ns,rfl,rfl,ho,Nt ns _ hall,hlen⟩
theorem Vv(l:OpenLaw)(args:List WData):l.row.toRowW.claim.post args (.bool true) args=true:=
 postW_of (r:=l.row.toRowW) (X:=(true==true))
  (show WShape.has [] (.bool true) .bool=true by first|rfl|decide|simp[WShape.has,WShape.arms,WShape.armsAll])
  (show(WTm.eq .res (.lit (.bool true))).value [] { args:=args,res:=some (.bool true),after:=args }=some (.bool (true==true)) from w_eq_bool (w_res rfl) w_lit) rfl
theorem Hl{l:OpenLaw}{n:Nat}{q:Program}{loose:List Str}{XP:(Str->Option Value)->Heap->Prop}{YP:World->Heap->Prop}{d:DefRec}
  (hn:l.most=some n) (hdf:d.params.defaults=[])
  (call:∀(w:World) (s₀ s₁:Shared) (mg mb:Str->Option Value) (fa:Addr) (o:Obj) (pm cd doc:Value) (a:Addr) (vs:List Value) (ns:List Int),
   Ground q loose [] XP w s₀ mg mb s₁.heap->YP w s₁.heap ->
   s₁.heap.get? fa=some o->o.data = .func (docDef d.name d.params d.body d.scope pm cd doc)->s₁.heap.CodeRec cd d.name->mg d.name=some (.ref fa) ->
   s₁.heap.get? a=some { cls:=.type "list",data:=.seq vs.toArray }->IntsAre vs ns->ns.length<=n->s₁.gens=#[] ->
   codeAny (model l.prog w) callerA (.call (.ref fa) ⟨[.ref a],[]⟩) (λr s'=>r = .ok (.ret (.bool true))/\OldK s₁.heap s'.heap/\s'.os=s₁.os/\AllBare s'.gens) s₁) :
  WalkO q loose XP YP l.row.toRowW d [] (λf vs=>PySem.call f vs):=by
 intro w s₀ s₁ mg mb G Y fa o pm cd doc dV kV ho hd hcd hD hmg hg args vals as hpre hlay hrd hwl hlo;obtain rfl:dV = .none:=Dflts.none hD hdf;obtain rfl:kV = .none:=Dflts.noKw hD;obtain⟨a,vs,ns,rfl,rfl,hobj,hints,hlen⟩:=EA hn hpre hwl;refine enter_call (codeAny_mono (call w s₀ s₁ mg mb fa o pm cd doc a vs ns G Y ho (fd_plain hd) hcd hmg hobj hints hlen hg) λr s' hq=>?_);obtain⟨rfl,h2,h3,h4⟩:=hq;exact⟨.inl ⟨.bool true,.bool true,[],rfl,λ_=>rfl,.bool true,Vv l _,λ_=>⟨List.Pairwise.nil,λ_ hm=>(nomatch hm)⟩⟩,h2,h3,h4⟩
end Att
namespace L2
open PySem PySem.Spec PyProof.Rows
theorem Fj:∀{vs:List Value} {ns:List Int},IntsAre vs ns->Vals (ns.map V.int) vs
 |_,_,.nil=>.nil
 |_,_,.cons n t h=>.cons ⟨t,rfl⟩ (Fj h)
def wO(H:Hp):Prop:=∀b,H b=none\/∃o xs,H b=some (.bO o (.lst xs))
theorem Pc{P:Program}{w:World}{K:W.Frag}{mg mb:Str->Option Value}{CX:gI}{k:Nat}{fa a:Addr}{fd:FuncData}{x:Str}{sp:Sp}{s₁:Shared}{vs:List Value}{ns:List Int}
  (KX:K.In s₁.heap) (hns:s₁.heap.Ns mainGlobals mg) (hb:s₁.heap.Ns builtinsNs mb) (hbb:∀x:Str,x≠"__name__"->mb x=bootBuiltins x) (hlim:s₁.heap.NoLimit) (hg:s₁.gens=#[])
  (ha:s₁.heap.get? a=some { cls:=.type "list",data:=.seq vs.toArray }) (hi:IntsAre vs ns) (hl:ns.length<=sizeLine) (hr:cM k callerA)
  (F:∀base:Heap,K.In base->base.Ns mainGlobals mg->dW P w K mg base CX k fa fd [x] sp) (hbind:∀(s:Shared) (u:Value),BindsTo s fd ⟨[u],[]⟩ [(x,u)])
  (hsp:∀H:Hp,wO H->bA K H a (ns.map V.int)->sp [.ref a] H (λv _=>v = .bl true) λ_ _ _=>False)
  (hCX:∀H e s',CX [] H s₁ (λ_ _ _=>False) e s'->False) :
  codeAny (model P w) callerA (.call (.ref fa) ⟨[.ref a],[]⟩) (λr s'=>r = .ok (.ret (.bool true))/\OldK s₁.heap s'.heap/\s'.os=s₁.os/\AllBare s'.gens) s₁:=by
 have rv:=Fj hi;have lenV:=hi.length;have core:∀H:Hp,wO H->bA K H a (ns.map V.int)->cJ P w H s₁.heap->(∀b,H b≠none->b=a)->(H a≠none->K.lookup a=none) ->
   codeAny (model P w) callerA (.call (.ref fa) ⟨[.ref a],[]⟩) (λr s'=>r = .ok (.ret (.bool true))/\OldK s₁.heap s'.heap/\s'.os=s₁.os/\AllBare s'.gens) s₁:=by
  intro H hO hS aI hA hK;have base_of:∀{b:Addr} {o:Obj},s₁.heap.get? b=some o->H b=none->(lM s₁.heap H).get? b=some o:=λe n=>Nc e n;have noA:∀{b:Addr} {o:Obj} {es:Array DictEntry} {ep:Nat},s₁.heap.get? b=some o->o.data = .dict es ep->H b=none:=λ{b o es ep} e d=>by
   cases q:H b with
   |none=>rfl|some u=>have e':b=a:=hA b (by rw[q];simp);subst e';rw[ha]at e;cases e;have d':Data.seq vs.toArray _=Data.dict es ep:=d;cases d'
  have nsK:∀{b:Addr} {m:Str->Option Value},s₁.heap.Ns b m->(lM s₁.heap H).Ns b m:=λ{b m} ⟨o,es,ep,e,d,r⟩=>⟨o,es,ep,base_of e (noA e d),d,r⟩;have hKb:K.In (lM s₁.heap H):=λb o e=>base_of (KX b o e) (by
   cases q:H b with
   |none=>rfl|some u=>have e':b=a:=hA b (by rw[q];simp);subst e';rw[hK (by rw[q];simp)]at e;cases e)
  have hM:Mod K mg (lM s₁.heap H):=⟨hKb,nsK hns,⟨mb,nsK hb,hbb⟩,let ⟨mc,h1,h2⟩:=hlim;⟨mc,nsK h1,h2⟩⟩;have e0:oH P w K mg (lM s₁.heap H) callerA [] s₁ H:=⟨rfl,hM,λb o e=>Rg e,Nat.le_of_eq (Nd _ _),trivial,λb hb=>absurd (show b∈([]:List Addr) from hb) (by simp),aI,.of_eq hg⟩;refine codeAny_mono ((F _ hKb (nsK hns)).run callerA [] s₁ H ⟨[.ref a],[]⟩ [.ref a] [.ref a] _ _ hr e0 (hbind s₁ (.ref a)) (.cons rfl .nil) (hsp H hO hS)) λr s' h=>?_;cases r with
  |error e=>exact(hCX H e s' h).elim|ok fl=>
   cases fl with
   |next=>exact False.elim h|brk=>exact False.elim h|cont=>exact False.elim h|ret u=>
    obtain⟨v,H',os,bare,un,hok',r',q⟩:=h;have q':v = .bl true:=q;subst q';obtain rfl:u=Value.bool true:=r';refine⟨rfl,OldK.of_keep λb o e=>?_,os,bare⟩;cases q:H b with
    |none=>exact un.keep b o e q (by intro z;exact absurd (show b∈([]:List Addr) from z) (by simp)) (by simp)|some u=>
     rcases hO b with z|⟨ob,xs,z⟩
     .rw[q]at z;cases z
     .have z2:=un.fT b ob _ z;obtain⟨e1,_⟩:=aI b _ z;obtain⟨e2,_⟩:=hok' b _ z2;rw[e]at e1;cases e1;exact e2
 cases hk:K.lookup a with
 |some o=>have e:=KX a o hk;rw[ha]at e;cases e;refine core (λ_=>none) (λ_=>.inl rfl) (.inr ⟨_,vs.toArray,_,hk,rfl,rfl,rfl,by rw[List.size_toArray,lenV];exact hl,by simpa using rv⟩) (λb u z=>by have z':(none:Option HO)=some u:=z;cases z') (λb z=>absurd rfl z) λz=>absurd rfl z
 |none=>
  refine core (λb=>if b=a then some (.bO { cls:=.type "list",data:=.seq vs.toArray } (.lst (ns.map V.int))) else none) (λb=>?_) (.inl (.inr ⟨{ cls:=.type "list",data:=.seq vs.toArray },if_pos rfl⟩)) (λb u z=>?_) (λb z=>?_) λ_=>hk
  .by_cases hb:b=a
   .exact .inr ⟨_,_,if_pos hb⟩
   .exact .inl (if_neg hb)
  .by_cases hb:b=a
   .have z':=(if_pos hb).symm.trans z;cases z';subst hb;exact⟨ha,by rw[List.length_map];exact hl,vs,_,rv,ha⟩
   .have z':=(if_neg hb).symm.trans z;cases z'
  .by_cases hb:b=a
   .exact hb
   .exact absurd (if_neg hb) z
theorem JK{l:W.OpenLaw}{n k:Nat}{q:Program}{loose:List Str}{XP:(Str->Option Value)->Heap->Prop}{YP:World->Heap->Prop}{d:DefRec}{K:Params->W.Frag}{CX:World->gI}{sp:World->Sp}{x:Str}
  (hn:l.most=some n) (hn2:n<=sizeLine) (hdf:d.params.defaults=[]) (hr:cM k callerA)
  (hY:∀(w:World) (h:Heap),YP w h->(K w.params).In h)
  (F:∀(w:World) (mg:Str->Option Value) (fa:Addr) (h:Heap),(K w.params).In h->h.Ns mainGlobals mg->mg d.name=some (.ref fa) ->
   ∃fd:FuncData,(∀(s:Shared) (u:Value),BindsTo s fd ⟨[u],[]⟩ [(x,u)]) /\
    ∀base:Heap,(K w.params).In base->base.Ns mainGlobals mg->dW l.prog w (K w.params) mg base (CX w) k fa fd [x] (sp w))
  (hsp:∀(w:World) (H:Hp) (a:Addr) (ns:List Int),ns.length<=n->wO H->bA (K w.params) H a (ns.map V.int)->sp w [.ref a] H (λv _=>v = .bl true) λ_ _ _=>False)
  (hCX:∀(w:World) (H:Hp) (s:Shared) (e:Value) (s':Shared),CX w [] H s (λ_ _ _=>False) e s'->False) :
  W.WalkO q loose XP YP l.row.toRowW d [] (λf vs=>PySem.call f vs):=by
 refine Att.Hl hn hdf λw s₀ s₁ mg mb fa o pm cd doc a vs ns G Y ho hd hcd hmg hobj hints hlen hg=>?_;have KX:=hY w _ Y;obtain⟨fd,hb,hF⟩:=F w mg fa _ KX G.T.g hmg;exact Pc KX G.T.g G.T.b G.T.builtins G.T.nolimit hg hobj hints (Nat.le_trans hlen hn2) hr hF hb (λH hO hS=>hsp w H a ns hlen hO hS) λH e s'=>hCX w H s₁ e s'
def xM(s:Stmt):Arguments:=match s with
 |.FunctionDef _ a _ _ _ _ _ _ _ _=>a
 |_=>{ posonlyargs:=[],args:=[],vararg:=none,kwonlyargs:=[],kw_defaults:=[],kwarg:=none,defaults:=[] }
def mS(s:Stmt):List Stmt:=match s with
 |.FunctionDef _ _ b _ _ _ _ _ _ _=>b
 |_=>[]
def iO(s:Stmt):Scope:=match s with
 |.FunctionDef _ _ _ _ _ _ sc _ _ _=>sc
 |_=>{ kind:=.function,names:=[],isGenerator:=false,isCoroutine:=false }
abbrev E0:XK:=λ_ _ _=>False
def DK(h h':Heap):Prop:=∀(b:Nat) (o:Obj),h.objs[b]?=some o->∃u,h'.objs[b]?=some u/\u.dict=o.dict
theorem DK.refl(h:Heap):DK h h:=λ_ o e=>⟨o,e,rfl⟩
theorem DK.trans{h h1 h2:Heap}(x:DK h h1)(y:DK h1 h2):DK h h2:=λb o e=>let ⟨u,e1,d1⟩:=x b o e;let ⟨v,e2,d2⟩:=y b u e1;⟨v,e2,d2.trans d1⟩
theorem DK.push(h:Heap)(o:Obj):DK h (h.push o):=λb u e=>
 ⟨u,by show(h.objs.push o)[b]?=some u;rw[Array.getElem?_push_lt (Array.getElem?_eq_some_iff.mp e).1];exact congrArg some (Array.getElem?_eq_some_iff.mp e).2,rfl⟩
theorem DK.update(h:Heap)(a:Addr){f:Obj->Obj}(hf:∀o,(f o).dict=o.dict):DK h (h.update a f):=λb u e=>by
 show∃v,(h.objs.modify a f)[b]?=some v/\_;rw[Array.getElem?_modify,e];by_cases q:a=b
 .rw[if_pos q];exact⟨_,rfl,hf u⟩
 .rw[if_neg q];exact⟨_,rfl,rfl⟩
theorem xt{h:Heap}{a:Addr}{o:Obj}(e:h.get? a=some o):h.objs[a]?=some o:=by
 unfold Heap.get? at e;split at e
 .cases e
 .exact e
theorem DK.at{h h':Heap}(x:DK h h'){a:Addr}{o u:Obj}(e:h.get? a=some o)(e':h'.get? a=some u):u.dict=o.dict:=by obtain⟨v,e1,d⟩:=x a o (xt e);rw[xt e']at e1;cases e1;exact d
def Tm{α:Type}:Sem α->Prop
 |.rule _ k=>Tm (k ())
 |.at _ k=>Tm (k ())
 |.load _ _ k=>∀o,Tm (k o)
 |.update _ _ f k=>(∀o,(f o).dict=o.dict)/\Tm (k ())
 |.loadIfAlive _ k=>∀o,Tm (k o)
 |.point _ k=>Tm (k ())
 |.alloc _ k=>∀a,Tm (k a)
 |.fresh k=>∀t,Tm (k t)
 |.ask k=>∀x,Tm (k x)
 |.handled _ k=>∀x,Tm (k x)
 |.stack k=>∀l,Tm (k l)
 |.thread k=>Tm (k 0)
 |.choose .. | .os .. | .call .. | .genState .. | .newGen .. | .resume ..=>False
 |_=>True
theorem IC{α:Type}{M:Model}{Γ:PySem.Ctx}{h0:Heap}(t:Sem α):∀{Q:α->Pos->Shared->Prop} {E:Value->Pos->Shared->Prop} {p:Pos} {s:Shared},Tm t->DK h0 s.heap->Sem.wp M Γ t Q E p s ->
  Sem.wp M Γ t (λa p' s'=>Q a p' s'/\DK h0 s'.heap) (λe p' s'=>E e p' s'/\DK h0 s'.heap) p s:=by
 induction t with
 |pure a=>intro Q E p s _ d w;exact⟨w,d⟩|raise e=>intro Q E p s _ d w;exact⟨w,d⟩|rule t k ih=>intro Q E p s m d w;exact ih () m d w|«at» q k ih=>intro Q E p s m d w;exact ih () m d w|load a q k ih=>intro Q E p s m d w;obtain⟨o,e,w⟩:=w;exact⟨o,e,ih o (m o) d w⟩|update a q f k ih=>intro Q E p s m d w;exact⟨w.1,ih () m.2 (d.trans (DK.update _ a m.1)) w.2⟩|loadIfAlive a k ih=>intro Q E p s m d w;exact ih _ (m _) d w|point l k ih=>intro Q E p s m d w;exact ih () m d w|alloc o k ih=>intro Q E p s m d w;exact ih _ (m _) (d.trans (DK.push _ o)) w|fresh k ih=>intro Q E p s m d w;exact ih _ (m _) d w|ask k ih=>intro Q E p s m d w;exact ih _ (m _) d w|handled o k ih=>intro Q E p s m d w;exact ih _ (m _) d w|stack k ih=>intro Q E p s m d w;exact ih _ (m _) d w|thread k ih=>intro Q E p s m d w;exact ih _ m d w|choose _ _ _ _=>intro Q E p s m;exact m.elim|os _ _ _ _=>intro Q E p s m;exact m.elim|call _ _ _ _ _ _=>intro Q E p s m;exact m.elim|genState _ _ _=>intro Q E p s m;exact m.elim|newGen _ _ _=>intro Q E p s m;exact m.elim|resume _ _ _ _ _=>intro Q E p s m;exact m.elim|_=>intro Q E p s _ _ w;exact False.elim w
theorem IA{α:Type}{M:Model}{A:Around}{t:Sem α}{Q:α->Shared->Prop}{E:Value->Shared->Prop}{s:Shared}(m:Tm t)(w:wpAny M A t Q E s):wpAny M A t (λa s'=>Q a s'/\DK s.heap s'.heap) (λe s'=>E e s'/\DK s.heap s'.heap) s:=
 λΓ p hΓ=>IC t m (DK.refl _) (w Γ p hΓ)
theorem eV{α β:Type}{m:Sem α}{f:α->Sem β}(h:Tm m)(hf:∀a,Tm (f a)):Tm (m>>=f):=by
 show Tm (m.bind f);induction m with
 |pure a=>exact hf a|rule t k ih=>exact ih () h|«at» q k ih=>exact ih () h|load a q k ih=>exact λo=>ih o (h o)|update a q g k ih=>exact⟨h.1,ih () h.2⟩|loadIfAlive a k ih=>exact λo=>ih o (h o)|point l k ih=>exact ih () h|alloc o k ih=>exact λo=>ih o (h o)|fresh k ih=>exact λo=>ih o (h o)|ask k ih=>exact λo=>ih o (h o)|handled o k ih=>exact λo=>ih o (h o)|stack k ih=>exact λo=>ih o (h o)|thread k ih=>exact ih 0 h|choose _ _ _ _=>exact h.elim|os _ _ _ _=>exact h.elim|call _ _ _ _ _ _=>exact h.elim|genState _ _ _=>exact h.elim|newGen _ _ _=>exact h.elim|resume _ _ _ _ _=>exact h.elim|_=>exact True.intro
theorem br(v:Value)(i:Nat):Tm (field v i):=by
 unfold field fieldsOf;refine eV ?_ λa=>?_
 .cases v with
  |ref a=>refine λo=>?_;dsimp only[Sem.bind];split<;>exact True.intro
  |_=>exact True.intro
 .split<;>exact True.intro
theorem ot(v x:Value)(i:Nat):Tm (setField v i x):=by
 unfold setField updateField;cases v with
 |ref a=>
  refine λo=>?_;show Tm (match o.data with | .fields vs=>_|_=>_);split
  .split
   .exact⟨λo=>by unfold Obj.mapFields;split<;>rfl,True.intro⟩
   .exact True.intro
  .exact True.intro
 |_=>exact True.intro
theorem ou(e:Value)(f:Option Addr):Tm (setFlight e f):=by
 unfold setFlight;refine eV (br _ _) λt=>?_;split
 .exact ot _ _ _
 .exact True.intro
theorem Eu:∀l:List Env,Tm (readyFrames l)
 |[]=>True.intro
 |env::outer=>by
  unfold readyFrames;split
  .refine λo=>?_;show Tm (if _ then _ else _);split
   .exact True.intro
   .refine eV ?_ λb=>eV ?_ λv=>?_
    .unfold behindIsImport;split
     .exact True.intro
     .split
      .exact True.intro
      .exact eV (br _ _) λ_=>True.intro
    .unfold keptBack;split
     .split
      .exact True.intro
      .exact eV (λ_=>True.intro) λ_=>True.intro
     .exact True.intro
    .exact⟨λ_=>rfl,Eu outer⟩
  .exact True.intro
theorem IB(env:Env):Tm (PySem.frameOf env):=by
 unfold PySem.frameOf frameEnvs;refine eV (eV (λ_=>True.intro) λ_=>True.intro) λl=>eV ?_ λr=>?_
 .unfold frameObject;split
  .exact True.intro
  .exact eV (Eu _) λ_=>True.intro
 .split<;>exact True.intro
theorem Et(e:Value)(env:Env):Tm (noteFrame e env):=by
 have last:∀(f:Addr) (head:Value),Tm (do setField e 1 (<- EntryCells.newEntry head (<- PySem.frameOf env) .none (rawInt f) .none (<- entryPlaceOf f (head != .none)))):=λf head=>by
  refine eV (IB env) λa=>eV (λl=>?_) λpl=>eV ?_ λb=>ot _ _ _
  .dsimp only[Sem.bind];split<;>exact True.intro
  .unfold EntryCells.newEntry newFields newObj;dsimp only;split
   .split
    .exact True.intro
    .exact λa=>True.intro
   .split
    .exact True.intro
    .exact λa=>True.intro
 unfold noteFrame;split
 .refine eV (br _ _) λhead=>?_;split
  .refine eV (br _ _) λx=>?_;split
   .exact True.intro
   .exact eV (ot _ _ _) λ_=>last _ _
  .exact last _ _
 .exact True.intro
theorem Es(env:Env)(e:Value):Tm (leaving env e):=eV (Et e env) λ_=>ou e none
def dM(a:Addr)(dx:Option Addr)(h:Heap):Prop:=∀d,dx=some d->∃ob,h.get? a=some ob/\ob.dict=some d
theorem dM.none{a:Addr}{h:Heap}:dM a none h:=λ_ e=>by cases e
theorem dM.of{a:Addr}{dx:Option Addr}{h h':Heap}(x:dM a dx h)(k:DK h h')(e:∃ob,h'.get? a=some ob):dM a dx h':=λd q=>let ⟨_,e1,d1⟩:=x d q;let ⟨ob,e2⟩:=e;⟨ob,e2,(k.at e1 e2).trans d1⟩
section
variable {M:Model}{A:Around}{E:Value->Shared->Prop}{s:Shared}{base:Heap}{env:Env}{outer l:List Env}{L e:Addr}{cls a0:Value}{dx:Option Addr}{Q:Unit->Shared->Prop}
theorem tG{t:Sem Unit}{Z:Heap->Prop}(m:Tm t)(hd:dM e dx s.heap)(ht:∀h',Z h'->∃ob,h'.get? e=some ob)
  (w:wpAny M A t (λ_ s'=>∃h',s'={ s with heap:=h' }/\Z h') (λ_ _=>False) s) (hQ:∀h',Z h'->dM e dx h'->Q () { s with heap:=h' }):wpAny M A t Q E s:=
 wpAny_mono (IA m w) (λ_ s' ⟨⟨h',q,z⟩,k⟩=>by subst q;exact hQ h' z (hd.of k (ht h' z))) λ_ _ z=>z.1.elim
theorem bo{h':Heap}(f:Heap.FlyingW base l e cls a0 h'):∃ob,h'.get? e=some ob:=let ⟨ob,q,_⟩:=f.there;⟨ob,q⟩
theorem Ph(hfr:A.frames=some (env::outer))(hf:env.frame=some L)(fl:Heap.FlyingW base (env::outer) e cls a0 s.heap)(hd:dM e dx s.heap)
  (hQ:∀h',Heap.FlyingW base outer e cls a0 h'->s.heap.UpToSlots h'->dM e dx h'->Q () { s with heap:=h' }):wpAny M A (leaving env (.ref e)) Q E s:=
 tG (Z:=λh'=>Heap.FlyingW base outer e cls a0 h'/\s.heap.UpToSlots h') (Es _ _) hd (λ_ z=>bo z.1) (wpAny_leaves_onW hfr hf fl λh' f u=>⟨h',rfl,f,u⟩) λh' z d=>hQ h' z.1 z.2 d
theorem Pn(hfr:A.frames=some (env::outer))(hf:env.frame=some L)(fl:Heap.FlyingW base (env::outer) e cls a0 s.heap)(hd:dM e dx s.heap)
  (hQ:∀h',Heap.HeldW base (env::outer) e cls a0 L h'->s.heap.UpToSlots h'->dM e dx h'->Q () { s with heap:=h' }):wpAny M A (noteFrame (.ref e) env) Q E s:=
 tG (Z:=λh'=>Heap.HeldW base (env::outer) e cls a0 L h'/\s.heap.UpToSlots h') (Et _ _) hd (λ_ z=>let ⟨ob,q,_⟩:=z.1.there;⟨ob,q⟩) (wpAny_looks_onW hfr hf fl λh' f u=>⟨h',rfl,f,u⟩) λh' z d=>hQ h' z.1 z.2 d
theorem Pa(fl:Heap.HeldW base l e cls a0 L s.heap)(hd:dM e dx s.heap)(hQ:∀h',Heap.FlyingW base l e cls a0 h'->s.heap.UpToSlots h'->dM e dx h'->Q () { s with heap:=h' }):wpAny M A (setFlight (.ref e) none) Q E s:=
 tG (Z:=λh'=>Heap.FlyingW base l e cls a0 h'/\s.heap.UpToSlots h') (ou _ _) hd (λ_ z=>bo z.1) (wpAny_landsW fl λh' f u=>⟨h',rfl,f,u⟩) λh' z d=>hQ h' z.1 z.2 d
theorem yr(fl:Heap.FlyingW base l e cls a0 s.heap)(hd:dM e dx s.heap)(hQ:∀h',Heap.FlyingW base l e cls a0 h'->s.heap.UpToSlots h'->dM e dx h'->Q () { s with heap:=h' }):wpAny M A (setFlight (.ref e) none) Q E s:=
 tG (Z:=λh'=>Heap.FlyingW base l e cls a0 h'/\s.heap.UpToSlots h') (ou _ _) hd (λ_ z=>bo z.1) (lands_againW fl λh' f u=>⟨h',rfl,f,u⟩) λh' z d=>hQ h' z.1 z.2 d
end
theorem dD.get{P:Program}{w:World}{H:Hp}{h:Heap}{a:Addr}{o:HO}(x:dD P w H h a o):∃ob,h.get? a=some ob:=by
 cases o with
 |lst xs=>obtain⟨_,_,_,_,e⟩:=x;exact⟨_,e⟩|tup xs=>obtain⟨_,_,_,ob,e,_⟩:=x;exact⟨_,e⟩|dK aE=>obtain⟨_,_,_,_,o,_,_,e,_⟩:=x;exact⟨_,e⟩|dT aE=>obtain⟨_,_,_,_,o,_,_,e,_⟩:=x;exact⟨_,e⟩|set S n=>obtain⟨o,_,_,_,e,_⟩:=x;exact⟨_,e⟩|ins C dx fs=>obtain⟨_,_,_,e,_⟩:=x;exact⟨_,e⟩|own y=>exact x|xd fs=>obtain⟨_,⟨_,_,_,e,_⟩,_⟩:=x;exact⟨_,e⟩|ak lo hi=>obtain⟨_,_,_,e⟩:=x;exact⟨_,e⟩|bO ob u=>obtain⟨e,_⟩:=x;exact⟨_,e⟩|nV ps=>exact⟨_,show h.get? a=some _ from x⟩|met f y=>exact⟨_,show h.get? a=some _ from x⟩|ext φ=>obtain⟨_,e,_⟩:=x;exact e
def wJ(B:Heap)(fs:List Addr)(h0:Heap)(H':Hp)(h:Heap):Prop:=∀b o,h.get? b=some o->b∉fs->((∃u,h0.get? b=some u)\/H' b≠none)->B.get? b=some o
def cN(P:Program)(w:World):gI:=λouter H s E e s'=>
 ∃(a:Addr) (cls:Value) (H':Hp) (B:Heap) (a0:Value) (dx:Option Addr),e = .ref a/\s'.os=s.os/\AllBare s'.gens/\Un (bN outer) [] H H' s.heap s'.heap/\cJ P w H' s'.heap /\
  Heap.FlyingW B outer a cls a0 s'.heap/\wJ B (bN outer) s.heap H' s'.heap/\dM a dx s'.heap/\E cls dx H'
theorem xK{P:Program}{w:World}{outer:List Env}{H:Hp}{s s':Shared}{e:Value}(h:cN P w outer H s (λ_ _ _=>False) e s'):False:=
 let ⟨_,_,_,_,_,_,_,_,_,_,_,_,_,_,z⟩:=h;z
theorem cJ.dQ{P:Program}{w:World}{H':Hp}{h h' h0 B:Heap}{fs:List Addr}(x:cJ P w H' h)(c:wJ B fs h0 H' h)(k:B.StaysIn h')(nf:∀b∈fs,H' b=none):cJ P w H' h':=λa o e=>
 (x a o e).iY (λb u hb q=>by
  have ht:H' b≠none:=by
   rcases hb with rfl|hb
   .rw[e];intro z;cases z
   .rw[hb];intro z;cases z
  exact k b u (c b u q (λz=>ht (nf b z)) (.inr ht))) (λ_ q=>q) λ_ _ q=>q
section
variable {X:Cx}{pins:List (Addr×Obj)}{σ:St}{H1:Hp}{s1 s':Shared}{E:XK}{e:Value}
theorem Mk(I:Inv X pins σ H1 s1)(hx:X.ex=[])(hs:X.stack=X.env::X.outer)(hf:X.env.frame=some X.env.locals)(h:cN X.prog X.w X.stack H1 s1 E e s'){M:Model}{E':Value->Shared->Prop} :
  wpAny M X.A (leaving X.env e) (λ_ s''=>cN X.prog X.w X.outer X.H₀ X.s₀ E e s'') E' s':=by
 obtain⟨a,cls,H',B,a0,dx,rfl,os,bare,un,aI,dQ,calm,hdx,q⟩:=h;have hfr:X.A.frames=some (X.env::X.outer):=by rw[<- hs];exact I.ok.frames
 rw[hs]at dQ;refine Ph hfr hf dQ hdx λh' fly' up hdx'=>?_;have nin:∀b o,X.s₀.heap.get? b=some o->b≠X.env.locals:=λb o e z=>by have:=Heap.lt_size e;rw[z]at this;exact absurd (Nat.lt_of_lt_of_le this I.ok.above) (Nat.lt_irrefl _)
 have fst:∀b,b∈bN X.stack->b=X.env.locals\/b∈X.fs:=λb hb=>List.mem_cons.mp (I.vR b hb);have nst:∀b o,X.s₀.heap.get? b=some o->b∉X.fs->b∉bN X.stack:=λb o e n z=>by
  rcases fst b z with z|z
  .exact nin b o e z
  .exact n z
 have sub:∀b∈X.fs,b∈bN X.stack:=λb hb=>by rw[hs];unfold bN;rw[List.filterMap_cons,hf];exact List.mem_cons_of_mem _ hb
 have nx:∀b:Addr,b∉X.ex:=λb z=>by rw[hx]at z;cases z
 have n0:∀b:Addr,b∉([]:List Addr):=λb z=>by cases z
 have nf:∀b∈bN X.stack,H' b=none:=λb hb=>by obtain⟨_,o,ho,_⟩:=I.stack.mem hb;exact un.free b o ho (I.sL b hb) (n0 b)
 have old:∀b o,X.s₀.heap.get? b=some o->∃u,s1.heap.get? b=some u:=λb o e=>I.base.there b o e (nx b);have inB:∀b o o',X.s₀.heap.get? b=some o->b∉X.fs->s'.heap.get? b=some o'->B.get? b=some o':=λb o o' e n e'=>calm b o' e' (nst b o e n) (.inl (old b o e));have slots:∀b∈X.fs,∀o,s'.heap.get? b=some o->∃sl,h'.get? b=some { o with slots:=sl }:=λb hb o e=>by obtain⟨_,o',ho,hd⟩:=dQ.2.2.1.mem (by rw[<- hs];exact sub b hb);rw[e]at ho;cases ho;exact up b o e hd
 refine⟨a,cls,H',B,a0,dx,rfl,os.trans I.os,bare,⟨λb o e n hb _=>?_,λb o e n hb _=>?_,λb o e n _=>?_,λb o e _=>?_,λb xs z=>un.gQ b xs (I.base.gQ b xs z),λb o u z=>un.fT b o u (I.base.fT b o u z),λb ps z=>?_⟩,aI.dQ calm fly'.1 nf,fly',λb o e n w=>?_,hdx',q⟩
 .have e1:=I.base.keep b o e n hb (nx b);have e2:=un.keep b o e1 (I.base.free b o e n (nx b)) (nst b o e hb) (n0 b);exact fly'.1 b o (inB b o o e hb e2)
 .obtain⟨sl,e1⟩:=I.base.slot b o e n hb (nx b);obtain⟨sl2,e2⟩:=un.slot b _ e1 (I.base.free b o e n (nx b)) (sub b hb) (n0 b);obtain⟨sl3,e3⟩:=slots b hb _ e2;exact⟨sl3,e3⟩
 .obtain⟨u,e1⟩:=old b o e;exact un.free b u e1 (I.base.free b o e n (nx b)) (n0 b)
 .obtain⟨u,e1⟩:=old b o e;obtain⟨u2,e2⟩:=un.there b u e1 (n0 b);by_cases hb:b∈X.fs
  .obtain⟨sl,e3⟩:=slots b hb u2 e2;exact⟨_,e3⟩
  .exact⟨u2,fly'.1 b u2 (inB b o u2 e hb e2)⟩
 .obtain⟨m1,e1⟩:=I.base.gP b ps z;obtain⟨m2,e2⟩:=un.gP b _ e1;exact⟨m1++m2,by rw[e2,Array.append_assoc]⟩
 .have:∃o',s'.heap.get? b=some o'/\B.get? b=some o':=by
   rcases w with⟨u,w⟩|w
   .obtain⟨u1,e1⟩:=old b u w;obtain⟨u2,e2⟩:=un.there b u1 e1 (n0 b);exact⟨u2,e2,inB b u u2 w n e2⟩
   .cases hh:H' b with
    |none=>exact absurd hh w|some y=>obtain⟨u2,e2⟩:=(aI b y hh).get;exact⟨u2,e2,calm b u2 e2 (λz=>w (nf b z)) (.inr w)⟩
  obtain⟨o',_,e2⟩:=this;have q2:=fly'.1 b o' e2;rw[e]at q2;cases q2;exact e2
end
theorem Uj{P:Program}{w:World}{K:W.Frag}{mg:Str->Option Value}{base:Heap}{N:List Str}{qual:Str}{scope:Scope}{f:Addr}{cd:Value}{A:Around}{outer:List Env}{s:Shared}{H:Hp}{E:XK} :
 sY (cN P w) (jZ (cN P w) P w K mg base N qual scope f cd A outer s H E) E:=λpins σ H1 s1 e s' I h=>Mk I rfl rfl rfl h
section
variable {X:Cx}{pins:List (Addr×Obj)}{σ:St}{H:Hp}{s:Shared}{E:XK}{e:Addr}{oe:Obj}{h1:Heap}{cls a0:Value}{vs:List Value}{ws:Array Value}{dx:Option Addr}
theorem wc(I:Inv X pins σ H s)(hx:X.ex=[])(hs:X.stack=X.env::X.outer)(hf:X.env.frame=some X.env.locals)(he:s.heap.get? e=some oe)(hc:oe.cls=cls)(hdt:oe.data = .fields ws)(h1:ws[1]?=some .none)(h0:ws[0]?=some a0)
  (hd:dM e dx s.heap) (hH:H e=none) (hn:X.s₀.heap.get? e=none) (q:E cls dx H) {M:Model} {E':Value->Shared->Prop} :
  wpAny M X.A (leaving X.env (.ref e)) (λ_ s''=>cN X.prog X.w X.outer X.H₀ X.s₀ E (.ref e) s'') E' s:=by
 subst hc;have hfr:X.A.frames=some (X.env::X.outer):=by rw[<- hs];exact I.ok.frames
 have hin:∀env∈(X.env::X.outer),∀b,env.frame=some b->b∈e::bN X.stack:=λenv he b hb=>by rw[hs];exact List.mem_cons_of_mem _ (List.mem_filterMap.mpr ⟨env,he,hb⟩)
 have fH:=I.stack;rw[hs]at fH;have hB:∀b o,s.heap.get? b=some o->b≠e->b∉bN X.stack->(W.hideAll s.heap (e::bN X.stack)).get? b=some o:=λb o z ne n=>W.hideAll_get _ z λy=>(List.mem_cons.mp y).elim ne n;have hBe:(W.hideAll s.heap (e::bN X.stack)).get? e=none:=W.hideAll_none _ (.head _);refine tG (Z:=λh'=>Heap.FlyingW (W.hideAll s.heap (e::bN X.stack)) X.outer e oe.cls a0 h'/\s.heap.UpToSlots h') (Es _ _) hd (λ_ z=>bo z.1)
  (wpAny_leaving_firstW (base:=W.hideAll s.heap (e::bN X.stack)) hfr (W.funFrames_hide fH hin) hf he (λb o z=>W.of_hideAll _ z) hBe hdt h1 h0 λh' ⟨k1,⟨_,_,k2⟩,k3,k4⟩=>⟨h',rfl,⟨k1,hBe,k2,k3⟩,k4⟩) λh' ⟨fly',up⟩ hdx=>?_
 have nin:∀b o,X.s₀.heap.get? b=some o->b≠X.env.locals:=λb o e z=>by have:=Heap.lt_size e;rw[z]at this;exact absurd (Nat.lt_of_lt_of_le this I.ok.above) (Nat.lt_irrefl _)
 have nst:∀b o,X.s₀.heap.get? b=some o->b∉X.fs->b∉bN X.stack:=λb o e n z=>by
  rcases List.mem_cons.mp (I.vR b z)with z|z
  .exact nin b o e z
  .exact n z
 have sub:∀b∈X.fs,b∈bN X.stack:=λb hb=>by rw[hs];unfold bN;rw[List.filterMap_cons,hf];exact List.mem_cons_of_mem _ hb
 have nx:∀b:Addr,b∉X.ex:=λb z=>by rw[hx]at z;cases z
 have ne0:∀b o,X.s₀.heap.get? b=some o->b≠e:=λb o z y=>by rw[y,hn]at z;cases z
 have neH:∀b,H b≠none->b≠e:=λb z y=>z (y▸hH);have slots:∀b∈X.fs,∀o,s.heap.get? b=some o->∃sl,h'.get? b=some { o with slots:=sl }:=λb hb o z=>by obtain⟨_,o',ho,hd⟩:=I.stack.mem (sub b hb);rw[z]at ho;cases ho;exact up b o z hd
 have calm:wJ (W.hideAll s.heap (e::bN X.stack)) (bN X.stack) X.s₀.heap H s.heap:=λb o z n w=>hB b o z (w.elim (λ⟨u,y⟩=>ne0 b u y) (neH b)) n;refine⟨e,oe.cls,H,_,_,dx,rfl,I.os,I.bare,⟨λb o z n hb _=>?_,λb o z n hb _=>?_,λb o z n _=>I.base.free b o z n (nx b),λb o z _=>?_,I.base.gQ,I.base.fT,I.base.gP⟩,I.aI.dQ calm fly'.1 I.sL,fly',λb o z n w=>?_,hdx,q⟩
 .exact fly'.1 b o (hB b o (I.base.keep b o z n hb (nx b)) (ne0 b o z) (nst b o z hb))
 .obtain⟨sl,e1⟩:=I.base.slot b o z n hb (nx b);obtain⟨sl3,e3⟩:=slots b hb _ e1;exact⟨sl3,e3⟩
 .obtain⟨u,e1⟩:=I.base.there b o z (nx b);by_cases hb:b∈X.fs
  .obtain⟨sl,e3⟩:=slots b hb u e1;exact⟨_,e3⟩
  .exact⟨u,fly'.1 b u (hB b u e1 (ne0 b o z) (nst b o z hb))⟩
 .have:∃o',(W.hideAll s.heap (e::bN X.stack)).get? b=some o':=by
   rcases w with⟨u,w⟩|w
   .obtain⟨u1,e1⟩:=I.base.there b u w (nx b);exact⟨u1,hB b u1 e1 (ne0 b u w) (nst b u w n)⟩
   .cases hh:H b with
    |none=>exact absurd hh w|some y=>obtain⟨u2,e2⟩:=(I.aI b y hh).get;exact⟨u2,hB b u2 e2 (neH b w) λz=>w (I.sL b z)⟩
  obtain⟨o',e2⟩:=this;have q2:=fly'.1 b o' e2;rw[z]at q2;cases q2;exact e2
theorem Inv.jk(I:Inv X pins σ H s)(hx:X.ex=[])(n:s.heap.get? e=none):H e=none/\X.s₀.heap.get? e=none:=by
 refine⟨?_,?_⟩
 .cases q:H e with
  |none=>rfl|some y=>obtain⟨o,ho⟩:=(I.aI e y q).get;rw[n]at ho;cases ho
 .cases q:X.s₀.heap.get? e with
  |none=>rfl|some o=>obtain⟨u,e1⟩:=I.base.there e o q (λz=>by rw[hx]at z;cases z);rw[n]at e1;cases e1
theorem Mj(I:Inv X pins σ H s)(hx:X.ex=[])(hs:X.stack=X.env::X.outer)(hf:X.env.frame=some X.env.locals)(m:Heap.MadeExcOf s.heap h1 e cls vs)(q:E cls none H){M:Model}{E':Value->Shared->Prop} :
  wpAny M X.A (leaving X.env (.ref e)) (λ_ s''=>cN X.prog X.w X.outer X.H₀ X.s₀ E (.ref e) s'') E' { s with heap:=h1 }:=by
 obtain⟨t,he,_,_⟩:=m.there;obtain⟨n1,n2⟩:=I.jk hx m.new;exact wc (I.kept (h':=h1) (t':=s.toks) m.keeps) hx hs hf he rfl rfl rfl rfl dM.none n1 n2 q
end
theorem Ud{K:W.Frag}{h₀:Heap}{C:Addr}{bmB:List Value}{newId:String}(X:K.In h₀)(q:W.excIn K C bmB newId=true) :
  ∃bm N nm q bs hdct sn sub ab col dd k0 k1 k2 k3 k5 mN,h₀.get? C=some (excClassObj nm q C N bs bm hdct sn sub ab col dd k0 k1 k2 k3 k5 newId)/\h₀.Ns N mN/\mN "__init__"=none/\OwnTail h₀ bmB bm:=by
 unfold W.excIn at q;split at q
 .rename_i dd cd sl ho;split at q
  .rename_i C' bm k0 k1 k2 k3 n k5 hm hs;simp only[Bool.and_eq_true,beq_iff_eq,Bool.not_eq_true']at q;obtain⟨⟨⟨⟨⟨rfl,rfl⟩,hdel⟩,ht⟩,aI⟩,hni⟩:=q;obtain⟨nm,bs,mro,ns,qn,hd,sn,sub,ab,col,del⟩:=cd;dsimp only at hm hdel aI hni;subst hm hdel;have hsl:sl=#[k0,k1,k2,k3,some (.builtin n),k5]:=by obtain⟨l⟩:=sl;simp only at hs;rw[hs]
   subst hsl;exact⟨bm,ns,nm,qn,bs,hd,sn,sub,ab,col,dd,k0,k1,k2,k3,k5,_,X _ _ ho,.of_isNs (W.isNs_of_in X aI),W.nsMap_none_of_in X aI hni,W.tail_of_in X ht⟩
  .cases q
 .cases q
section
variable {X:Cx}{x:Str}{C:Addr}{bmB:List Value}{Bn newId initId:String}{np cpos pos:Pos}{e₀:Expr}{rest:List Expr}{ta:TA}{E:XK}
def wU(X:Cx)(E:XK):Prop:=∀(pins:List (Addr×Obj)) (σ:St) (H:Hp) (s:Shared) (e:Addr) (h1:Heap) (cls:Value) (vs:List Value),Inv X pins σ H s->Heap.MadeExcOf s.heap h1 e cls vs->E cls none H->X.xe (.ref e) { s with heap:=h1 }
def HH(C:Addr)(E:XK)(ta:TA):TS:=λ_ σ H=>ta σ H λvs H1=>vs.length<=sizeLine/\E (.ref C) none H1
theorem Wi(hc:X.calm=true)(hg:Gl X x)(hm:X.mg x=some (.ref C))(q:W.excIn X.K C bmB newId=true)(FB:ExcBaseFacts Bn newId initId bmB)(hX:wU X E)(ha:PA X (e₀::rest) ta)
  (hdb:(x==("__debug__":Str))=false:=by decide)
  (he:starEach (e₀::rest) X.env=(false,eval e₀ X.env)::starEach rest X.env:=by rfl) (hpl:(backTo cpos (starEach rest X.env)).any (·.1)=false:=by rfl) :
  PS X (.Raise (some (.Call (.Name x np) (e₀::rest) [] cpos)) none pos) (HH C E ta):=by
 intro pins s σ H D I h;obtain⟨bm,N,nm,qn,bs,hdct,sn,sub,ab,col,dd,k0,k1,k2,k3,k5,mN,hC,hN,hni,TL⟩:=Ud I.mod.rF q;refine wpAny_Raise_call_subT (C:=C) (nm:=nm) (q:=qn) (N:=N) (bs:=bs) (bm:=bm) (hdct:=hdct) (sn:=sn) (sub:=sub) (ab:=ab) (col:=col) (dd:=dd) (k0:=k0) (k1:=k1) (k2:=k2) (k3:=k3) (k5:=k5)
  FB (mN:=mN) (TL.hasType FB.hasBase) (I.ok.hd hc) (by rw[he];show(false||(backTo cpos (starEach rest X.env)).any (·.1))=false;rw[hpl];rfl) hni (pK I hg hm ⟨rfl,?_⟩ hdb)
 have h2:=ha cpos pins s σ H _ I h;rw[he]at h2 ⊢;refine Calls.evalArgs_plain (wpAny_mono h2 (λus s₂ ⟨vs,H1,I1,r,l,z⟩=>⟨rfl,by rw[<- r.length];exact l,I1.bk _ _ hC,hN.keeps I1.bk,TL.keeps I1.bk,λh' e m=>hX pins σ H1 s₂ e h' _ _ I1 m z⟩) λ_ _ y=>y)
end
theorem DL{P:Program}{w:World}{K:W.Frag}{mg:Str->Option Value}{base:Heap}{N:List Str}{qual:Str}{scope:Scope}{f:Addr}{cd:Value}{A:Around}{outer:List Env}{s:Shared}{H:Hp}{E:XK} :
 wU (jZ (cN P w) P w K mg base N qual scope f cd A outer s H E) E:=λpins σ H1 s1 e h1 cls vs I m q=>Mj I rfl rfl rfl m q
def fL(a:Addr)(cls:Value)(dx:Option Addr)(h:Heap):Prop:=∃ob,h.get? a=some ob/\ob.cls=cls/\(∃ws,ob.data = .fields ws)/\∀d,dx=some d->ob.dict=some d
theorem cx{a:Addr}{cls:Value}{dx:Option Addr}{h:Heap}{a0:Value}(x:∃ob vs,h.get? a=some ob/\ob.cls=cls/\ob.data = .fields vs/\vs[0]?=some a0)(d:dM a dx h):fL a cls dx h:=
 let ⟨ob,ws,e,c,f,_⟩:=x;⟨ob,e,c,⟨ws,f⟩,λk q=>by obtain⟨o,e1,d1⟩:=d k q;rw[e]at e1;cases e1;exact d1⟩
abbrev Cx.held(X:Cx)(a:Addr):Cx:={ X with A:=X.A.mark (some (.ref a)),calm:=false,xe:=λ_ _=>False }
section
variable {X:Cx}{pins:List (Addr×Obj)}{σ:St}{H H':Hp}{s s':Shared}{a:Addr}{cls a0:Value}{dx:Option Addr}{B h5:Heap}
theorem Inv.ow(I:Inv X pins σ H s):Inv (X.held a) pins σ H s:=
 ⟨⟨I.ok.mod,I.ok.kind,I.ok.glob,I.ok.blt,I.ok.above,I.ok.inj,I.ok.has,I.ok.lC,λz=>Bool.noConfusion z,I.ok.frames,I.ok.fH,I.ok.lG,I.ok.bs,I.ok.gY,I.ok.lQ,I.ok.kC,I.ok.fE,I.ok.jI⟩,I.os,I.bare,I.base,I.loc,I.cell,I.free,I.eS,I.pin,I.aI,I.len⟩
theorem Inv.nL(ok:X.Ok)(I:Inv (X.held a) pins σ H s):Inv X pins σ H s:=⟨ok,I.os,I.bare,I.base,I.loc,I.cell,I.free,I.eS,I.pin,I.aI,I.len⟩
theorem Inv.ue(I:Inv X pins σ H s)(os:s'.os=s.os)(bare:AllBare s'.gens)(un:Un (bN X.stack) [] H H' s.heap s'.heap)(aI:cJ X.prog X.w H' s'.heap)
  (dQ:Heap.FlyingW B X.stack a cls a0 s'.heap) (calm:wJ B (bN X.stack) s.heap H' s'.heap) (k:B.StaysIn h5) (up:s'.heap.UpToSlots h5) (there:fL a cls dx h5) :
  H' a=none/\Inv X pins σ (aK H' a (.ext (fL a cls dx))) { s' with heap:=h5 }:=by
 have n0:∀b:Addr,b∉([]:List Addr):=λb z=>by cases z
 have nas:a∉bN X.stack:=λz=>by obtain⟨_,o,ho,hd⟩:=dQ.2.2.1.mem z;obtain⟨oe,vs,he,_,hv,_⟩:=dQ.first;rw[ho]at he;cases he;exact hd vs hv
 have naB:B.get? a=none:=dQ.2.1;have naH:H' a=none:=by
  cases q:H' a with
  |none=>rfl|some y=>obtain⟨o,ho⟩:=(aI a y q).get;have:=calm a o ho nas (.inr (by rw[q];intro z;cases z));rw[naB]at this;cases this
 have na:∀b o,s.heap.get? b=some o->b≠a:=λb o e z=>by subst z;obtain⟨o',e'⟩:=un.there b o e (n0 b);have:=calm b o' e' nas (.inl ⟨o,e⟩);rw[naB]at this;cases this
 have nf:∀b∈bN X.stack,H' b=none:=λb hb=>by obtain⟨_,o,ho,_⟩:=I.stack.mem hb;exact un.free b o ho (I.sL b hb) (n0 b)
 have nt:∀{b:Addr} {o:HO},H' b=some o->b≠a:=λ{b o} e=>dG e naH;have slots:∀b∈bN X.stack,∀o,s'.heap.get? b=some o->∃sl,h5.get? b=some { o with slots:=sl }:=λb hb o e=>by obtain⟨_,o',ho,hd⟩:=dQ.2.2.1.mem hb;rw[e]at ho;cases ho;exact up b o e hd
 refine⟨naH,I.ud (s':={ s' with heap:=h5 }) (ch:=[]) os ⟨λb o e n hb _=>?_,λb o e n hb _=>?_,λb o e n _=>?_,λb o e _=>?_,λb xs e=>?_,λb o u e=>?_,λb ps e=>?_⟩ ?_ bare λb z=>absurd z (n0 b)⟩
 .have e2:=un.keep b o e n hb (n0 b);exact k b o (calm b o e2 hb (.inl ⟨o,e⟩))
 .obtain⟨sl,e2⟩:=un.slot b o e n hb (n0 b);obtain⟨sl3,e3⟩:=slots b hb _ e2;exact⟨sl3,e3⟩
 .rw[aT (na b o e)];exact un.free b o e n (n0 b)
 .obtain⟨u2,e2⟩:=un.there b o e (n0 b);by_cases hb:b∈bN X.stack
  .obtain⟨sl,e3⟩:=slots b hb u2 e2;exact⟨_,e3⟩
  .exact⟨u2,k b u2 (calm b u2 e2 hb (.inl ⟨o,e⟩))⟩
 .have:=un.gQ b xs e;rw[aT (nt this)];exact this
 .have:=un.fT b o u e;rw[aT (nt this)];exact this
 .obtain⟨m2,e2⟩:=un.gP b ps e;exact⟨m2,by rw[aT (nt e2)];exact e2⟩
 .have ok5:=aI.dQ calm k nf;intro b u q;by_cases hb:b=a
  .subst hb;rw[eF]at q;cases q;obtain⟨ob,h1,h2⟩:=there;exact⟨⟨ob,h1,h2⟩,⟨ob,h1⟩,λh1 h2 ⟨o,g1,g2⟩ kk=>⟨o,kk o g1,g2⟩⟩
  .rw[aT hb]at q;exact(ok5 b u q).iY (λ_ _ _ z=>z) (λc z=>by rw[aT (nt z)];exact z) λc xs z=>by rw[aT (nt z)];exact z
theorem xN{M:Model}{A:Around}{E:Value->Shared->Prop}{i:Nat}{n:Str}{pos:Pos}{Q:Unit->Shared->Prop}(I:Inv X pins σ H s)(hN:X.N.Nodup)(hi:X.N[i]?=some n)(hk:X.env.kindOf n=some .local)
  (h:∀s',Inv X pins (σ.set i none) H s'->Q () s'):wpAny M A (do bindName X.env n .none;unbindBehindTheSuite X.env n pos) Q E s:=by
 obtain⟨m,hn,hl⟩:=id I.loc;have hcls:(X.env.scope.kind == .class||(X.env.scope.kind == .module&&X.env.locals != X.env.globals))=false:=by rw[I.ok.kind];rfl
 have jF:=I.jF;refine wpAny_nameGoes_keeps hk hn hcls λh' v hn' hs=>?_;obtain⟨oL,_,_,hoL,_⟩:=id hn;have old:∀b o,X.s₀.heap.get? b=some o->b≠X.env.locals:=λb o e=>Nat.ne_of_lt (Nat.lt_of_lt_of_le (Heap.lt_size e) I.ok.above);refine h _ ⟨I.ok,I.os,I.bare,⟨λb o e n hb hx=>(hs.2 b (old b o e)).trans (I.base.keep b o e n hb hx),λb o e n hb hx=>?_,I.base.free,λb o e hx=>?_,I.base.gQ,I.base.fT,I.base.gP⟩,⟨_,hn',λj y v' e1 e2 e3=>?_⟩,λy c e=>?_,I.free,I.eS,λp hp=>?_,λb ob e=>?_,by simpa using I.len⟩
 .obtain⟨sl,e1⟩:=I.base.slot b o e n hb hx;exact⟨sl,(hs.2 b (old b o e)).trans e1⟩
 .obtain⟨o',e1⟩:=I.base.there b o e hx;exact⟨o',(hs.2 b (old b o e)).trans e1⟩
 .by_cases hj:j=i
  .subst hj;by_cases hlt:j<σ.length
   .rw[List.getElem?_set_self hlt]at e2;cases e2
   .rw[List.getElem?_eq_none (by simpa using hlt)]at e2;cases e2
  .rw[List.getElem?_set_ne (Ne.symm hj)]at e2;obtain⟨u',r',q⟩:=hl j y v' e1 e2 e3;refine⟨u',r',?_⟩;rcases q with⟨k,e⟩|⟨k,c,e,z⟩
   .refine .inl ⟨k,?_⟩;have:y≠n:=λe=>hj (jr hN e1 (e▸hi));simp[this,e]
   .exact .inr ⟨k,c,e,z.sameBut hs (jF y c e)⟩
 .obtain⟨w',z⟩:=I.cell y c e;exact⟨w',z.sameBut hs (jF y c e)⟩
 .obtain⟨e,n,ne,nf,d⟩:=I.pin p hp;exact⟨(hs.2 p.1 ne).trans e,n,ne,nf,d⟩
 .refine(I.aI b ob e).iY (λc w' hc q=>(hs.2 c ?_).trans q) (λ_ q=>q) λ_ _ q=>q;rintro rfl
  have hfree:=I.free;rcases hc with rfl|hc
  .rw[hfree]at e;cases e
  .rw[hfree]at hc;cases hc
end
def clsIn(K:W.Frag)(C:Addr):Bool:=match K.lookup C with
 |some ⟨.type "type",_,.cls cd,sl⟩=>(match cd.mro,sl.toList with
  |.ref C'::bm,[_,_,_,_,some (.builtin _),_]=>C'==C && !cd.hasDel&&bm.contains (.type "BaseException")
  |_,_=>false)
 |_=>false
def mroOf(K:W.Frag)(C:Addr):List Value:=match K.lookup C with
 |some ⟨_,_,.cls cd,_⟩=>cd.mro
 |_=>[]
theorem uq{K:W.Frag}{h₀:Heap}{C:Addr}(X:K.In h₀)(q:clsIn K C=true) :
  ∃bm N nm q bs hdct sn sub ab col dd k0 k1 k2 k3 k5 newId,h₀.get? C=some (excClassObj nm q C N bs bm hdct sn sub ab col dd k0 k1 k2 k3 k5 newId)/\mroOf K C = .ref C::bm/\bm.contains (.type "BaseException")=true:=by
 unfold clsIn at q;split at q
 .rename_i dd cd sl ho;have hmro:mroOf K C=cd.mro:=by unfold mroOf;rw[ho]
  split at q
  .rename_i C' bm k0 k1 k2 k3 n k5 hm hs;simp only[Bool.and_eq_true,beq_iff_eq,Bool.not_eq_true']at q;obtain⟨⟨rfl,hdel⟩,hb⟩:=q;rw[hm]at hmro;obtain⟨nm,bs,mro,ns,qn,hd,sn,sub,ab,col,del⟩:=cd;dsimp only at hm hdel;subst hm hdel;have hsl:sl=#[k0,k1,k2,k3,some (.builtin n),k5]:=by obtain⟨l⟩:=sl;simp only at hs;rw[hs]
   subst hsl;exact⟨bm,ns,nm,qn,bs,hd,sn,sub,ab,col,dd,k0,k1,k2,k3,k5,n,X _ _ ho,hmro,hb⟩
  .cases q
 .cases q
section
variable {M:Model}{A:Around}{E:Value->Shared->Prop}
variable {nm q nm' q':Str}{C N D N':Addr}{bs bm bs' bm':List Value}{hdct hdct':Bool}{sn sn':List Str}{sub sub':List Value}{ab ab':Bool}{col col':Option Bool}{dd dd':Option Addr}{k0 k1 k2 k3 k5 j0 j1 j2 j3 j5:Option Value}{newId newId':String}
theorem vy{b:Bool}{h:Heap}{g:Array GenState}{d:Drawn}{t:Nat}{os:OsState}{e:Addr}{oe:Obj}{Q:Bool->Shared->Prop}
  (hC:h.get? C=some (excClassObj nm q C N bs bm hdct sn sub ab col dd k0 k1 k2 k3 k5 newId)) (hD:h.get? D=some (excClassObj nm' q' D N' bs' bm' hdct' sn' sub' ab' col' dd' j0 j1 j2 j3 j5 newId'))
  (he:h.get? e=some oe) (hcls:oe.cls = .ref C) (hbase:bm'.contains (.type "BaseException")=true) (hsub:(Value.ref C::bm).contains (.ref D)=b)
  (hq:Q b ⟨h,g,d,t,os⟩):wpAny M A (excMatches (.ref e) (.ref D)) Q E ⟨h,g,d,t,os⟩:=by
 have hcB:(Value.ref D::bm').contains (.type "BaseException")=true:=by rw[List.contains_cons,hbase,Bool.or_true]
 have f:=tc_notTuple;unfold excMatches;cases b<;>repeat (first|(with_reducible refine wpAny_loadPart_at he ?_;rw[hcls])|with_reducible refine wpAny_loadPart_at hD ?_|(with_reducible refine wpAny_isSubtype_exc hD ?_;rw[hcB])|(with_reducible refine wpAny_isSubtype_exc hC ?_;rw[hsub])|wp_step|exact hq)
end
def wQ(CX:gI)(X:Cx)(EE:St->XK):Prop:=∀(pins:List (Addr×Obj)) (σ:St) (H:Hp) (s:Shared) (e:Value) (s':Shared),Inv X pins σ H s->CX X.stack H s (EE σ) e s'->X.xe e s'
abbrev Cx.fK(X:Cx)(pn:List (Addr×Obj))(E1:Value->Shared->Prop):Cx:={ X with pn:=pn,xe:=E1 }
section
variable {X:Cx}{pins pins' pn:List (Addr×Obj)}{σ:St}{H:Hp}{s:Shared}{E1:Value->Shared->Prop}
theorem Inv.ID(I:Inv X pins σ H s):Inv (X.fK (X.pn++pins) E1) [] σ H s:=
 ⟨⟨I.ok.mod,I.ok.kind,I.ok.glob,I.ok.blt,I.ok.above,I.ok.inj,I.ok.has,I.ok.lC,I.ok.hd,I.ok.frames,I.ok.fH,I.ok.lG,I.ok.bs,I.ok.gY,I.ok.lQ,I.ok.kC,I.ok.fE,I.ok.jI⟩,I.os,I.bare,I.base,I.loc,I.cell,I.free,I.eS,
  λp hp=>I.pin p (by rw[List.append_nil]at hp;exact hp),I.aI,I.len⟩
theorem Inv.tX(I:Inv (X.fK (X.pn++pins) E1) pins' σ H s):Inv X pins σ H s:=
 ⟨⟨I.ok.mod,I.ok.kind,I.ok.glob,I.ok.blt,I.ok.above,I.ok.inj,I.ok.has,I.ok.lC,I.ok.hd,I.ok.frames,I.ok.fH,I.ok.lG,I.ok.bs,I.ok.gY,I.ok.lQ,I.ok.kC,I.ok.fE,I.ok.jI⟩,I.os,I.bare,I.base,I.loc,I.cell,I.free,I.eS,
  λp hp=>I.pin p (List.mem_append_left _ hp),I.aI,I.len⟩
end
structure Hd where
 Dc:Addr
 i:Option Nat
 ts:TS
def Mz(D:Ends):Option Nat->Ends
 |none=>D
 |some i=>{ nx:=λσ H=>D.nx (σ.set i none) H,rt:=D.rt,bk:=λσ H=>D.bk (σ.set i none) H,ct:=λσ H=>D.ct (σ.set i none) H }
def Na(σ:St)(a:Addr):Option Nat->St
 |none=>σ
 |some i=>σ.set i (some (.ref a))
def nC(K:W.Frag)(C:Addr)(D:Ends)(σ:St)(a:Addr)(H:Hp):List Hd->Prop
 |[]=>False
 |d::ds=>if(mroOf K C).contains (.ref d.Dc)=true then d.ts (Mz D d.i) (Na σ a d.i) H else nC K C D σ a H ds
def og(K:W.Frag)(D:Ends)(ds:List Hd):St->XK:=λσ cls dx H=>∃C,cls = .ref C/\clsIn K C=true/\∀a,H a=none->nC K C D σ a (aK H a (.ext (fL a (.ref C) dx))) ds
def HL(K:W.Frag)(ds:List Hd)(tb:List (Addr×Obj)->(Value->Shared->Prop)->(St->XK)->TS):TS:=λD σ H=>∀pn E1,tb pn E1 (og K D ds) D σ H
inductive wN(X:Cx):Option Str->Option Nat->Prop
 |no:wN X none none
 |as {n:Str} {i:Nat} (hi:X.N[i]?=some n) (hk:X.env.kindOf n=some .local):wN X (some n) (some i)
inductive qH(X:Cx):List ExceptHandler->List Hd->Prop
 |nil:qH X [] []
 |cons {x:Str} {np hpos:Pos} {Dc:Addr} {nm:Option Str} {i:Option Nat} {b₀:Stmt} {suite:List Stmt} {ts:TS} {hs:List ExceptHandler} {ds:List Hd} (hg:Gl X x) (hm:X.mg x=some (.ref Dc)) (hD:clsIn X.K Dc=true) (hdb:(x==("__debug__":Str))=false)
  (hn:wN X nm i) (hsu:∀a,iL (X.held a) (b₀::suite) ts) (t:qH X hs ds):qH X (.ExceptHandler (some (.Name x np)) nm (b₀::suite) hpos::hs) (⟨Dc,i,ts⟩::ds)
section
variable {X:Cx}{body:List Stmt}{pos:Pos}{ds:List Hd}{h₀:ExceptHandler}{hs:List ExceptHandler}{D:Ends}{tb:List (Addr×Obj)->(Value->Shared->Prop)->(St->XK)->TS}{pins:List (Addr×Obj)}{σ:St}{H:Hp}{s s':Shared}{e:Value}
theorem Oz(I:Inv X pins σ H s)(h:cN X.prog X.w X.stack H s (og X.K D ds σ) e s') :
  ∃a B C a0 H' dx,e = .ref a/\Heap.FlyingW B X.stack a (.ref C) a0 s'.heap/\dM a dx s'.heap/\clsIn X.K C=true/\nC X.K C D σ a (aK H' a (.ext (fL a (.ref C) dx))) ds /\
   ∀h5,B.StaysIn h5->s'.heap.UpToSlots h5->fL a (.ref C) dx h5->Inv X pins σ (aK H' a (.ext (fL a (.ref C) dx))) { s' with heap:=h5 }:=by
 obtain⟨a,cls,H',B,a0,dx,rfl,os,bare,un,aI,dQ,calm,hdx,C,rfl,hC,q⟩:=h;have na:H' a=none:=(I.ue os bare un aI dQ calm dQ.1 (Heap.UpToSlots.refl _) (cx dQ.first hdx)).1;exact⟨a,B,C,a0,H',dx,rfl,dQ,hdx,hC,q a na,λh5 k up th=>(I.ue os bare un aI dQ calm k up th).2⟩
theorem Nb{B:Heap}{C a:Addr}{a0:Value}{dx:Option Addr}{H2:Hp}(ok:X.Ok)(hN:X.N.Nodup)(hC:clsIn X.K C=true)
  (inv:∀h5,B.StaysIn h5->s'.heap.UpToSlots h5->fL a (.ref C) dx h5->Inv X pins σ H2 { s' with heap:=h5 }) (o:qH X hs ds) :
  ∀{h5:Heap},Heap.FlyingW B X.stack a (.ref C) a0 h5->dM a dx h5->s'.heap.UpToSlots h5->nC X.K C D σ a H2 ds->wpAny (model X.prog X.w) X.A (handleBy (.ref a) X.env hs) (SP X pins D) X.xe { s' with heap:=h5 }:=by
 induction o with
 |nil=>intro h5 _ _ _ z;exact z.elim|@cons x np hpos Dc nm i b₀ suite ts hs ds hg hm hD hdb hn hsu t ih=>
  intro h5 fly5 dx5 up5 q;have J5:=(inv h5 fly5.1 up5 (cx fly5.first dx5)).ow (a:=a);refine wpAny_handleBy_cons (codeAny_handlers_test (pK (X:=X.held a) J5 hg hm ?_ hdb)) (by intro q;cases q);obtain⟨bm,N,nm,qn,bs,hdct,sn,sub,ab,col,dd,k0,k1,k2,k3,k5,nid,hCo,hmro,_⟩:=uq J5.cW hC;obtain⟨bm',N',nm',qn',bs',hdct',sn',sub',ab',col',dd',j0,j1,j2,j3,j5,nid',hDo,_,hbase⟩:=uq J5.cW hD;obtain⟨ob,hob,hobc⟩:=fly5.there;have hmro:mroOf X.K C=_:=hmro;unfold nC at q;cases hb:(mroOf X.K C).contains (.ref Dc) with
  |false=>rw[if_neg (by rw[hb];exact Bool.false_ne_true)]at q;rw[hmro]at hb;exact vy hCo hDo hob hobc hbase hb (ih fly5 dx5 up5 q)
  |true=>
   rw[if_pos hb]at q;rw[hmro]at hb;refine vy hCo hDo hob hobc hbase hb ?_;cases hn with
   |no=>
    refine codeAny_handlers_suite (yr fly5 dx5 λh6 fly6 up6 dx6=>?_);have J6:=(inv h6 fly6.1 (up5.trans up6) (cx fly6.first dx6)).ow (a:=a);refine wpAny_mono (hsu a pins _ _ _ _ J6 q) (λf s8 hf8=>?_) λ_ _ z=>z.elim;cases f with
    |next=>obtain⟨σ2,H2,J,d⟩:=hf8;exact⟨_,_,J.nL ok,d⟩|brk=>obtain⟨σ2,H2,J,d⟩:=hf8;exact⟨_,_,J.nL ok,d⟩|cont=>obtain⟨σ2,H2,J,d⟩:=hf8;exact⟨_,_,J.nL ok,d⟩|ret u=>obtain⟨v,σ2,H2,J,r,d⟩:=hf8;exact⟨v,_,_,J.nL ok,r,d⟩
   |as hi hk=>
    refine codeAny_handlers_suite_as (yr fly5 dx5 λh6 fly6 up6 dx6=>?_);have J6:=(inv h6 fly6.1 (up5.trans up6) (cx fly6.first dx6)).ow (a:=a);refine lZ (X:=X.held a) (v:=.ref a) J6 hN hi (.inl hk) (show Value.ref a=Value.ref a from rfl) (λs7 J7=>?_) (.inr hk);refine wpAny_mono (hsu a pins s7 _ _ _ J7 q) (λf s8 hf8=>?_) λ_ _ z=>z.elim;cases f with
    |next=>obtain⟨σ2,H2,J,d⟩:=hf8;exact xN (J.nL ok) hN hi hk λs9 J9=>⟨_,_,J9,d⟩|brk=>obtain⟨σ2,H2,J,d⟩:=hf8;exact xN (J.nL ok) hN hi hk λs9 J9=>⟨_,_,J9,d⟩|cont=>obtain⟨σ2,H2,J,d⟩:=hf8;exact xN (J.nL ok) hN hi hk λs9 J9=>⟨_,_,J9,d⟩|ret u=>obtain⟨v,σ2,H2,J,r,d⟩:=hf8;exact xN (J.nL ok) hN hi hk λs9 J9=>⟨v,_,_,J9,r,d⟩
theorem Wn(hst:X.stack=X.env::X.outer)(hf:X.env.frame=some X.env.locals)(hN:X.N.Nodup)(o:qH X (h₀::hs) ds)
  (hb:∀pn E1 EE,wQ (cN X.prog X.w) (X.fK pn E1) EE->iL (X.fK pn E1) body (tb pn E1 EE)):PS X (.Try body (h₀::hs) [] [] pos) (HL X.K ds tb):=by
 intro pins s σ H D I h;have hfr:X.A.frames=some (X.env::X.outer):=by rw[<- hst];exact I.ok.frames
 refine wpAny_Try_except (wpAny_mono (hb (X.pn++pins) (λe s'=>∃σ' H1 s1,Inv X pins σ' H1 s1/\cN X.prog X.w X.stack H1 s1 (og X.K D ds σ') e s') _
  (λpins' σ' H1 s1 e s' I' h'=>⟨σ',H1,s1,I'.tX,h'⟩) [] s σ H D I.ID (h _ _)) (λf s1 hf1=>?_) λe s' ⟨σ',H1,s1,I1,h1⟩=>?_)
 .cases f with
  |next=>obtain⟨σ',H',J,d⟩:=hf1;exact wpAny_execs_nil ⟨σ',H',J.tX,d⟩
  |brk=>obtain⟨σ',H',J,d⟩:=hf1;exact⟨σ',H',J.tX,d⟩|cont=>obtain⟨σ',H',J,d⟩:=hf1;exact⟨σ',H',J.tX,d⟩|ret u=>obtain⟨v,σ',H',J,r,d⟩:=hf1;exact⟨v,σ',H',J.tX,r,d⟩
 .obtain⟨a,B,C,a0,H',dx,rfl,dQ,hdx,hC,q,inv⟩:=Oz I1 h1;rw[hst]at dQ;refine Pn hfr hf dQ hdx λh4 held4 up4 dx4=>?_;refine Pa held4 dx4 λh5 fly5 up5 dx5=>?_;rw[<- hst]at fly5;exact Nb I.ok hN hC inv o fly5 dx5 (up4.trans up5) q
end
section
variable {X:Cx}{CX:gI}{k:Nat}{f:Addr}{fd:FuncData}{ps:List Str}{sp:Sp}{EE:St->XK}{x:Str}{p pos:Pos}{e:Expr}{es:List Expr}{t:TA}
theorem PA.rN{es:List Expr}{t:TA}(h:PA X.rN es t):PA X es t:=λpos pins s σ H Q I hw=>wpAny_mono (h pos pins s σ H Q (I.mE _) hw) (λ_ _ ⟨vs,H',I',r,q⟩=>⟨vs,H',I'.pq,r,q⟩) λ_ _ z=>False.elim z
theorem PE.of{e:Expr}{t t':TE}(h:PE X e t)(f:∀σ H Q,t' σ H Q->t σ H Q):PE X e t':=λpins s σ H Q I q=>h pins s σ H Q I (f σ H Q q)
def GR(sp:Sp)(EE:St->XK)(t:TA):TE:=λσ H Q=>t σ H λvs H1=>sp vs H1 Q (EE σ)
theorem DX{pins:List (Addr×Obj)}{σ:St}{H:Hp}{s:Shared}{Q:VK}{us:List Value}{vs:List V}(F:dW X.prog X.w X.K X.mg X.base CX k f fd ps sp)(hr:cM k X.A)(hb:Binds X.K fd ps [])(hx:wQ CX X EE)
  (I:Inv X pins σ H s) (r:Vals vs us) (h:sp vs H Q (EE σ)):wpAny (model X.prog X.w) X.A (call (.ref f) us) (EP X pins σ Q) X.xe s:=by
 have hl:(us++[]).length=ps.length:=by rw[List.append_nil,<- r.length];exact F.len _ _ _ _ h
 have hb':=hb s us I.cW hl;rw[List.append_nil]at hb';refine wpAny_call (codeAny_mono (F.run X.A X.stack s H ⟨us,[]⟩ us vs Q (EE σ) hr I.gi hb' r h) λr s' hq=>?_);cases r with
 |error e=>exact hx pins σ H s e s' I hq|ok fl=>
  cases fl with
  |ret u=>exact I.after hq|next=>exact False.elim hq|brk=>exact False.elim hq|cont=>exact False.elim hq
theorem Up(F:dW X.prog X.w X.K X.mg X.base CX k f fd ps sp)(hr:cM k X.A)(hg:Gl X x)(hm:X.mg x=some (.ref f))(hk:W.keepIn X.K (.ref f)=true)(hb:Binds X.K fd ps [])(hx:wQ CX X EE)
  (ha:PA X (e::es) t) (hdb:(x==("__debug__":Str))=false:=by decide) (he:starEach (e::es) X.env=(false,eval e X.env)::starEach es X.env:=by rfl) (hpl:(backTo pos (starEach es X.env)).any (·.1)=false:=by rfl) :
  PE X (.Call (.Name x p) (e::es) [] pos) (GR sp EE t):=by
 intro pins s σ H Q I h;refine wpAny_Call_Name_kw (pK I hg hm ?_ hdb);refine W.callWith_K (h₀:=X.base) I.ok.mod.rF hk (aJ (ha pos pins s σ H _ I h) λus s1 ⟨vs,H1,I1,r,q⟩=>⟨I1.cW,?_⟩) he hpl;exact DX F hr hb hx I1 r q
end
end L2
namespace PySem.W
open PySem PySem.Spec PySem.Calls PyProof.Rows
open PySem PySem.Calls PyProof.Rows Builtin Builtin.ObjectAttr
open PySem PySem.Calls PyProof.Rows Builtin Builtin.ObjectAttr Builtin.Getset_descriptor
section
variable {prog:Program}{w:World}{A:Around}{E:Value->Shared->Prop}{s:Shared}{K:Frag}{x D:Addr}{name:Str}
theorem NH{M:Model} {h:Heap} {a g:Value} (X:K.In h) (ha:findIn K (.ref D) name=some (some a)) (hg:specialIn K a "__get__"=some (some g)) (ht:takesIn K a=some true):Looks M h (find (.ref x) (.ref D) name) (.bind g a):=by have L1:=looks_findIn (M:=M) X ha;have L2:Looks M h (getOf (some a)) (some g):=looks_specialIn X hg;have L3:=looks_takesIn (M:=M) X ht;refine L1.andThen (L2.andThen ?_);exact(show Looks M h (dataDescriptor? (some a) (some g)) (some (g,a)) from L3.andThen .now).andThen (Looks.tag .now)
theorem NI{R:Result->Shared->Prop} {tp:Value} (X:K.In s.heap) (L0:∀M,Looks M s.heap (typeOf (.ref x)) (.ref D)) (hm:mroIn K D (.type "object")=some true)
  (h:R (.ok (.ret (.ref D))) s):codeAny (model prog w) A (.call (.builtin "getset_descriptor.__get__") ⟨[.builtin "object.__class__",.ref x,tp],[]⟩) R s:=by
 obtain⟨hh,g,dr,t,os⟩:=s;have L0:=L0 (model prog w);have L1:=looks_mroIn (M:=model prog w) X hm;refine codeAny_call_builtin KF.slot_gs.plain KF.entry_gs (KF.slot_gs.check _ _ _ _ _ _ _ _ KF.type_class (KF.args_gs _ _ _) ?_);unfold Builtin.«getset_descriptor.__get__» descrGet;rw[dga_obj];refine wpAny_bind (wpAny_pure ?_);unfold descrGetter descrCheckInstance descrNameAndClass isInstance;simp only[KF.owner_class];repeat lk
 refine⟨Code.quiet_builtin _ (by decide +kernel),codeAny_builtin KF.entry_class ?_⟩;unfold Builtin.«object.__class__» shownTypeOf;repeat lk
 exact h
theorem NL{Q:Option Value->Shared->Prop} (X:K.In s.heap) (L0:∀M,Looks M s.heap (typeOf (.ref x)) (.ref D)) (hga:findIn K (.ref D) "__getattribute__"=some (some (.builtin "BaseException.__getattribute__"))) (hk:findIn K (.ref D) "__getattr__"=some none)
  (h:codeAny (model prog w) A (.call (.builtin "BaseException.__getattribute__") ⟨[.ref x,.str name s.toks],[]⟩) (λr s'=>match r with | .ok (.ret v)=>handedIn v=true/\Q (some v) s'|_=>False) { s with toks:=s.toks+1 }) :
  wpAny (model prog w) A (getAttr? (.ref x) name) Q E s:=by
 obtain⟨hh,g,d,t,os⟩:=s;have L0:=L0 (model prog w);have L1:=looks_findIn (M:=model prog w) X hga;have L2:=looks_findIn (M:=model prog w) X hk;unfold getAttr? getAttrBy? getAttrBy;refine wpAny_bind (wpAny_mkText (wpAny_bind (wpAny_attempt (wpAny_holding (wpAny_bind (L0.at (wpAny_bind (L1.at ?_))))))));show wpAny _ _ (getAttrByItsOwn _ _ _ _ _ _) _ _ _;unfold getAttrByItsOwn;refine wpAny_bind (show wpAny _ _ (typeLookup (.ref D) "__getattr__") _ _ _ from L2.at ?_);refine wpAny_bind (wpAny_attempt (wpAny_holding ?_));show wpAny _ _ (boundAndCalled _ _ _) _ _ _;unfold boundAndCalled;have f3:=PySem.F.excAttr_ValueError.ga.bind (.ref x);rw[f3];refine wpAny_bind (wpAny_pure ?_);refine wpAny_call (codeAny_mono h λr s' z=>?_);rcases r with e|(_|_|_|v)
 .exact z.elim
 .exact z.elim
 .exact z.elim
 .exact z.elim
 .dsimp only at z ⊢;rw[handedOut_of z.1];exact wpAny_pure (wpAny_pure z.2)
theorem NK{tk:Tok} {Q:Fin->Shared->Prop} (X:K.In s.heap) (L0:∀M,Looks M s.heap (typeOf (.ref x)) (.ref D)) (ha:findIn K (.ref D) "__class__"=some (some (.builtin "object.__class__")))
  (hn:specialIn K (.builtin "object.__class__") "__get__"=some (some (.builtin "getset_descriptor.__get__"))) (htk:takesIn K (.builtin "object.__class__")=some true) (hm:mroIn K D (.type "object")=some true)
  (hq:Q (.done (.ret (.ref D))) s):wpAny (model prog w) A (Builtin.«object.__getattribute__» ⟨[.ref x,.str "__class__" tk],[]⟩) Q E s:=by
 obtain⟨hh,g,d,t,os⟩:=s;have L1:=λM=>NH (M:=M) (x:=x) X ha hn htk;have L0':=L0 (model prog w);have L1':=L1 (model prog w);unfold Builtin.«object.__getattribute__»;refine wpAny_bind (wpAny_pure (wpAny_bind (wpAny_pure (wpAny_bind (L0'.at (wpAny_bind (L1'.at ?_)))))));show wpAny _ _ (bindTo _ _ _ _) _ _ _;unfold bindTo;dsimp only;refine wpAny_bind (wpAny_holding (wpAny_call (NI X L0 hm ?_)));exact wpAny_pure hq
theorem Gv{M:Model} {nameV:Value} {Q:Unit->Shared->Prop} (X:K.In s.heap) (L0:∀M,Looks M s.heap (typeOf (.ref x)) (.ref D)) (hm:mroIn K D (.type "BaseException")=some true) (hq:Q () s) :
  wpAny M A (checkBuiltinCall "BaseException.__getattribute__" ⟨[.ref x,nameV],[]⟩) Q E s:=by
 have hk:builtinKind "BaseException.__getattribute__"=some .slot:=by decide +kernel
 have hsplit:splitId "BaseException.__getattribute__"=some ("BaseException","__getattribute__"):=by decide +kernel
 have ha:=F.args_bexc_ga (.ref x) nameV;obtain⟨hh,g,d,t,os⟩:=s;have LI:Looks M hh (isInstance (.ref x) (.type "BaseException")) true:=(L0 M).andThen (looks_mroIn X hm);simp only[checkBuiltinCall,hk,hsplit];refine wpAny_bind (LI.at ?_);repeat (first|assumption|wp_step)
 all_goals exact hq
def qG(K:Frag)(D:Addr):Bool:=
 findIn K (.ref D) "__getattribute__"==some (some (.builtin "BaseException.__getattribute__"))&&findIn K (.ref D) "__getattr__"==some none&&findIn K (.ref D) "__class__"==some (some (.builtin "object.__class__")) &&
 specialIn K (.builtin "object.__class__") "__get__"==some (some (.builtin "getset_descriptor.__get__"))&&takesIn K (.builtin "object.__class__")==some true&&mroIn K D (.type "object")==some true&&(clsIn K D).isSome &&
 mroIn K D (.type "BaseException")==some true
theorem NJ{dx:Option Addr}(q:qG K D=true):KitX K (.ref x) (.ref D) (L2.fL x (.ref D) dx):=by
 simp only[qG,Bool.and_eq_true,beq_iff_eq]at q;obtain⟨⟨⟨⟨⟨⟨⟨q1,q2⟩,q3⟩,q4⟩,q5⟩,q6⟩,q7⟩,q8⟩:=q;have L0:∀(M:Model) (h:Heap),L2.fL x (.ref D) dx h->Looks M h (typeOf (.ref x)) (.ref D):=λM h ⟨ob,h1,h2,_⟩=>h2▸(Looks.ld h1).andThen .now;refine⟨λM h _ p=>L0 M h p,λM h X p=>?_,λh tp dd its n sl X ht=>?_,λ{prog w A E Q s} X p hq=>?_⟩
 .obtain⟨cd,hc⟩:=Option.isSome_iff_exists.mp q7;unfold clsIn at hc;split at hc
  .rename_i ho;intro A' Q' E' s' k q;unfold isType loadHead;exact wpAny_bind (wpAny_loadPart (k _ _ (X _ _ ho)) (wpAny_pure q))
  .cases hc
 .obtain⟨cd,hc⟩:=Option.isSome_iff_exists.mp q7;refine Bool.eq_false_iff.mpr λz=>?_;cases beq_iff_eq.mp z;unfold clsIn at hc;split at hc
  .rename_i ho;have:=X _ _ ho;rw[ht]at this;cases this
  .cases hc
 .exact NL X (λM=>L0 M _ p) q1 q2 (codeAny_call_builtin PySem.F.excAttr_ValueError.ga.plain F.entry_bexc_ga (Gv (s:={ s with toks:=s.toks+1 }) X (λM=>L0 M _ p) q8
   (NK (s:={ s with toks:=s.toks+1 }) X (λM=>L0 M _ p) q3 q4 q5 q6 ⟨rfl,hq⟩)))
end
end PySem.W
namespace L2
open PySem PySem.Spec PyProof.Rows
def jE(cells:List (Str×Addr))(x:Str×NameKind)(cs:List (Str×Addr)):List (Str×Addr):=if(x.2==NameKind.free)=true then(match cells.lookup x.1 with
 |some c=>(x.1,c)::cs
 |none=>cs) else cs
def mP(scope:Scope)(env:Env):List (Str×Addr):=scope.names.foldl (λcs x=>jE env.cells x cs) []
theorem wm{α β:Type}{st:α->β->β}:∀{l:List α} {f:α->β->Sem (ForInStep β)} (c:β),(∀x∈l,∀c,f x c=pure (.yield (st x c)))->forIn l c f=pure (l.foldl (λc x=>st x c) c)
 |[],f,c,h=>rfl|x::l,f,c,h=>by rw[List.forIn_cons,h x List.mem_cons_self,pure_bind];exact wm (st x c) λy hy=>h y (List.mem_cons_of_mem _ hy)
theorem Kf{scope:Scope}{env:Env}(h:∀x∈scope.names,x.2 = .free->∃c,env.cells.lookup x.1=some c):closureFor scope env=pure (mP scope env):=by
 simp only[closureFor];rw[wm (st:=jE env.cells) [] (λx hx c=>by
  obtain⟨n,kind⟩:=x;by_cases hk:kind = .free
  .obtain⟨a,ha⟩:=h _ hx hk;subst hk;simp[jE,cellOf,ha]
  .have:(kind==NameKind.free)=false:=by simpa using hk
   simp[jE,this])]
 rfl
theorem uk{cells:List (Str×Addr)}:∀(l:List (Str×NameKind)) (cs:List (Str×Addr)),(∀x c,cs.lookup x=some c->cells.lookup x=some c)->∀x c,(l.foldl (λcs x=>jE cells x cs) cs).lookup x=some c->cells.lookup x=some c
 |[],cs,h=>h
 |y::l,cs,h=>uk l _ (by
  intro x c e;change (jE cells y cs).lookup x=some c at e;unfold jE at e;split at e
  .split at e
   .rename_i c' hc';rw[List.lookup_cons]at e;split at e
    .rename_i q;have:=eq_of_beq q;subst this;rw[hc'];exact e
    .exact h x c e
   .exact h x c e
  .exact h x c e)
theorem uj{cells:List (Str×Addr)}:∀(l:List (Str×NameKind)) (cs:List (Str×Addr)) (x:Str),((∃c,cs.lookup x=some c)\/((x,NameKind.free)∈l/\∃c,cells.lookup x=some c))->∃c,(l.foldl (λcs x=>jE cells x cs) cs).lookup x=some c
 |[],cs,x,h=>by
  rcases h with h|⟨h,_⟩
  .exact h
  .cases h
 |y::l,cs,x,h=>by
  refine uj l _ x ?_;rcases h with⟨c,e⟩|⟨hm,c,e⟩
  .left;change ∃c,(jE cells y cs).lookup x=some c;unfold jE;split
   .split
    .rename_i c' _;rw[List.lookup_cons];split
     .exact⟨c',rfl⟩
     .exact⟨c,e⟩
    .exact⟨c,e⟩
   .exact⟨c,e⟩
  .rcases List.mem_cons.mp hm with q|q
   .left;subst q;simp[jE,e]
   .exact .inr ⟨q,c,e⟩
theorem zc{env:Env}(hk:env.scope.kind = .function):∀{names:List (Str×NameKind)} {x:Str},names.lookup x=some .free->env.kindOf x=some .cell ->
  (names.map λ(n,k)=>if(k==NameKind.free&&env.scope.kind == .function&&env.kindOf n==some .cell) then(n,NameKind.cell) else(n,k)).lookup x=some .cell
 |[],_,h,_=>by simp at h
 | (n,k)::r,x,h,hc=>by
  have ih:=@zc env hk r x;show List.lookup x ((if(k==NameKind.free&&env.scope.kind == .function&&env.kindOf n==some .cell)=true then(n,NameKind.cell) else(n,k))::_)=_;cases hx:x==n with
  |true=>simp only[List.lookup_cons,hx]at h;cases h;have:=eq_of_beq hx;subst this;simp[List.lookup_cons,hk,hc]
  |false=>
   simp only[List.lookup_cons,hx]at h;by_cases hq:(k==NameKind.free&&env.scope.kind == .function&&env.kindOf n==some .cell)=true
   .rw[if_pos hq];simp only[List.lookup_cons,hx];exact ih h hc
   .rw[if_neg hq];simp only[List.lookup_cons,hx];exact ih h hc
theorem je{env:Env}:∀{names:List (Str×NameKind)} {x:Str} {k:NameKind},(∀y∈names,y.2 ≠ .cell) ->
  (names.map λ(n,k)=>if(k==NameKind.free&&env.scope.kind == .function&&env.kindOf n==some .cell) then(n,NameKind.cell) else(n,k)).lookup x=some k->k = .cell\/k = .free->(x,NameKind.free)∈names
 |[],_,_,_,h,_=>by simp at h
 | (n,k)::r,x,k',hn,h,hk=>by
  have ih:=@je env r x k' λy hy=>hn y (List.mem_cons_of_mem _ hy);have h':List.lookup x ((if(k==NameKind.free&&env.scope.kind == .function&&env.kindOf n==some .cell)=true then(n,NameKind.cell) else(n,k))::(r.map λ(n,k)=>if(k==NameKind.free&&env.scope.kind == .function&&env.kindOf n==some .cell) then(n,NameKind.cell) else(n,k)))=some k':=h;cases hx:x==n with
  |true=>
   have e:=eq_of_beq hx;subst e;by_cases hq:(k==NameKind.free&&env.scope.kind == .function&&env.kindOf x==some .cell)=true
   .have:k = .free:=by simp only[Bool.and_eq_true]at hq;exact eq_of_beq hq.1.1
    subst this;exact List.mem_cons_self
   .rw[if_neg hq]at h';simp only[List.lookup_cons,hx]at h';cases h';rcases hk with hk|hk
    .exact absurd hk (hn _ List.mem_cons_self)
    .have hk:k = .free:=hk;subst hk;exact List.mem_cons_self
  |false=>
   have h2:(r.map λ(n,k)=>if(k==NameKind.free&&env.scope.kind == .function&&env.kindOf n==some .cell) then(n,NameKind.cell) else(n,k)).lookup x=some k':=by
    by_cases hq:(k==NameKind.free&&env.scope.kind == .function&&env.kindOf n==some .cell)=true
    .rw[if_pos hq]at h';simpa only[List.lookup_cons,hx]using h'
    .rw[if_neg hq]at h';simpa only[List.lookup_cons,hx]using h'
   exact List.mem_cons_of_mem _ (ih h2 hk)
def Cx.comp(X:Cx)(N':List Str)(scope:Scope)(s3:Shared)(H3:Hp)(C:Addr)(fp:List Addr):Cx:=
 { X with N:=N',s₀:=s3,H₀:=H3,env:=compEnvC scope (mP scope X.env) C X.env,outer:=X.stack,ex:=fp,fn:=λ_=>false,pn:=[],xe:=λ_ _=>False }
structure iJ(X:Cx)(N':List Str)(scope:Scope):Prop where
 kind:scope.kind = .function
 jq:∀y∈scope.names,y.2 ≠ .cell
 yy:∀y∈scope.names,y.2 = .local->scope.names.lookup y.1=some .local
 free:∀y∈scope.names,y.2 = .free->X.env.scope.names.lookup y.1=some .cell
section
variable {X:Cx}{N':List Str}{scope:Scope}{pins:List (Addr×Obj)}{σ σ':St}{H:Hp}{s:Shared}{fp:List Addr}{C:Addr}
theorem iJ.uo(hs:iJ X N' scope)(ok:X.Ok):closureFor scope X.env=pure (mP scope X.env):=
 Kf λx hx hk=>ok.has x.1 (.inl (hs.free x hx hk))
theorem qU{x:Str}{c:Addr}(h:(mP scope X.env).lookup x=some c):X.env.cells.lookup x=some c:=uk _ [] (λx c e=>by simp at e) x c h
theorem iJ.has(hs:iJ X N' scope)(ok:X.Ok){x:Str}(h:(x,NameKind.free)∈scope.names):∃c,(mP scope X.env).lookup x=some c:=
 uj _ [] x (.inr ⟨h,ok.has x (.inl (hs.free _ h rfl))⟩)
theorem Inv.lE(I:Inv X pins σ H s)(hs:iJ X N' scope)(hf:∀b∈fp,eK X pins H b/\b≠C)(hC:s.heap.objs.size<=C):(X.comp N' scope s H C fp).Ok where
 mod:=I.ok.mod
 kind:=hs.kind
 glob:=I.ok.glob
 blt:=I.ok.blt
 above:=hC
 inj:=λx y c e1 e2=>I.ok.inj x y c (qU e1) (qU e2)
 has:=λx hx=>by
  rcases hx with hx|hx
  .exact hs.has I.ok (je hs.jq hx (.inl rfl))
  .exact hs.has I.ok (je hs.jq hx (.inr rfl))
 lC:=λx c h=>by cases h
 hd:=I.ok.hd
 frames:=I.ok.frames
 fH:=.inl rfl
 lG:=λb hb=>⟨(hf b hb).2,λx c e=>(hf b hb).1.2.2.2.2.1 x c (qU e)⟩
 bs:=λb o e=>I.bs b o e
 gY:=Nat.le_trans I.ok.gY I.sz
 lQ:=λb o e hb=>by
  rcases(hf b hb).1.2.2.2.1 with z|z
  .exact I.ok.lQ b o e z
  .exact absurd (Nat.lt_of_lt_of_le (Nat.lt_of_lt_of_le (Heap.lt_size e) I.ok.gY) z) (Nat.lt_irrefl _)
 kC:=λb hb hz=>by
  rcases List.mem_cons.mp (I.vR b hz)with e|e
  .exact(hf b hb).1.2.1 e
  .exact(hf b hb).1.2.2.1 e
 fE:=I.stack
 jI:=I.sL
theorem Inv.comp{h4:Heap}{t:Nat}{m0:Str->Option Value}(I:Inv X pins σ H s)(hs:iJ X N' scope)(hf:∀b∈fp,eK X pins H b/\b≠C)(hC:s.heap.objs.size<=C)
  (k:∀b o,s.heap.get? b=some o->h4.get? b=some o) (hn:h4.Ns C m0) (hl:σ'.length=N'.length)
  (hσ:∀(i:Nat) x v,N'[i]?=some x->σ'[i]?=some (some v)->scope.names.lookup x=some .free/\(x,NameKind.free)∈scope.names/\∃j:Nat,X.N[j]?=some x/\σ[j]?=some (some v)) :
  Inv (X.comp N' scope s H C fp) [] σ' H { s with heap:=h4,toks:=t } where
 ok:=I.lE hs hf hC
 os:=rfl
 bare:=I.bare
 base:=Un.kept k
 loc:=⟨m0,hn,λi x v e1 e2 _=>by
  obtain⟨hx,hm,j,e3,e4⟩:=hσ i x v e1 e2;obtain⟨m,_,hl⟩:=I.loc;have hk:=hs.free _ hm rfl;obtain⟨u,r,lk⟩:=hl j x v e3 e4 (.inr (.inl hk));refine⟨u,r,.inr ⟨.inl (zc I.ok.kind hx hk),?_⟩⟩;rcases lk with⟨z,_⟩|⟨_,c,ec,hc⟩
  .rw[show X.env.kindOf x=some .cell from hk]at z;cases z
  .obtain⟨c',e'⟩:=hs.has I.ok hm;have:=qU e';rw[ec]at this;cases this;obtain⟨o,ho,hd⟩:=hc;exact⟨c,e',o,k _ _ ho,hd⟩⟩
 cell:=λx c e=>by obtain⟨v,o,ho,hd⟩:=I.cell x c (qU e);exact⟨v,o,k _ _ ho,hd⟩
 free:=I.aI.fresh hC
 eS:=λx c e=>I.eS x c (qU e)
 pin:=λp hp=>by cases hp
 aI:=I.aI.kept k
 len:=hl
end
noncomputable abbrev gM(us:List Value)(k:Nat):Obj:={ cls:=.type "list",data:=.seq us.toArray k }
theorem bu{α:Type}{M:Model}{A:Around}{t:Sem α}{Q:α->Shared->Prop}{E:Value->Shared->Prop}{s:Shared}(h:wpAny M A t Q (λ_ _=>False) s):wpAny M A t Q E s:=wpAny_mono h (λ_ _ q=>q) λ_ _ z=>z.elim
section
variable {X:Cx}{N':List Str}{scope:Scope}{pins:List (Addr×Obj)}{σ σ':St}{H H2:Hp}{s s2:Shared}{fp:List Addr}{it:Addr}{tn:Nat->Heap->Prop}{J:It}{elt tg aZ:Expr}{pos:Pos}
theorem Inv.IE{D:Addr}{ys:List V}{us:List Value}{k:Nat}(I:Inv X pins σ H s)(hD:eK X pins H D)(ho:s.heap.get? D=some (gM us k))(r:Vals ys us)(hz:ys.length<=sizeLine):Inv X pins σ (aK H D (.lst ys)) s:=by
 have hn:=hD.1;show Inv X pins σ (aK H D (.lst ys)) { s with heap:=s.heap,gens:=s.gens,drawn:=s.drawn,toks:=s.toks };refine I.step (ch:=[D]) (λb hb=>?_) (λb o _ _ _ e _=>e) (λb o _ _ _ e _=>⟨o.slots,e⟩) (λb o hc e n=>?_) (λb o _ e=>⟨o,e⟩) (λb xs e=>by rw[aT (dG e hn)];exact e) (λb o u e=>by rw[aT (dG e hn)];exact e) (λb ps e=>⟨#[],by rw[aT (dG e hn),e];simp⟩) (λm hm=>hm) (λb u e=>?_) I.bare
 .have e:b=D:=by simpa using hb
  subst e;exact⟨hD.2.2.2.1,hD.2.1,hD.2.2.2.2.1,hD.2.2.2.2.2⟩
 .rw[aT (λz=>hc (by simp[z]))];exact n
 .by_cases hb:b=D
  .subst hb;rw[eF]at e;cases e;exact⟨hz,us,k,r,ho⟩
  .rw[aT hb]at e;exact(I.aI b u e).iY (λc v hc q=>q) (λc q=>by rw[aT (dG q hn)];exact q) λc xs q=>by rw[aT (dG q hn)];exact q
theorem uu{ct:Option Expr}{g:TG}{tc:TT}{te:TE}{R:List V->Hp->Prop}{W:Nat->Nat->List V->St->Hp->Prop}{m0:Nat}{RR:Value->Addr->Result->Shared->Prop}{E:Value->Shared->Prop}
  (hsc:iJ X N' scope) (hcalm:X.calm=true) (I2:Inv X pins σ H2 s2) (T:Turn X.prog X.w X.K tg J fp it tn) (st2:tn 0 s2.heap) (f2:∀b∈fp,eK X pins H2 b)
  (hg:∀s H C fp,PG (X.comp N' scope s H C fp) tg g) (hct:∀c,ct=some c->∀s H C fp,PT (X.comp N' scope s H C fp) c tc) (hct0:ct=none->∀σ H Q,tc σ H Q->Q true H) (he:∀s H C fp,PE (X.comp N' scope s H C fp) elt te)
  (hl:σ'.length=N'.length) (hσ:∀(i:Nat) x v,N'[i]?=some x->σ'[i]?=some (some v)->scope.names.lookup x=some .free/\(x,NameKind.free)∈scope.names/\∃j:Nat,X.N[j]?=some x/\σ[j]?=some (some v))
  (w0:W 0 m0 [] σ' H2)
  (turn:∀i m ys σ H,W i m ys σ H->(J.stop i H/\R ys H)\/(J.go i H/\∀x H',J.wI i H x H'->g x σ H' λσ2 H2=>tc σ2 H2 λb H3=>if b=true then te σ2 H3 λy H4=>ys.length<sizeLine/\∃m',m'<m/\W (i+1) m' (ys++[y]) σ2 H4 else∃m',m'<m/\W (i+1) m' ys σ2 H3))
  (hRR:∀D C s' H' m ys,Inv X pins σ (aK H' D (.lst ys)) s'->H' D=none->s'.heap.Ns C m->eK X pins (aK H' D (.lst ys)) C->R ys H'->RR (.ref D) C (.ok .next) s') :
  wpAny (model X.prog X.w) X.A (newList []) (λacc s₃=>wpAny (model X.prog X.w) X.A (newFunctionEnv scope X.env.globals (mP scope X.env) [] X.env.qual none .none (some X.env)) (λcenv s₄=>codeAny (model X.prog X.w) X.A (.compStart (.ListComp elt [⟨tg,aZ,ct.toList,0⟩] scope pos) 0 (.ref it) acc { cenv with scope:=relabel scope X.env }) (RR acc cenv.locals) s₄) E s₃) E s2:=by
 refine wpAny_newObj_type (wpAny_newFunctionEnv hsc.jq (by intro y hy;simp at hy) (λh₁ hns₁ hsb₁=>?_) hsc.kind);dsimp only at hns₁ hsb₁ ⊢;generalize hH2:s2.heap.push { cls:=.type "list",dict:=none,data:=.seq ([]:List Value).toArray }=hp2 at hns₁ hsb₁ ⊢;have hC:hp2.objs.size=s2.heap.objs.size+1:=by rw[<- hH2,Heap.size_push]
 have hDC:s2.heap.objs.size≠hp2.objs.size:=by rw[hC];exact Nat.ne_of_lt (Nat.lt_succ_self _)
 have hCle:s2.heap.objs.size<=hp2.objs.size:=by rw[hC];exact Nat.le_succ _
 have below:∀b,b<s2.heap.objs.size->b≠hp2.objs.size/\b≠s2.heap.objs.size:=λb hb=>⟨by rw[hC];exact Nat.ne_of_lt (Nat.lt_succ_of_lt hb),Nat.ne_of_lt hb⟩;have old:∀b o,s2.heap.get? b=some o->h₁.get? b=some o:=λb o e=>hsb₁.extBut b o (below b (Heap.lt_size e)).1 (Heap.get?_push_of_some _ (hH2▸Heap.get?_push_of_some _ e));have hacc:h₁.get? s2.heap.objs.size=some (gM [] 0):=hsb₁.extBut _ _ hDC (Heap.get?_push_of_some _ (hH2▸Heap.get?_push_size _ rfl));have fD:eK X pins H2 s2.heap.objs.size:=I2.lH (Nat.le_refl _) (I2.aI.fresh (Nat.le_refl _));have lfp:∀b∈fp,b<s2.heap.objs.size:=λb hb=>by obtain⟨o,e,_⟩:=T.obj 0 _ st2 b hb;exact Heap.lt_size e
 have hf':∀b∈s2.heap.objs.size::fp,eK X pins H2 b/\b≠hp2.objs.size:=λb hb=>by
  rcases List.mem_cons.mp hb with rfl|hb
  .exact⟨fD,hDC⟩
  .exact⟨f2 b hb,(below b (lfp b hb)).1⟩
 have IY:=I2.comp (t:=s2.toks+([]:List (Str×Value)).length) hsc hf' hCle old hns₁ hl hσ;generalize hDd:s2.heap.objs.size=D at *;generalize hCd:hp2.objs.size=C at *;have fnD:∀b∈fp,b≠D:=λb hb=>(below b (lfp b hb)).2;have ok:=IY.ok;have hg':=hg s2 H2 C (D::fp);have hct':=λc e=>hct c e s2 H2 C (D::fp);have he':=he s2 H2 C (D::fp);have fY:∀{pl:List (Addr×Obj)} {H':Hp} {b:Addr},b∈D::fp->H' b=none->(∀p∈pl,p.1≠b)->eK (X.comp N' scope s2 H2 C (D::fp)) pl H' b:=λ{pl H' b} hb hn hp=>
  ⟨hn,(ok.lG b hb).1,ok.kC b hb,.inl hb,(ok.lG b hb).2,λp h=>hp p (by simpa[Cx.comp]using h)⟩
 let Iv:Nat->Shared->Prop:=λn s'=>∃(i:Nat) (ys:List V) (us:List Value) (k:Nat) (σ':St) (H':Hp),Inv (X.comp N' scope s2 H2 C (D::fp)) [] σ' H' s'/\tn i s'.heap/\(∀b∈D::fp,H' b=none)/\s'.heap.get? D=some (gM us k)/\Vals ys us/\ys.length<=sizeLine/\W i n ys σ' H'
 have turnA:∀(n:Nat) (s':Shared),Iv n s'->∀(K:Shared->Prop) (E':Value->Shared->Prop),
   (∀(i:Nat) (ys:List V) (us:List Value) (k:Nat) (pl:List (Addr×Obj)) (σ6:St) (H6:Hp) (s6:Shared),Inv (X.comp N' scope s2 H2 C (D::fp)) ([(D,gM us k)]++pl) σ6 H6 s6 ->
    (∀h7:Heap,(∀p∈pl,h7.get? p.1=some p.2)->tn (i+1) h7)->(∀b∈fp,∃o,(b,o)∈pl)->(∀p∈pl,p.1∈fp)->Vals ys us->ys.length<=sizeLine ->
    (tc σ6 H6 λb H3=>if b=true then te σ6 H3 λy H4=>ys.length<sizeLine/\∃m',m'<n/\W (i+1) m' (ys++[y]) σ6 H4 else∃m',m'<n/\W (i+1) m' ys σ6 H3)->K s6) ->
   wpAny (model X.prog X.w) X.A (pyNext (.ref it)) (λr s1=>match r with
    |none=>RR (.ref D) C (.ok .next) s1
    |some v=>wpAny (model X.prog X.w) X.A (letOwnedTupleGo tg (.ref it) v) (λ_ s0=>wpAny (model X.prog X.w) X.A (assign tg (compEnvC scope (mP scope X.env) C X.env) v) (λ_ s2=>K s2) E' s0) E' s1) E' s':=by
  rintro n s' ⟨i,ys,us,k,σ3,H3,I3,st3,fr3,hD3,rv3,hz3,w3⟩ K E' hK
  have I3':Inv (X.comp N' scope s2 H2 C (D::fp)) [(D,gM us k)] σ3 H3 s':=I3.rR λp hp=>by
   have e:p=(D,gM us k):=by simpa using hp
   subst e;exact⟨hD3,fr3 D List.mem_cons_self,(ok.lG D List.mem_cons_self).1,ok.kC D List.mem_cons_self,λv z=>by cases z⟩
  have fp3:∀{H':Hp},(∀b∈fp,H' b=none)->∀b∈fp,eK (X.comp N' scope s2 H2 C (D::fp)) [(D,gM us k)] H' b:=λhn b hb=>fY (List.mem_cons_of_mem _ hb) (hn b hb) λp hp=>by
   have e:p=(D,gM us k):=by simpa using hp
   subst e;exact Ne.symm (fnD b hb)
  have fr3':∀b∈fp,H3 b=none:=λb hb=>fr3 b (List.mem_cons_of_mem _ hb);rcases turn i n ys σ3 H3 w3 with⟨stop,hR⟩|⟨go,step⟩
  .refine aJ (T.done (X.comp N' scope s2 H2 C (D::fp)) rfl rfl rfl hcalm i _ s' σ3 H3 E' I3' (fp3 fr3') st3 stop) λr s4 ⟨hr,I4⟩=>?_;subst hr;obtain⟨gD,nD,_⟩:=I4.pin (D,gM us k) (List.mem_append_right _ List.mem_cons_self);obtain⟨m,hn,_⟩:=id I4.loc;have IX:Inv X pins σ H3 s4:=I2.ud (ch:=D::fp) I4.os I4.base I4.aI I4.bare λb hb=>⟨(hf' b hb).1.2.2.2.1,(hf' b hb).1.2.1,(hf' b hb).1.2.2.2.2.1,(hf' b hb).1.2.2.2.2.2⟩;refine hRR D C s4 H3 m ys (IX.IE ⟨nD,fD.2⟩ gD rv3 hz3) nD hn ⟨by rw[aT (Ne.symm hDC)];exact I4.free,?_⟩ hR;have fC:eK X pins H3 C:=I2.lH (by rw[hDd];exact hCle) I4.free;exact fC.2
  .refine aJ (T.item (X.comp N' scope s2 H2 C (D::fp)) rfl rfl rfl hcalm i _ s' σ3 H3 E' I3' (fp3 fr3') st3 go) λr s4 ⟨u,hr,h4⟩=>?_;subst hr;refine aJ h4 λ_ s5 ⟨x,H5,I5,r5,y5,st5,fr5⟩=>?_;have I5':=I5.pinned (fp3 fr5) (T.obj _ _ st5);refine bu (aJ (hg' _ s5 σ3 H5 x u _ I5' r5 (step x H5 y5)) λ_ s6 ⟨σ6,H6,I6,q6⟩=>?_);refine hK i ys us k _ σ6 H6 s6 I6 (λh7 h=>T.keep _ _ _ st5 λb hb o e=>h (b,o) (yI hb e)) (λb hb=>?_) (λp hp=>(Aa hp).1) rv3 hz3 q6;obtain⟨o,e,_⟩:=T.obj _ _ st5 b hb;exact⟨o,yI hb e⟩
 have back:∀{n i:Nat} {ys:List V} {us:List Value} {k:Nat} {pl:List (Addr×Obj)} {σ6:St} {H6:Hp} {s6:Shared},Inv (X.comp N' scope s2 H2 C (D::fp)) ([(D,gM us k)]++pl) σ6 H6 s6 ->
   (∀h7:Heap,(∀p∈pl,h7.get? p.1=some p.2)->tn (i+1) h7)->(∀b∈fp,∃o,(b,o)∈pl)->Vals ys us->ys.length<=sizeLine->(∃m',m'<n/\W (i+1) m' ys σ6 H6)->∃m',m'<n/\Iv m' s6:=by
  intro n i ys us k pl σ6 H6 s6 I6 ht hall rv hz ⟨m',hm,w⟩;obtain⟨gD,nD,_⟩:=I6.pin (D,gM us k) (List.mem_append_right _ (List.mem_append_left _ List.mem_cons_self));refine⟨m',hm,i+1,ys,us,k,σ6,H6,I6.rR λp hp=>(by cases hp),ht _ λp hp=>(I6.pin p (List.mem_append_right _ (List.mem_append_right _ hp))).1,λb hb=>?_,gD,rv,hz,w⟩;rcases List.mem_cons.mp hb with rfl|hb
  .exact nD
  .obtain⟨o,ho⟩:=hall b hb;exact(I6.pin _ (List.mem_append_right _ (List.mem_append_right _ ho))).2.1
 have app:∀{n i:Nat} {ys:List V} {us:List Value} {k:Nat} {pl:List (Addr×Obj)} {σ6:St} {H7:Hp} {s7:Shared} {y:V} {v:Value} {E':Value->Shared->Prop},Inv (X.comp N' scope s2 H2 C (D::fp)) ([(D,gM us k)]++pl) σ6 H7 s7 ->
   (∀h7:Heap,(∀p∈pl,h7.get? p.1=some p.2)->tn (i+1) h7)->(∀b∈fp,∃o,(b,o)∈pl)->(∀p∈pl,p.1∈fp)->Vals ys us->RelV y v->ys.length<sizeLine->(∃m',m'<n/\W (i+1) m' (ys++[y]) σ6 H7) ->
   wpAny (model X.prog X.w) X.A (call (.builtin "list.append") [.ref D,v]) (λ_ s8=>∃m',m'<n/\Iv m' s8) E' s7:=by
  intro n i ys us k pl σ6 H7 s7 y v E' I7 ht hall hpl rv ry hz ⟨m',hm,w⟩;obtain⟨gD,nD,_⟩:=I7.pin (D,gM us k) (List.mem_append_right _ (List.mem_append_left _ List.mem_cons_self));have hus:us.length<sizeLine:=by rw[<- rv.length];exact hz
  refine append_at (hsz:=by rw[List.size_toArray];exact Nat.le_of_lt hus) gD λh8 hs8 g8=>?_;have nb:∀b∈D::fp,H7 b=none:=λb hb=>by
   rcases List.mem_cons.mp hb with rfl|hb
   .exact nD
   .obtain⟨o,ho⟩:=hall b hb;exact(I7.pin _ (List.mem_append_right _ (List.mem_append_right _ ho))).2.1
  have f8:=fY (pl:=[]) (H':=H7) (b:=D) List.mem_cons_self nD (λp hp=>by cases hp);refine⟨m',hm,i+1,ys++[y],us++[v],k+1,σ6,H7,(I7.rR (pins':=[]) λp hp=>(by cases hp)).turned (t':=s7.toks) (it:=D) (λb o hb e=>hs8.extBut b o hb e) nD f8.2.1 f8.2.2.2.1 f8.2.2.2.2.1 f8.2.2.2.2.2,
   ht _ λp hp=>?_,nb,?_,rv.append (.cons ry .nil),?_,w⟩
  .exact hs8.extBut _ _ (fnD _ (hpl p hp)) (I7.pin p (List.mem_append_right _ (List.mem_append_right _ hp))).1
  .show h8.get? D=_;rw[g8];simp[gM]
  .rw[List.length_append];exact hz
 have i0:Iv m0 { s2 with heap:=h₁,toks:=s2.toks+([]:List (Str×Value)).length }:=⟨0,[],[],0,σ',H2,IY,T.keep _ _ _ st2 λb _ o e=>old b o e,λb hb=>(hf' b hb).1.1,hacc,.nil,Nat.zero_le _,w0⟩;have loop:codeAny (model X.prog X.w) X.A (.compLoop (.ListComp elt [⟨tg,aZ,ct.toList,0⟩] scope pos) 0 (.ref it) (.ref D) (compEnvC scope (mP scope X.env) C X.env)) (RR (.ref D) C) { s2 with heap:=h₁,toks:=s2.toks+([]:List (Str×Value)).length }:=by
  cases ct with
  |none=>refine PySem.W.kcp_loop Iv (λn s' hI=>turnA n s' hI _ _ ?_) m0 i0;intro i ys us k pl σ6 H6 s6 I6 ht hall hpl rv hz q6;have q7:=hct0 rfl σ6 H6 _ q6;rw[if_pos rfl]at q7;refine bu (aJ (he' _ s6 σ6 H6 _ I6 q7) λv s7 ⟨y,H7,I7,r7,hz7,w7⟩=>?_);exact app I7 ht hall hpl rv r7 hz7 w7
  |some c=>
   refine PySem.W.kct_loop Iv (λn s' hI=>turnA n s' hI _ _ ?_) m0 i0;intro i ys us k pl σ6 H6 s6 I6 ht hall hpl rv hz q6;refine bu (aJ (hct' c rfl _ s6 σ6 H6 _ I6 q6) λb s7 ⟨H7,I7,q7⟩=>?_);cases b with
   |true=>rw[if_pos rfl]at q7 ⊢;refine bu (aJ (he' _ s7 σ6 H7 _ I7 q7) λv s8 ⟨y,H8,I8,r8,hz8,w8⟩=>?_);exact app I8 ht hall hpl rv r8 hz8 w8
   |false=>rw[if_neg Bool.false_ne_true]at q7 ⊢;exact back I7 ht hall rv hz q7
 exact codeAny_compStart_list loop (T.self _ 0 _ _ _ (T.keep _ _ _ st2 λb _ o e=>old b o e) loop)
def ny(wi:TI)(imp:St->St)(g:TG)(tc:TT)(te:TE):TE:=λσ H Q=>wi σ H λJ H1=>∃(W:Nat->Nat->List V->St->Hp->Prop) (m0:Nat),W 0 m0 [] (imp σ) H1/\∀i m ys σ' H',W i m ys σ' H' ->
 (J.stop i H'/\∀D,H' D=none->Q (.ref D) (aK H' D (.lst ys)))\/(J.go i H'/\∀x H2,J.wI i H' x H2->g x σ' H2 λσ3 H3=>tc σ3 H3 λb H4=>if b=true then te σ3 H4 λy H5=>ys.length<sizeLine/\∃m',m'<m/\W (i+1) m' (ys++[y]) σ3 H5 else∃m',m'<m/\W (i+1) m' ys σ3 H4)
variable {ct:Option Expr}{wi:TI}{imp:St->St}{g:TG}{tc:TT}{te:TE}
theorem Ut(hsc:iJ X N' scope)(hcalm:X.calm=true)(hi:PI X tg aZ wi)
  (hg:∀s H C fp,PG (X.comp N' scope s H C fp) tg g) (hct:∀c,ct=some c->∀s H C fp,PT (X.comp N' scope s H C fp) c tc) (hct0:ct=none->∀σ H Q,tc σ H Q->Q true H) (he:∀s H C fp,PE (X.comp N' scope s H C fp) elt te)
  (himp:∀σ:St,(imp σ).length=N'.length)
  (hσ:∀(σ:St) (i:Nat) x v,N'[i]?=some x->(imp σ)[i]?=some (some v)->scope.names.lookup x=some .free/\(x,NameKind.free)∈scope.names/\∃j:Nat,X.N[j]?=some x/\σ[j]?=some (some v))
  (hset:∀x,foldedSetIterable aZ X.env x=pure x):PE X (.ListComp elt [⟨tg,aZ,ct.toList,0⟩] scope pos) (ny wi imp g tc te):=by
 intro pins s σ H Q I h;rw[eval_ListComp];refine wpAny_comprehension_free (use:=none) (g:=⟨tg,aZ,ct.toList,0⟩) (gs:=[]) rfl hset (hsc.uo I.ok) hsc.kind hsc.yy ?_;refine aJ (hi pins s σ H _ I h) λv s1 h1=>aJ h1 λitv s2 h2=>?_;obtain⟨it,fp,tn,J,H2,e,I2,T,st2,f2,W,m0,w0,turn⟩:=h2;subst e;refine uu (R:=λys H'=>∀D,H' D=none->Q (.ref D) (aK H' D (.lst ys))) hsc hcalm I2 T st2 f2 hg hct hct0 he (himp σ) (hσ σ) w0 turn ?_;intro D C s' H' m ys I' hD hn fC hR;exact⟨m,hn,λh' hs'=>⟨.ref D,_,I'.turned (t':=s'.toks) (λb o hb e=>hs'.extBut b o hb e) fC.1 fC.2.1 fC.2.2.2.1 fC.2.2.2.2.1 fC.2.2.2.2.2,rfl,hR D hD⟩⟩
theorem Wm{i:Nat}{y:Str}{py spos:Pos}(hN:X.N.Nodup)(hi':X.N[i]?=some y)(hy:X.env.scope.names.lookup y=some .local)
  (hsw:swapsWith (.ListComp elt [⟨tg,aZ,ct.toList,0⟩] scope pos) (some (.Name y py)) spos.line X.env=pure true) (hsc:iJ X N' scope) (hcalm:X.calm=true) (hi:PI X tg aZ wi)
  (hg:∀s H C fp,PG (X.comp N' scope s H C fp) tg g) (hct:∀c,ct=some c->∀s H C fp,PT (X.comp N' scope s H C fp) c tc) (hct0:ct=none->∀σ H Q,tc σ H Q->Q true H) (he:∀s H C fp,PE (X.comp N' scope s H C fp) elt te)
  (himp:∀σ:St,(imp σ).length=N'.length)
  (hσ:∀(σ:St) (i:Nat) x v,N'[i]?=some x->(imp σ)[i]?=some (some v)->scope.names.lookup x=some .free/\(x,NameKind.free)∈scope.names/\∃j:Nat,X.N[j]?=some x/\σ[j]?=some (some v))
  (hset:∀x,foldedSetIterable aZ X.env x=pure x):PS X (.Assign [.Name y py] (.ListComp elt [⟨tg,aZ,ct.toList,0⟩] scope pos) spos) (ba (ny wi imp g tc te) (xT i)):=by
 intro pins s σ H D I h;rw[exec_Assign_Name_used _ _ _ _ hsw];refine wpAny_bind (wpAny_standAt (wpAny_bind ?_));show wpAny _ _ (do let _ <- comprehension (.ListComp elt [⟨tg,aZ,ct.toList,0⟩] scope pos) scope X.env _ (newList []) false (eval aZ X.env) (some (assign (.Name y py) X.env))) _ _ s;refine wpAny_bind (wpAny_mono (wpAny_comprehension_free (use:=some (assign (.Name y py) X.env)) (Q:=λ_ s'=>SP X pins D .next s') (g:=⟨tg,aZ,ct.toList,0⟩) (gs:=[]) rfl hset (hsc.uo I.ok) hsc.kind hsc.yy ?_)
  (λ_ s' hq=>wpAny_pure (wpAny_pure hq)) λ_ _ e=>e)
 refine aJ (hi pins s σ H _ I h) λv s1 h1=>aJ h1 λitv s2 h2=>?_;obtain⟨it,fp,tn,J,H2,e,I2,T,st2,f2,W,m0,w0,turn⟩:=h2;subst e;refine uu (R:=λys H'=>∀d,H' d=none->D.nx (σ.set i (some (.ref d))) (aK H' d (.lst ys))) hsc hcalm I2 T st2 f2 hg hct hct0 he (himp σ) (hσ σ) w0 turn ?_;intro d C s' H' m ys I' hD hn fC hR;obtain⟨oC,es,ep,hoC,hd1,rC⟩:=id hn;have I'':Inv X (pins++[(C,oC)]) σ (aK H' d (.lst ys)) s':=I'.rR λp hp=>(List.mem_append.mp hp).elim (λz=>I'.pin p (List.mem_append_right _ z)) λz=>by
  have e:p=(C,oC):=by simpa using z
  subst e;exact⟨hoC,fC.1,fC.2.1,fC.2.2.1,λv z=>by rw[hd1]at z;cases z⟩
 refine wpAny_assign_Name (lZ I'' hN hi' (.inl hy) (v:=.ref d) rfl (λs3 I3=>?_) (.inr hy));have p3:=(I3.pin (C,oC) (List.mem_append_right _ (List.mem_append_right _ List.mem_cons_self))).1;exact⟨m,⟨oC,es,ep,p3,hd1,rC⟩,λh' hs'=>⟨_,_,I3.cc.turned (t':=s3.toks) (λb o hb e=>hs'.extBut b o hb e) fC.1 fC.2.1 fC.2.2.2.1 fC.2.2.2.2.1 fC.2.2.2.2.2,hR d hD⟩⟩
end
section
variable {X:Cx}
theorem Eb:∀{ts:List Str} {us:List Value},Vals (ts.map V.str) us->∃l:List (Str×Tok),us=strValues l/\l.map (·.1)=ts
 |[],_,.nil=>⟨[],rfl,rfl⟩
 |t::ts,_,.cons ⟨k,e⟩ r=>by obtain⟨l,e1,e2⟩:=Eb r;subst e;exact⟨(t,k)::l,by rw[e1];rfl,by rw[List.map_cons,e2]⟩
def DB(K:W.Frag):V->List V->Hp->VK->Prop:=λx xs H Q=>∃(z:Str) (p:Addr) (ts:List Str),x = .str z/\xs=[.ref p]/\bA K H p (ts.map V.str)/\JoinOk z ts=true/\Q (.str (Txt.join z ts)) H
theorem Qi:iK X "str.join" (DB X.K):=by intro pins s σ H x xs v us Q I rx r h;obtain⟨z,p,ts,rfl,rfl,hq,hj,q⟩:=h;obtain⟨t,rfl⟩:=rx;obtain⟨u,rfl,ru⟩:=eW r;cases ru;obtain⟨its,rv,pl,_⟩:=I.list hq;obtain⟨l,rfl,e2⟩:=Eb rv;exact SC.join pl.isList e2 hj λt' k=>⟨.str _,H,I.tok _,⟨_,rfl⟩,q⟩
def oK(P:Program)(w:World)(K:W.Frag)(a:Addr)(us:List (Str×Value)):Prop:=∀h:Heap,K.In h->h.DictOf (strKind P w) a us
def aj:Addr->Value->Bool
 |a,.ref b=>a==b
 |_,_=>false
theorem Ue(P:Program)(w:World){es:List DictEntry}{D:List (Str×Addr)}(h:KTD.Rows (λ(d:Addr) v=>v = .ref d) es D):es.map (·.hash)=D.map (λp=>(PySem.strKind P w).hash p.1) ->
  (∀e∈es,∃k,(PySem.strKind P w).is k e.key=true/\e.hash=(PySem.strKind P w).hash k)/\Pairs (PySem.strKind P w) es (D.map λp=>(p.1,Value.ref p.2)):=by
 induction h with
 |nil=>exact λ_=>⟨λ_ h=>(nomatch h),.nil⟩|@cons e x t d es D hkey hv _ ih=>
  intro hh;rw[List.map_cons,List.map_cons]at hh;injection hh with h1 h2;obtain⟨hk,hp⟩:=ih h2;have hi:(PySem.strKind P w).is x e.key=true:=by rw[hkey];exact strKind_is P w x t
  refine⟨λe' he'=>?_,.cons hi hv hp⟩;rcases List.mem_cons.mp he' with rfl|he'
  .exact⟨x,hi,h1⟩
  .exact hk e' he'
theorem Ox{P:Program}{w:World}{K:W.Frag}{a:Addr}{o:Obj}{D:List (Str×Addr)}(l:K.lookup a=some o)(e:KTD.tabLook aj (λ_=>some o) a D=true)
  (n:(D.map (·.1)).Nodup) (q:KTD.hashesOf (λ_=>some o) a=D.map λp=>(PySem.strKind P w).hash p.1):oK P w K a (D.map λp=>(p.1,Value.ref p.2)):=λh x=>by
 have e':KTD.tabLook aj (λb=>K.lookup b) a D=true:=by rw[<- e];simp only[KTD.tabLook,l]
 obtain⟨_,o',es,ep,g1,g2,g3,g4⟩:=KTD.tab_of_look (R:=λ(d:Addr) v=>v = .ref d) (λd v hd=>by cases v<;>first|cases hd|exact congrArg Value.ref (eq_of_beq hd).symm) (λb o r=>x b o r) e'
 have ho:o'=o:=Option.some.inj ((g1.symm.trans (x a o l)));subst ho;have hh:es.toList.map (·.hash)=D.map λp=>(PySem.strKind P w).hash p.1:=by rw[<- q];unfold KTD.hashesOf;simp only[g3]
 obtain⟨hk,hp⟩:=Ue P w g4 hh;exact⟨o',es,ep,g1,g2,g3,λe he=>hk e (by simpa using he),hp,by rw[List.map_map];exact n⟩
def rW(o:Obj):List (Str×Addr):=match o.data with
 |.dict es _=>es.toList.filterMap λe=>match e.key,e.val with
  |.str k _,.ref a=>some (k,a)
  |_,_=>none
 |_=>[]
def Ey(o:Obj)(ts:List Str):Bool:=o.cls == .type "tuple"&&(match o.data with
 |.seq vs _=>KTD.strsLook vs.toList ts&&decide (ts.length<=1000)
 |_=>false)
def wC(K:W.Frag):List (Str×Addr)->List (Str×List Str)->Bool
 |[],[]=>true
 | (k,a)::r,(k',ts)::r'=>k==k'&&(match K.lookup a with
  |some o=>Ey o ts
  |none=>false)&&wC K r r'
 |_,_=>false
theorem GF:∀{vs:List Value} {ts:List Str},KTD.strsLook vs ts=true->Vals (ts.map V.str) vs:=by
 intro vs;induction vs with
 |nil=>intro ts h;cases ts with|nil=>exact .nil|cons n ns=>simp[KTD.strsLook]at h
 |cons v vs ih=>
  intro ts h;cases ts with
  |nil=>cases v<;>simp[KTD.strsLook]at h|cons n ns=>cases v<;>simp[KTD.strsLook]at h;obtain⟨rfl,h⟩:=h;exact .cons ⟨_,rfl⟩ (ih h)
theorem Fb{K:W.Frag}:∀{D:List (Str×Addr)} {ks:List (Str×List Str)},wC K D ks=true->D.map (·.1)=ks.map (·.1)/\∀k ts,ks.lookup k=some ts ->
  ∃(a:Addr) (o:Obj) (vs:Array Value) (n:Nat),valueAt (D.map λp=>(p.1,Value.ref p.2)) k=some (.ref a)/\K.lookup a=some o/\o.cls = .type "tuple"/\o.data = .seq vs n/\vs.size<=sizeLine/\Vals (ts.map V.str) vs.toList
 |[],[],_=>⟨rfl,λk ts h=>by cases h⟩
 | (k,a)::r,(k',us)::r',h=>by
  simp only[wC,Bool.and_eq_true]at h;obtain⟨⟨h1,h2⟩,h3⟩:=h;obtain rfl:=eq_of_beq h1;obtain⟨g1,g2⟩:=Fb h3;refine⟨by rw[List.map_cons,List.map_cons,g1],λx ts e=>?_⟩;rw[List.lookup_cons]at e;split at e
  .rename_i q;obtain rfl:=eq_of_beq q;cases e;split at h2
   .rename_i o ho;simp only[Ey,Bool.and_eq_true]at h2;obtain⟨k1,k2⟩:=h2;split at k2
    .rename_i vs n hd;rw[Bool.and_eq_true]at k2;have v:=GF k2.1;have hl:=v.length;have hz:=of_decide_eq_true k2.2;refine⟨a,o,vs,n,by simp[valueAt],ho,eq_of_beq k1,hd,?_,v⟩;have hs:sizeLine=16777216:=sizeLine_eq;have hq:vs.toList.length=vs.size:=by simp
     rw[List.length_map]at hl;omega
    .cases k2
   .cases h2
  .rename_i q;obtain⟨a',o,vs,n,z,r⟩:=g2 x ts e;refine⟨a',o,vs,n,?_,r⟩;have hn:¬(k=x):=λz=>by subst z;simp at q
   rw[<- z,List.map_cons];simp[valueAt,List.find?_cons,hn]
 |[],_::_,h=>by cases h
 |_::_,[],h=>by cases h
def DA(X:Cx):R2:=λx y H Q=>∃(a:Addr) (us:List (Str×Value)) (k:Str) (u:Value) (v:V),x = .ref a/\y = .str k/\oK X.prog X.w X.K a us/\valueAt us k=some u/\RelV v u/\Q v H
theorem Oi:jB X (DA X):=by intro value slice pins s σ H x y v u Q I rx ry h hs;obtain⟨a,us,k,z,vz,rfl,rfl,hT,he,rz,q⟩:=h;cases rx;obtain⟨t,rfl⟩:=ry;have hm:=(hT _ I.cW).mapOf;exact tail_any hm.typeIs slot_dict_getitem.lookup (wpAny_getItem_of (strKind_is X.prog X.w k t) hm he ⟨vz,H,I.tok _,rz,q⟩) hs
end
section
variable {X:Cx}
theorem Qm:iK X "str.startswith" (λx xs H Q=>∃z y,x = .str z/\xs=[.str y]/\Q (.bl (Txt.startswith z y)) H):=by intro pins s σ H x xs v us Q I rx r h;obtain⟨z,y,rfl,rfl,q⟩:=h;obtain⟨t,rfl⟩:=rx;obtain⟨u,rfl,t',rfl⟩:=eW r;exact SC.startswith ⟨.bl _,H,I,rfl,q⟩
theorem Qh:iK X "str.endswith" (λx xs H Q=>∃z y,x = .str z/\xs=[.str y]/\Q (.bl (Txt.endswith z y)) H):=by intro pins s σ H x xs v us Q I rx r h;obtain⟨z,y,rfl,rfl,q⟩:=h;obtain⟨t,rfl⟩:=rx;obtain⟨u,rfl,t',rfl⟩:=eW r;exact SC.endswith ⟨.bl _,H,I,rfl,q⟩
theorem Qn:iK X "str.strip" (λx xs H Q=>∃z y,x = .str z/\xs=[.str y]/\z.length<=sizeLine/\Q (.str (Txt.stripChars z y)) H):=by intro pins s σ H x xs v us Q I rx r h;obtain⟨z,y,rfl,rfl,hz,q⟩:=h;obtain⟨t,rfl⟩:=rx;obtain⟨u,rfl,t',rfl⟩:=eW r;exact SC.stripChars (λt' k=>⟨.str _,H,I.tok _,⟨_,rfl⟩,q⟩) hz
theorem Qj:iK X "str.lstrip" (λx xs H Q=>∃z y,x = .str z/\xs=[.str y]/\z.length<=sizeLine/\Q (.str (Txt.lstripChars z y)) H):=by intro pins s σ H x xs v us Q I rx r h;obtain⟨z,y,rfl,rfl,hz,q⟩:=h;obtain⟨t,rfl⟩:=rx;obtain⟨u,rfl,t',rfl⟩:=eW r;exact SC.lstripChars (λt' k=>⟨.str _,H,I.tok _,⟨_,rfl⟩,q⟩) hz
theorem Qp:iK X "str.upper" (λx xs H Q=>∃z,x = .str z/\xs=[]/\Builtin.Str.tooLong (Txt.upper z).length=false/\Q (.str (Txt.upper z)) H):=by intro pins s σ H x xs v us Q I rx r h;obtain⟨z,rfl,rfl,hz,q⟩:=h;obtain⟨t,rfl⟩:=rx;cases r;exact SC.upper hz ⟨.str _,H,I.tok _,⟨_,rfl⟩,q⟩
theorem Fl:∀(l:List (Str×Tok)),Vals ((l.map (·.1)).map V.str) (strValues l)
 |[]=>.nil
 |p::l=>.cons ⟨p.2,rfl⟩ (Fl l)
theorem Ql:iK X "str.split" (λx xs H Q=>∃z y,x = .str z/\xs=[.str y]/\(y.length==0)=false/\z.length<=sizeLine/\(Txt.split z y).length<=sizeLine /\
  (Builtin.Str.partsBetween z (Builtin.Str.occurrences z y 0 z.length (z.length+1)) y.length).length<=sizeLine/\∀a,H a=none->Q (.ref a) (aK H a (.lst ((Txt.split z y).map V.str)))):=by
 intro pins s σ H x xs v us Q I rx r h;obtain⟨z,y,rfl,rfl,hy,hz,hn,hp,q⟩:=h;obtain⟨t,rfl⟩:=rx;obtain⟨u,rfl,t',rfl⟩:=eW r;have fin:∀(l:List (Str×Tok)) (k:Nat),l.map (·.1)=Txt.split z y->EP X pins σ Q (.ref s.heap.objs.size) { s with toks:=k,heap:=s.heap.push { cls:=.type "list",data:=.seq (strValues l).toArray } }:=λl k e=>by refine⟨.ref s.heap.objs.size,aK H s.heap.objs.size (.lst ((Txt.split z y).map V.str)),I.laid (t':=k) (λb u e=>Heap.get?_push_of_some _ e) (Nat.le_refl _) ?_,rfl,q _ (I.aI.fresh (Nat.le_refl _))⟩;refine⟨by rw[List.length_map];exact hn,strValues l,0,?_,Heap.get?_push_size _ rfl⟩;rw[<- e];exact Fl l
 cases h1:(decide (z.length<y.length)||decide (Builtin.Str.strKind z<Builtin.Str.strKind y))
 .cases hf:(Builtin.Str.occurrences z y 0 z.length (z.length+1)).isEmpty
  .refine call_meets F.slot_str_split (typeIs_str _ _ _) F.entry_str_split (F.args_str_split_2 _ _) (meets_str_split_sep z y t t' h1 hy hf hz hp) ?_;show EP X pins σ Q _ _;rw[strsFrom_eq];exact fin (numbered s.toks _) _ ((numbered_texts _ _).trans ((if_neg (ne_true_of_eq_false h1)).trans (if_neg (ne_true_of_eq_false hf))).symm)
  .exact call_meets F.slot_str_split (typeIs_str _ _ _) F.entry_str_split (F.args_str_split_2 _ _) (meets_str_split_not_found z y t t' h1 hy hf) (fin [(z,t)] _ ((if_neg (ne_true_of_eq_false h1)).trans (if_pos hf)).symm)
 .exact call_meets F.slot_str_split (typeIs_str _ _ _) F.entry_str_split (F.args_str_split_2 _ _) (meets_str_split_cannot_occur z y t t' h1) (fin [(z,t)] _ (if_pos h1).symm)
def pR(z y:Str):List Str:=match Builtin.Str.occurrences z y 0 z.length 1 with
 |i::_=>[Builtin.Str.strSub z 0 i,y,Builtin.Str.strSub z (i+y.length) z.length]
 |[]=>[z,Str.empty,Str.empty]
theorem Qk:iK X "str.partition" (λx xs H Q=>∃z y,x = .str z/\xs=[.str y]/\(y.length==0)=false/\z.length<=sizeLine/\∀a,H a=none->Q (.ref a) (aK H a (.tup ((pR z y).map V.str)))):=by
 intro pins s σ H x xs v us Q I rx r h;obtain⟨z,y,rfl,rfl,hy,hz,q⟩:=h;obtain⟨t,rfl⟩:=rx;obtain⟨u,rfl,t',rfl⟩:=eW r;have fin:∀(ts:List Str) (vs:List Value) (k:Nat),ts=pR z y->ts.length<=sizeLine->Vals (ts.map V.str) vs->EP X pins σ Q (.ref s.heap.objs.size) { s with toks:=k,heap:=s.heap.push { cls:=.type "tuple",data:=.seq vs.toArray } }:=λts vs k e hl r=>by refine⟨.ref s.heap.objs.size,aK H s.heap.objs.size (.tup ((pR z y).map V.str)),I.laid (t':=k) (λb u e=>Heap.get?_push_of_some _ e) (Nat.le_refl _) ?_,rfl,q _ (I.aI.fresh (Nat.le_refl _))⟩;rw[<- e];exact⟨by rw[List.length_map];exact hl,vs,r,⟨_,Heap.get?_push_size _ rfl,rfl,_,rfl⟩⟩
 refine call_meets F.slot_str_partition (typeIs_str _ _ _) F.entry_str_partition (F.args_str_partition_2 _ _) (meets_str_partition z y t t' hy hz) ?_;unfold pR at fin;cases ho:Builtin.Str.occurrences z y 0 z.length 1 with
 |nil=>rw[ho]at fin;exact fin _ _ _ rfl (by show 3<=sizeLine;decide) (.cons ⟨_,rfl⟩ (.cons ⟨_,rfl⟩ (.cons ⟨_,rfl⟩ .nil)))
 |cons i l=>rw[ho]at fin;exact fin _ _ _ rfl (by show 3<=sizeLine;decide) (.cons ⟨_,rfl⟩ (.cons ⟨_,rfl⟩ (.cons ⟨_,rfl⟩ .nil)))
end
end L2
namespace AM
open PySem PySem.Spec PyProof.Rows L2
theorem DQ{x y:V}{u:Value}(h:RelV x u)(k:RelV y u):x=y:=by cases x<;>cases y<;>simp only[L2.RelV]at h k<;>(try obtain⟨t,h⟩:=h)<;>(try obtain⟨t2,k⟩:=k)<;>first|(subst h;cases k<;>rfl)|(rw[h]at k;cases k<;>rfl)|(cases k<;>rfl)|(cases h<;>rfl)|rfl
theorem pw:∀{xs ys:List V} {us:List Value},Vals xs us->Vals ys us->xs=ys
 |_,_,_,.nil,.nil=>rfl|_,_,_,.cons h t,.cons k r=>by rw[DQ h k,pw t r]
def dN(K:W.Frag)(H:Hp):Nat->V->V->Bool->Prop
  |0,_,_,_=>False
  |n+1,x,y,b=>(fS x=true/\fS y=true/\b=iQ x y) \/
    (b=false/\∃(a:Addr) (xs:List V),bG K H a xs/\((x = .aC/\y = .ref a)\/(x = .ref a/\y = .aC))) \/
    ∃(a c:Addr) (xs ys:List V),x = .ref a/\y = .ref c /\
      ((bA K H a xs/\bA K H c ys/\((xs.length≠ys.length/\b=false)\/(xs.length=ys.length/\∃e:Nat->Bool,(∀j p q,xs[j]?=some p->ys[j]?=some q->dN K H n p q (e j))/\b=(List.range xs.length).all e))) \/
       (bG K H a xs/\bG K H c ys/\∃e:Nat->Bool,(∀j p q,xs[j]?=some p->ys[j]?=some q->dN K H n p q (e j))/\b=((List.range (min xs.length ys.length)).all e&&xs.length==ys.length)) \/
       (bA K H a xs/\bG K H c ys/\b=false)\/(bG K H a xs/\bA K H c ys/\b=false))
section
variable {X:Cx}{pins:List (Addr×Obj)}{σ:L2.St}{H:Hp}{s:Shared}
theorem Le{x:V}(h:fS x=true):iQ x x=true:=by cases x<;>first|(simp[iQ];done)|cases h
theorem jL(I:Inv X pins σ H s){a:Addr}{xs:List V}(h:bA X.K H a xs):∃its:List Value,Vals xs its/\s.heap.IsList a its.toArray:=by obtain⟨its,r,p,_⟩:=I.list h;exact⟨its,r,p.isList⟩
theorem kS(I:Inv X pins σ H s){a:Addr}{xs:List V}(h:bG X.K H a xs):∃its:List Value,Vals xs its/\s.heap.IsTuple a its.toArray:=by obtain⟨its,r,p,_⟩:=I.tuple h;exact⟨its,r,p⟩
theorem Ny{a:Addr}{xs ys:List Value}(h:s.heap.IsList a xs.toArray)(k:s.heap.IsList a ys.toArray):xs=ys:=by obtain⟨o,h1,h2,n,h3⟩:=h;obtain⟨o2,k1,k2,n2,k3⟩:=k;rw[h1]at k1;cases k1;rw[h3]at k3;injection k3 with e1 e2;simpa using e1
theorem Ob{a:Addr}{xs ys:List Value}(h:s.heap.IsTuple a xs.toArray)(k:s.heap.IsTuple a ys.toArray):xs=ys:=by obtain⟨o,h1,h2,n,h3⟩:=h;obtain⟨o2,k1,k2,n2,k3⟩:=k;rw[h1]at k1;cases k1;rw[h3]at k3;injection k3 with e1 e2;simpa using e1
theorem rm{e:Nat->Bool}{n:Nat}(h:∀j,j<n->e j=true):(List.range n).all e=true:=by rw[List.all_eq_true];intro j hj;exact h j (List.mem_range.mp hj)
theorem dN.same(I:Inv X pins σ H s):∀{n:Nat} {x:V} {b:Bool},dN X.K H n x x b->b=true
 |0,_,_,h=>h.elim
 |n+1,x,b,h=>by
  have ga:∀{xs:List V} {e:Nat->Bool},(∀j p q,xs[j]?=some p->xs[j]?=some q->dN X.K H n p q (e j))->∀j,j<xs.length->e j=true:=λ{xs e} h j hj=>dN.same I (h j xs[j] xs[j] (List.getElem?_eq_getElem hj) (List.getElem?_eq_getElem hj))
  rcases h with⟨f,_,rfl⟩|⟨_,a,xs,_,⟨e1,e2⟩|⟨e1,e2⟩⟩|⟨a,c,xs,ys,e1,e2,h⟩
  rotate_left 1
  .subst e1;cases e2
  .subst e1;cases e2
  rotate_left 1
  .exact Le f
  .subst e1;cases e2;rcases h with⟨h1,h2,h⟩|⟨h1,h2,h⟩|⟨h1,h2,h⟩|⟨h1,h2,h⟩
   .obtain⟨us,r1,p1⟩:=jL I h1;obtain⟨vs,r2,p2⟩:=jL I h2;have e:=Ny p1 p2;subst e;have e:=pw r1 r2;subst e;rcases h with⟨h,_⟩|⟨_,e,h,rfl⟩
    .exact absurd rfl h
    .exact rm (ga h)
   .obtain⟨us,r1,p1⟩:=kS I h1;obtain⟨vs,r2,p2⟩:=kS I h2;have e:=Ob p1 p2;subst e;have e:=pw r1 r2;subst e;obtain⟨e,h,rfl⟩:=h;rw[Nat.min_self,rm (ga h)];simp
   .obtain⟨us,r1,p1⟩:=jL I h1;obtain⟨vs,r2,p2⟩:=kS I h2;exact absurd rfl (SeqAt.ne_of_list_tuple p1 p2)
   .obtain⟨us,r1,p1⟩:=kS I h1;obtain⟨vs,r2,p2⟩:=jL I h2;exact absurd rfl (SeqAt.ne_of_list_tuple p2 p1)
mutual
theorem dN.rc(I:Inv X pins σ H s):∀{n:Nat} {A:Around} {a c:Addr} {b:Bool},A.units+n<cLine->dN X.K H n (.ref a) (.ref c) b->SeqAt.RcAt A s (.ref a) (.ref c) b/\SeqAt.RcNeAt A s (.ref a) (.ref c) (!b)
 |0,_,_,_,_,_,h=>h.elim
 |n+1,A,a,c,b,hu,h=>by
  have hu':A.in1.units+n<cLine:=by show A.units+1+n<cLine;omega
  have h0:A.units<cLine:=by omega
  have items:∀{xs ys:List V} {us vs:List Value} {e:Nat->Bool},Vals xs us->Vals ys vs->(∀j p q,xs[j]?=some p->ys[j]?=some q->dN X.K H n p q (e j)) ->
    ∀j (h1:j<us.toArray.size) (h2:j<vs.toArray.size),SeqAt.EqAt A.in1 s us.toArray[j] vs.toArray[j] (e j):=λ{xs ys us vs e} r1 r2 h j h1 h2=>by
   have l1:j<xs.length:=by rw[r1.length];simpa using h1
   have l2:j<ys.length:=by rw[r2.length];simpa using h2
   obtain⟨u,g1,q1⟩:=r1.get (List.getElem?_eq_getElem l1);obtain⟨v,g2,q2⟩:=r2.get (List.getElem?_eq_getElem l2);have e1:us.toArray[j]=u:=by have:us[j]?=some u:=g1;rw[List.getElem?_eq_some_iff]at this;simpa using this.2
   have e2:vs.toArray[j]=v:=by have:vs[j]?=some v:=g2;rw[List.getElem?_eq_some_iff]at this;simpa using this.2
   rw[e1,e2];exact dN.at I hu' q1 q2 (h j _ _ (List.getElem?_eq_getElem l1) (List.getElem?_eq_getElem l2))
  rcases h with⟨f,_,_⟩|⟨_,a,xs,_,⟨e1,e2⟩|⟨e1,e2⟩⟩|⟨a',c',xs,ys,e1,e2,h⟩
  rotate_left 1
  .cases e1
  .cases e2
  rotate_left 1
  .cases f
  .cases e1;cases e2;rcases h with⟨h1,h2,h⟩|⟨h1,h2,h⟩|⟨h1,h2,rfl⟩|⟨h1,h2,rfl⟩
   .obtain⟨us,r1,p1⟩:=jL I h1;obtain⟨vs,r2,p2⟩:=jL I h2;rcases h with⟨hl,rfl⟩|⟨hl,e,h,rfl⟩
    .have hz:(us.toArray.size != vs.toArray.size)=true:=by rw[bne_iff_ne];simp only[List.size_toArray];rw[<- r1.length,<- r2.length];exact hl
     exact⟨SeqAt.RcAt.lists_lengths p1 p2 hz h0,SeqAt.RcNeAt.lists_lengths p1 p2 hz h0⟩
    .have hz:us.toArray.size=vs.toArray.size:=by simp only[List.size_toArray];rw[<- r1.length,<- r2.length];exact hl
     have e3:xs.length=us.toArray.size:=by simp only[List.size_toArray];exact r1.length
     rw[e3];exact⟨SeqAt.RcAt.lists p1 p2 hz h0 (items r1 r2 h),SeqAt.RcNeAt.lists p1 p2 hz h0 (items r1 r2 h)⟩
   .obtain⟨us,r1,p1⟩:=kS I h1;obtain⟨vs,r2,p2⟩:=kS I h2;obtain⟨e,h,rfl⟩:=h;have e3:xs.length=us.toArray.size:=by simp only[List.size_toArray];exact r1.length
    have e4:ys.length=vs.toArray.size:=by simp only[List.size_toArray];exact r2.length
    rw[e3,e4];exact⟨SeqAt.RcAt.tuples p1 p2 h0 (items r1 r2 h),SeqAt.RcNeAt.tuples p1 p2 h0 (items r1 r2 h)⟩
   .obtain⟨us,r1,p1⟩:=jL I h1;obtain⟨vs,r2,p2⟩:=kS I h2;exact⟨SeqAt.RcAt.list_tuple p1 p2 h0,SeqAt.RcNeAt.list_tuple p1 p2 h0⟩
   .obtain⟨us,r1,p1⟩:=kS I h1;obtain⟨vs,r2,p2⟩:=jL I h2;exact⟨SeqAt.RcAt.tuple_list p1 p2 h0,SeqAt.RcNeAt.tuple_list p1 p2 h0⟩
termination_by n=>2*n
theorem dN.at(I:Inv X pins σ H s):∀{n:Nat} {A:Around} {x y:V} {u v:Value} {b:Bool},A.units+n<cLine->RelV x u->RelV y v->dN X.K H n x y b->SeqAt.EqAt A s u v b
 |n,A,x,y,u,v,b,hu,rx,ry,h=>by
  by_cases hf:fS x=true/\fS y=true
  .cases n with
   |zero=>exact h.elim|succ n=>
    rcases h with⟨_,_,rfl⟩|⟨_,a,xs,_,⟨e1,e2⟩|⟨e1,e2⟩⟩|⟨a,c,xs,ys,e1,e2,h⟩
    rotate_left 1
    .subst e2;cases hf.2
    .subst e1;cases hf.1
    rotate_left 1
    .exact vp rx ry hf.1 hf.2
    .subst e1;cases hf.1
  .have:(∃a c,x = .ref a/\y = .ref c)\/(b=false/\∃(a:Addr) (xs:List V),bG X.K H a xs/\((x = .aC/\y = .ref a)\/(x = .ref a/\y = .aC))):=by
    cases n with
    |zero=>exact h.elim|succ n=>
     rcases h with⟨h1,h2,rfl⟩|h|⟨a,c,xs,ys,e1,e2,h⟩
     .exact absurd ⟨h1,h2⟩ hf
     .exact .inr h
     .exact .inl ⟨a,c,e1,e2⟩
   rcases this with⟨a,c,rfl,rfl⟩|⟨rfl,a,xs,hq,⟨rfl,rfl⟩|⟨rfl,rfl⟩⟩
   rotate_left
   .obtain⟨us,_,p⟩:=kS I hq;cases rx;cases ry;exact SeqAt.EqAt.none_tuple p (by omega)
   .obtain⟨us,_,p⟩:=kS I hq;cases rx;cases ry;exact SeqAt.EqAt.tuple_none p (by omega)
   cases rx;cases ry;by_cases hac:a=c
   .subst hac;rw[dN.same I h];exact SeqAt.EqAt.same _
   .exact SeqAt.EqAt.of_refs hac (dN.rc I hu h).1
termination_by n=>2*n+1
end
def CZ(K:W.Frag):R2:=λx y H Q=>Cb x y H Q\/∃b a c,x = .ref a/\y = .ref c/\dN K H 12 x y b/\Q (.bl b) H
def DC(K:W.Frag):R2:=λx y H Q=>Cg x y H Q\/∃b a c,x = .ref a/\y = .ref c/\dN K H 12 x y b/\Q (.bl (!b)) H
theorem Rw(hu:X.A.units+12<cLine):aS X (compareOp .Eq) (CZ X.K):=by
 intro pins s σ H x y v u Q I rx ry h;rcases h with h|⟨b,a,c,rfl,rfl,h,q⟩
 .exact Rv pins s σ H x y v u Q I rx ry h
 .cases rx;cases ry;exact(dN.rc I hu h).1 _ _ _ _ ⟨.bl b,H,I,rfl,q⟩
theorem Sl(hu:X.A.units+12<cLine):aS X (compareOp .NotEq) (DC X.K):=by
 intro pins s σ H x y v u Q I rx ry h;rcases h with h|⟨b,a,c,rfl,rfl,h,q⟩
 .exact Sk pins s σ H x y v u Q I rx ry h
 .cases rx;cases ry;exact(dN.rc I hu h).2 _ _ _ _ ⟨.bl (!b),H,I,rfl,q⟩
end
theorem Fh{bs:List Bool}:∀{us:List Value},Vals (bs.map V.bl) us->us=bs.map Value.bool:=by
 induction bs with
 |nil=>intro us r;cases r;rfl|cons b bs ih=>
  intro us r;cases r with
  |cons h t=>have h':_=Value.bool b:=h;subst h';rw[ih t];rfl
theorem Fi{ns:List Int}:∀{us:List Value},Vals (ns.map V.int) us->IntsAre us ns:=by
 induction ns with
 |nil=>intro us r;cases r;exact .nil|cons n ns ih=>
  intro us r;cases r with
  |cons h t=>obtain⟨k,rfl⟩:=(show∃k,_=Value.int n k from h);exact .cons n k (ih t)
theorem yd:∀{us:List Value} {ns:List Int},IntsAre us ns->Vals (ns.map V.int) us
 |_,_,.nil=>.nil
 |_,_,.cons n t r=>.cons ⟨t,rfl⟩ (yd r)
theorem DN(bs:List Bool):(List.range bs.length).any (λi=>(bs[i]?).getD false)=bs.any id:=by
 rw[Bool.eq_iff_iff,List.any_eq_true,List.any_eq_true];constructor
 .rintro ⟨i,hi,h⟩
  have hi':=List.mem_range.mp hi;rw[List.getElem?_eq_getElem hi']at h;exact⟨bs[i],List.getElem_mem hi',h⟩
 .rintro ⟨b,hb,h⟩
  obtain⟨i,hi,e⟩:=List.getElem_of_mem hb;exact⟨i,List.mem_range.mpr hi,by rw[List.getElem?_eq_getElem hi,e];exact h⟩
def sH(rev:Bool)(ns:List Int):List Int:=ns.mergeSort (λa b=>if rev then decide (b<=a) else decide (a<=b))
theorem FI{rev:Bool}{ns ns':List Int}(hp:ns'.Perm ns)(ho:Ordered rev ns'):ns'=sH rev ns:=by
 have hs:List.Pairwise (λa b=>(if rev then decide (b<=a) else decide (a<=b))=true) (sH rev ns):=by
  refine List.pairwise_mergeSort ?_ ?_ ns
  .intro a b c;cases rev<;>simp<;>omega
  .intro a b;cases rev<;>simp<;>omega
 refine List.Perm.eq_of_pairwise (le:=λa b=>(if rev then decide (b<=a) else decide (a<=b))=true) ?_ ?_ hs (hp.trans (List.mergeSort_perm _ _).symm)
 .intro a b _ _;cases rev<;>simp<;>omega
 .unfold Ordered at ho;cases rev with
  |true=>exact List.Pairwise.imp (λh=>by simpa using h) (by simpa using ho)|false=>exact List.Pairwise.imp (λh=>by simpa using h) (by simpa using ho)
section
variable {X:Cx}{pins:List (Addr×Obj)}{σ:L2.St}{H:Hp}{s:Shared}
theorem Jj(hc:X.calm=true):dA X (.builtin "any") (λxs H Q=>∃(a:Addr) (bs:List Bool),xs=[.ref a]/\bA X.K H a (bs.map V.bl)/\Q (.bl (bs.any id)) H):=by
 intro pins s σ H xs us Q I r h;obtain⟨a,bs,rfl,hq,q⟩:=h;obtain⟨u,rfl,ru⟩:=r.one;cases ru;obtain⟨its,rv,p,hz⟩:=I.list hq;have e:=Fh rv;subst e;have hh:X.A.in1.handled=none:=I.ok.hd hc;obtain⟨ob,h1,h2,n,h3⟩:=p.isList;refine call_any_walk (wpAny_pyIter_list p.isList ?_);refine⟨s.heap.objs.size,_,_,_,_,_,λi=>(bs[i]?).getD false,rfl,Walks.list hh s.heap.objs.size a (Nat.ne_of_lt (Heap.lt_size h1)) (bs.map Value.bool).toArray,⟨⟨_,Heap.get?_push_size _ rfl,rfl,rfl⟩,⟨ob,Heap.get?_push_of_some _ h1,h2,n,h3⟩⟩,λi v s' Q' E' hP hQ=>?_,λh' tk k=>?_⟩
 .dsimp only at hP hQ;rw[List.getElem?_toArray,List.getElem?_map]at hP;cases e:bs[i]? with
  |none=>rw[e]at hP;cases hP|some b=>rw[e]at hP hQ;have hP':Value.bool b=v:=Option.some.inj hP;subst hP';exact wpAny_truthy_bool hQ
 .have hl:(bs.map Value.bool).toArray.size=bs.length:=by simp
  rw[hl,DN];refine⟨.bl _,H,I.kept (t':=tk) λb o e=>k b o ?_ (Heap.get?_push_of_some _ e),rfl,q⟩;intro hb;have e':b=s.heap.objs.size:=by simpa using hb
  subst e';exact absurd (Heap.lt_size e) (Nat.lt_irrefl _)
theorem Jw(b:Bool){l:Addr}{ns:List Int}{Q:VK}(I:Inv X pins σ H s)(hq:bA X.K H l (ns.map V.int))(hn:ns.length<64)(q:∀D,H D=none->Q (.ref D) (aK H D (.lst ((sH b ns).map V.int)))) :
  wpAny (model X.prog X.w) X.A (call (.builtin "sorted") [.ref l] [(Str.ofString "reverse",.bool b)]) (EP X pins σ Q) X.xe s:=by
 obtain⟨its,rv,p,hz⟩:=I.list hq;have hl:its.length=ns.length:=by have:=rv.length;simpa using this.symm
 refine sorted_ints_rev p.isList (Fi rv) (by omega) λout ns' ia hp ho=>?_;have e:=FI hp ho;subst e;obtain⟨e2,h2⟩:=sortedAll_at s.heap its out;refine⟨.ref _,_,I.laid (o:=.lst ((sH b ns).map V.int)) (t':=s.toks) (λb u z=>sortedAll_old z) (Nat.le_succ _) ⟨?_,out.toList,e2,yd ia,by rw[h2]⟩,rfl,q _ (I.aI.fresh (Nat.le_succ _))⟩;have:=hp.length_eq;rw[List.length_map,this];have:(64:Nat)<=sizeLine:=by decide
 omega
theorem Qd(l:Addr)(d:Value):Builtin.min { pos:=[.ref l],kw:=[(Str.ofString "default",d)] }=(do
   let it <- pyIter (.ref l)
   let S <- newList []
   again (.builtin "min.loop" { pos:=[it,.none,S],kw:=[(Str.ofString "default",d)] })):=by
  with_unfolding_all rfl
theorem Ke(a d:Value):checkBuiltinCall "min" { pos:=[a],kw:=[(Str.ofString "default",d)] }=pure ():=by with_unfolding_all rfl
theorem Qe(I S:Addr)(d:Value)(n:Str):∃k:Option (Array Value)->Sem PySem.Fin,Builtin.«min.loop» { pos:=[.ref I,.none,.ref S],kw:=[(n,d)] }=(seqItems? (.ref S)>>=k) /\
  ∃(h:Value->Sem (Option Value)) (k2:Option Value->Sem PySem.Fin),k (some #[])=((tryCatch (pyNext (.ref I)) h)>>=k2)/\k2 none=(rule "min.default">>=λ_=>ret d):=by
 refine⟨_,by with_unfolding_all rfl,_,_,by with_unfolding_all rfl,by with_unfolding_all rfl⟩
theorem Jv(hc:X.calm=true){l:Addr}{d:Value}{v:V}{Q:VK}(I:Inv X pins σ H s)(hq:bA X.K H l [])(rd:RelV v d)(q:Q v H) :
  wpAny (model X.prog X.w) X.A (call (.builtin "min") [.ref l] [(Str.ofString "default",d)]) (EP X pins σ Q) X.xe s:=by
 obtain⟨its,rv,p,hz⟩:=I.list hq;cases rv;have hh:X.A.handled=none:=I.ok.hd hc;obtain⟨ob,h1,h2,n,h3⟩:=p.isList;refine wpAny_call (codeAny_call_builtin PySem.F.plain_min PySem.F.entry_min ?_);rw[Ke];refine wpAny_pure ?_;rw[Qd];refine wpAny_bind (wpAny_pyIter_list p.isList (wpAny_bind (wpAny_newList ?_)));refine wpAny_pure ⟨Code.quiet_builtin _ (by decide +kernel),codeAny_builtin PySem.F.entry_min_loop ?_⟩;obtain⟨k,e1,hd,k2,e2,e3⟩:=Qe s.heap.objs.size (s.heap.push { cls:=.type "list_iterator",data:=.fields #[.ref l,.int 0 0] }).objs.size d (Str.ofString "default");rw[e1];refine wpAny_bind (wpAny_seqItems (Heap.get?_push_size _ rfl) rfl ?_);show wpAny _ _ (k (some #[])) _ _ _;rw[e2];refine wpAny_bind (wpAny_tryCatch (wpAny_pyNext_list_end (items:=#[]) (l:=l) (i:=0) hh ?_ ?_ rfl λh' eb=>?_))
 .exact⟨_,Heap.get?_push_of_some _ (Heap.get?_push_size _ rfl),rfl,rfl⟩
 .exact⟨ob,Heap.get?_push_of_some _ (Heap.get?_push_of_some _ h1),h2,n,h3⟩
 .rw[e3];refine wpAny_bind (wpAny_rule (wpAny_pure ?_));refine⟨v,H,I.kept (t':=s.toks) λb o e=>eb b o ?_ (Heap.get?_push_of_some _ (Heap.get?_push_of_some _ e)),rd,q⟩;intro hb;subst hb;exact absurd (Heap.lt_size e) (Nat.lt_irrefl _)
theorem Ao{x nm:Str}{id:String}{p pos kp:Pos}{e kc:Expr}{t:TE}{z:V}{r:V->Hp->VK->Prop}(hc:∀pins s σ H v u zu Q,Inv X pins σ H s->RelV v u->RelV z zu->r v H Q->wpAny (model X.prog X.w) X.A (call (.builtin id) [u] [(nm,zu)]) (EP X pins σ Q) X.xe s)
  (hg:Gl X x) (hm:X.mg x=none) (hv:bootBuiltins x=some (.builtin id)) (ha:PE X e t) (hk:PE X kc (tC z)) (hs:starEach [e] X.env=[(false,eval e X.env)]) (hn:x≠"__name__":=by decide) (hdb:(x==("__debug__":Str))=false:=by decide) :
  PE X (.Call (.Name x p) [e] [⟨some nm,kc,kp⟩] pos) (λσ H Q=>t σ H λv H1=>r v H1 Q):=by
 intro pins s σ H Q I h;refine wpAny_Call_Name_kw (nG I hg hm hv ?_ hn hdb);have pa:PA X [e] (bc t vU):=gB ha hZ hs;have pk:PK X [⟨some nm,kc,kp⟩] (bc (tC z) vU):=Vp hk Vq;obtain⟨y,rest,hs'⟩:∃y rest,backTo pos (starEach [e] X.env)=(false,y)::rest:=by rw[hs];exact⟨_,_,rfl⟩
 have ha1:(backTo pos (starEach [e] X.env)).any (·.1)=false:=by rw[hs];rfl
 refine callWith_builtin_kwB ha1 rfl ?_;have h1:=pa pos pins s σ H (λvs H1=>match vs with
  |[v]=>r v H1 Q
  |_=>False) I h
 rw[hs']at h1 ⊢;refine evalArgs_kw rfl ?_;refine aJ h1 λus s1 ⟨vs,H1,I1,r1,q1⟩=>?_;obtain⟨v,rfl⟩:∃v,vs=[v]:=by
  match vs,q1 with
  |[v],_=>exact⟨v,rfl⟩
 obtain⟨u,rfl,ru⟩:=r1.one;refine aJ (pk pos pins s1 σ H1 (λzs H2=>zs=[z]/\H2=H1) I1 ⟨rfl,rfl⟩) λws s2 ⟨zs,H2,I2,rz,ez,eH⟩=>?_;subst ez eH;obtain⟨zu,rfl,rzu⟩:=rz.one;exact hc pins s2 σ H2 v u zu Q I2 ru rzu q1
end
section
variable {X:Cx}{pins:List (Addr×Obj)}{σ:L2.St}{H:Hp}{s:Shared}{a b c d:Expr}{ta tb tc td:TE}{pos:Pos}
def oh(r:R2)(x:V)(tb:TE)(tk:V->TE):TE:=λσ H Q=>tb σ H λy H2=>r x y H2 λz H3=>∃k,z = .bl k/\(if k=true then tk y σ H3 Q else Q (.bl false) H3)
def nv(r r' r'':R2)(ta tb tc td:TE):TE:=λσ H Q=>ta σ H λx H1=>oh r x tb (λy=>oh r' y tc λu σ H Q=>td σ H λv H4=>r'' u v H4 Q) σ H1 Q
theorem Us{op op' op'':CmpOp}{r r' r'':R2}(ho:aS X (compareOp op) r)(ho':aS X (compareOp op') r')(ho'':aS X (compareOp op'') r'')(ha:PE X a ta)(hb:PE X b tb)(hc:PE X c tc)(hd:PE X d td)
  (hm:lastMarks [op,op',op''] [b,c,d]=false):PE X (.Compare a [op,op',op''] [b,c,d] pos) (nv r r' r'' ta tb tc td):=by
 intro pins s σ H Q I h;refine Compare_chain (aJ (ha pins s σ H _ I h) λv s1 ⟨x,H1,I1,r1,q1⟩=>chain_link (aJ (hb pins s1 σ H1 _ I1 q1) λu s2 ⟨y,H2,I2,r2,q2⟩=>aJ (ho pins s2 σ H2 x y v u _ I2 r1 r2 q2) λe s3 ⟨z,H3,I3,r3,k,e,q3⟩=>?_)) hm
 subst e;cases r3;refine wpAny_truthy_bool ?_;cases k with
 |false=>exact ite_ff ⟨.bl false,H3,I3,rfl,q3⟩|true=>
  refine ite_tt (chain_link (aJ (hc pins s3 σ H3 _ I3 q3) λu' s4 ⟨y',H4,I4,r4,q4⟩=>aJ (ho' pins s4 σ H4 y y' u u' _ I4 r2 r4 q4) λe s5 ⟨z,H5,I5,r5,k,e,q5⟩=>?_));subst e;cases r5;refine wpAny_truthy_bool ?_;cases k with
  |false=>exact ite_ff ⟨.bl false,H5,I5,rfl,q5⟩|true=>exact ite_tt (chain_last (aJ (hd pins s5 σ H5 _ I5 q5) λw' s6 ⟨z',H6,I6,r6,q6⟩=>ho'' pins s6 σ H6 y' z' u' w' Q I6 r4 r6 q6))
theorem Wr{op op' op'':CmpOp}{r r' r'':R2}(ho:aS X (compareOp op) r)(ho':aS X (compareOp op') r')(ho'':aS X (compareOp op'') r'')(ha:PE X a ta)(hb:PE X b tb)(hc:PE X c tc)(hd:PE X d td)
  (hm:lastMarks [op,op',op''] [b,c,d]=false):PT X (.Compare a [op,op',op''] [b,c,d] pos) (oj (nv r r' r'' ta tb tc td)):=by
 intro pins s σ H Q I h;refine isTrue_chain (aJ (ha pins s σ H _ I h) λv s1 ⟨x,H1,I1,r1,q1⟩=>test_link (aJ (hb pins s1 σ H1 _ I1 q1) λu s2 ⟨y,H2,I2,r2,q2⟩=>aJ (ho pins s2 σ H2 x y v u _ I2 r1 r2 q2) λe s3 ⟨z,H3,I3,r3,k,e,q3⟩=>?_)) hm
 subst e;cases r3;refine wpAny_truthy_bool ?_;cases k with
 |false=>obtain⟨k',e',q'⟩:=q3;cases e';exact ite_ff ⟨H3,I3,q'⟩|true=>
  refine ite_tt (test_link (aJ (hc pins s3 σ H3 _ I3 q3) λu' s4 ⟨y',H4,I4,r4,q4⟩=>aJ (ho' pins s4 σ H4 y y' u u' _ I4 r2 r4 q4) λe s5 ⟨z,H5,I5,r5,k,e,q5⟩=>?_));subst e;cases r5;refine wpAny_truthy_bool ?_;cases k with
  |false=>obtain⟨k',e',q'⟩:=q5;cases e';exact ite_ff ⟨H5,I5,q'⟩|true=>refine ite_tt (test_last (aJ (hd pins s5 σ H5 _ I5 q5) λw' s6 ⟨z',H6,I6,r6,q6⟩=>aJ (ho'' pins s6 σ H6 y' z' u' w' _ I6 r4 r6 q6) λd' s7 ⟨z2,H7,I7,r7,k2,e2,q7⟩=>?_));subst e2;cases r7;exact wpAny_truthy_bool ⟨H7,I7,q7⟩
theorem DM(bs:List Bool):(List.range bs.length).all (λi=>(bs[i]?).getD false)=bs.all id:=by
 rw[Bool.eq_iff_iff,List.all_eq_true,List.all_eq_true];constructor
 .intro h b hb;obtain⟨i,hi,e⟩:=List.getElem_of_mem hb;have:=h i (List.mem_range.mpr hi);rw[List.getElem?_eq_getElem hi,e]at this;exact this
 .intro h i hi;have hi':=List.mem_range.mp hi;rw[List.getElem?_eq_getElem hi'];exact h _ (List.getElem_mem hi')
theorem Ji(hc:X.calm=true):dA X (.builtin "all") (λxs H Q=>∃(a:Addr) (bs:List Bool),xs=[.ref a]/\bA X.K H a (bs.map V.bl)/\Q (.bl (bs.all id)) H):=by
 intro pins s σ H xs us Q I r h;obtain⟨a,bs,rfl,hq,q⟩:=h;obtain⟨u,rfl,ru⟩:=r.one;cases ru;obtain⟨its,rv,p,hz⟩:=I.list hq;have e:=Fh rv;subst e;have hh:X.A.in1.handled=none:=I.ok.hd hc;obtain⟨ob,h1,h2,n,h3⟩:=p.isList;refine call_all_walk (wpAny_pyIter_list p.isList ?_);refine⟨s.heap.objs.size,_,_,_,_,_,λi=>(bs[i]?).getD false,rfl,Walks.list hh s.heap.objs.size a (Nat.ne_of_lt (Heap.lt_size h1)) (bs.map Value.bool).toArray,⟨⟨_,Heap.get?_push_size _ rfl,rfl,rfl⟩,⟨ob,Heap.get?_push_of_some _ h1,h2,n,h3⟩⟩,λi v s' Q' E' hP hQ=>?_,λh' tk k=>?_⟩
 .dsimp only at hP hQ;rw[List.getElem?_toArray,List.getElem?_map]at hP;cases e:bs[i]? with
  |none=>rw[e]at hP;cases hP|some b=>rw[e]at hP hQ;have hP':Value.bool b=v:=Option.some.inj hP;subst hP';exact wpAny_truthy_bool hQ
 .have hl:(bs.map Value.bool).toArray.size=bs.length:=by simp
  rw[hl,DM];refine⟨.bl _,H,I.kept (t':=tk) λb o e=>k b o ?_ (Heap.get?_push_of_some _ e),rfl,q⟩;intro hb;have e':b=s.heap.objs.size:=by simpa using hb
  subst e';exact absurd (Heap.lt_size e) (Nat.lt_irrefl _)
def pM:List Int->Int
 |[]=>0
 |n::r=>r.foldl (λm x=>if x > m then x else m) n
theorem jf:∀(r:List Int) (n:Int),(r.foldl (λm x=>if x > m then x else m) n∈n::r)/\∀a∈n::r,a<=r.foldl (λm x=>if x > m then x else m) n
 |[],n=>by simp
 |x::r,n=>by
  obtain⟨h1,h2⟩:=jf r (if x > n then x else n);rw[List.foldl_cons];refine⟨?_,λa ha=>?_⟩
  .rcases List.mem_cons.mp h1 with e|e
   .rw[e];split<;>simp
   .exact List.mem_cons_of_mem _ (List.mem_cons_of_mem _ e)
  .have h3:=h2 _ (List.mem_cons_self ..);have h4:x<=(if x > n then x else n)/\n<=(if x > n then x else n):=by split<;>omega
   rcases List.mem_cons.mp ha with rfl|ha
   .exact Int.le_trans h4.2 h3
   .rcases List.mem_cons.mp ha with rfl|ha
    .exact Int.le_trans h4.1 h3
    .exact h2 a (List.mem_cons_of_mem _ ha)
theorem Qa{ns:List Int}(h:ns≠[]):pM ns∈ns:=by
 cases ns with
 |nil=>exact absurd rfl h|cons n r=>exact(jf r n).1
theorem Pf{ns:List Int}{a:Int}(h:a∈ns):a<=pM ns:=by
 cases ns with
 |nil=>cases h|cons n r=>exact(jf r n).2 a h
theorem Pz{ns:List Int}{M:Int}(h1:M∈ns)(h2:∀a∈ns,a<=M):M=pM ns:=by have h3:=Pf h1;have h4:=h2 _ (Qa (List.ne_nil_of_mem h1));omega
theorem Jt(hc:X.calm=true):dA X (.builtin "max") (λxs H Q=>∃(a:Addr) (ns:List Int),xs=[.ref a]/\bA X.K H a (ns.map V.int)/\ns≠[]/\Q (.int (pM ns)) H):=by
 intro pins s σ H xs us Q I r h;obtain⟨l,ns,rfl,hq,hne,q⟩:=h;obtain⟨u,rfl,ru⟩:=r.one;cases ru;obtain⟨its,rv,p,hz⟩:=I.list hq;have hi:=Fi rv;have hh:X.A.handled=none:=I.ok.hd hc;obtain⟨xs,e⟩:=hi.allInts.items;have hns:ns=xs.toList.map (·.1):=by rw[<- hi.numsOf,<- nums_intItems,<- e]
 have hsz:0<xs.size:=by have:ns.length≠0:=λz=>hne (List.eq_nil_of_length_eq_zero z);rw[hns,List.length_map,Array.length_toList]at this;omega
 have hl:s.heap.IsList l (intItems xs):=by rw[<- e];exact p.isList
 refine max_intList hh hl hsz λv h' tk hP hk=>?_;obtain⟨t,rfl⟩:=intItems_at hP;obtain⟨b1,b2⟩:=argBest_gt (numAt xs) (xs.size-1);have em:numAt xs (argBest (λi j=>decide (numAt xs i > numAt xs j)) (xs.size-1))=pM ns:=by
  refine Pz ?_ λa ha=>?_
  .rw[hns,numAt_eq];exact getD_mem (by rw[List.length_map,Array.length_toList];omega)
  .rw[hns]at ha;obtain⟨j,hj,rfl⟩:=mem_getD ha;rw[List.length_map,Array.length_toList]at hj;rw[<- numAt_eq];exact b2 j (by omega)
 rw[em];exact⟨.int (pM ns),H,I.kept (t':=tk) λb o e=>hk b o e,⟨t,rfl⟩,q⟩
end
section
variable {X:Cx}{tg l:Expr}{tl:TE}
def yC(a b:Str):Bool:=!(Builtin.Str.occurrences b a 0 b.length 1).isEmpty
theorem Sa:aS X (compareOp .In) (λx y H Q=>∃a b,x = .str a/\y = .str b/\Q (.bl (yC a b)) H):=by intro pins s σ H x y v u Q I rx ry h;obtain⟨a,b,rfl,rfl,q⟩:=h;obtain⟨t,rfl⟩:=rx;obtain⟨t',rfl⟩:=ry;exact PyProof.Rows.in_str ⟨.bl _,H,I,rfl,q⟩
theorem Jm:dA X (.type "int") (λxs H Q=>∃z n,xs=[.str z]/\z.length<=640/\intText? z=some n/\Q (.int n) H):=by intro pins s σ H xs us Q I r h;obtain⟨z,n,rfl,hz,hn,q⟩:=h;obtain⟨u,rfl,t,rfl⟩:=eW r;refine call_int_1 (Gives.meets (W.KIN.gives_text hz hn)) ?_;exact⟨rfl,.int n,H,I.tok _,⟨_,rfl⟩,q⟩
theorem Si:aS X (binaryOp .Mult) (λx y H Q=>∃z n,x = .str z/\y = .int n/\z.length<=1000/\0<=n/\n<=1000/\(Txt.mul z n).length<=sizeLine/\Q (.str (Txt.mul z n)) H):=by
 intro pins s σ H x y v u Q I rx ry h;obtain⟨z,n,rfl,rfl,hz,h0,h1,hm,q⟩:=h;obtain⟨t,rfl⟩:=rx;obtain⟨t',rfl⟩:=ry;refine P.mul_str (by rw[decide_eq_false (by omega),decide_eq_false (by omega)];rfl) (λh2 _=>?_) (λh2 _=>?_) ?_
 .have e:(2 ^ 63-1:Int)=9223372036854775807:=by decide
  rw[e];have:(9223372036854775:Int)<=9223372036854775807 / n:=by rw[Int.le_ediv_iff_mul_le (by omega)];omega
  omega
 .unfold Builtin.Str.tooLong;have:z.length*n.toNat<=1000*1000:=Nat.mul_le_mul hz (by omega);have big:1000000<=sizeLine:=by decide
  exact decide_eq_false (by omega)
 .unfold Txt.mul at q hm;by_cases c1:n<1
  .rw[if_pos c1]at q hm ⊢;exact⟨hm,.str _,H,I.tok _,⟨_,rfl⟩,q⟩
  .rw[if_neg c1]at q hm ⊢;by_cases c2:(n==1||z.length==0)=true
   .rw[if_pos c2]at q hm ⊢;exact⟨.str _,H,I,⟨_,rfl⟩,q⟩
   .rw[if_neg c2]at q hm ⊢;exact⟨hm,.str _,H,I.tok _,⟨_,rfl⟩,q⟩
def DG:V->Option Int->Option Int->Hp->VK->Prop:=λx lo hi H Q=>∃z,x = .str z/\(Txt.slice z lo hi).length<=sizeLine/\Q (.str (Txt.slice z lo hi)) H
theorem EI:mK X DG:=by
 intro pins s σ H x v vl vu lo hi sl Q I rx hs pl pu h;obtain⟨z,rfl,hm,q⟩:=h;obtain⟨t,rfl⟩:=rx;refine⟨"str",_,PySem.F.slot_str_getitem.lookup,typeIs_str _ _ _,?_⟩;have hl:∃l:Option (Int×Tok),vl=partValue l/\l.map (·.1)=lo:=by
  cases pl with
  |none=>exact⟨none,rfl,rfl⟩|int i t=>exact⟨some (i,t),rfl,rfl⟩
 have hu:∃l:Option (Int×Tok),vu=partValue l/\l.map (·.1)=hi:=by
  cases pu with
  |none=>exact⟨none,rfl,rfl⟩|int i t=>exact⟨some (i,t),rfl,rfl⟩
 obtain⟨l,rfl,e1⟩:=hl;obtain⟨u,rfl,e2⟩:=hu;have hs':s.heap.IsSlice sl l u none:=hs;refine wpAny_getItem_str_slice hs' rfl ?_;unfold sliceMade slicePicked;unfold Txt.slice at q hm;rw[<- e1,<- e2]at q hm;simp only[Option.map_none,Option.getD_none]at q hm ⊢;split
 .rename_i hc;rw[if_pos hc]at q;exact⟨.str _,H,I,⟨_,rfl⟩,q⟩
 .rename_i hc;rw[if_neg hc]at q hm;exact⟨hm,.str _,H,I.tok _,⟨_,rfl⟩,q⟩
def iX(z:Str):List Str:=z.cps.toList.map λc=>⟨#[c]⟩
def wL(z:Str):It:=⟨λi _=>i<z.cps.size,λi H x H'=>H'=H/\∃y,(iX z)[i]?=some y/\x = .str y,λi _=>z.cps.size<=i⟩
theorem Fu{prog:Program}{w:World}{A:Around}(hA:A.handled=none)(it:Addr)(z:Str)(t:Tok):Walks prog w A it [it] [it] z.cps.size (SignAt z) (λi h=>h.IsStrIter it (strIterType z) z t i):=by
 unfold strIterType;split
 .exact Walks.strAscii hA it z t
 .exact Walks.strWide hA it z t
theorem IK{P:Program}{w:World}{K:W.Frag}(it:Addr)(z:Str)(t:Tok):Turn P w K tg (wL z) [it] it (λi h=>h.IsStrIter it (strIterType z) z t i/\i<=z.cps.size) where
 mem:=by simp
 obj:=λi h st b hb=>by
  have e:b=it:=by simpa using hb
  subst e;obtain⟨⟨o,e,c,d⟩,_⟩:=st;exact⟨o,e,λv z=>by rw[d]at z;cases z⟩
 keep:=λi h h' st k=>by obtain⟨⟨o,e,c,d⟩,l⟩:=st;exact⟨⟨o,k it (by simp) o e,c,d⟩,l⟩
 item:=by
  intro X hP hw hK hc i pins s σ H E I hf st hg;subst hP hw hK;have hg:i<z.cps.size:=hg;obtain⟨f0,f1,f2,f3,f4,f5⟩:=hf it (by simp);have W:=Fu (prog:=X.prog) (w:=X.w) (A:=X.A) (I.ok.hd hc) it z t;refine W.item i s _ _ hg st.1 λv h' tk hv st' kk=>?_;obtain⟨c,u,hv,rfl⟩:=hv;have I1:Inv X pins σ H { s with heap:=h',toks:=tk }:=I.turned (λb o hb e=>kk b o (by simpa using hb) e) f0 f1 f3 f4 f5;obtain⟨oi,ei,ci,di⟩:=id st';refine⟨_,rfl,xZ (s:={ s with heap:=h',toks:=tk }) ei ci di ?_ ⟨.str ⟨#[c]⟩,H,I1,⟨_,rfl⟩,⟨rfl,⟨#[c]⟩,?_,rfl⟩,⟨st',hg⟩,λb hb=>(hf b hb).1⟩⟩
  .unfold strIterType;split<;>decide
  .unfold iX;rw[List.getElem?_map,Array.getElem?_toList,hv];rfl
 done:=by intro X hP hw hK hc i pins s σ H E I hf st hg;subst hP hw hK;have hg:z.cps.size=i:=Nat.le_antisymm hg st.2;obtain⟨f0,f1,f2,f3,f4,f5⟩:=hf it (by simp);have W:=Fu (prog:=X.prog) (w:=X.w) (A:=X.A) (I.ok.hd hc) it z t;refine W.done s _ _ (by rw[hg];exact st.1) λh' tk kk=>?_;exact⟨rfl,I.turned (λb o hb e=>kk b o (by simpa using hb) e) f0 f1 f3 f4 f5⟩
 self:=λA i s Q E st h=>by
  unfold strIterType at st;split at st
  .exact wpAny_pyIter_striter_ascii st.1 h
  .exact wpAny_pyIter_striter_wide st.1 h
theorem GB{pins:List (Addr×Obj)}{s1:Shared}{σ:L2.St}{H1:Hp}{z:Str}{t:Tok}{R:It->Hp->Prop}(I1:Inv X pins σ H1 s1)(q:R (wL z) H1):wpAny (model X.prog X.w) X.A (pyIter (.str z t)) (dj X pins σ tg R) X.xe s1:=by
 refine wpAny_pyIter_strU ?_;refine⟨s1.heap.objs.size,[s1.heap.objs.size],_,_,H1,rfl,I1.kept (t':=s1.toks) λb o e=>Heap.get?_push_of_some _ e,IK _ z t,⟨⟨_,Heap.get?_push_size _ rfl,rfl,rfl⟩,Nat.zero_le _⟩,λb hb=>?_,q⟩;have e:b=s1.heap.objs.size:=by simpa using hb
 subst e;exact I1.lH (Nat.le_refl _) (I1.aI.fresh (Nat.le_refl _))
theorem ya{prog:Program}{w:World}{A:Around}{E:Value->Shared->Prop}{u:Str}{t:Tok}{us:List Value}{ts:List Str}(hv:Vals (ts.map V.str) us){Q:Option PySem.Fin×Unit->Shared->Prop} :
  ∀(n k i:Nat) (s:Shared),k+n=ts.length->(ts.drop k).idxOf? u=some i->Q (some (.done (.ret (.int ((k+i:Nat):Int) s.toks))),()) { s with toks:=s.toks+1 } ->
  wpAny (model prog w) A (forIn (List.range' k n) ((none,()):Option PySem.Fin×Unit) λ(i:Nat) _=>match us.toArray[i]? with
   |some y=>do
    let b <- eqBool y (.str u t)
    if b=true then do
      let f <- retInt (i:Int)
      pure (ForInStep.done (some f,()))
     else pure (ForInStep.yield (none,()))
   |_=>pure (ForInStep.yield (none,()))) Q E s
 |0,k,i,s,hk,hi,q=>by rw[List.drop_of_length_le (by omega)]at hi;cases hi
 |n+1,k,i,s,hk,hi,q=>by
  obtain⟨c,hc⟩:∃c,ts[k]?=some c:=⟨_,List.getElem?_eq_getElem (by omega)⟩;obtain⟨v,hu,t',rfl⟩:=hv.get (i:=k) (x:=.str c) (by rw[List.getElem?_map,hc];rfl);have hd:ts.drop k=c::ts.drop (k+1):=by rw[List.drop_eq_getElem_cons (by omega)];congr 1;exact(List.getElem?_eq_some_iff.mp hc).2
  rw[hd,List.idxOf?_cons]at hi;rw[List.range'_succ,List.forIn_cons];refine wpAny_bind ?_;rw[List.getElem?_toArray,hu];refine wpAny_bind (wpAny_eqBool_str ?_);by_cases e:c=u
  .rw[decide_eq_true e,if_pos rfl];rw[if_pos (by simpa using e)]at hi;cases hi;refine wpAny_bind ?_;refine wpAny_bind (wpAny_mkInt ?_);refine wpAny_pure (wpAny_pure (wpAny_pure ?_));exact q
  .rw[decide_eq_false e,if_neg Bool.false_ne_true];rw[if_neg (by simpa using e)]at hi;obtain⟨j,hj,rfl⟩:=Option.map_eq_some_iff.mp hi;refine wpAny_pure ?_;refine ya hv n (k+1) j s (by omega) hj ?_;rw[show k+1+j=k+(j+1) by omega];exact q
theorem Qo:iK X "tuple.index" (λx vs H Q=>∃(a:Addr) (ts:List Str) (u:Str) (i:Nat),x = .ref a/\bG X.K H a (ts.map V.str)/\vs=[.str u]/\ts.idxOf? u=some i/\Q (.int ((i:Nat):Int)) H):=by
 intro pins s σ H x vs v us Q I rx rv h;obtain⟨a,ts,u,i,rfl,hq,rfl,hi,q⟩:=h;cases rx;obtain⟨v,rfl,t,rfl⟩:=eW rv;obtain⟨its,r,ht,hz⟩:=I.tuple hq;have hlen:its.toArray.size=ts.length:=by rw[List.size_toArray,<- r.length,List.length_map]
 refine wpAny_call_entry PySem.F.slot_tuple_index ht.typeIs PySem.F.entry_tuple_index ?_ (PySem.F.args_tuple_index_2 _ _);show wpAny _ _ (pure (Value.ref a,[Value.str u t])>>=_) _ _ s;refine wpAny_bind (wpAny_pure ?_);show wpAny _ _ (Builtin.Tuple.tupleItemsOf (.ref a)>>=_) _ _ s;refine wpAny_bind (tupleItemsOf_ ht ?_);show wpAny _ _ (pure 0>>=_) _ _ s;refine wpAny_bind (wpAny_pure ?_);show wpAny _ _ (pure its.toArray.size>>=_) _ _ s;refine wpAny_bind (wpAny_pure ?_);dsimp only;rw[Std.Legacy.Range.forIn_eq_forIn_range'];have e:(⟨0,min its.toArray.size its.toArray.size,1,by decide⟩:Std.Legacy.Range).size=ts.length:=by rw[Nat.min_self,hlen];simp[Std.Legacy.Range.size]
 refine wpAny_bind ?_;rw[e];refine ya r ts.length 0 i s (by omega) (by rw[List.drop_zero];exact hi) ?_;refine wpAny_pure ⟨_,rfl,.int _,H,I.tok _,⟨_,rfl⟩,?_⟩;rw[Nat.zero_add];exact q
def ah(X:Cx)(neg:Bool):R2:=λx y H Q=>∃(a:Addr) (us:List (Str×Value)) (k:Str),x = .str k/\y = .ref a/\oK X.prog X.w X.K a us/\(a==sysModules)=false/\Q (.bl (if neg then !(valueAt us k).isSome else(valueAt us k).isSome)) H
theorem Sb:aS X (compareOp .In) (ah X false):=by intro pins s σ H x y v u Q I rx ry h;obtain⟨a,us,k,rfl,rfl,hT,hd,q⟩:=h;cases ry;obtain⟨t,rfl⟩:=rx;exact wpAny_in_of (strKind_is X.prog X.w k t) hd (hT _ I.cW).mapOf ⟨.bl _,H,I.tok _,rfl,q⟩
theorem Sm:aS X (compareOp .NotIn) (ah X true):=by intro pins s σ H x y v u Q I rx ry h;obtain⟨a,us,k,rfl,rfl,hT,hd,q⟩:=h;cases ry;obtain⟨t,rfl⟩:=rx;exact wpAny_notIn_of (strKind_is X.prog X.w k t) hd (hT _ I.cW).mapOf ⟨.bl _,H,I.tok _,rfl,q⟩
end
end AM
namespace PySem.W
open PySem PySem.Spec PySem.Calls PyProof.Rows Builtin Builtin.ObjectAttr
def xP:List Value->Bool
 |.ref _::r=>xP r
 |l=>l==[.type "ValueError",.type "Exception",.type "BaseException",.type "object"]
theorem vx(self:Value):∀{l:List Value},xP l=true->refuseLoop self "__setattr__" l=pure ()
 |.ref c::r,e=>(refuseLoop_ref self _ c r).trans (vx self (by unfold xP at e;exact e))
 |[],e=>by cases e
 |.type n::r,e=>by rw[beq_iff_eq.mp (show(Value.type n::r==_)=true from e)];exact F.store_ValueError.passes self
 |.none::r,e=>by cases e
 |.bool b::r,e=>by cases e
 |.int b _::r,e=>by cases e
 |.str b _::r,e=>by cases e
 |.float b _::r,e=>by cases e
 |.bytes b _::r,e=>by cases e
 |.ellipsis::r,e=>by cases e
 |.notImplemented::r,e=>by cases e
 |.builtin b::r,e=>by cases e
section
variable {prog:Program}{w:World}{A:Around}{E:Value->Shared->Prop}{s:Shared}{K:Frag}{x C:Addr}{ox:Obj}{name:Str}{v:Value}
def gS(K:Frag)(C:Addr)(name:Str):Bool:=(clsIn K C).any (λcd=>xP cd.mro&&cd.hasDict)&&findIn K (.ref C) name==some none&&findIn K (.ref C) "__setattr__"==some (some (.builtin "object.__setattr__"))&&mroIn K C (.type "object")==some true &&
 findIn K (.ref C) "__getattribute__"==some (some (.builtin "BaseException.__getattribute__"))&&findIn K (.ref C) "__getattr__"==some none&&mroIn K C (.type "BaseException")==some true
theorem NF{Q:Unit->Shared->Prop}(X:K.In s.heap)(I:InstAt s.heap x ox C none)(q:gS K C name=true)
  (h:∀h',h'.get? x=some { ox with dict:=some s.heap.objs.size }->h'.Ns1 s.heap.objs.size (λy=>if y=name then some v else none)->(∀b o,b≠x->s.heap.get? b=some o->h'.get? b=some o)->Q () { s with heap:=h',toks:=s.toks+2 }) :
  wpAny (model prog w) A (setAttr (.ref x) name v) Q E s:=by
 simp only[gS,Bool.and_eq_true,beq_iff_eq]at q;obtain⟨⟨⟨⟨⟨⟨q1,q2⟩,q3⟩,q4⟩,_⟩,_⟩,_⟩:=q;obtain⟨cd,hc,hm⟩:=any_some q1;rw[Bool.and_eq_true]at hm;have SF:=PySem.F.store_ValueError;refine set_plain X I q3 ?_;have sub:Looks (model prog w) s.heap (isInstance (.ref x) (.type "object")) true:=I.type.andThen (looks_mroIn X q4);refine codeAny_call_builtin SF.slot.plain SF.entry (@check_slot (model prog w) _ _ { s with toks:=s.toks+1 } "object.__setattr__" "object" "__setattr__" (.ref x) [.str name s.toks,v] [] _ SF.kind SF.split sub (SF.args _ _ _) ?_);have hmro:Looks (model prog w) s.heap (mroOf (.ref C)) cd.mro:=(looks_clsIn X hc).andThen .now;rw[osa_eq,refuse_eq];refine wpAny_bind (wpAny_bind (Looks.here (s:={ s with toks:=s.toks+1 }) I.type (wpAny_bind (Looks.here (s:={ s with toks:=s.toks+1 }) hmro ?_))));rw[vx _ hm.1];refine wpAny_pure (wpAny_bind (Looks.here (s:={ s with toks:=s.toks+1 }) I.type (wpAny_bind (Looks.here (s:={ s with toks:=s.toks+1 }) (looks_findIn X q2) (wpAny_bind (wpAny_pure ?_))))));obtain⟨hx,hcl,hn,hdx⟩:=I;obtain⟨oc,odi,oda,osl⟩:=ox;dsimp only at hcl;subst hcl;have hdn:odi=none:=by
  cases odi with
  |none=>rfl|some d=>exact hdx.elim
 subst hdn;have lN:x≠s.heap.objs.size:=Nat.ne_of_lt (Heap.lt_size hx);have hx1:(s.heap.push { cls:=.type "dict",data:=.dict #[] }).get? x=_:=Heap.get?_push_of_some _ hx;refine wpAny_bind (wpAny_pure (wpAny_bind (wpAny_bind (wpAny_loadPart hx (wpAny_bind (Looks.here (s:={ s with toks:=s.toks+1 }) (looks_clsIn X hc) ?_))))));rw[hm.2];have re:∀{α:Type} {a b:Sem α} {Q:α->Shared->Prop} {E:Value->Shared->Prop} {s:Shared} {M:Model} {A:Around},a=b->wpAny M A b Q E s->wpAny M A a Q E s:=λh w=>h▸w;refine re (b:=do
   let d <- alloc { cls:=.type "dict",data:=.dict #[] }
   update x λo=>{ o with dict:=some d }
   dictMade (.ref C) x d) (by cases oda<;>first|rfl|(exact absurd hn Bool.false_ne_true)) ?_
 refine wpAny_bind (wpAny_alloc' (wpAny_bind (wpAny_update' hx1 (wpAny_pure ?_))));have hgd:((s.heap.push { cls:=.type "dict",data:=.dict #[] }).update x λo=>{ o with dict:=some s.heap.objs.size }).get? s.heap.objs.size=some { cls:=.type "dict",data:=.dict #[] }:=
  (Heap.get?_update_ne _ _ _ _ lN.symm).trans (Heap.get?_push_at rfl rfl)
 have hnd:((s.heap.push { cls:=.type "dict",data:=.dict #[] }).update x λo=>{ o with dict:=some s.heap.objs.size }).Ns s.heap.objs.size (λ_=>none):=⟨_,#[],_,hgd,rfl,λe he=>absurd he (by simp),λ_=>rfl⟩;show wpAny _ _ (storeInDict s.heap.objs.size (.str name s.toks) name v) _ _ _;unfold storeInDict newKeyGuard;refine wpAny_bind (wpAny_pure (wpAny_bind (wpAny_nsSet1 (Heap.Ns1.of_empty hnd) λh' hn' hs=>?_)));obtain⟨oD,esD,epD,hoD,hdD,hcD⟩:=hn'.count (Within.cons name v Within.nil);refine wpAny_bind (wpAny_lookBehind hoD (by rw[hdD];exact pastItsLine_dict (Nat.le_trans hcD (by rw[List.length_cons,List.length_nil,sizeLine_eq];omega))) ?_);refine wpAny_pure (h h' ((hs.2 x lN).trans (Heap.get?_update_self _ hx1 ?_)) hn' λb o nb hb=>(hs.2 b (Nat.ne_of_lt (Heap.lt_size hb))).trans ((Heap.get?_update_ne _ _ _ _ nb).trans (Heap.get?_push_of_some _ hb)));have hfr:=(Heap.get?_some_iff.mp hx).2;cases oda<;>first|rfl|exact hfr
theorem NG{od:Obj}{expr:Bool}{Q:Value->Shared->Prop}(X:K.In s.heap)(I:InstAt s.heap x ox C (some od))(q:gS K C name=true)(hl:lookIn name od=some (some v))(hv:handedIn v=true)(h:Q v { s with toks:=s.toks+1 }) :
  wpAny (model prog w) A (getAttr (.ref x) name expr) Q E s:=by
 simp only[gS,Bool.and_eq_true,beq_iff_eq]at q;obtain⟨⟨⟨⟨⟨⟨q1,q2⟩,q3⟩,q4⟩,q5⟩,q6⟩,q7⟩:=q;have hh:hasDictIn K C=true:=by obtain⟨cd,hc,hm⟩:=any_some q1;rw[Bool.and_eq_true]at hm;unfold hasDictIn;rw[hc];exact hm.2
 have L0:∀M,Looks M s.heap (typeOf (.ref x)) (.ref C):=λM=>I.type;have hf:=looks_find (M:=model prog w) X I (findObj_own hh q2 rfl hl);obtain⟨hp,g,d,t,os⟩:=s;have L1:=looks_findIn (M:=model prog w) X q5;have L2:=looks_findIn (M:=model prog w) X q6;unfold getAttr getAttrBy;refine wpAny_bind (wpAny_mkText (wpAny_holding (wpAny_bind ((L0 _).at (wpAny_bind (L1.at ?_))))));show wpAny _ _ (getAttrByItsOwn _ _ _ _ _ _) _ _ _;unfold getAttrByItsOwn;refine wpAny_bind (show wpAny _ _ (typeLookup (.ref C) "__getattr__") _ _ _ from L2.at ?_);refine wpAny_bind (wpAny_attempt (wpAny_holding ?_));unfold callGetattribute;rw[if_neg (by rw[show onTheHeap (.builtin "BaseException.__getattribute__")=false from rfl,Bool.and_false];exact Bool.false_ne_true)];unfold boundAndCalled;rw[PySem.F.excAttr_ValueError.ga.bind (.ref x)];refine wpAny_bind (wpAny_pure (wpAny_call (codeAny_call_builtin PySem.F.excAttr_ValueError.ga.plain F.entry_bexc_ga (Gv X L0 q7 ?_))));unfold Builtin.«object.__getattribute__»;refine wpAny_bind (wpAny_pure (wpAny_bind (wpAny_pure (wpAny_bind ((L0 _).at (wpAny_bind (hf.at ?_)))))));refine wpAny_pure ?_;dsimp only;rw[handedOut_of hv];exact wpAny_pure h
end
end PySem.W
namespace L2
open PySem PySem.Spec PyProof.Rows
def eZ(a C:Addr)(dx:Option Addr)(h:Heap):Prop:=∃t,h.get? a=some { cls:=.ref C,dict:=dx,data:=.fields #[.ref t,.none,.none,.none,.bool false,.none] }
theorem Gw{P:Program}{w:World}{H:Hp}{h:Heap}{a C:Addr}{dx:Option Addr}(x:eZ a C dx h):dD P w H h a (.ext (eZ a C dx)):=
 ⟨x,let ⟨_,e⟩:=x;⟨_,e⟩,λ_ _ ⟨t,e⟩ k=>⟨t,k _ e⟩⟩
def mj(K:W.Frag)(nm:Str):Sp:=λvs H Q _=>∃a C i,vs=[.ref a,.int i]/\H a=some (.ext (eZ a C none))/\W.gS K C nm=true /\
 ∀d od,H d=none->d≠a->Q .aC (aK (aK H a (.ext (eZ a C (some d)))) d (.bO od (.xd [(nm,.int i)])))
section
variable {X:Cx}{pins:List (Addr×Obj)}{σ:St}{H:Hp}{s:Shared}{a C:Addr}{nm:Str}{i:Int}{u:Value}
theorem NO{A:Around}{E:Value->Shared->Prop}{Q:Unit->Shared->Prop}(I:Inv X pins σ H s)(e:H a=some (.ext (eZ a C none)))(q:W.gS X.K C nm=true)(r:RelV (.int i) u)
  (h:∀d od s',H d=none->d≠a->Inv X pins σ (aK (aK H a (.ext (eZ a C (some d)))) d (.bO od (.xd [(nm,.int i)]))) s'->Q () s'):wpAny (model X.prog X.w) A (setAttr (.ref a) nm u) Q E s:=by
 obtain⟨⟨t,ha⟩,_,_⟩:=(show dD X.prog X.w H s.heap a (.ext (eZ a C none)) from I.aI a _ e);have hd:=I.aI.fresh (Nat.le_refl s.heap.objs.size);have hne:s.heap.objs.size≠a:=λz=>by rw[z,e]at hd;cases hd
 refine W.NF I.cW ⟨ha,rfl,rfl,trivial⟩ q λh' h1 h2 h3=>?_;obtain⟨od,es,ep,g1,g2⟩:=id h2;have up:(s.heap.update a λo=>{ o with dict:=some s.heap.objs.size }).get? a=some { cls:=.ref C,dict:=some s.heap.objs.size,data:=.fields #[.ref t,.none,.none,.none,.bool false,.none] }:=Heap.get?_update_self _ ha rfl;have I1:=I.write (x:=a) (e:=a) (o:=.ext (eZ a C (some s.heap.objs.size))) (h':=s.heap.update a λo=>{ o with dict:=some s.heap.objs.size }) (t':=s.toks) (by rw[e];exact True.intro) (.inl rfl)
  (λb v nb z=>(Heap.get?_update_ne _ _ _ _ nb).trans z) ⟨_,up⟩ (Gw ⟨t,up⟩)
 refine h s.heap.objs.size od _ hd hne (I1.laid (a:=s.heap.objs.size) (h':=h') (t':=s.toks+2) (λb v z=>?_) (by simp[Heap.update]) ⟨g1,_,h2,λf=>?_⟩)
 .by_cases hb:b=a
  .subst hb;rw[up]at z;cases z;exact h1
  .rw[Heap.get?_update_ne _ _ _ _ hb]at z;exact h3 b v hb z
 .show qN (List.lookup f [(nm,V.int i)]) (if f=nm then some u else none);by_cases hf:f=nm
  .rw[if_pos hf,List.lookup_cons,beq_iff_eq.mpr hf];exact r
  .rw[if_neg hf,List.lookup_cons,beq_eq_false_iff_ne.mpr hf];exact True.intro
def DZ(K:W.Frag)(ta tv:TE)(nm:Str):TS:=λD σ H=>tv σ H λy H1=>ta σ H1 λx H2=>∃a C i,y = .int i/\x = .ref a/\H2 a=some (.ext (eZ a C none))/\W.gS K C nm=true /\
 ∀d od,H2 d=none->d≠a->D.nx σ (aK (aK H2 a (.ext (eZ a C (some d)))) d (.bO od (.xd [(nm,.int i)])))
theorem Wo{o value:Expr}{ta tv:TE}{pos pos':Pos}(ha:PE X o ta)(hv:PE X value tv)(hs:swapsWith value (some (.Attribute o nm pos')) pos.line X.env=pure false):PS X (.Assign [.Attribute o nm pos'] value pos) (DZ X.K ta tv nm):=by intro pins s σ H D I h;refine plainObj_wpAny_Assign_Attribute (aJ (hv pins s σ H _ I h) λu s1 ⟨y,H1,I1,ry,q⟩=>aJ (ha pins s1 σ H1 _ I1 q) λov s2 ⟨x,H2,I2,rx,a,C,i,ey,ex,ea,c,q2⟩=>?_) hs;subst ex;subst ey;obtain rfl:ov=Value.ref a:=rx;exact NO I2 ea c ry λd od s' h1 h2 I3=>⟨σ,_,I3,q2 d od h1 h2⟩
def nX(H:Hp)(a:Addr):Hp:=λb=>if b=a then none else H b
theorem Inv.IW{φ:Heap->Prop}(I:Inv X pins σ H s)(e:H a=some (.ext φ)):Inv X pins σ (nX H a) s:=by
 have ne:∀{b:Addr} {o:HO},H b=some o->(∀ψ,o ≠ .ext ψ)->b≠a:=λ{b o} z n y=>by rw[y,e]at z;cases z;exact n _ rfl
 have un:∀{b:Addr},H b=none->nX H a b=none:=λ{b} z=>by unfold nX;split<;>first|rfl|exact z
 have kp:∀{b:Addr} {o:HO},H b=some o->(∀ψ,o ≠ .ext ψ)->nX H a b=some o:=λ{b o} z n=>by unfold nX;rw[if_neg (ne z n)];exact z
 refine⟨I.ok,I.os,I.bare,⟨I.base.keep,I.base.slot,λb o z n x=>un (I.base.free b o z n x),I.base.there,λb xs z=>kp (I.base.gQ b xs z) (by intro ψ y;cases y),λb o v z=>kp (I.base.fT b o v z) (by intro ψ y;cases y),λb ps z=>?_⟩,I.loc,I.cell,un I.free,λy c z=>un (I.eS y c z),λp hp=>?_,λb o z=>?_,I.len⟩
 .obtain⟨m,z⟩:=I.base.gP b ps z;exact⟨m,kp z (by intro ψ y;cases y)⟩
 .obtain⟨h1,h2,h3⟩:=I.pin p hp;exact⟨h1,un h2,h3⟩
 .have z':H b=some o:=by
   unfold nX at z;split at z
   .cases z
   .exact z
  exact(I.aI b o z').iY (λ_ _ _ q=>q) (λc q=>kp q (by intro ψ y;cases y)) λc xs q=>kp q (by intro ψ y;cases y)
end
def sU(K:W.Frag)(C f:Addr)(bmB:List Value)(newId:String):Bool:=(match K.lookup C with
 |some ⟨.type "type",_,.cls cd,sl⟩=>(match cd.mro,sl.toList with
  |.ref C'::bm,[_,_,_,_,some (.builtin n),_]=>C'==C&&n==newId && !cd.hasDel&&W.tailIn K bmB bm&&W.nsOkIn K cd.ns&&W.nsIn K cd.ns "__init__"==some (some (.ref f))
  |_,_=>false)
 |_=>false)&&W.isFn K (.ref f)
theorem Rc{K:W.Frag}{h:Heap}{N:Addr}{m:Str->Option Value}{n:Str}{v:Value}(X:K.In h)(G:h.Ns N m)(e:W.nsIn K N n=some (some v)):m n=some v:=by
 obtain⟨o,es,ep,ho,hd,_,hf⟩:=G;unfold W.nsIn at e;split at e
 .rename_i q;have:=X _ _ q;rw[ho]at this;cases this;cases hd;split at e
  .rename_i he;cases e;rw[<- hf];unfold nsFind findBy;rw[<- Array.find?_toList,he];rfl
  .split at e<;>cases e
 .cases e
theorem NN{K:W.Frag}{h₀:Heap}{C f:Addr}{bmB:List Value}{newId:String}(X:K.In h₀)(q:sU K C f bmB newId=true) :
  ∃bm N nm q bs hdct sn sub ab col dd k0 k1 k2 k3 k5 mN oI,h₀.get? C=some (excClassObj nm q C N bs bm hdct sn sub ab col dd k0 k1 k2 k3 k5 newId)/\h₀.Ns N mN/\mN "__init__"=some (.ref f)/\OwnTail h₀ bmB bm/\h₀.get? f=some oI/\oI.cls = .type "function":=by
 unfold sU at q;rw[Bool.and_eq_true]at q;obtain⟨q,qf⟩:=q;have fo:∃oI,h₀.get? f=some oI/\oI.cls = .type "function":=let ⟨o,ho,hc⟩:=Option.map_eq_some_iff.mp (show(K.lookup f).map (·.cls)=some (.type "function") from beq_iff_eq.mp qf);⟨o,X _ _ ho,hc⟩;obtain⟨oI,hI,cI⟩:=fo;split at q
 .rename_i dd cd sl ho;split at q
  .rename_i C' bm k0 k1 k2 k3 n k5 hm hs;simp only[Bool.and_eq_true,beq_iff_eq,Bool.not_eq_true']at q;obtain⟨⟨⟨⟨⟨rfl,rfl⟩,hdel⟩,ht⟩,aI⟩,hni⟩:=q;obtain⟨nm,bs,mro,ns,qn,hd,sn,sub,ab,col,del⟩:=cd;dsimp only at hm hdel aI hni;subst hm hdel;have hsl:sl=#[k0,k1,k2,k3,some (.builtin n),k5]:=by obtain⟨l⟩:=sl;simp only at hs;rw[hs]
   subst hsl;have N0:h₀.Ns ns _:=.of_isNs (W.isNs_of_in X aI);exact⟨bm,ns,nm,qn,bs,hd,sn,sub,ab,col,dd,k0,k1,k2,k3,k5,_,oI,X _ _ ho,N0,Rc X N0 hni,W.tail_of_in X ht,hI,cI⟩
  .cases q
 .cases q
section
variable {prog:Program}{w:World}{A:Around}{E:Value->Shared->Prop}{h:Heap}{g:Array GenState}{dr:Drawn}{t:Nat}{os:OsState}
variable {nm q:Str}{C N fI:Addr}{bs bm bmB:List Value}{hdct:Bool}{sn:List Str}{sub:List Value}{ab:Bool}{col:Option Bool}{dd:Option Addr}{k0 k1 k2 k3 k5:Option Value}{B newId initId:String}{mN:Str->Option Value}{rest:List Value}{oI:Obj}
theorem Pu{Q:Value->Shared->Prop} (F:ExcBaseFacts B newId initId bmB) (T:OwnTail h bmB bm) (hC:h.get? C=some (excClassObj nm q C N bs bm hdct sn sub ab col dd k0 k1 k2 k3 k5 newId)) (hn:h.Ns N mN) (hi:mN "__init__"=some (.ref fI)) (hfI:h.get? fI=some oI)
  (hfc:oI.cls = .type "function") (hrest:rest.length<=sizeLine)
  (hq:∀h' e,h.objs.size<=e->Heap.MadeExcOf h h' e (.ref C) rest->codeAny (model prog w) (A.under (.builtin "type.__call__" ⟨.ref C::rest,[]⟩)) (.call (.ref fI) ⟨.ref e::rest,[]⟩) (λr s'=>match r with | .ok (.ret u)=>u = .none/\Q (.ref e) s' | .ok _=>False | .error x=>E x s') ⟨h',g,dr,t,os⟩) :
  wpAny (model prog w) A (call (.ref C) rest) Q E ⟨h,g,dr,t,os⟩:=by
 have f1:=tc_lookup;have f2:=tc_bind (.ref C);have hT:(⟨h,g,dr,t,os⟩:Shared).TypeIs (.ref C) "type":=⟨_,hC,rfl⟩;refine wpAny_call (codeAny_of_tree ?_);show wpAny _ _ (callAny (.ref C) _) _ _ _;repeat (any_goals (first|assumption|with_reducible refine wpAny_loadPart_at hC ?_|wp_step))
 have kp:∀b o,h.get? b=some o->((h.push { cls:=.type "tuple",data:=.seq rest.toArray }).push { cls:=.ref C,data:=.fields #[.ref h.objs.size,.none,.none,.none,.bool false,.none] }).get? b=some o:=λb o z=>Heap.get?_push_of_some _ (Heap.get?_push_of_some _ z);have hget:((h.push { cls:=.type "tuple",data:=.seq rest.toArray }).push { cls:=.ref C,data:=.fields #[.ref h.objs.size,.none,.none,.none,.bool false,.none] }).get? (h.objs.size+1)=some { cls:=.ref C,data:=.fields #[.ref h.objs.size,.none,.none,.none,.bool false,.none] }:=by heap_get
 have hcC:(Value.ref C::bm).contains (.ref C)=true:=by simp
 have key:∀{Q':Fin->Shared->Prop} {E':Value->Shared->Prop} {A':Around},(∀h' e,h.objs.size<=e->Heap.MadeExcOf h h' e (.ref C) rest->codeAny (model prog w) A' (.call (.ref fI) ⟨.ref e::rest,[]⟩) (λr s'=>match r with | .ok (.ret u)=>u = .none/\Q' (.done (.ret (.ref e))) s' | .ok _=>False | .error x=>E' x s') ⟨h',g,dr,t,os⟩) ->
   wpAny (model prog w) A' (Builtin.«type.__call__» ⟨.ref C::rest,[]⟩) Q' E' ⟨h,g,dr,t,os⟩:=by
  intro Q' E' A' hq;repeat (first|with_reducible refine wpAny_loadPart_at hC ?_|with_reducible refine wpAny_madeBy_exc hC ?_|wp_step)
  refine codeAny_call_builtin_code (Code.quiet_builtin _ F.quiet) (wpAny_check_new_subT F T hC (codeAny_exc_new_subT F T hC ?_ hrest));show wpAny _ _ _ _ _ _;unfold isInstance;repeat (first|with_reducible refine wpAny_loadPart_at hget ?_|(with_reducible refine wpAny_isSubtype_exc (kp _ _ hC) ?_;rw[hcC])|wp_step)
  show wpAny _ _ (typeLookup (.ref C) _) _ _ _;refine wpAny_typeLookup_tail (kp _ _ hC) (hn.keeps kp) (T.keeps kp) F.mroIs F.init.lookup ?_;rw[hi];refine wpAny_holding (wpAny_bind ?_);unfold bindSpecial;refine wpAny_bind (wpAny_typeOf (T:="function") ⟨_,kp _ _ hfI,hfc⟩ ?_);rw[if_pos (by decide)];refine wpAny_pure (wpAny_bind (wpAny_call (codeAny_mono (hq _ (h.objs.size+1) (Nat.le_succ _) ⟨kp,Heap.get?_none_of_le (Nat.le_succ _),h.objs.size,hget,Heap.get?_none_of_le (Nat.le_refl _),Heap.get?_push_of_some _ (Heap.get?_push_at rfl rfl)⟩) λr s' z=>?_)));rcases r with x|(_|_|_|u)
  .exact z
  .exact z.elim
  .exact z.elim
  .exact z.elim
  .obtain⟨rfl,z⟩:=z;wp_walk
   exact z
 exact⟨rfl,codeAny_call_builtin_at (Code.quiet_builtin _ (by decide +kernel)) entry_typeCall (wpAny_check_type_call_sub hC (key hq))⟩
theorem DI{s:Shared} {env:Env} {x:Str} {np cpos pos:Pos} {args:List Expr} {Q:Flow->Shared->Prop} (F:ExcBaseFacts B newId initId bmB) (hbase:bm.contains (.type "BaseException")=true) (hh:A.handled=none) (hplain:(backTo cpos (starEach args env)).any (·.1)=false)
  (h:wpAny (model prog w) A (eval (.Name x np) env) (λf s₁=>f = .ref C/\wpAny (model prog w) A (evalArgs (.ref C) true (backTo cpos (starEach args env)) [])
   (λa s₂=>a.kw=[]/\s₂.heap.get? C=some (excClassObj nm q C N bs bm hdct sn sub ab col dd k0 k1 k2 k3 k5 newId)/\wpAny (model prog w) A (call (.ref C) a.pos) (λv s₃=>∃e t dx,v = .ref e/\s₃.heap.get? C=some (excClassObj nm q C N bs bm hdct sn sub ab col dd k0 k1 k2 k3 k5 newId) /\
    s₃.heap.get? e=some { cls:=.ref C,dict:=dx,data:=.fields #[.ref t,.none,.none,.none,.bool false,.none] }/\E (.ref e) s₃) E s₂) E s₁) E s) :
  wpAny (model prog w) A (exec (.Raise (some (.Call (.Name x np) args [] cpos)) none pos) env) Q E s:=by
 have hcB:(Value.ref C::bm).contains (.type "BaseException")=true:=by rw[List.contains_cons,hbase,Bool.or_true]
 rw[arm_exec_Raise];refine wpAny_bind (wpAny_standAt ?_);unfold raiseStmt;refine wpAny_bind (wpAny_bind (wpAny_mono (Q:=λv s₃=>∃e t dx,v = .ref e/\s₃.heap.get? C=some (excClassObj nm q C N bs bm hdct sn sub ab col dd k0 k1 k2 k3 k5 newId) /\
    s₃.heap.get? e=some { cls:=.ref C,dict:=dx,data:=.fields #[.ref t,.none,.none,.none,.bool false,.none] }/\E (.ref e) s₃) (wpAny_Call_ofName (wpAny_mono h (λf s₁ h₁=>?_) λ_ _ x=>x)) (λv s₃ h₃=>wpAny_bind (wpAny_standAt (wpAny_pure ?_))) λ_ _ x=>x))
 rotate_left
 .obtain⟨e,t,dx,rfl,hC,he,hE⟩:=h₃;obtain⟨hp,g,d,tk,os⟩:=s₃;repeat (first|with_reducible refine wpAny_loadPart_at he ?_|with_reducible refine wpAny_loadPart_at hC ?_|(with_reducible refine wpAny_isSubtype_exc hC ?_;rw[hcB])|wp_step)
  exact wpAny_raiseNew_none hh hE
 obtain⟨rfl,h₁⟩:=h₁;unfold callWith;refine wpAny_bind (wpAny_holding (wpAny_mono h₁ (λa s₂ h₂=>wpAny_bind (wpAny_standAt ?_)) λ_ _ x=>x));obtain⟨apos,akw⟩:=a;obtain⟨hkw,hC,h₂⟩:=h₂;obtain rfl:akw=[]:=hkw;obtain⟨hp,g,d,tk,os⟩:=s₂;simp only[hplain];refine wpAny_bind (wpAny_keeperOf_exc hC (wpAny_bind (wpAny_mono h₂ (λv s₃ h₃=>wpAny_bind (wpAny_holding (wpAny_point (wpAny_pure h₃)))) λ_ _ z=>z)))
end
section
variable {X:Cx}{x nm:Str}{C f:Addr}{bmB:List Value}{Bn newId initId:String}{np cpos pos:Pos}{e₀:Expr}{ta:TA}{E:XK}{k:Nat}{fd:FuncData}{ps:List Str}
def wV(X:Cx)(E:XK):Prop:=∀(pins:List (Addr×Obj)) (σ:St) (H:Hp) (s:Shared) (e d:Addr) (oe:Obj) (ws:Array Value) (a0:Value),Inv X pins σ H s->s.heap.get? e=some oe->oe.dict=some d->oe.data = .fields ws->ws[1]?=some .none->ws[0]?=some a0 ->
 H e=none->X.s₀.heap.get? e=none->E oe.cls (some d) H->X.xe (.ref e) s
def HI(C:Addr)(nm:Str)(E:XK)(ta:TA):TS:=λ_ σ H=>ta σ H λvs H1=>∃i,vs=[.int i]/\∀d od,H1 d=none->E (.ref C) (some d) (aK H1 d (.bO od (.xd [(nm,.int i)])))
theorem Wj(hc:X.calm=true)(hx:X.ex=[])(hg:Gl X x)(hm:X.mg x=some (.ref C))(q:sU X.K C f bmB newId=true)(FB:ExcBaseFacts Bn newId initId bmB)(xa:W.gS X.K C nm=true)
  (F:dW X.prog X.w X.K X.mg X.base (cN X.prog X.w) k f fd ps (mj X.K nm)) (hr:cM (k+1) X.A) (hb:Binds X.K fd ps []) (hX:wV X E) (ha:PA X [e₀] ta) (hdb:(x==("__debug__":Str))=false)
  (he:starEach [e₀] X.env=(false,eval e₀ X.env)::starEach [] X.env):PS X (.Raise (some (.Call (.Name x np) [e₀] [] cpos)) none pos) (HI C nm E ta):=by
 intro pins s σ H D I h;obtain⟨bm,N,cn,qn,bs,hdct,sn,sub,ab,col,dd,k0,k1,k2,k3,k5,mN,oI,hC,hN,hi,TL,hfI,hfc⟩:=NN I.mod.rF q;refine DI (C:=C) (nm:=cn) (q:=qn) (N:=N) (bs:=bs) (bm:=bm) (hdct:=hdct) (sn:=sn) (sub:=sub) (ab:=ab) (col:=col) (dd:=dd) (k0:=k0) (k1:=k1) (k2:=k2) (k3:=k3) (k5:=k5) FB (TL.hasType FB.hasBase) (I.ok.hd hc)
  (by rw[he];rfl) (pK I hg hm ⟨rfl,?_⟩ hdb)
 have h2:=ha cpos pins s σ H _ I h;rw[he]at h2 ⊢;refine Calls.evalArgs_plain (wpAny_mono h2 (λus s2 ⟨vs,H1,I1,r,i,ev,z⟩=>⟨rfl,I1.bk _ _ hC,?_⟩) λ_ _ y=>y);subst ev;obtain⟨u,rfl,ru⟩:∃u,us=[u]/\RelV (.int i) u:=by
  cases r with
  |cons p t=>cases t;exact⟨_,rfl,p⟩
 refine Pu FB (TL.keeps I1.bk) (I1.bk _ _ hC) (hN.keeps I1.bk) hi (I1.bk _ _ hfI) hfc (show 1<=sizeLine by decide) λh' e le m=>?_;obtain⟨t,het,_,_⟩:=m.there;have n1:H1 e=none:=(I1.jk hx m.new).1;have I2:=I1.laid (a:=e) (o:=.ext (eZ e C none)) (h':=h') (t':=s2.toks) m.keeps le (Gw ⟨t,het⟩);have hl:([Value.ref e,u]++[]).length=ps.length:=(F.len [.ref e,.int i] (aK H1 e (.ext (eZ e C none))) (λ_ _=>True) (λ_ _ _=>True) ⟨e,C,i,rfl,eF,xa,λ_ _ _ _=>trivial⟩);have hb':=hb { s2 with heap:=h' } [.ref e,u] I2.cW hl;rw[List.append_nil]at hb';refine codeAny_mono (F.run _ X.stack { s2 with heap:=h' } _ ⟨[.ref e,u],[]⟩ [.ref e,u] [.ref e,.int i] (λv H'=>v = .aC/\∃d od,H'=aK (aK (aK H1 e (.ext (eZ e C none))) e (.ext (eZ e C (some d)))) d (.bO od (.xd [(nm,.int i)]))/\aK H1 e (.ext (eZ e C none)) d=none/\d≠e) E0
  (hr.make C [u] []) (I2.gi.make C [u] []) hb' (.cons rfl (.cons ru .nil)) ⟨e,C,i,rfl,eF,xa,λd od h1 h2=>⟨rfl,d,od,rfl,h1,h2⟩⟩) λr s' hq=>?_
 cases r with
 |error y=>exact(xK hq).elim|ok fl=>
  cases fl with
  |next=>exact False.elim hq|brk=>exact False.elim hq|cont=>exact False.elim hq|ret u'=>
   obtain⟨v,H3,I3,rv,ev,d,od,e3,nd,ne⟩:=I2.after hq;subst ev;have hd1:H1 d=none:=by rw[aT ne]at nd;exact nd
   have h3:H3 e=some (.ext (eZ e C (some d))):=by rw[e3,aT (Ne.symm ne),eF]
   obtain⟨⟨t3,he3⟩,_,_⟩:=(show dD X.prog X.w H3 s'.heap e (.ext (eZ e C (some d))) from I3.aI e _ h3);have I4:=I3.IW h3;have hH:nX H3 e=aK H1 d (.bO od (.xd [(nm,.int i)])):=funext λb=>by
    unfold nX;rw[e3];by_cases hb:b=e
    .rw[if_pos hb,hb,aT (Ne.symm ne)];exact n1.symm
    .rw[if_neg hb];by_cases hbd:b=d
     .rw[hbd,eF,eF]
     .rw[aT hbd,aT hbd,aT hb,aT hb]
   rw[hH]at I4;exact⟨rv,e,t3,some d,rfl,I3.bk _ _ hC,he3,hX pins σ _ s' e d _ _ _ I4 he3 rfl rfl rfl rfl (by rw[aT (Ne.symm ne)];exact n1) (I1.jk hx m.new).2 (z d od hd1)⟩
end
theorem DJ{P:Program}{w:World}{K:W.Frag}{mg:Str->Option Value}{base:Heap}{N:List Str}{qual:Str}{scope:Scope}{f:Addr}{cd:Value}{A:Around}{outer:List Env}{s:Shared}{H:Hp}{E:XK} :
 wV (jZ (cN P w) P w K mg base N qual scope f cd A outer s H E) E:=λpins σ H1 s1 e d oe ws a0 I he hd hdt h1 h0 n1 n2 q=>wc I rfl rfl rfl he rfl hdt h1 h0 (λk z=>⟨oe,he,hd.trans z⟩) n1 n2 q
section
variable {X:Cx}{e:Expr}{ta:TE}{nm:Str}{pos:Pos}
def HQ(K:W.Frag)(ta:TE)(nm:Str):TE:=λσ H Q=>ta σ H λx H1=>∃a C d od i,x = .ref a/\H1 a=some (.ext (fL a (.ref C) (some d)))/\H1 d=some (.bO od (.xd [(nm,.int i)]))/\W.gS K C nm=true/\Q (.int i) H1
theorem Vd(he:PE X e ta)(hb:attributeBase e nm X.env (eval e X.env)=eval e X.env):PE X (.Attribute e nm pos) (HQ X.K ta nm):=by intro pins s σ H Q I h;refine Hm hb (aJ (he pins s σ H _ I h) λu s1 ⟨x,H1,I1,rx,a,C,d,od,i,ex,ea,ed,q,z⟩=>?_);subst ex;obtain rfl:u=Value.ref a:=rx;obtain⟨⟨ob,h1,h2,⟨ws,h3⟩,h4⟩,_,_⟩:=(show dD X.prog X.w H1 s1.heap a (.ext (fL a (.ref C) (some d))) from I1.aI a _ ea);obtain⟨g1,mA,hN,hr⟩:=(show dD X.prog X.w H1 s1.heap d (.bO od (.xd [(nm,.int i)])) from I1.aI d _ ed);obtain⟨od',g2,hl⟩:=Pm hN;rw[g1]at g2;cases g2;obtain⟨v,hv,rv⟩:=qN.some_of (v:=.int i) (o:=mA nm) (by have:=hr nm;rw[List.lookup_cons,beq_iff_eq.mpr rfl]at this;exact this);have hdct:ob.dict=some d:=h4 d rfl;refine W.NG I1.cW (od:=od) (ox:=ob) ⟨h1,h2,by unfold W.notCls;rw[h3],by rw[hdct];exact g1⟩ q (by rw[hl,hv]) (My rv) ⟨.int i,H1,I1.tok _,rv,z⟩
end
end L2
namespace AM
open PySem PySem.Spec PyProof.Rows L2
inductive AV where
 |aC|bl (b:Bool)|int (i:Int)|str (x:Str)|tup (xs:List AV)|ref (n:Nat)|lK (aE:List (Str×Int))
 deriving Inhabited
inductive cZ where
 |lst (mu:Bool) (xs:List AV)
 |bV (aE:List (dO×AV))
 |ins (c:Nat) (fs:List (Str×AV))
 |xo (c:Nat)
def cZ.mu:cZ->Bool
 |.lst m _=>m
 |_=>true
structure AH where
 nx:Nat
 ob:Nat->Option cZ
def AH.put(h:AH)(n:Nat)(o:cZ):AH:=⟨h.nx,λm=>if m=n then some o else h.ob m⟩
def AH.new(h:AH)(o:cZ):AH:=⟨h.nx+1,λm=>if m=h.nx then some o else h.ob m⟩
inductive Res(α:Type) where
 |ok (a:α) (h:AH)
 |exc (c:Nat) (x:AV) (h:AH)
 |bad
abbrev M(α:Type):=AH->Res α
def M.ret{α:Type}(a:α):M α:=λh=>.ok a h
def M.bad{α:Type}:M α:=λ_=>.bad
def M.bind{α β:Type}(m:M α)(k:α->M β):M β:=λh=>match m h with
 |.ok a h'=>k a h'
 |.exc c x h'=>.exc c x h'
 |.bad=>.bad
def M.guard{α:Type}(p:Prop) [Decidable p] (m:M α):M α:=λh=>if p then m h else .bad
structure Tab where
 K:W.Frag
 G:List (Str×Int)->Addr->Prop
 C:Nat->Option Addr
mutual
inductive aF(T:Tab)(ρ:List Addr)(H:Hp):AV->V->Prop where
 |aC:aF T ρ H .aC .aC
 |bl (b:Bool):aF T ρ H (.bl b) (.bl b)
 |int (i:Int):aF T ρ H (.int i) (.int i)
 |str (x:Str):aF T ρ H (.str x) (.str x)
 |tup {a:Addr} {xs:List AV} {ys:List V} (hq:bG T.K H a ys) (hr:aO T ρ H xs ys):aF T ρ H (.tup xs) (.ref a)
 |ref {n:Nat} {a:Addr} (e:ρ[n]?=some a):aF T ρ H (.ref n) (.ref a)
 |lK {aE:List (Str×Int)} {a:Addr} (e:T.G aE a):aF T ρ H (.lK aE) (.ref a)
inductive aO(T:Tab)(ρ:List Addr)(H:Hp):List AV->List V->Prop where
 |nil:aO T ρ H [] []
 |cons {x:AV} {y:V} {xs:List AV} {ys:List V} (h:aF T ρ H x y) (hs:aO T ρ H xs ys):aO T ρ H (x::xs) (y::ys)
end
structure Ext(ρ:List Addr)(H:Hp)(ρ':List Addr)(H':Hp):Prop where
 pre:∀(n:Nat) a,ρ[n]?=some a->ρ'[n]?=some a
 tup:∀b xs,H b=some (.tup xs)->H' b=some (.tup xs)
 bO:∀b o u,H b=some (.bO o u)->H' b=some (.bO o u)
theorem Ext.refl{ρ:List Addr}{H:Hp}:Ext ρ H ρ H:=⟨λ_ _ e=>e,λ_ _ e=>e,λ_ _ _ e=>e⟩
theorem Ext.trans{ρ ρ1 ρ2:List Addr}{H H1 H2:Hp}(a:Ext ρ H ρ1 H1)(b:Ext ρ1 H1 ρ2 H2):Ext ρ H ρ2 H2:=
 ⟨λn x e=>b.pre n x (a.pre n x e),λn x e=>b.tup n x (a.tup n x e),λn x u e=>b.bO n x u (a.bO n x u e)⟩
theorem Ext.mz{K:W.Frag}{ρ ρ':List Addr}{H H':Hp}(e:Ext ρ H ρ' H'){a:Addr}{xs:List V}(h:bG K H a xs):bG K H' a xs:=by
 rcases h with(h|⟨o,h⟩)|h
 .exact .inl (.inl (e.tup _ _ h))
 .exact .inl (.inr ⟨o,e.bO _ _ _ h⟩)
 .exact .inr h
mutual
theorem aF.ext{T:Tab}{ρ ρ':List Addr}{H H':Hp}(e:Ext ρ H ρ' H'):∀{x:AV} {y:V},aF T ρ H x y->aF T ρ' H' x y
 |_,_,.aC=>.aC
 |_,_,.bl b=>.bl b
 |_,_,.int i=>.int i
 |_,_,.str x=>.str x
 |_,_,.tup hq hr=>.tup (e.mz hq) (aO.ext e hr)
 |_,_,.ref q=>.ref (e.pre _ _ q)
 |_,_,.lK q=>.lK q
theorem aO.ext{T:Tab}{ρ ρ':List Addr}{H H':Hp}(e:Ext ρ H ρ' H'):∀{xs:List AV} {ys:List V},aO T ρ H xs ys->aO T ρ' H' xs ys
 |_,_,.nil=>.nil
 |_,_,.cons h hs=>.cons (aF.ext e h) (aO.ext e hs)
end
theorem aO.length{T:Tab}{ρ:List Addr}{H:Hp}:∀{xs:List AV} {ys:List V},aO T ρ H xs ys->xs.length=ys.length
 |_,_,.nil=>rfl|_,_,.cons _ hs=>congrArg (·+1) hs.length
theorem aO.get{T:Tab}{ρ:List Addr}{H:Hp}:∀{xs:List AV} {ys:List V} {i:Nat} {x:AV},aO T ρ H xs ys->xs[i]?=some x->∃y,ys[i]?=some y/\aF T ρ H x y
 |_,_,_,_,.nil,e=>by simp at e
 |_,_,0,_,.cons h _,e=>by simp at e;subst e;exact⟨_,rfl,h⟩
 |_,_,i+1,x,.cons _ hs,e=>by obtain⟨y,h1,h2⟩:=aO.get (i:=i) (x:=x) hs (by simpa using e);exact⟨y,by simpa using h1,h2⟩
theorem aO.append{T:Tab}{ρ:List Addr}{H:Hp}:∀{xs zs:List AV} {ys ws:List V},aO T ρ H xs ys->aO T ρ H zs ws->aO T ρ H (xs++zs) (ys++ws)
 |_,_,_,_,.nil,s=>s
 |_,_,_,_,.cons h hs,s=>.cons h (aO.append hs s)
theorem aO.set{T:Tab}{ρ:List Addr}{H:Hp}{x:AV}{y:V}(r:aF T ρ H x y):∀{xs:List AV} {ys:List V} (i:Nat),aO T ρ H xs ys->aO T ρ H (xs.set i x) (ys.set i y)
 |_,_,_,.nil=>.nil
 |_,_,0,.cons _ t=>.cons r t
 |_,_,i+1,.cons q t=>.cons q (aO.set r i t)
theorem aO.take{T:Tab}{ρ:List Addr}{H:Hp}:∀{xs:List AV} {ys:List V} (n:Nat),aO T ρ H xs ys->aO T ρ H (xs.take n) (ys.take n)
 |_,_,0,_=>.nil
 |_,_,_+1,.nil=>.nil
 |_,_,n+1,.cons r t=>.cons r (aO.take n t)
theorem aO.drop{T:Tab}{ρ:List Addr}{H:Hp}:∀{xs:List AV} {ys:List V} (n:Nat),aO T ρ H xs ys->aO T ρ H (xs.drop n) (ys.drop n)
 |_,_,0,r=>r
 |_,_,_+1,.nil=>.nil
 |_,_,n+1,.cons _ t=>aO.drop n t
theorem aO.ints{T:Tab}{ρ:List Addr}{H:Hp}:∀(ns:List Int),aO T ρ H (ns.map AV.int) (ns.map V.int)
 |[]=>.nil
 |n::ns=>.cons (.int n) (aO.ints ns)
def kW(K:W.Frag)(H:Hp)(a:Addr)(xs:List V):Prop:=
 (∃o,H a=some (.bO o (.lst xs))) \/
  ∃(o:Obj) (its:Array Value) (n:Nat),K.lookup a=some o/\o.cls = .type "list"/\o.dict=none/\o.data = .seq its n/\its.size<=sizeLine/\Vals xs its.toList
theorem kW.sq{K:W.Frag}{H:Hp}{a:Addr}{xs:List V}(h:kW K H a xs):bA K H a xs:=by
 rcases h with h|h
 .exact .inl (.inr h)
 .exact .inr h
theorem kW.ext{K:W.Frag}{ρ ρ':List Addr}{H H':Hp}{a:Addr}{xs:List V}(e:Ext ρ H ρ' H')(h:kW K H a xs):kW K H' a xs:=by
 rcases h with⟨o,h⟩|h
 .exact .inl ⟨o,e.bO _ _ _ h⟩
 .exact .inr h
def XD(H:Hp)(dx:Option Addr)(c:Nat):Prop:=c / 64≠0->∃d od,dx=some d/\H d=some (.bO od (.xd [("line",.int (c / 64-1:Nat))]))
theorem XD.ext{ρ ρ':List Addr}{H H':Hp}{dx:Option Addr}{c:Nat}(x:XD H dx c)(e:Ext ρ H ρ' H'):XD H' dx c:=λz=>let ⟨d,od,h1,h2⟩:=x z;⟨d,od,h1,e.bO _ _ _ h2⟩
def mG(T:Tab)(ρ:List Addr)(H:Hp)(a:Addr):cZ->Prop
 |.lst true xs=>∃ys,H a=some (.lst ys)/\aO T ρ H xs ys
 |.lst false xs=>∃ys,kW T.K H a ys/\aO T ρ H xs ys
 |.bV aE=>∃ks ys,H a=some (.dK (ks.zip ys))/\ks=aE.map (·.1)/\aO T ρ H (aE.map (·.2)) ys
 |.ins c fs=>∃C dx ks ys,T.C c=some C/\H a=some (.ins C dx (ks.zip ys))/\ks=fs.map (·.1)/\aO T ρ H (fs.map (·.2)) ys
 |.xo c=>∃C dx,T.C (c%64)=some C/\H a=some (.ext (fL a (.ref C) dx))/\XD H dx c
theorem mG.ext{T:Tab}{ρ ρ':List Addr}{H H':Hp}{a:Addr}{o:cZ}(r:mG T ρ H a o)(e:Ext ρ H ρ' H')(k:o.mu=true->H' a=H a):mG T ρ' H' a o:=by
 cases o with
 |lst m xs=>
  cases m with
  |true=>obtain⟨ys,h,r⟩:=r;exact⟨ys,by rw[k rfl];exact h,r.ext e⟩|false=>obtain⟨ys,h,r⟩:=r;exact⟨ys,h.ext e,r.ext e⟩
 |bV aE=>obtain⟨ks,ys,h,e1,r⟩:=r;exact⟨ks,ys,by rw[k rfl];exact h,e1,r.ext e⟩|ins c fs=>obtain⟨C,dx,ks,ys,hc,h,e1,r⟩:=r;exact⟨C,dx,ks,ys,hc,by rw[k rfl];exact h,e1,r.ext e⟩|xo c=>obtain⟨C,dx,hc,h,x⟩:=r;exact⟨C,dx,hc,by rw[k rfl];exact h,x.ext e⟩
structure aN(T:Tab)(ρ:List Addr)(h:AH)(H:Hp):Prop where
 len:ρ.length=h.nx
 mU:∀(n:Nat) o,h.ob n=some o->n<h.nx
 obj:∀(n:Nat) o a,h.ob n=some o->ρ[n]?=some a->mG T ρ H a o
 inj:∀(n m:Nat) a o u,h.ob n=some o->h.ob m=some u->o.mu=true->u.mu=true->ρ[n]?=some a->ρ[m]?=some a->n=m
section
variable {T:Tab}{ρ:List Addr}{h:AH}{H H':Hp}
theorem ji{a:Addr}{o:cZ}(r:mG T ρ H a o)(m:o.mu=true):∃u,H a=some u:=by
 cases o with
 |lst k xs=>
  cases k with
  |true=>obtain⟨ys,h,_⟩:=r;exact⟨_,h⟩|false=>cases m
 |bV aE=>obtain⟨ks,ys,h,_⟩:=r;exact⟨_,h⟩|ins c fs=>obtain⟨C,dx,ks,ys,_,h,_⟩:=r;exact⟨_,h⟩|xo c=>obtain⟨C,_,_,h,_⟩:=r;exact⟨_,h⟩
theorem Ext.eP{a:Addr}{o:HO}(hn:H a=none):Ext ρ H ρ (aK H a o):=
 ⟨λ_ _ e=>e,λb xs e=>by rw[aT (dG e hn)];exact e,λb u xs e=>by rw[aT (dG e hn)];exact e⟩
theorem aN.keep(R:aN T ρ h H){a:Addr}{o:HO}(hn:H a=none):aN T ρ h (aK H a o):=
 ⟨R.len,R.mU,λn u b e q=>(R.obj n u b e q).ext (.eP hn) λm=>by obtain⟨w,hw⟩:=ji (R.obj n u b e q) m;rw[aT (dG hw hn)],R.inj⟩
theorem aN.alloc(R:aN T ρ h H){a:Addr}{o:cZ}{O:HO}(hn:H a=none)(ho:mG T (ρ++[a]) (aK H a O) a o):aN T (ρ++[a]) (h.new o) (aK H a O)/\Ext ρ H (ρ++[a]) (aK H a O):=by
 have ex:Ext ρ H (ρ++[a]) (aK H a O):=⟨λn x e=>by have hl:=(List.getElem?_eq_some_iff.mp e).1;rw[List.getElem?_append_left hl];exact e,(Ext.eP (ρ:=ρ) hn).tup,(Ext.eP (ρ:=ρ) hn).bO⟩
 have old:∀{n:Nat} {b:Addr},n<h.nx->(ρ++[a])[n]?=some b->ρ[n]?=some b:=λ{n b} hl e=>by rw[List.getElem?_append_left (by rw[R.len];exact hl)]at e;exact e
 have at_:∀{b:Addr},(ρ++[a])[h.nx]?=some b->b=a:=λ{b} e=>by rw[<- R.len]at e;simp at e;exact e.symm
 refine⟨⟨by simp[AH.new,R.len],λn u e=>?_,λn u b e q=>?_,λn m b u v e1 e2 m1 m2 q1 q2=>?_⟩,ex⟩
 .simp only[AH.new]at e ⊢;by_cases hx:n=h.nx
  .omega
  .rw[if_neg hx]at e;have:=R.mU n u e;omega
 .simp only[AH.new]at e;by_cases hx:n=h.nx
  .rw[if_pos hx]at e;cases e;subst hx;rw[at_ q];exact ho
  .rw[if_neg hx]at e;have q':=old (R.mU n u e) q;refine(R.obj n u b e q').ext ex λm=>?_;obtain⟨w,hw⟩:=ji (R.obj n u b e q') m;rw[aT (dG hw hn)]
 .simp only[AH.new]at e1 e2;have no:∀{k:Nat} {y:cZ},h.ob k=some y->y.mu=true->(ρ++[a])[k]?=some b->b≠a:=λ{k y} e m q=>by obtain⟨w,hw⟩:=ji (R.obj k y b e (old (R.mU k y e) q)) m;exact dG hw hn
  by_cases hx:n=h.nx
  .subst hx;by_cases hy:m=h.nx
   .exact hy.symm
   .rw[if_neg hy]at e2;exact absurd (at_ q1) (no e2 m2 q2)
  .rw[if_neg hx]at e1;by_cases hy:m=h.nx
   .subst hy;exact absurd (at_ q2) (no e1 m1 q1)
   .rw[if_neg hy]at e2;exact R.inj n m b u v e1 e2 m1 m2 (old (R.mU n u e1) q1) (old (R.mU m v e2) q2)
theorem aN.write(R:aN T ρ h H){n:Nat}{a:Addr}{o o':cZ}{O O':HO}(e:h.ob n=some o)(m:o.mu=true)(m':o'.mu=true)(q:ρ[n]?=some a)(hO:H a=some O)(nt:∀xs,O ≠ .tup xs)(nf:∀x u,O ≠ .bO x u)
  (ho:mG T ρ (aK H a O') a o'):aN T ρ (h.put n o') (aK H a O')/\Ext ρ H ρ (aK H a O'):=by
 have ex:Ext ρ H ρ (aK H a O'):=⟨λ_ _ z=>z,λb xs z=>by
   rw[aT (rM z hO λw=>nt xs w.symm)];exact z,λb x u z=>by
   rw[aT (rM z hO λw=>nf x u w.symm)];exact z⟩
 refine⟨⟨R.len,λk u z=>?_,λk u b z w=>?_,λk l b u v z1 z2 m1 m2 w1 w2=>?_⟩,ex⟩
 .simp only[AH.put]at z;by_cases hx:k=n
  .subst hx;exact R.mU _ _ e
  .rw[if_neg hx]at z;exact R.mU k u z
 .simp only[AH.put]at z;by_cases hx:k=n
  .rw[if_pos hx]at z;cases z;subst hx;rw[q]at w;cases w;exact ho
  .rw[if_neg hx]at z;refine(R.obj k u b z w).ext ex λmu=>?_;rw[aT];rintro rfl
   exact hx (R.inj k n b u o z e mu m w q)
 .simp only[AH.put]at z1 z2;have back:∀{j:Nat} {y:cZ},(if j=n then some o' else h.ob j)=some y->y.mu=true->∃y',h.ob j=some y'/\y'.mu=true:=λ{j y} z mu=>by
   by_cases hx:j=n
   .subst hx;exact⟨o,e,m⟩
   .rw[if_neg hx]at z;exact⟨y,z,mu⟩
  obtain⟨u',g1,k1⟩:=back z1 m1;obtain⟨v',g2,k2⟩:=back z2 m2;exact R.inj k l b u' v' g1 g2 k1 k2 w1 w2
end
abbrev Rl(α β:Type):=List Addr->Hp->α->β->Prop
def W{α β:Type}(T:Tab)(Rp:Rl α β)(r:Res α)(ρ:List Addr)(H:Hp)(Q:β->Hp->Prop)(E:XK):Prop:=match r with
 |.ok a h=>∀ρ' b H',Ext ρ H ρ' H'->aN T ρ' h H'->Rp ρ' H' a b->Q b H'
 |.exc c _ h=>∀ρ' H',Ext ρ H ρ' H'->aN T ρ' h H'->∃C,T.C (c%64)=some C/\∀dx,XD H' dx c->E (.ref C) dx H'
 |.bad=>False
section
variable {T:Tab}{α β γ δ:Type}{Rp:Rl α β}{Rq:Rl γ δ}{ρ ρ':List Addr}{H H':Hp}{E:XK}{Q:β->Hp->Prop}{h:AH}
theorem W.ext{r:Res α}(w:W T Rp r ρ H Q E)(e:Ext ρ H ρ' H'):W T Rp r ρ' H' Q E:=by
 cases r with
 |ok a h=>exact λρ2 b H2 x R q=>w ρ2 b H2 (e.trans x) R q|exc c x h=>exact λρ2 H2 x R=>w ρ2 H2 (e.trans x) R|bad=>exact w
theorem W.bind{m:M α}{k:α->M γ}{Q2:δ->Hp->Prop}(w:W T Rq (M.bind m k h) ρ H Q2 E)
  (f:∀ρ1 x y h1 H1,Ext ρ H ρ1 H1->aN T ρ1 h1 H1->Rp ρ1 H1 x y->W T Rq (k x h1) ρ1 H1 Q2 E->Q y H1):W T Rp (m h) ρ H Q E:=by
 unfold M.bind at w;cases e:m h with
 |ok a h1=>rw[e]at w;exact λρ1 y H1 x R q=>f ρ1 a y h1 H1 x R q (w.ext x)
 |exc c x h1=>rw[e]at w;exact w|bad=>rw[e]at w;exact w
theorem W.ok{a:α}{b:β}(w:W T Rp (.ok a h) ρ H Q E)(e:Ext ρ H ρ' H')(R:aN T ρ' h H')(q:Rp ρ' H' a b):Q b H':=w ρ' b H' e R q
theorem W.here{a:α}{b:β}(w:W T Rp (.ok a h) ρ H Q E)(R:aN T ρ h H)(q:Rp ρ H a b):Q b H:=w ρ b H .refl R q
end
abbrev aA:=List (Option AV)
def aR(T:Tab)(ρ:List Addr)(H:Hp)(σ:aA)(σ':L2.St):Prop:=σ.length=σ'.length/\∀(i:Nat) v,σ[i]?=some (some v)->∃v',σ'[i]?=some (some v')/\aF T ρ H v v'
theorem aR.ext{T:Tab}{ρ ρ':List Addr}{H H':Hp}{σ:aA}{σ':L2.St}(S:aR T ρ H σ σ')(e:Ext ρ H ρ' H'):aR T ρ' H' σ σ':=
 ⟨S.1,λi v q=>let ⟨v',a,b⟩:=S.2 i v q;⟨v',a,b.ext e⟩⟩
theorem aR.set{T:Tab}{ρ:List Addr}{H:Hp}{σ:aA}{σ':L2.St}(S:aR T ρ H σ σ'){v:AV}{v':V}(r:aF T ρ H v v')(i:Nat):aR T ρ H (σ.set i (some v)) (σ'.set i (some v')):=by
 refine⟨by simp[S.1],λj u q=>?_⟩;by_cases hj:i=j
 .subst hj;by_cases hl:i<σ.length
  .rw[List.getElem?_set_self hl]at q;cases q;exact⟨v',List.getElem?_set_self (by rw[<- S.1];exact hl),r⟩
  .rw[List.getElem?_eq_none (by simpa using hl)]at q;cases q
 .rw[List.getElem?_set_ne hj]at q;obtain⟨w,a,b⟩:=S.2 j u q;exact⟨w,by rw[List.getElem?_set_ne hj];exact a,b⟩
def QE(X:Cx)(T:Tab)(E:XK)(e:Expr)(m:aA->M AV):Prop:=
 ∃t,PE X e t/\∀ρ σ σ' h H Q,aN T ρ h H->aR T ρ H σ σ'->W T (aF T) (m σ h) ρ H Q E->t σ' H Q
def QA(X:Cx)(T:Tab)(E:XK)(es:List Expr)(m:aA->M (List AV)):Prop:=
 ∃t,PA X es t/\∀ρ σ σ' h H Q,aN T ρ h H->aR T ρ H σ σ'->W T (aO T) (m σ h) ρ H Q E->t σ' H Q
abbrev RB:Rl Bool Bool:=λ_ _ a b=>a=b
def QT(X:Cx)(T:Tab)(E:XK)(e:Expr)(m:aA->M Bool):Prop:=
 ∃t,PT X e t/\∀ρ σ σ' h H Q,aN T ρ h H->aR T ρ H σ σ'->W T RB (m σ h) ρ H Q E->t σ' H Q
def QW(X:Cx)(T:Tab)(E:XK)(e:Expr)(m:aA->M Bool):Prop:=
 ∃t,PW X e t/\∀ρ σ σ' h H Q,aN T ρ h H->aR T ρ H σ σ'->W T RB (m σ h) ρ H Q E->t σ' H Q
theorem QW.qt{X:Cx}{T:Tab}{E:XK}{e:Expr}{m:aA->M Bool}(h:QW X T E e m):QT X T E e m:=let ⟨t,a,b⟩:=h;⟨t,a.pt,b⟩
def bF(X:Cx)(T:Tab)(E:XK)(f:Value->Value->Sem Value)(g:AV->AV->M AV):Prop:=
 ∃r,aS X f r/\∀ρ h H x y x' y' Q,aN T ρ h H->aF T ρ H x x'->aF T ρ H y y'->W T (aF T) (g x y h) ρ H Q E->r x' y' H Q
def rj(X:Cx)(T:Tab)(E:XK)(f:Value->Sem Value)(g:AV->M AV):Prop:=
 ∃r,wY X f r/\∀ρ h H x x' Q,aN T ρ h H->aF T ρ H x x'->W T (aF T) (g x h) ρ H Q E->r x' H Q
def dh(X:Cx)(T:Tab)(E:XK)(g:AV->AV->M AV):Prop:=
 ∃r,jB X r/\∀ρ h H x y x' y' Q,aN T ρ h H->aF T ρ H x x'->aF T ρ H y y'->W T (aF T) (g x y h) ρ H Q E->r x' y' H Q
def jA(X:Cx)(T:Tab)(E:XK)(f:Value)(g:List AV->M AV):Prop:=
 ∃r,dA X f r/\∀ρ h H xs bI Q,aN T ρ h H->aO T ρ H xs bI->W T (aF T) (g xs h) ρ H Q E->r bI H Q
def kH(i j:Int):Bool:=decide (i.natAbs<2 ^ 64)||decide (j.natAbs<2 ^ 64)||(decide (i.natAbs<2 ^ 1000)&&decide (j.natAbs<2 ^ 1000))
def jH(j:Int):Bool:=decide (0<j)&&decide (j<2 ^ 1000)
def uE(i j:Int):Bool:=decide (0<=j)&&decide (j<=1000000)&&decide (i.natAbs<2 ^ 64)
def fU:AV->AV->M AV
 |.int i,.int j=>M.ret (.int (i+j))
 |.str i,.str j=>M.guard (i.length+j.length<=sizeLine) (M.ret (.str (i++j)))
 |.tup xs,.tup ys=>M.guard (xs.length+ys.length<=sizeLine) (M.ret (.tup (xs++ys)))
 |.ref n,.ref m=>λh=>match h.ob n,h.ob m with
  |some (.lst true xs),some (.lst true ys)=>if xs.length+ys.length<=sizeLine then .ok (.ref h.nx) (h.new (.lst true (xs++ys))) else .bad
  |_,_=>.bad
 |_,_=>M.bad
def fV(p:Int->Int->Bool)(f:Int->Int->Int):AV->AV->M AV
 |.int i,.int j=>λh=>if p i j=true then .ok (.int (f i j)) h else .bad
 |_,_=>M.bad
def xW:AV->AV->M AV:=fV (λ_ _=>true) HSub.hSub
def rB(x y:AV):M AV:=match x with
 |.str z=>match y with
  |.int k=>λh=>if z.length<=1000/\0<=k/\k<=1000/\(Txt.mul z k).length<=sizeLine then .ok (.str (Txt.mul z k)) h else .bad
  |_=>M.bad
 |.ref n=>match y with
  |.int k=>λh=>match h.ob n with
   |some (.lst true xs)=>if 0<=k/\xs.length*k.toNat<=sizeLine/\k<2 ^ 63 then .ok (.ref h.nx) (h.new (.lst true (List.replicate k.toNat xs).flatten)) else .bad
   |_=>.bad
  |_=>M.bad
 |_=>fV kH HMul.hMul x y
def wz:AV->AV->M AV:=fV (λ_ j=>jH j) HDiv.hDiv
def xk:AV->AV->M AV:=fV (λ_ j=>decide (0<j)) HMod.hMod
def xm:AV->AV->M AV:=fV uE λi j=>i ^ j.toNat
def xp:AV->AV->M AV:=fV uE λi j=>i*2 ^ j.toNat
def xq:AV->AV->M AV:=fV (λ_ j=>decide (0<=j)) λi j=>i / 2 ^ j.toNat
def wx:AV->AV->M AV:=fV (λ_ _=>true) Builtin.bitAnd
def xl:AV->AV->M AV:=fV (λ_ _=>true) Builtin.bitOr
def xr:AV->AV->M AV:=fV (λ_ _=>true) Builtin.bitXor
def tJ(f:Int->Int->Bool):AV->AV->M AV
 |.int i,.int j=>M.ret (.bl (f i j))
 |_,_=>M.bad
def xh:AV->AV->M AV:=tJ λi j=>decide (i<j)
def xf:AV->AV->M AV:=tJ λi j=>decide (i<=j)
def xc:AV->AV->M AV:=tJ λi j=>decide (j<i)
def xb:AV->AV->M AV:=tJ λi j=>decide (j<=i)
def mW:AV->AV->Option Bool
 |.aC,.aC=>some true | .aC,.int _=>some false | .int _,.aC=>some false | .aC,.bl _=>some false | .bl _,.aC=>some false | .aC,.str _=>some false | .str _,.aC=>some false
 |.int i,.int j=>some (decide (i=j)) | .bl i,.bl j=>some (decide (i=j)) | .str i,.str j=>some (decide (i=j))
 |.int _,.str _=>some false | .str _,.int _=>some false | .bl _,.str _=>some false | .str _,.bl _=>some false
 |_,_=>none
def dZ:AV->Bool
 |.aC=>true | .bl _=>true | .int _=>true | .str _=>true
 |_=>false
def xO:AV->AV->Bool
 |.aC,.aC=>true
 |.bl a,.bl b=>a==b
 |.bl a,.int b=>(if a then 1 else 0)==b
 |.int a,.bl b=>a==(if b then 1 else 0)
 |.int a,.int b=>a==b
 |.str a,.str b=>a==b
 |_,_=>false
def eC(h:AH):AV->Option (Bool×List AV)
 |.tup xs=>some (false,xs)
 |.ref n=>match h.ob n with
  |some (.lst _ xs)=>some (true,xs)
  |_=>none
 |_=>none
def oU(f:AV->AV->Option Bool):List AV->List AV->Option Bool
 |[],_=>some true
 |_::_,[]=>some true
 |x::xs,y::ys=>match f x y,oU f xs ys with
  |some a,some b=>some (a&&b)
  |_,_=>none
def js:AV->AV->Bool
 |.aC,.tup _=>true
 |.tup _,.aC=>true
 |_,_=>false
def mV(h:AH):Nat->AV->AV->Option Bool
 |0,_,_=>none
 |n+1,x,y=>if dZ x=true/\dZ y=true then some (xO x y) else
  if js x y=true then some false else
  match eC h x,eC h y with
  |some (k,xs),some (k',ys)=>if k=k' then
    if k=true/\xs.length≠ys.length then some false else(oU (mV h n) xs ys).map λb=>b&&decide (xs.length=ys.length)
   else some false
  |_,_=>none
def kB(h:AH)(x y:AV):Option Bool:=match eC h x,eC h y with
 |some _,some _=>mV h 12 x y
 |_,_=>none
def tK(x y:AV):M AV:=λh=>match mW x y with
 |some b=>.ok (.bl b) h
 |none=>match kB h x y with
  |some b=>.ok (.bl b) h
  |none=>.bad
def tM(x y:AV):M AV:=λh=>match mW x y with
 |some b=>.ok (.bl (!b)) h
 |none=>match kB h x y with
  |some b=>.ok (.bl (!b)) h
  |none=>.bad
def cV:AV->Bool
 |.aC=>true
 |_=>false
def gm(x y:AV):M AV:=if cV y=true then M.ret (.bl (cV x)) else M.bad
def gp(x y:AV):M AV:=if cV y=true then M.ret (.bl (!cV x)) else M.bad
def pH(x:AV)(xs:List AV):Bool:=xs.any λy=>xO y x
def cK(h:AH):AV->Option (List AV)
 |.tup xs=>some xs
 |.ref n=>match h.ob n with
  |some (.lst _ xs)=>some xs
  |_=>none
 |_=>none
def ij(neg:Bool)(x y:AV):M AV:=λh=>match x,y with
 |.str a,.str b=>if neg=true then .bad else .ok (.bl (yC a b)) h
 |_,_=>.bad
def oW(neg:Bool)(x y:AV):M AV:=λh=>match cK h y with
 |some xs=>if(dZ x&&xs.all dZ)=true then .ok (.bl (if neg then !pH x xs else pH x xs)) h else .bad
 |none=>ij neg x y h
noncomputable abbrev mY:=oW
def tN:AV->M AV
 |.int i=>M.ret (.int (-i))
 |_=>M.bad
def rA(x y:AV):M AV:=λh=>match y with
 |.int i=>match x with
  |.str z=>if z.length<=sizeLine then match bJ z.cps.toList i with
   |some c=>.ok (.str ⟨#[c]⟩) h
   |none=>.bad
   else .bad
  |x=>match (cK h x).bind λxs=>bJ xs i with
   |some v=>.ok v h
   |none=>.bad
 |_=>.bad
noncomputable abbrev qZ:=rA
def sP(h:AH):AV->Option Bool
 |.aC=>some false
 |.bl b=>some b
 |.int i=>some (i != 0)
 |.str y=>if y.length<=sizeLine then some ((y.length:Int) != 0) else none
 |.tup xs=>some (!xs.isEmpty)
 |.ref n=>match h.ob n with
  |some (.lst _ xs)=>some (!xs.isEmpty)
  |some (.bV aE)=>some (!aE.isEmpty)
  |_=>none
 |_=>none
def bC(x:AV):M Bool:=λh=>match sP h x with
 |some b=>.ok b h
 |none=>.bad
section
variable {X:Cx}{T:Tab}{E:XK}(hK:X.K=T.K)
theorem lL{α β:Type}{Rp:Rl α β}{p:Prop} [Decidable p] {m:M α}{ρ:List Addr}{H:Hp}{h:AH}{Q:β->Hp->Prop}(w:W T Rp (M.guard p m h) ρ H Q E):p/\W T Rp (m h) ρ H Q E:=by
 unfold M.guard at w;by_cases hp:p
 .rw[if_pos hp]at w;exact⟨hp,w⟩
 .rw[if_neg hp]at w;exact w.elim
theorem kI{f:Value->Value->Sem Value}{C:Int->Int->Prop}{p:Int->Int->Bool}{g:Int->Int->Int}(ho:aS X f (rI C λi j=>.int (g i j)))(hc:∀i j,p i j=true->C i j):bF X T E f (fV p g):=by
 refine⟨_,ho,λρ h H x y x' y' Q R rx ry w=>?_⟩;cases x with
 |int i=>
  cases y with
  |int j=>
   cases rx;cases ry;simp only[fV]at w;by_cases hp:p i j=true
   .rw[if_pos hp]at w;exact⟨i,j,rfl,rfl,hc i j hp,w.here R (.int _)⟩
   .rw[if_neg hp]at w;exact w.elim
  |_=>exact w.elim
 |_=>exact w.elim
theorem yT{f:Value->Value->Sem Value}{g:Int->Int->Bool}(ho:aS X f (iF λi j=>.bl (g i j))):bF X T E f (tJ g):=by
 refine⟨_,ho,λρ h H x y x' y' Q R rx ry w=>?_⟩;cases x with
 |int i=>
  cases y with
  |int j=>cases rx;cases ry;exact⟨i,j,rfl,rfl,W.here w R (.bl _)⟩
  |_=>exact w.elim
 |_=>exact w.elim
theorem ag{f:Value->Value->Sem Value}{g:Int->Int->V}(h:aS X f (iF g)):aS X f (rI (λ_ _=>True) g):=
 λpins s σ H x y v u Q I rx ry ⟨i,j,a,b,_,q⟩=>h pins s σ H x y v u Q I rx ry ⟨i,j,a,b,q⟩
theorem Ub:bF X T E (binaryOp .Sub) xW:=kI (ag Sw) λ_ _ _=>trivial
theorem Ta:bF X T E (binaryOp .BitAnd) wx:=kI (ag Ro) λ_ _ _=>trivial
theorem Tw:bF X T E (binaryOp .BitOr) xl:=kI (ag Sq) λ_ _ _=>trivial
theorem Uc:bF X T E (binaryOp .BitXor) xr:=kI (ag Sy) λ_ _ _=>trivial
theorem Tq:bF X T E (binaryOp .Mod) xk:=kI Sh λ_ _ h=>of_decide_eq_true h
theorem Au{i j:Int}(h:uE i j=true):cy i j:=by simp only[uE,Bool.and_eq_true,decide_eq_true_eq]at h;exact⟨h.1.1,h.1.2,h.2⟩
theorem Tx:bF X T E (binaryOp .Pow) xm:=kI Sr λ_ _ h=>Au h
theorem Tz:bF X T E (binaryOp .LShift) xp:=kI Su λ_ _ h=>Au h
theorem Ua:bF X T E (binaryOp .RShift) xq:=kI Sv λ_ _ h=>of_decide_eq_true h
theorem Qr{i j:Int}(h:kH i j=true):IntMulOk i j:=by
 simp only[kH,Bool.or_eq_true,Bool.and_eq_true,decide_eq_true_eq]at h;rcases h with(h|h)|⟨h1,h2⟩
 .exact .of_left (intBits_le h)
 .exact .of_right (intBits_le h)
 .exact .of_bits (Nat.le_trans (intBits_le h1) (by decide)) (Nat.le_trans (intBits_le h2) (by decide))
theorem Sj:aS X (binaryOp .Mult) (rI IntMulOk λi j=>.int (i*j)):=rO λ_ _ _ _ _ _ _ hc q=>mul_int q hc
theorem log2_lt{j:Int}(h:j<2 ^ 1000)(h0:0<j):j.natAbs.log2<9000:=by
 have hn:j.natAbs<2 ^ 1000:=by omega
 have:j.natAbs.log2<1000:=(Nat.log2_lt (by omega)).mpr hn;omega
theorem Rx:aS X (binaryOp .FloorDiv) (rI (λ_ j=>0<j/\j<2 ^ 1000) λi j=>.int (i / j)):=rO λi j _ _ _ _ _ hc q=>by have h1:(0:Int)<j:=hc.1;exact floordiv_int (by omega) (by rw[Int.fdiv_eq_ediv_of_nonneg i (by omega)];exact q) (.inl (PyProof.noPylong_of_log2 (log2_lt hc.2 hc.1)))
theorem vk{j:Int}(h:jH j=true):0<j/\j<2 ^ 1000:=by simp only[jH,Bool.and_eq_true,decide_eq_true_eq]at h;exact h
theorem Td:bF X T E (binaryOp .FloorDiv) wz:=kI Rx λ_ _ h=>vk h
theorem Tp:bF X T E (compareOp .Lt) xh:=yT Sg
theorem To:bF X T E (compareOp .LtE) xf:=yT Sf
theorem Tf:bF X T E (compareOp .Gt) xc:=yT Rz
theorem Te:bF X T E (compareOp .GtE) xb:=yT Ry
theorem vt{ρ:List Addr}{H:Hp}{x y:AV}{x' y':V}{b:Bool}(rx:aF T ρ H x x')(ry:aF T ρ H y y')(e:mW x y=some b):aq x' y'=true/\decide (x'=y')=b:=by cases rx<;>cases ry<;>simp[mW]at e<;>(subst e)<;>simp[aq]
theorem tH{ρ:List Addr}{H:Hp}{x:AV}{x':V}(r:aF T ρ H x x')(f:dZ x=true):fS x'=true:=by cases r<;>first|rfl|cases f
theorem gj{ρ:List Addr}{H:Hp}:∀{xs:List AV} {ys:List V},aO T ρ H xs ys->xs.all dZ=true->ys.all fS=true
 |_,_,.nil,_=>rfl|_,_,.cons h hs,f=>by rw[List.all_cons,Bool.and_eq_true]at f ⊢;exact⟨tH h f.1,gj hs f.2⟩
theorem vq{ρ:List Addr}{H:Hp}{x y:AV}{x' y':V}(rx:aF T ρ H x x')(ry:aF T ρ H y y')(fx:dZ x=true)(fy:dZ y=true):iQ x' y'=xO x y:=by
 cases rx<;>first|cases fx;done|skip
 all_goals (cases ry<;>first|rfl|cases fy)
theorem sI(hK:X.K=T.K){ρ:List Addr}{h:AH}{H:Hp}{x:AV}{x':V}{k:Bool}{xs:List AV}(R:aN T ρ h H)(r:aF T ρ H x x')(e:eC h x=some (k,xs)):∃a ys,x' = .ref a/\aO T ρ H xs ys/\(k=true->bA X.K H a ys)/\(k=false->bG X.K H a ys):=by
 cases r with
 |tup hq hr=>cases e;exact⟨_,_,rfl,hr,(λz=>by cases z),λ_=>by rw[hK];exact hq⟩
 |@ref n a q=>
  simp only[eC]at e;cases o:h.ob n with
  |none=>rw[o]at e;cases e|some u=>
   rw[o]at e;cases u with
   |lst m ys=>
    cases e;cases m with
    |true=>obtain⟨zs,h1,h2⟩:=R.obj n _ a o q;exact⟨_,_,rfl,h2,λ_=>.inl (.inl h1),λz=>by cases z⟩|false=>obtain⟨zs,h1,h2⟩:=R.obj n _ a o q;exact⟨_,_,rfl,h2,λ_=>by rw[hK];exact h1.sq,λz=>by cases z⟩
   |_=>cases e
 |_=>cases e
theorem vo{f:AV->AV->Option Bool}:∀{xs ys:List AV} {b:Bool},oU f xs ys=some b->∃e:Nat->Bool,(∀j x y,xs[j]?=some x->ys[j]?=some y->f x y=some (e j))/\b=(List.range (min xs.length ys.length)).all e
 |[],_,b,h=>by cases h;exact⟨λ_=>true,λj x y z=>by simp at z,by simp⟩
 |_::_,[],b,h=>by cases h;exact⟨λ_=>true,λj x y _ z=>by simp at z,by simp⟩
 |x::xs,y::ys,b,h=>by
  simp only[oU]at h;cases h1:f x y with
  |none=>rw[h1]at h;cases h|some a=>
   cases h2:oU f xs ys with
   |none=>rw[h1,h2]at h;cases h|some c=>
    rw[h1,h2]at h;cases h;obtain⟨e,g1,g2⟩:=vo h2;refine⟨λj=>match j with|0=>a|j+1=>e j,λj p q z1 z2=>?_,?_⟩
    .cases j with
     |zero=>cases z1;cases z2;exact h1|succ j=>exact g1 j p q z1 z2
    .rw[g2,List.length_cons,List.length_cons,Nat.succ_min_succ,List.range_succ_eq_map,List.all_cons,List.all_map];rfl
theorem lj{ρ:List Addr}{H:Hp}:∀{xs:List AV} {ys:List V} {j:Nat} {y:V},aO T ρ H xs ys->ys[j]?=some y->∃x,xs[j]?=some x/\aF T ρ H x y
 |_,_,_,_,.nil,e=>by simp at e
 |_,_,0,_,.cons h _,e=>by cases e;exact⟨_,rfl,h⟩
 |_,_,j+1,y,.cons _ hs,e=>by obtain⟨x,h1,h2⟩:=lj (j:=j) (y:=y) hs (by simpa using e);exact⟨x,by simpa using h1,h2⟩
theorem vn(hK:X.K=T.K){ρ:List Addr}{h:AH}{H:Hp}(R:aN T ρ h H):∀{n:Nat} {x y:AV} {x' y':V} {b:Bool},aF T ρ H x x'->aF T ρ H y y'->mV h n x y=some b->dN X.K H n x' y' b
 |0,_,_,_,_,_,_,_,e=>by cases e
 |n+1,x,y,x',y',b,rx,ry,e=>by
  simp only[mV]at e;by_cases hf:dZ x=true/\dZ y=true
  .rw[if_pos hf]at e;cases e;exact .inl ⟨tH rx hf.1,tH ry hf.2,(vq rx ry hf.1 hf.2).symm⟩
  .rw[if_neg hf]at e;by_cases hn:js x y=true
   .rw[if_pos hn]at e;cases e;refine .inr (.inl ⟨rfl,?_⟩);cases x with
    |aC=>cases y with
     |tup ys=>obtain⟨c,vs,rfl,r2,l2,t2⟩:=sI hK R ry (show eC h (.tup ys)=some (false,ys) from rfl);cases rx;exact⟨c,vs,t2 rfl,.inl ⟨rfl,rfl⟩⟩
     |_=>cases hn
    |tup xs=>cases y with
     |aC=>obtain⟨c,vs,rfl,r2,l2,t2⟩:=sI hK R rx (show eC h (.tup xs)=some (false,xs) from rfl);cases ry;exact⟨c,vs,t2 rfl,.inr ⟨rfl,rfl⟩⟩
     |_=>cases hn
    |_=>cases hn
   rw[if_neg hn]at e;cases h1:eC h x with
   |none=>rw[h1]at e;cases e|some p=>
    obtain⟨k,xs⟩:=p;cases h2:eC h y with
    |none=>rw[h1,h2]at e;cases e|some q=>
     obtain⟨k',ys⟩:=q;rw[h1,h2]at e;dsimp only at e;obtain⟨a,us,rfl,r1,l1,t1⟩:=sI hK R rx h1;obtain⟨c,vs,rfl,r2,l2,t2⟩:=sI hK R ry h2;refine .inr (.inr ⟨a,c,us,vs,rfl,rfl,?_⟩);have items:∀{b:Bool},oU (mV h n) xs ys=some b->∃f:Nat->Bool,(∀j p q,us[j]?=some p->vs[j]?=some q->dN X.K H n p q (f j))/\b=(List.range (min us.length vs.length)).all f:=λ{b} he=>by obtain⟨f,g1,g2⟩:=vo he;refine⟨f,λj p q z1 z2=>?_,by rw[<- r1.length,<- r2.length];exact g2⟩;obtain⟨x1,w1,w2⟩:=lj r1 z1;obtain⟨y1,w3,w4⟩:=lj r2 z2;exact vn hK R w2 w4 (g1 j x1 y1 w1 w3)
     by_cases hk:k=k'
     .subst hk;rw[if_pos rfl]at e;by_cases hl:k=true/\xs.length≠ys.length
      .rw[if_pos hl]at e;cases e;exact .inl ⟨l1 hl.1,l2 hl.1,.inl ⟨by rw[<- r1.length,<- r2.length];exact hl.2,rfl⟩⟩
      .rw[if_neg hl]at e;cases he:oU (mV h n) xs ys with
       |none=>rw[he]at e;cases e|some d=>
        rw[he]at e;cases e;obtain⟨f,g1,g2⟩:=items he;cases k with
        |true=>
         have hz:xs.length=ys.length:=Classical.byContradiction λz=>hl ⟨rfl,z⟩;have hz':us.length=vs.length:=by rw[<- r1.length,<- r2.length];exact hz
         refine .inl ⟨l1 rfl,l2 rfl,.inr ⟨hz',f,g1,?_⟩⟩;rw[g2,<- hz',Nat.min_self,decide_eq_true hz];exact Bool.and_true _
        |false=>refine .inr (.inl ⟨t1 rfl,t2 rfl,f,g1,?_⟩);rw[g2,<- r1.length,<- r2.length];congr 1
     .rw[if_neg hk]at e;cases e;cases k with
      |true=>
       cases k' with
       |true=>exact absurd rfl hk|false=>exact .inr (.inr (.inl ⟨l1 rfl,t2 rfl,rfl⟩))
      |false=>
       cases k' with
       |true=>exact .inr (.inr (.inr ⟨t1 rfl,l2 rfl,rfl⟩))|false=>exact absurd rfl hk
theorem vv(hK:X.K=T.K){ρ:List Addr}{h:AH}{H:Hp}(R:aN T ρ h H){x y:AV}{x' y':V}{b:Bool}(rx:aF T ρ H x x')(ry:aF T ρ H y y')(e:kB h x y=some b):∃a c,x' = .ref a/\y' = .ref c/\dN X.K H 12 x' y' b:=by
 unfold kB at e;cases h1:eC h x with
 |none=>rw[h1]at e;cases e|some p=>
  cases h2:eC h y with
  |none=>rw[h1,h2]at e;cases e|some q=>rw[h1,h2]at e;obtain⟨a,us,e1,_⟩:=sI hK R rx h1;obtain⟨c,vs,e2,_⟩:=sI hK R ry h2;exact⟨a,c,e1,e2,vn hK R rx ry e⟩
theorem Tc(hK:X.K=T.K)(hu:X.A.units+12<cLine):bF X T E (compareOp .Eq) tK:=by
 refine⟨_,Rw hu,λρ h H x y x' y' Q R rx ry w=>?_⟩;unfold tK at w;cases e:mW x y with
 |none=>
  simp only[e]at w;cases e2:kB h x y with
  |none=>simp only[e2]at w;exact w.elim|some b=>simp only[e2]at w;obtain⟨a,c,e3,e4,q⟩:=vv hK R rx ry e2;exact .inr ⟨b,a,c,e3,e4,q,W.here w R (.bl _)⟩
 |some b=>simp only[e]at w;obtain⟨h1,h2⟩:=vt rx ry e;exact .inl ⟨h1,by rw[h2];exact W.here w R (.bl _)⟩
theorem Ts(hK:X.K=T.K)(hu:X.A.units+12<cLine):bF X T E (compareOp .NotEq) tM:=by
 refine⟨_,Sl hu,λρ h H x y x' y' Q R rx ry w=>?_⟩;unfold tM at w;cases e:mW x y with
 |none=>
  simp only[e]at w;cases e2:kB h x y with
  |none=>simp only[e2]at w;exact w.elim|some b=>simp only[e2]at w;obtain⟨a,c,e3,e4,q⟩:=vv hK R rx ry e2;exact .inr ⟨b,a,c,e3,e4,q,W.here w R (.bl _)⟩
 |some b=>simp only[e]at w;obtain⟨h1,h2⟩:=vt rx ry e;exact .inl ⟨h1,by rw[h2];exact W.here w R (.bl _)⟩
theorem yE{ρ:List Addr}{H:Hp}{x:AV}{x':V}(r:aF T ρ H x x'):decide (x' = .aC)=cV x:=by cases r<;>simp[cV]
theorem Tj:bF X T E (compareOp .Is) gm:=by
 refine⟨_,Se,λρ h H x y x' y' Q R rx ry w=>?_⟩;unfold gm at w;by_cases e:cV y=true
 .rw[if_pos e]at w;rw[<- yE ry]at e;exact⟨of_decide_eq_true e,by rw[yE rx];exact W.here w R (.bl _)⟩
 .rw[if_neg e]at w;exact w.elim
theorem Tn:bF X T E (compareOp .IsNot) gp:=by
 refine⟨_,So,λρ h H x y x' y' Q R rx ry w=>?_⟩;unfold gp at w;by_cases e:cV y=true
 .rw[if_pos e]at w;rw[<- yE ry]at e;exact⟨of_decide_eq_true e,by rw[yE rx];exact W.here w R (.bl _)⟩
 .rw[if_neg e]at w;exact w.elim
theorem IZ:rj X T E (unaryOp .USub) tN:=by
 refine⟨_,IU,λρ h H x x' Q R rx w=>?_⟩;cases x with
 |int i=>cases rx;exact⟨i,rfl,W.here w R (.int _)⟩|_=>exact w.elim
theorem ie{ρ:List Addr}{H:Hp}{x:AV}{x':V}(rx:aF T ρ H x x')(fx:dZ x=true):∀{xs:List AV} {ys:List V},aO T ρ H xs ys->xs.all dZ=true->yD x' ys=pH x xs
 |_,_,.nil,_=>rfl|_,_,.cons h hs,f=>by rw[List.all_cons,Bool.and_eq_true]at f;have:=ie rx fx hs f.2;unfold yD pH at this ⊢;rw[List.any_cons,List.any_cons,this,vq h rx f.1 fx]
theorem iS{ρ:List Addr}{h:AH}{H:Hp}{n:Nat}{m:Bool}{xs:List AV}{a:Addr}(R:aN T ρ h H)(e:h.ob n=some (.lst m xs))(q:ρ[n]?=some a):∃ys,bA T.K H a ys/\aO T ρ H xs ys:=by
 have r:=R.obj n _ a e q;cases m with
 |true=>obtain⟨ys,h1,h2⟩:=r;exact⟨ys,.of h1,h2⟩|false=>obtain⟨ys,h1,h2⟩:=r;exact⟨ys,h1.sq,h2⟩
theorem rY{ρ:List Addr}{h:AH}{H:Hp}{x:AV}{x':V}{xs:List AV}(R:aN T ρ h H)(r:aF T ρ H x x')(e:cK h x=some xs):∃p ys,x' = .ref p/\(bA T.K H p ys\/bG T.K H p ys)/\aO T ρ H xs ys:=by
 cases r with
 |tup hq hr=>cases e;exact⟨_,_,rfl,.inr hq,hr⟩|@ref n a q=>
  simp only[cK]at e;cases o:h.ob n with
  |none=>rw[o]at e;cases e|some u=>
   rw[o]at e;cases u with
   |lst m ys=>cases e;obtain⟨zs,h1,h2⟩:=iS R o q;exact⟨_,zs,rfl,.inl h1,h2⟩
   |bV aE=>cases e|ins c fs=>cases e|xo c=>cases e
 |_=>cases e
include hK in
theorem Ti:bF X T E (compareOp .In) (oW false):=by
 refine⟨_,Sd.or Sa,λρ h H x y x' y' Q R rx ry w=>?_⟩;unfold oW at w;cases e:cK h y with
 |none=>
  rw[e]at w;cases x with
  |str a=>
   cases y with
   |str b=>cases rx;cases ry;exact .inr ⟨a,b,rfl,rfl,w.here R (.bl _)⟩
   |_=>exact w.elim
  |_=>exact w.elim
 |some xs=>
  rw[e]at w;by_cases f:(dZ x&&xs.all dZ)=true
  .simp only[if_pos f]at w;rw[Bool.and_eq_true]at f;obtain⟨p,ys,e1,h1,h2⟩:=rY R ry e;refine .inl ?_;refine⟨p,ys,e1,by rw[hK];exact h1,tH rx f.1,gj h2 f.2,?_⟩;rw[ie rx f.1 h2 f.2];exact w.here R (.bl _)
  .simp only[if_neg f]at w;exact w.elim
include hK in
theorem Tv:bF X T E (compareOp .NotIn) (oW true):=by
 refine⟨_,Sn,λρ h H x y x' y' Q R rx ry w=>?_⟩;unfold oW at w;cases e:cK h y with
 |none=>rw[e]at w;unfold ij at w;cases x<;>cases y<;>exact w.elim
 |some xs=>
  rw[e]at w;by_cases f:(dZ x&&xs.all dZ)=true
  .simp only[if_pos f]at w;rw[Bool.and_eq_true]at f;obtain⟨p,ys,e1,h1,h2⟩:=rY R ry e;refine⟨p,ys,e1,by rw[hK];exact h1,tH rx f.1,gj h2 f.2,?_⟩;rw[ie rx f.1 h2 f.2];exact w.here R (.bl _)
  .simp only[if_neg f]at w;exact w.elim
theorem Hj{ρ:List Addr}{H:Hp}{xs:List AV}{ys:List V}{i:Int}{v:AV}(r:aO T ρ H xs ys)(e:bJ xs i=some v):∃v',bJ ys i=some v'/\aF T ρ H v v':=by
 unfold bJ at e ⊢;rw[<- r.length];cases q:fX xs.length i with
 |none=>rw[q]at e;cases e|some j=>rw[q]at e;exact r.get e
include hK in
theorem Om:dh X T E rA:=by
 refine⟨_,Og,λρ h H x y x' y' Q R rx ry w=>?_⟩;cases y with
 |int i=>
  cases ry;have seqc:∀(xs:List AV) (v:AV),cK h x=some xs->bJ xs i=some v->(W T (aF T) (.ok v h) ρ H Q E)->kz X.K x' (.int i) H Q:=λxs v e1 e2 w=>by
   obtain⟨p,ys,rfl,hq,hr⟩:=rY R rx e1;obtain⟨v',e3,rv⟩:=Hj hr e2;rcases hq with hq|hq
   .exact .inl ⟨p,ys,i,v',rfl,rfl,by rw[hK];exact hq,e3,w.here R rv⟩
   .exact .inr (.inl ⟨p,ys,i,v',rfl,rfl,by rw[hK];exact hq,e3,w.here R rv⟩)
  have go:(match (cK h x).bind λxs=>bJ xs i with
   |some v=>Res.ok v h
   |none=>Res.bad)=rA x (.int i) h->kz X.K x' (.int i) H Q:=λe=>by
    rw[<- e]at w;cases s:cK h x with
    |none=>rw[s]at w;exact w.elim|some xs=>
     rw[s]at w;simp only[Option.bind_some]at w;cases q:bJ xs i with
     |none=>rw[q]at w;exact w.elim|some v=>rw[q]at w;exact seqc xs v s q w
  cases x with
  |str z=>
   cases rx;simp only[rA]at w;by_cases hz:z.length<=sizeLine
   .rw[if_pos hz]at w;cases q:bJ z.cps.toList i with
    |none=>rw[q]at w;exact w.elim|some c=>rw[q]at w;exact .inr (.inr ⟨z,i,c,rfl,rfl,hz,q,w.here R (.str _)⟩)
   .rw[if_neg hz]at w;exact w.elim
  |aC=>exact go rfl|bl b=>exact go rfl|int j=>exact go rfl|tup xs=>exact go rfl|ref n=>exact go rfl|lK n=>exact go rfl
 |_=>exact w.elim
include hK in
theorem Th(hu:X.A.units+1<cLine):bF X T E (compareOp .In) (mY false):=Ti hK
include hK in
theorem Tu(hu:X.A.units+1<cLine):bF X T E (compareOp .NotIn) (mY true):=Tv hK
include hK in
theorem Ol(hu:X.A.units+1<cLine):dh X T E qZ:=Om hK
def CY(K:W.Frag):R2:=λx y H Q=>∃a b ys,x = .ref a/\y = .ref b/\bG K H a []/\bG K H b ys/\Q (.ref b) H
theorem Ru:aS X (binaryOp .Add) (CY X.K):=by
 intro pins s σ H x y v u Q I rx ry h;obtain⟨a,b,ys,rfl,rfl,ha,hb,q⟩:=h;cases rx;cases ry;obtain⟨its,r1,p1,_⟩:=I.tuple ha;obtain⟨its2,r2,p2,_⟩:=I.tuple hb;cases r1;obtain⟨⟨cls,dd,data,sl⟩,ho,hc,n,hd⟩:=id p1;obtain⟨⟨cls2,dd2,data2,sl2⟩,ho2,hc2,n2,hd2⟩:=id p2;simp only at hc hd hc2 hd2;subst hc hd hc2 hd2;exact concat_meets ⟨_,ho,rfl⟩ ⟨_,ho2,rfl⟩ noFill_tuple_add seq_tuple_add PySem.F.slot_tuple_add PySem.F.entry_tuple_add (PySem.F.args_tuple_add_2 _ _)
  (tuple_addW0 a b _ _ n n2 dd dd2 sl sl2 (by simp)) ⟨ho,ho2,⟨.ref b,H,I,rfl,q⟩⟩
include hK in
theorem Sz:bF X T E (binaryOp .Add) fU:=by
 refine⟨_,Rm.or (Rn.or (Rt.or (Ru.or Rr))),λρ h H x y x' y' Q R rx ry w=>?_⟩;cases x with
 |int i=>
  cases y with
  |int j=>cases rx;cases ry;exact .inl ⟨i,j,rfl,rfl,W.here w R (.int _)⟩|_=>exact w.elim
 |str i=>
  cases y with
  |str j=>cases rx;cases ry;obtain⟨hz,w⟩:=lL w;exact .inr (.inl ⟨i,j,rfl,rfl,hz,W.here w R (.str _)⟩)
  |_=>exact w.elim
 |tup xs=>
  cases y with
  |tup ys=>
   obtain⟨h2,w⟩:=lL w;cases rx with
   |@tup a _ bI hq hr=>
    cases ry with
    |@tup b _ ys' hq2 hr2=>
     have l1:=hr.length;have l2:=hr2.length;by_cases h1:xs.length=0
     .have e0:xs=[]:=List.eq_nil_of_length_eq_zero h1;subst e0;have e0:bI=[]:=List.eq_nil_of_length_eq_zero l1.symm;subst e0;exact .inr (.inr (.inr (.inl ⟨a,b,ys',rfl,rfl,by rw[hK];exact hq,by rw[hK];exact hq2,W.here w R (.tup hq2 hr2)⟩)))
     refine .inr (.inr (.inl ⟨a,b,bI,ys',rfl,rfl,by rw[hK];exact hq,by rw[hK];exact hq2,λz=>?_,by omega,λz=>?_,λz p hp=>?_⟩))
     .rw[z]at l1;exact h1 l1
     .subst z;have e0:ys=[]:=by cases ys with|nil=>rfl|cons _ _=>cases l2
      subst e0;rw[List.append_nil]at w;exact W.here w R (.tup hq hr)
     .refine W.ok w (.eP hp) (R.keep hp) (.tup (.of eF) ?_);exact((hr.append hr2).ext (.eP hp))
  |_=>exact w.elim
 |ref n=>
  cases y with
  |ref m=>
   cases rx with
   |@ref _ a q=>
    cases ry with
    |@ref _ b q2=>
     have go:∀xs ys,h.ob n=some (.lst true xs)->h.ob m=some (.lst true ys)->Ca (.ref a) (.ref b) H Q:=λxs ys e1 e2=>by
      simp only[fU,e1,e2]at w;by_cases hz:xs.length+ys.length<=sizeLine
      .rw[if_pos hz]at w;obtain⟨bI,g1,r1⟩:=R.obj n _ a e1 q;obtain⟨ys',g2,r2⟩:=R.obj m _ b e2 q2;have l1:=r1.length;have l2:=r2.length;refine⟨a,b,bI,ys',rfl,rfl,g1,g2,by omega,λp hp=>?_⟩;have ho:mG T (ρ++[p]) (aK H p (.lst (bI++ys'))) p (.lst true (xs++ys)):=⟨_,eF,(r1.append r2).ext ⟨λk z e=>by have hl:=(List.getElem?_eq_some_iff.mp e).1;rw[List.getElem?_append_left hl];exact e,(Ext.eP (ρ:=ρ) hp).tup,(Ext.eP (ρ:=ρ) hp).bO⟩⟩
       obtain⟨R',ex⟩:=R.alloc hp ho;exact W.ok w ex R' (.ref (by rw[<- R.len];simp))
      .rw[if_neg hz]at w;exact w.elim
     refine .inr (.inr (.inr (.inr ?_)));cases e1:h.ob n with
     |none=>simp only[fU,e1]at w;exact w.elim|some u=>
      cases e2:h.ob m with
      |none=>simp only[fU,e1,e2]at w;cases u with
       |lst k xs=>cases k<;>exact w.elim|_=>exact w.elim
      |some v=>
       cases u with
       |lst k xs=>
        cases v with
        |lst k2 ys=>
         cases k with
         |true=>
          cases k2 with
          |true=>exact go xs ys e1 e2|false=>simp only[fU,e1,e2]at w;exact w.elim
         |false=>simp only[fU,e1,e2]at w;exact w.elim
        |bV _=>simp only[fU,e1,e2]at w;cases k<;>exact w.elim|ins _ _=>simp only[fU,e1,e2]at w;cases k<;>exact w.elim|xo _=>simp only[fU,e1,e2]at w;cases k<;>exact w.elim
       |bV _=>simp only[fU,e1,e2]at w;exact w.elim|ins _ _=>simp only[fU,e1,e2]at w;exact w.elim|xo _=>simp only[fU,e1,e2]at w;exact w.elim
  |_=>exact w.elim
 |_=>exact w.elim
theorem Ew(hK:X.K=T.K){ρ:List Addr}{h:AH}{H:Hp}{x:AV}{x':V}{b:Bool}(R:aN T ρ h H)(r:aF T ρ H x x')(e:sP h x=some b):oO X.K x' H b:=by
 have emp:∀{xs:List AV} {ys:List V},aO T ρ H xs ys->(!xs.isEmpty) = !ys.isEmpty:=λr=>by cases r<;>rfl
 cases r with
 |aC=>cases e;rfl|bl c=>cases e;rfl|int i=>cases e;rfl|str y=>
  simp only[sP]at e;by_cases hy:y.length<=sizeLine
  .rw[if_pos hy]at e;cases e;exact⟨hy,rfl⟩
  .rw[if_neg hy]at e;cases e
 |tup hq hr=>cases e;exact .inr (.inl ⟨_,by rw[hK];exact hq,emp hr⟩)|@ref n a q=>
  simp only[sP]at e;cases o:h.ob n with
  |none=>rw[o]at e;cases e|some u=>
   rw[o]at e;cases u with
   |lst m ys=>cases e;obtain⟨zs,h1,h2⟩:=iS R o q;exact .inl ⟨zs,by rw[hK];exact h1,emp h2⟩
   |bV aE=>
    cases e;obtain⟨ks,ys,h1,h2,h3⟩:=R.obj n _ a o q;refine .inr (.inr ⟨_,h1,?_⟩);subst h2;cases aE with
    |nil=>rfl|cons p r=>cases h3;rfl
   |ins c fs=>cases e|xo c=>cases e
 |lK q=>cases e
end
def pF(i:Nat):aA->M AV:=λσ h=>match σ[i]? with
 |some (some v)=>.ok v h
 |_=>.bad
def rq(m k:M AV):M AV:=m.bind λx=>(bC x).bind λb=>if b=true then k else M.ret x
def Ag(m k:M AV):M AV:=m.bind λx=>(bC x).bind λb=>if b=true then M.ret x else k
def rn(m k:M Bool):M Bool:=m.bind λb=>if b=true then k else M.ret false
def Af(m k:M Bool):M Bool:=m.bind λb=>if b=true then M.ret true else k
def yF{α:Type}(c:M Bool)(a b:M α):M α:=c.bind λt=>if t=true then a else b
def iN:AV->Option Bool
 |.bl b=>some b
 |_=>none
def qT(g g':AV->AV->M AV)(a b c:M AV):M AV:=a.bind λx=>b.bind λy=>(g x y).bind λz h=>match iN z with
 |some true=>(c.bind λw=>g' y w) h
 |some false=>.ok (.bl false) h
 |none=>.bad
def jc(g:AV->AV->M AV)(x:AV)(b:M AV)(k:AV->M AV):M AV:=b.bind λy=>(g x y).bind λz h=>match iN z with
 |some true=>k y h
 |some false=>.ok (.bl false) h
 |none=>.bad
def qR(g g' g'':AV->AV->M AV)(a b c d:M AV):M AV:=a.bind λx=>jc g x b λy=>jc g' y c λu=>d.bind λv=>g'' u v
def uw(a:M AV)(r:M (List AV)):M (List AV):=a.bind λx=>r.bind λxs=>M.ret (x::xs)
def pf(r:M (List AV)):M AV:=r.bind λxs=>M.guard (xs.length<=sizeLine) (M.ret (.tup xs))
def gA(xs:List AV):M AV:=λh=>.ok (.ref h.nx) (h.new (.lst true xs))
def nI(r:M (List AV)):M AV:=r.bind λxs=>M.guard (xs.length<=sizeLine) (gA xs)
def lR(g:AV->AV->M AV)(a b:M AV):M AV:=a.bind λx=>b.bind λy=>g x y
def aL:Expr->Bool
 |.Name ..=>true | .Constant ..=>true | .BinOp ..=>true | .UnaryOp ..=>true | .Compare ..=>true | .BoolOp ..=>true | .IfExp ..=>true
 |.Tuple ..=>true | .List ..=>true | .Subscript ..=>true | .Call ..=>true | .Attribute ..=>true | .ListComp ..=>true
 |_=>false
def kF:Expr->Bool
 |.ListComp ..=>true
 |_=>false
def uD:Expr->Bool
 |.Name ..=>true | .Constant ..=>true | .BinOp ..=>true | .Subscript ..=>true | .Call ..=>true | .Attribute ..=>true | .Tuple ..=>true | .List ..=>true | .ListComp ..=>true
 |_=>false
theorem bH{e:Expr}{es:List Expr}{env:Env}(h:aL e=true):starEach (e::es) env=(false,eval e env)::starEach es env:=by cases e<;>first|rfl|cases h
theorem Dd{e:Expr}(h:aL e=true):wR e:=λo i=>by cases e<;>first|rfl|cases h
theorem vO{e:Expr}{t:Option Expr}{n:Nat}{env:Env}(h:aL e=true)(hl:kF e=false):swapsWith e t n env=pure false:=by cases e<;>first|rfl|(cases hl;done)|(cases h;done)
theorem lr{e:Expr}{env:Env}{x:Value}(h:aL e=true):foldedSetIterable e env x=pure x:=by cases e<;>first|rfl|cases h
theorem sA{e:Expr}{op:CmpOp}(h:aL e=true):behindInMarks op e=false:=by cases e<;>first|rfl|cases h
theorem Vs{e:Expr}{env:Env}(h:uD e=true):∀whole,isTrue e env whole=(do let v <- whole;standAt e.pos;holding [v] (truthy v)):=λ_=>by cases e<;>first|rfl|cases h
theorem rZ{es:List Expr}{pos:Pos}{env:Env}(h:es.all aL=true):(backTo pos (starEach es env)).any (·.1)=false:=by
 induction es with
 |nil=>rfl|cons e es ih=>rw[List.all_cons,Bool.and_eq_true]at h;rw[bH h.1];have:=ih h.2;simp only[backTo,List.map_cons,List.any_cons]at this ⊢;rw[Bool.false_or];exact this
section
variable {X:Cx}{T:Tab}{E:XK}{a b c e:Expr}{es:List Expr}{ma mb mc m:aA->M AV}{mr:aA->M (List AV)}{mt mu:aA->M Bool}{pos:Pos}
theorem Bc{i:Nat} {x:Str} (hN:X.N[i]?=some x) (hv:qO X.env.scope x) (hd:(x==("__debug__":Str))=false) (hcd:(x==("__classdict__":Str))=false):QE X T E (.Name x pos) (pF i):=by
 refine⟨_,kb hN hv hd hcd,λρ σ σ' h H Q R S w=>?_⟩;unfold pF at w;cases q:σ[i]? with
 |none=>rw[q]at w;exact w.elim|some o=>
  cases o with
  |none=>rw[q]at w;exact w.elim|some v=>rw[q]at w;obtain⟨v',e1,r⟩:=S.2 i v q;exact⟨v',e1,w.here R r⟩
theorem iC{v:AV}{v':V}(hp:PE X e (tC v'))(r:∀ρ H,aF T ρ H v v'):QE X T E e (λ_=>M.ret v):=
 ⟨_,hp,λρ _ _ h H Q R _ w=>W.here w R (r ρ H)⟩
theorem uK:QE X T E e (λ_=>M.bad):=⟨λ_ _ _=>False,λ_ _ _ _ _ _ h=>h.elim,λ_ _ _ _ _ _ _ _ w=>w⟩
theorem kr:QT X T E e (λ_=>M.bad):=⟨λ_ _ _=>False,λ_ _ _ _ _ _ h=>h.elim,λ_ _ _ _ _ _ _ _ w=>w⟩
theorem mB{α β:Type}{Rp:Rl α β}{ta tb:TE}(ra:∀ρ σ σ' h H Q,aN T ρ h H->aR T ρ H σ σ'->W T (aF T) (ma σ h) ρ H Q E->ta σ' H Q)(rb:∀ρ σ σ' h H Q,aN T ρ h H->aR T ρ H σ σ'->W T (aF T) (mb σ h) ρ H Q E->tb σ' H Q)
  {ρ:List Addr} {σ:aA} {σ':L2.St} {h:AH} {H:Hp} {g:AV->AV->M α} {Q:β->Hp->Prop} {F:V->V->Hp->Prop} (R:aN T ρ h H) (S:aR T ρ H σ σ') (w:W T Rp ((ma σ).bind (λx=>(mb σ).bind λy=>g x y) h) ρ H Q E)
  (f:∀ρ2 x y x' y' h2 H2,Ext ρ H ρ2 H2->aN T ρ2 h2 H2->aF T ρ2 H2 x x'->aF T ρ2 H2 y y'->aR T ρ2 H2 σ σ'->W T Rp (g x y h2) ρ2 H2 Q E->F x' y' H2):ta σ' H λx H1=>tb σ' H1 λy H2=>F x y H2:=
 ra ρ σ σ' h H _ R S (W.bind w λρ1 x x' h1 H1 e1 R1 q1 w1=>rb ρ1 σ σ' h1 H1 _ R1 (S.ext e1) (W.bind w1 λρ2 y y' h2 H2 e2 R2 q2 w2=>f ρ2 x y x' y' h2 H2 (e1.trans e2) R2 (q1.ext e2) q2 ((S.ext e1).ext e2) w2))
theorem Ya{op:Operator}{g:AV->AV->M AV}(ho:bF X T E (binaryOp op) g)(ha:QE X T E a ma)(hb:QE X T E b mb):QE X T E (.BinOp a op b pos) (λσ=>lR g (ma σ) (mb σ)):=by obtain⟨r,hr,hg⟩:=ho;obtain⟨ta,pa,ra⟩:=ha;obtain⟨tb,pb,rb⟩:=hb;exact⟨_,Uy hr pa pb,λρ σ σ' h H Q R S w=>mB ra rb R S w λρ2 x y x' y' h2 H2 _ R2 q1 q2 _ w2=>hg ρ2 h2 H2 x y x' y' Q R2 q1 q2 w2⟩
theorem Xu{g:AV->AV->M AV}(ho:dh X T E g)(ha:QE X T E a ma)(hb:QE X T E b mb)(hs:wR b):QE X T E (.Subscript a b pos) (λσ=>lR g (ma σ) (mb σ)):=by obtain⟨r,hr,hg⟩:=ho;obtain⟨ta,pa,ra⟩:=ha;obtain⟨tb,pb,rb⟩:=hb;exact⟨_,Aq hr pa pb hs,λρ σ σ' h H Q R S w=>mB ra rb R S w λρ2 x y x' y' h2 H2 _ R2 q1 q2 _ w2=>hg ρ2 h2 H2 x y x' y' Q R2 q1 q2 w2⟩
theorem Xq{op:CmpOp}{g:AV->AV->M AV}(ho:bF X T E (compareOp op) g)(ha:QE X T E a ma)(hb:QE X T E b mb)(hm:behindInMarks op b=false):QE X T E (.Compare a [op] [b] pos) (λσ=>lR g (ma σ) (mb σ)):=by obtain⟨r,hr,hg⟩:=ho;obtain⟨ta,pa,ra⟩:=ha;obtain⟨tb,pb,rb⟩:=hb;exact⟨_,Ap hr pa pb hm,λρ σ σ' h H Q R S w=>mB ra rb R S w λρ2 x y x' y' h2 H2 _ R2 q1 q2 _ w2=>hg ρ2 h2 H2 x y x' y' Q R2 q1 q2 w2⟩
theorem Yi{op:PySem.UnaryOp}{g:AV->M AV}(ho:rj X T E (unaryOp op) g)(ha:QE X T E a ma):QE X T E (.UnaryOp op a pos) (λσ=>(ma σ).bind g):=by obtain⟨r,hr,hg⟩:=ho;obtain⟨ta,pa,ra⟩:=ha;exact⟨_,Vc hr pa,λρ σ σ' h H Q R S w=>ra ρ σ σ' h H _ R S (W.bind w λρ1 x x' h1 H1 e1 R1 q1 w1=>hg ρ1 h1 H1 x x' Q R1 q1 w1)⟩
theorem gq(hK:X.K=T.K){γ δ:Type}{Rq:Rl γ δ}{ρ:List Addr}{h:AH}{H:Hp}{x:AV}{x':V}{k:Bool->M γ}{Q:δ->Hp->Prop}(R:aN T ρ h H)(r:aF T ρ H x x')(w:W T Rq ((bC x).bind k h) ρ H Q E) :
  ∃d,oO X.K x' H d/\W T Rq (k d h) ρ H Q E:=by
 unfold M.bind bC at w;cases e:sP h x with
 |none=>rw[e]at w;exact w.elim|some d=>rw[e]at w;exact⟨d,Ew hK R r e,w⟩
theorem Xr(hc:QT X T E c mt)(ha:QE X T E a ma)(hb:QE X T E b mb):QE X T E (.IfExp c a b pos) (λσ=>yF (mt σ) (ma σ) (mb σ)):=by
 obtain⟨tc,pc,rc⟩:=hc;obtain⟨ta,pa,ra⟩:=ha;obtain⟨tb,pb,rb⟩:=hb;refine⟨_,Uu pc pa pb,λρ σ σ' h H Q R S w=>rc ρ σ σ' h H _ R S (W.bind w λρ1 d d' h1 H1 e1 R1 q1 w1=>?_)⟩;have q1':d=d':=q1;subst q1';cases d with
 |true=>exact ra ρ1 σ σ' h1 H1 Q R1 (S.ext e1) w1|false=>exact rb ρ1 σ σ' h1 H1 Q R1 (S.ext e1) w1
def GN(K:W.Frag)(ta tb:TE):TE:=λσ H Q=>ta σ H λx H1=>∃c,oO K x H1 c/\if c=true then tb σ H1 Q else Q x H1
def HD(K:W.Frag)(ta tb:TE):TE:=λσ H Q=>ta σ H λx H1=>∃c,oO K x H1 c/\if c=true then Q x H1 else tb σ H1 Q
def HB(K:W.Frag)(ta:TE):TE:=λσ H Q=>ta σ H λx H1=>∃c,oO K x H1 c/\Q (.bl (!c)) H1
variable {ta tb:TE}{rest:List Expr}
theorem Uk(ha:PE X a ta)(hb:PE X (.BoolOp .And (b::rest) pos) tb):PE X (.BoolOp .And (a::b::rest) pos) (GN X.K ta tb):=by
 intro pins s σ H Q I h;refine BoolOp_and (aJ (ha pins s σ H _ I h) λv s1 ⟨x,H1,I1,r1,c,ht,q1⟩=>?_);refine aJ (bz pins s1 σ H1 x v (λd H2=>d=c/\H2=H1) I1 r1 ⟨c,ht,rfl,rfl⟩) λd s2 ⟨H2,I2,e1,e2⟩=>?_;subst e1;subst e2;cases d with
 |true=>exact hb pins s2 σ H2 Q I2 q1|false=>exact⟨x,H2,I2,r1,q1⟩
theorem Uz(ha:PE X a ta)(hb:PE X (.BoolOp .Or (b::rest) pos) tb):PE X (.BoolOp .Or (a::b::rest) pos) (HD X.K ta tb):=by
 intro pins s σ H Q I h;refine BoolOp_or (aJ (ha pins s σ H _ I h) λv s1 ⟨x,H1,I1,r1,c,ht,q1⟩=>?_);refine aJ (bz pins s1 σ H1 x v (λd H2=>d=c/\H2=H1) I1 r1 ⟨c,ht,rfl,rfl⟩) λd s2 ⟨H2,I2,e1,e2⟩=>?_;subst e1;subst e2;cases d with
 |false=>exact hb pins s2 σ H2 Q I2 q1|true=>exact⟨x,H2,I2,r1,q1⟩
theorem Uw(ha:PE X a ta):PE X (.UnaryOp .Not a pos) (HB X.K ta):=by intro pins s σ H Q I h;refine UnaryOp_ (aJ (ha pins s σ H _ I h) λv s1 ⟨x,H1,I1,r1,c,ht,q1⟩=>?_);refine not_of (aJ (bz pins s1 σ H1 x v (λd H2=>d=c/\H2=H1) I1 r1 ⟨c,ht,rfl,rfl⟩) λd s2 ⟨H2,I2,e1,e2⟩=>?_);subst e1;subst e2;exact⟨.bl (!d),H2,I2,rfl,q1⟩
theorem Ba{op:PySem.BoolOp}(ha:QE X T E a ma):QE X T E (.BoolOp op [a] pos) ma:=let ⟨t,p,r⟩:=ha;⟨t,Ux p,r⟩
theorem Xj(hK:X.K=T.K)(ha:QE X T E a ma)(hb:QE X T E (.BoolOp .And (b::rest) pos) mb):QE X T E (.BoolOp .And (a::b::rest) pos) (λσ=>rq (ma σ) (mb σ)):=by
 obtain⟨ta,pa,ra⟩:=ha;obtain⟨tb,pb,rb⟩:=hb;refine⟨_,Uk pa pb,λρ σ σ' h H Q R S w=>ra ρ σ σ' h H _ R S (W.bind w λρ1 x x' h1 H1 e1 R1 q1 w1=>?_)⟩;obtain⟨d,td,w2⟩:=gq hK R1 q1 w1;refine⟨d,td,?_⟩;cases d with
 |true=>exact rb ρ1 σ σ' h1 H1 Q R1 (S.ext e1) w2|false=>exact W.here w2 R1 q1
theorem Yb(hK:X.K=T.K)(ha:QE X T E a ma)(hb:QE X T E (.BoolOp .Or (b::rest) pos) mb):QE X T E (.BoolOp .Or (a::b::rest) pos) (λσ=>Ag (ma σ) (mb σ)):=by
 obtain⟨ta,pa,ra⟩:=ha;obtain⟨tb,pb,rb⟩:=hb;refine⟨_,Uz pa pb,λρ σ σ' h H Q R S w=>ra ρ σ σ' h H _ R S (W.bind w λρ1 x x' h1 H1 e1 R1 q1 w1=>?_)⟩;obtain⟨d,td,w2⟩:=gq hK R1 q1 w1;refine⟨d,td,?_⟩;cases d with
 |false=>exact rb ρ1 σ σ' h1 H1 Q R1 (S.ext e1) w2|true=>exact W.here w2 R1 q1
theorem Xz(hK:X.K=T.K)(ha:QE X T E a ma):QE X T E (.UnaryOp .Not a pos) (λσ=>(ma σ).bind λx=>(bC x).bind λb=>M.ret (.bl (!b))):=by obtain⟨ta,pa,ra⟩:=ha;refine⟨_,Uw pa,λρ σ σ' h H Q R S w=>ra ρ σ σ' h H _ R S (W.bind w λρ1 x x' h1 H1 e1 R1 q1 w1=>?_)⟩;obtain⟨d,td,w2⟩:=gq hK R1 q1 w1;exact⟨d,td,W.here w2 R1 (.bl _)⟩
theorem ui{r r':R2}{g g':AV->AV->M AV}{tc:TE}
  (hg:∀ρ h H x y x' y' Q,aN T ρ h H->aF T ρ H x x'->aF T ρ H y y'->W T (aF T) (g x y h) ρ H Q E->r x' y' H Q)
  (hg':∀ρ h H x y x' y' Q,aN T ρ h H->aF T ρ H x x'->aF T ρ H y y'->W T (aF T) (g' x y h) ρ H Q E->r' x' y' H Q)
  (ra:∀ρ σ σ' h H Q,aN T ρ h H->aR T ρ H σ σ'->W T (aF T) (ma σ h) ρ H Q E->ta σ' H Q) (rb:∀ρ σ σ' h H Q,aN T ρ h H->aR T ρ H σ σ'->W T (aF T) (mb σ h) ρ H Q E->tb σ' H Q)
  (rc:∀ρ σ σ' h H Q,aN T ρ h H->aR T ρ H σ σ'->W T (aF T) (mc σ h) ρ H Q E->tc σ' H Q) {ρ:List Addr} {σ:aA} {σ':L2.St} {h:AH} {H:Hp} {Q:VK} (R:aN T ρ h H) (S:aR T ρ H σ σ')
  (w:W T (aF T) (qT g g' (ma σ) (mb σ) (mc σ) h) ρ H Q E):nu r r' ta tb tc σ' H Q:=by
 refine mB ra rb R S w λρ2 x y x' y' h2 H2 _ R2 q1 q2 S2 w2=>?_;refine hg ρ2 h2 H2 x y x' y' _ R2 q1 q2 (W.bind w2 λρ3 z z' h3 H3 e3 R3 q3 w3=>?_);have w4:W T (aF T) (match iN z with
  |some true=>((mc σ).bind λw=>g' y w) h3
  |some false=>Res.ok (.bl false) h3
  |none=>.bad) ρ3 H3 Q E:=w3
 cases z with
 |bl d=>
  cases q3;refine⟨d,rfl,?_⟩;cases d with
  |true=>exact rc ρ3 σ σ' h3 H3 _ R3 (S2.ext e3) (W.bind (k:=λw=>g' y w) w4 λρ4 u u' h4 H4 e4 R4 q4 w5=>hg' ρ4 h4 H4 y u y' u' Q R4 ((q2.ext e3).ext e4) q4 w5)|false=>exact W.here w4 R3 (.bl _)
 |_=>exact w4.elim
theorem Xo{op op':CmpOp}{g g':AV->AV->M AV}(ho:bF X T E (compareOp op) g)(ho':bF X T E (compareOp op') g')(ha:QE X T E a ma)(hb:QE X T E b mb)(hc:QE X T E c mc)
  (hm:lastMarks [op,op'] [b,c]=false):QE X T E (.Compare a [op,op'] [b,c] pos) (λσ=>qT g g' (ma σ) (mb σ) (mc σ)):=by
 obtain⟨r,hr,hg⟩:=ho;obtain⟨r',hr',hg'⟩:=ho';obtain⟨ta,pa,ra⟩:=ha;obtain⟨tb,pb,rb⟩:=hb;obtain⟨tc,pc,rc⟩:=hc;exact⟨_,Ur hr hr' pa pb pc hm,λρ σ σ' h H Q R S w=>ui hg hg' ra rb rc R S w⟩
theorem yu{r:R2}{g:AV->AV->M AV}{tk:V->TE}{k:AV->M AV}
  (hg:∀ρ h H x y x' y' Q,aN T ρ h H->aF T ρ H x x'->aF T ρ H y y'->W T (aF T) (g x y h) ρ H Q E->r x' y' H Q)
  (rb:∀ρ σ σ' h H Q,aN T ρ h H->aR T ρ H σ σ'->W T (aF T) (mb σ h) ρ H Q E->tb σ' H Q) {ρ:List Addr} {σ:aA} {σ':L2.St} {h:AH} {H:Hp} {Q:VK} {x:AV} {x':V} (R:aN T ρ h H) (S:aR T ρ H σ σ') (rx:aF T ρ H x x')
  (w:W T (aF T) (jc g x (mb σ) k h) ρ H Q E) (f:∀ρ3 y y' h3 H3,aN T ρ3 h3 H3->aR T ρ3 H3 σ σ'->aF T ρ3 H3 y y'->W T (aF T) (k y h3) ρ3 H3 Q E->tk y' σ' H3 Q):oh r x' tb tk σ' H Q:=by
 refine rb ρ σ σ' h H _ R S (W.bind w λρ1 y y' h1 H1 e1 R1 q1 w1=>?_);refine hg ρ1 h1 H1 x y x' y' _ R1 (rx.ext e1) q1 (W.bind w1 λρ3 z z' h3 H3 e3 R3 q3 w3=>?_);have w4:W T (aF T) (match iN z with
  |some true=>k y h3
  |some false=>Res.ok (.bl false) h3
  |none=>.bad) ρ3 H3 Q E:=w3
 cases z with
 |bl d=>
  cases q3;refine⟨d,rfl,?_⟩;cases d with
  |true=>exact f ρ3 y y' h3 H3 R3 ((S.ext e1).ext e3) (q1.ext e3) w4|false=>exact W.here w4 R3 (.bl _)
 |_=>exact w4.elim
theorem uh{r r' r'':R2}{g g' g'':AV->AV->M AV}{tc td:TE}{md:aA->M AV}
  (hg:∀ρ h H x y x' y' Q,aN T ρ h H->aF T ρ H x x'->aF T ρ H y y'->W T (aF T) (g x y h) ρ H Q E->r x' y' H Q)
  (hg':∀ρ h H x y x' y' Q,aN T ρ h H->aF T ρ H x x'->aF T ρ H y y'->W T (aF T) (g' x y h) ρ H Q E->r' x' y' H Q)
  (hg'':∀ρ h H x y x' y' Q,aN T ρ h H->aF T ρ H x x'->aF T ρ H y y'->W T (aF T) (g'' x y h) ρ H Q E->r'' x' y' H Q)
  (ra:∀ρ σ σ' h H Q,aN T ρ h H->aR T ρ H σ σ'->W T (aF T) (ma σ h) ρ H Q E->ta σ' H Q) (rb:∀ρ σ σ' h H Q,aN T ρ h H->aR T ρ H σ σ'->W T (aF T) (mb σ h) ρ H Q E->tb σ' H Q)
  (rc:∀ρ σ σ' h H Q,aN T ρ h H->aR T ρ H σ σ'->W T (aF T) (mc σ h) ρ H Q E->tc σ' H Q) (rd:∀ρ σ σ' h H Q,aN T ρ h H->aR T ρ H σ σ'->W T (aF T) (md σ h) ρ H Q E->td σ' H Q) {ρ:List Addr} {σ:aA} {σ':L2.St} {h:AH} {H:Hp} {Q:VK} (R:aN T ρ h H) (S:aR T ρ H σ σ')
  (w:W T (aF T) (qR g g' g'' (ma σ) (mb σ) (mc σ) (md σ) h) ρ H Q E):nv r r' r'' ta tb tc td σ' H Q:=by
 refine ra ρ σ σ' h H _ R S (W.bind w λρ1 x x' h1 H1 e1 R1 q1 w1=>?_);refine yu hg rb R1 (S.ext e1) q1 w1 λρ2 y y' h2 H2 R2 S2 q2 w2=>?_;refine yu hg' rc R2 S2 q2 w2 λρ3 u u' h3 H3 R3 S3 q3 w3=>?_;exact rd ρ3 σ σ' h3 H3 _ R3 S3 (W.bind w3 λρ4 v v' h4 H4 e4 R4 q4 w4=>hg'' ρ4 h4 H4 u v u' v' Q R4 (q3.ext e4) q4 w4)
theorem Xp{op op' op'':CmpOp}{g g' g'':AV->AV->M AV}{d:Expr}{md:aA->M AV}(ho:bF X T E (compareOp op) g)(ho':bF X T E (compareOp op') g')(ho'':bF X T E (compareOp op'') g'')(ha:QE X T E a ma)(hb:QE X T E b mb)(hc:QE X T E c mc)(hd:QE X T E d md)
  (hm:lastMarks [op,op',op''] [b,c,d]=false):QE X T E (.Compare a [op,op',op''] [b,c,d] pos) (λσ=>qR g g' g'' (ma σ) (mb σ) (mc σ) (md σ)):=by
 obtain⟨r,hr,hg⟩:=ho;obtain⟨r',hr',hg'⟩:=ho';obtain⟨r'',hr'',hg''⟩:=ho'';obtain⟨ta,pa,ra⟩:=ha;obtain⟨tb,pb,rb⟩:=hb;obtain⟨tc,pc,rc⟩:=hc;obtain⟨td,pd,rd⟩:=hd;exact⟨_,Us hr hr' hr'' pa pb pc pd hm,λρ σ σ' h H Q R S w=>uh hg hg' hg'' ra rb rc rd R S w⟩
theorem jO(hK:X.K=T.K)(ha:QE X T E a ma)(he:uD a=true):QT X T E a (λσ=>(ma σ).bind bC):=by
 obtain⟨ta,pa,ra⟩:=ha;refine⟨_,Wv pa (Vs he),λρ σ σ' h H Q R S w=>ra ρ σ σ' h H _ R S (W.bind w λρ1 x x' h1 H1 e1 R1 q1 w1=>?_)⟩;unfold bC at w1;cases e:sP h1 x with
 |none=>rw[e]at w1;exact w1.elim|some d=>rw[e]at w1;exact⟨d,Ew hK R1 q1 e,w1.here R1 rfl⟩
theorem xF{ρ:List Addr}{h:AH}{H:Hp}{z:AV}{z':V}{Q:Bool->Hp->Prop}(R:aN T ρ h H)(r:aF T ρ H z z')(w:W T RB (match iN z with
  |some d=>Res.ok d h
  |none=>.bad) ρ H Q E):∃k,z' = .bl k/\Q k H:=by
 cases z with
 |bl d=>cases r;exact⟨d,rfl,W.here w R rfl⟩|_=>exact w.elim
def mX(z:AV):M Bool:=λh=>match iN z with
 |some d=>.ok d h
 |none=>.bad
theorem CH{op:CmpOp}{g:AV->AV->M AV}(ho:bF X T E (compareOp op) g)(ha:QE X T E a ma)(hb:QE X T E b mb)(hm:behindInMarks op b=false):QT X T E (.Compare a [op] [b] pos) (λσ=>(lR g (ma σ) (mb σ)).bind mX):=by obtain⟨r,hr,hg⟩:=ho;obtain⟨ta,pa,ra⟩:=ha;obtain⟨tb,pb,rb⟩:=hb;refine⟨_,Ay hr pa pb hm,λρ σ σ' h H Q R S w=>?_⟩;have w':W T (aF T) (lR g (ma σ) (mb σ) h) ρ H (λx H'=>∃k,x = .bl k/\Q k H') E:=W.bind w λρ1 z z' h1 H1 e1 R1 q1 w1=>xF R1 q1 w1;exact mB ra rb R S w' λρ2 x y x' y' h2 H2 _ R2 q1 q2 _ w2=>hg ρ2 h2 H2 x y x' y' _ R2 q1 q2 w2
theorem CF{op op':CmpOp}{g g':AV->AV->M AV}(ho:bF X T E (compareOp op) g)(ho':bF X T E (compareOp op') g')(ha:QE X T E a ma)(hb:QE X T E b mb)(hc:QE X T E c mc)
  (hm:lastMarks [op,op'] [b,c]=false):QT X T E (.Compare a [op,op'] [b,c] pos) (λσ=>(qT g g' (ma σ) (mb σ) (mc σ)).bind mX):=by
 obtain⟨r,hr,hg⟩:=ho;obtain⟨r',hr',hg'⟩:=ho';obtain⟨ta,pa,ra⟩:=ha;obtain⟨tb,pb,rb⟩:=hb;obtain⟨tc,pc,rc⟩:=hc;refine⟨_,Wq hr hr' pa pb pc hm,λρ σ σ' h H Q R S w=>?_⟩;have w':W T (aF T) (qT g g' (ma σ) (mb σ) (mc σ) h) ρ H (λx H'=>∃k,x = .bl k/\Q k H') E:=W.bind w λρ1 z z' h1 H1 e1 R1 q1 w1=>xF R1 q1 w1;exact ui hg hg' ra rb rc R S w'
theorem CG{op op' op'':CmpOp}{g g' g'':AV->AV->M AV}{d:Expr}{md:aA->M AV}(ho:bF X T E (compareOp op) g)(ho':bF X T E (compareOp op') g')(ho'':bF X T E (compareOp op'') g'')(ha:QE X T E a ma)(hb:QE X T E b mb)(hc:QE X T E c mc)(hd:QE X T E d md)
  (hm:lastMarks [op,op',op''] [b,c,d]=false):QT X T E (.Compare a [op,op',op''] [b,c,d] pos) (λσ=>(qR g g' g'' (ma σ) (mb σ) (mc σ) (md σ)).bind mX):=by
 obtain⟨r,hr,hg⟩:=ho;obtain⟨r',hr',hg'⟩:=ho';obtain⟨r'',hr'',hg''⟩:=ho'';obtain⟨ta,pa,ra⟩:=ha;obtain⟨tb,pb,rb⟩:=hb;obtain⟨tc,pc,rc⟩:=hc;obtain⟨td,pd,rd⟩:=hd;refine⟨_,Wr hr hr' hr'' pa pb pc pd hm,λρ σ σ' h H Q R S w=>?_⟩;have w':W T (aF T) (qR g g' g'' (ma σ) (mb σ) (mc σ) (md σ) h) ρ H (λx H'=>∃k,x = .bl k/\Q k H') E:=W.bind w λρ1 z z' h1 H1 e1 R1 q1 w1=>xF R1 q1 w1;exact uh hg hg' hg'' ra rb rc rd R S w'
theorem CI(ha:QT X T E a mt):QT X T E (.UnaryOp .Not a pos) (λσ=>(mt σ).bind λb=>M.ret (!b)):=by obtain⟨ta,pa,ra⟩:=ha;refine⟨_,Wu pa,λρ σ σ' h H Q R S w=>ra ρ σ σ' h H _ R S (W.bind w λρ1 x x' h1 H1 e1 R1 q1 w1=>?_)⟩;have q1':x=x':=q1;subst q1';exact W.here w1 R1 rfl
theorem CK(ha:QT X T E a mt):QW X T E (.BoolOp .And [a] pos) mt:=let ⟨t,p,r⟩:=ha;⟨t,Xb p,r⟩
theorem CM(ha:QT X T E a mt):QW X T E (.BoolOp .Or [a] pos) mt:=let ⟨t,p,r⟩:=ha;⟨t,Xe p,r⟩
theorem CJ(ha:QT X T E a mt)(hb:QW X T E (.BoolOp .And (b::rest) pos) mu):QW X T E (.BoolOp .And (a::b::rest) pos) (λσ=>rn (mt σ) (mu σ)):=by
 obtain⟨ta,pa,ra⟩:=ha;obtain⟨tb,pb,rb⟩:=hb;refine⟨_,Xa pa pb,λρ σ σ' h H Q R S w=>ra ρ σ σ' h H _ R S (W.bind w λρ1 x x' h1 H1 e1 R1 q1 w1=>?_)⟩;have q1':x=x':=q1;subst q1';cases x with
 |true=>exact rb ρ1 σ σ' h1 H1 Q R1 (S.ext e1) w1|false=>exact W.here w1 R1 rfl
theorem CL(ha:QT X T E a mt)(hb:QW X T E (.BoolOp .Or (b::rest) pos) mu):QW X T E (.BoolOp .Or (a::b::rest) pos) (λσ=>Af (mt σ) (mu σ)):=by
 obtain⟨ta,pa,ra⟩:=ha;obtain⟨tb,pb,rb⟩:=hb;refine⟨_,Xd pa pb,λρ σ σ' h H Q R S w=>ra ρ σ σ' h H _ R S (W.bind w λρ1 x x' h1 H1 e1 R1 q1 w1=>?_)⟩;have q1':x=x':=q1;subst q1';cases x with
 |true=>exact W.here w1 R1 rfl|false=>exact rb ρ1 σ σ' h1 H1 Q R1 (S.ext e1) w1
theorem Xg:QA X T E [] (λ_=>M.ret []):=⟨_,hZ,λρ _ _ h H Q R _ w=>W.here w R .nil⟩
theorem Xf(ha:QE X T E e m)(hr:QA X T E es mr)(hs:aL e=true):QA X T E (e::es) (λσ=>uw (m σ) (mr σ)):=by obtain⟨ta,pa,ra⟩:=ha;obtain⟨tr,pr,rr⟩:=hr;refine⟨_,gB pa pr (bH hs),λρ σ σ' h H Q R S w=>ra ρ σ σ' h H _ R S (W.bind w λρ1 x x' h1 H1 e1 R1 q1 w1=>?_)⟩;exact rr ρ1 σ σ' h1 H1 _ R1 (S.ext e1) (W.bind w1 λρ2 xs bI h2 H2 e2 R2 q2 w2=>W.here w2 R2 (.cons (q1.ext e2) q2))
theorem Vw{ρ:List Addr}{p:Addr}{H:Hp}{O:HO}(hp:H p=none):Ext ρ H (ρ++[p]) (aK H p O):=⟨λk z e=>by have hl:=(List.getElem?_eq_some_iff.mp e).1;rw[List.getElem?_append_left hl];exact e,(Ext.eP (ρ:=ρ) hp).tup,(Ext.eP (ρ:=ρ) hp).bO⟩
theorem pN{ρ:List Addr}{h:AH}{H:Hp}{xs:List AV}{bI:List V}{Q:VK}{p:Addr}(R:aN T ρ h H)(r:aO T ρ H xs bI)(hp:H p=none)(w:W T (aF T) (gA xs h) ρ H Q E):Q (.ref p) (aK H p (.lst bI)):=by obtain⟨R',ex⟩:=R.alloc (o:=.lst true xs) (O:=.lst bI) hp ⟨_,eF,r.ext (Vw hp)⟩;exact W.ok w ex R' (.ref (by rw[<- R.len];simp))
theorem tV{ρ:List Addr}{h:AH}{H:Hp}{xs:List AV}{bI:List V}{Q:VK}{p:Addr}(R:aN T ρ h H)(r:aO T ρ H xs bI)(hp:H p=none)(w:W T (aF T) (.ok (.tup xs) h) ρ H Q E):Q (.ref p) (aK H p (.tup bI)):=
 W.ok w (.eP hp) (R.keep hp) (.tup (.of eF) (r.ext (.eP hp)))
theorem Yh{k:Nat}(h:QA X T E es mr):QE X T E (.Tuple es k pos) (λσ=>pf (mr σ)):=by obtain⟨tr,pr,rr⟩:=h;refine⟨_,Vb pr,λρ σ σ' h H Q R S w=>rr ρ σ σ' h H _ R S (W.bind w λρ1 xs bI h1 H1 e1 R1 q1 w1=>?_)⟩;obtain⟨hz,w1⟩:=lL w1;exact⟨by rw[<- q1.length];exact hz,λp hp=>tV R1 q1 hp w1⟩
theorem Xw(h:QA X T E es mr):QE X T E (.List es pos) (λσ=>nI (mr σ)):=by obtain⟨tr,pr,rr⟩:=h;refine⟨_,Uv pr,λρ σ σ' h H Q R S w=>rr ρ σ σ' h H _ R S (W.bind w λρ1 xs bI h1 H1 e1 R1 q1 w1=>?_)⟩;obtain⟨hz,w1⟩:=lL w1;exact⟨by rw[<- q1.length];exact hz,λp hp=>pN R1 q1 hp w1⟩
def Dm(T:Tab)(g:List AV->M AV):Sp:=λvs H Q E=>∃ρ h args,aN T ρ h H/\aO T ρ H args vs/\W T (aF T) (g args h) ρ H Q E
structure Fn(X:Cx)(T:Tab)(E:XK)(x:Str)(g:List AV->M AV):Prop where
 ex:∃(k:Nat) (f:Addr) (fd:FuncData) (ps:List Str),dW X.prog X.w X.K X.mg X.base (cN X.prog X.w) k f fd ps (Dm T g)/\cM (k+1) X.A/\X.mg x=some (.ref f)/\W.keepIn X.K (.ref f)=true/\Binds X.K fd ps []/\sY (cN X.prog X.w) X E
theorem Xn{x:Str} {p:Pos} {g:List AV->M AV} (F:Fn X T E x g) (hg:Gl X x) (hd:(x==("__debug__":Str))=false):QE X T E (.Call (.Name x p) [] [] pos) (λ_=>g []):=by obtain⟨k,f,fd,ps,F,hr,hm,hk,hb,hx⟩:=F.ex;exact⟨_,Uo F (hr.mono (Nat.le_succ _)) hg hm hk hb .nil hx hd,λρ σ σ' h H Q R S w=>⟨ρ,h,[],R,.nil,w⟩⟩
theorem Xm{x:Str} {p:Pos} {g:List AV->M AV} (F:Fn X T E x g) (hg:Gl X x) (ha:QA X T E (e::es) mr) (hs:(e::es).all aL=true) (hd:(x==("__debug__":Str))=false):QE X T E (.Call (.Name x p) (e::es) [] pos) (λσ=>(mr σ).bind g):=by obtain⟨k,f,fd,ps,F,hr,hm,hk,hb,hx⟩:=F.ex;obtain⟨tr,pr,rr⟩:=ha;rw[List.all_cons,Bool.and_eq_true]at hs;refine⟨_,Um F (hr.mono (Nat.le_succ _)) hg hm hk hb .nil hx pr hd (bH hs.1) (rZ hs.2),λρ σ σ' h H Q R S w=>rr ρ σ σ' h H _ R S (W.bind w λρ1 xs bI h1 H1 e1 R1 q1 w1=>?_)⟩;rw[List.append_nil];exact⟨ρ1,h1,xs,R1,q1,w1⟩
theorem aO.flat{ρ:List Addr}{H:Hp}{xs:List AV}{ys:List V}(r:aO T ρ H xs ys):∀(k:Nat),aO T ρ H (List.replicate k xs).flatten (List.replicate k ys).flatten
 |0=>.nil
 |k+1=>by rw[List.replicate_succ,List.replicate_succ,List.flatten_cons,List.flatten_cons];exact r.append (aO.flat r k)
theorem Tr:bF X T E (binaryOp .Mult) rB:=by
 obtain⟨r0,p0,q0⟩:=(kI Sj λ_ _ h=>Qr h:bF X T E (binaryOp .Mult) (fV kH (·*·)));refine⟨_,p0.or (Ss.or Si),λρ h H x y x' y' Q R rx ry w=>?_⟩;cases x with
 |str z=>
  cases y with
  |int k=>
   cases rx;cases ry;simp only[rB]at w;by_cases hz:z.length<=1000/\0<=k/\k<=1000/\(Txt.mul z k).length<=sizeLine
   .rw[if_pos hz]at w;exact .inr (.inr ⟨z,k,rfl,rfl,hz.1,hz.2.1,hz.2.2.1,hz.2.2.2,W.here w R (.str _)⟩)
   .rw[if_neg hz]at w;exact w.elim
  |_=>exact w.elim
 |ref n=>
  refine .inr ?_;refine .inl ?_;cases y with
  |int k=>
   cases ry;cases rx with
   |@ref _ a q=>
    simp only[rB]at w;cases o:h.ob n with
    |none=>simp only[o]at w;exact w.elim|some u=>
     simp only[o]at w;cases u with
     |lst m xs=>
      cases m with
      |false=>exact w.elim|true=>
       dsimp only at w;by_cases hz:0<=k/\xs.length*k.toNat<=sizeLine/\k<2 ^ 63
       .rw[if_pos hz]at w;obtain⟨ys,h1,h2⟩:=R.obj n _ a o q;refine⟨a,k,ys,rfl,rfl,h1,by omega,hz.2.2,by rw[<- h2.length];exact hz.2.1,λp hp=>?_⟩;exact pN R (h2.flat _) hp w
       .rw[if_neg hz]at w;exact w.elim
     |_=>exact w.elim
  |_=>exact w.elim
 |_=>exact .inl (q0 ρ h H _ _ _ _ Q R rx ry w)
end
inductive Out where
 |nx (σ:aA)|ret (v:AV)|brk (σ:aA)|cnt (σ:aA)
inductive cQ where
 |nx (σ:L2.St)|ret (v:V)|brk (σ:L2.St)|cnt (σ:L2.St)
def RO(T:Tab):Rl Out cQ:=λρ H a b=>match a,b with
 |.nx σ,.nx σ'=>aR T ρ H σ σ'
 |.ret v,.ret v'=>aF T ρ H v v'
 |.brk σ,.brk σ'=>aR T ρ H σ σ'
 |.cnt σ,.cnt σ'=>aR T ρ H σ σ'
 |_,_=>False
def dJ(D:Ends):cQ->Hp->Prop
 |.nx σ=>D.nx σ
 |.ret v=>D.rt v
 |.brk σ=>D.bk σ
 |.cnt σ=>D.ct σ
def QS(X:Cx)(T:Tab)(E:XK)(st:Stmt)(m:aA->M Out):Prop:=
 ∃t,PS X st t/\∀ρ σ σ' h H D,aN T ρ h H->aR T ρ H σ σ'->W T (RO T) (m σ h) ρ H (dJ D) E->t D σ' H
def mI(X:Cx)(T:Tab)(E:XK)(st:List Stmt)(m:aA->M Out):Prop:=
 ∃t,iL X st t/\∀ρ σ σ' h H D,aN T ρ h H->aR T ρ H σ σ'->W T (RO T) (m σ h) ρ H (dJ D) E->t D σ' H
def QG(X:Cx)(T:Tab)(E:XK)(tg:Expr)(g:AV->aA->M aA):Prop:=
 ∃t,PG X tg t/\∀ρ v v' σ σ' h H Q,aN T ρ h H->aR T ρ H σ σ'->aF T ρ H v v'->W T (aR T) (g v σ h) ρ H Q E->t v' σ' H Q
def qL(X:Cx)(T:Tab)(E:XK)(vW:List Expr)(g:List AV->aA->M aA):Prop:=
 ∃t,sX X vW t/\∀ρ vs vs' σ σ' h H Q,aN T ρ h H->aR T ρ H σ σ'->aO T ρ H vs vs'->W T (aR T) (g vs σ h) ρ H Q E->t vs' σ' H Q
def Cw(m:M Out)(k:aA->M Out):M Out:=m.bind λo=>match o with
 |.nx σ=>k σ
 |.ret v=>M.ret (.ret v)
 |.brk σ=>M.ret (.brk σ)
 |.cnt σ=>M.ret (.cnt σ)
section
variable {X:Cx}{T:Tab}{E:XK}{a b c e tg:Expr}{es:List Expr}{ma mb mc m:aA->M AV}{mt:aA->M Bool}{ms mk:aA->M Out}{pos:Pos}{st:Stmt}{sts rest:List Stmt}{g:AV->aA->M aA}{gs:List AV->aA->M aA}
theorem cO:QS X T E st (λ_=>M.bad):=⟨_,Wc,λ_ _ _ _ _ _ _ _ w=>w⟩
theorem CD:mI X T E [] (λσ=>M.ret (.nx σ)):=⟨_,uG,λρ σ σ' h H D R S w=>W.here (b:=cQ.nx σ') w R S⟩
theorem CC(h1:QS X T E st ms)(h2:mI X T E rest mk):mI X T E (st::rest) (λσ=>Cw (ms σ) mk):=by
 obtain⟨t,p,r⟩:=h1;obtain⟨u,q,s⟩:=h2;refine⟨_,uF p q,λρ σ σ' h H D R S w=>r ρ σ σ' h H _ R S (W.bind w λρ1 o o' h1 H1 e1 R1 q1 w1=>?_)⟩;cases o with
 |nx σ1=>cases o' with
  |nx σ1'=>exact s ρ1 σ1 σ1' h1 H1 D R1 q1 w1|_=>exact q1.elim
 |ret v=>cases o' with
  |ret v'=>exact(W.here (Q:=dJ D) (b:=cQ.ret v') w1 R1 q1:D.rt v' H1)|_=>exact q1.elim
 |brk σ1=>cases o' with
  |brk σ1'=>exact(W.here (Q:=dJ D) (b:=cQ.brk σ1') w1 R1 q1:D.bk σ1' H1)|_=>exact q1.elim
 |cnt σ1=>cases o' with
  |cnt σ1'=>exact(W.here (Q:=dJ D) (b:=cQ.cnt σ1') w1 R1 q1:D.ct σ1' H1)|_=>exact q1.elim
theorem Bt:QS X T E (.Pass pos) (λσ=>M.ret (.nx σ)):=⟨_,Wh,λρ σ σ' h H D R S w=>W.here (b:=cQ.nx σ') w R S⟩
theorem BR:QS X T E (.Break pos) (λσ=>M.ret (.brk σ)):=⟨_,Vx,λρ σ σ' h H D R S w=>W.here (b:=cQ.brk σ') w R S⟩
theorem BS:QS X T E (.Continue pos) (λσ=>M.ret (.cnt σ)):=⟨_,Vy,λρ σ σ' h H D R S w=>W.here (b:=cQ.cnt σ') w R S⟩
theorem BU(he:QE X T E e m)(hs:aL e=true)(hlc:kF e=false):QS X T E (.Expr e pos) (λσ=>(m σ).bind λ_=>M.ret (.nx σ)):=by obtain⟨t,p,r⟩:=he;exact⟨_,Aw p (vO hs hlc),λρ σ σ' h H D R S w=>r ρ σ σ' h H _ R S (W.bind w λρ1 x x' h1 H1 e1 R1 q1 w1=>W.here (b:=cQ.nx σ') w1 R1 (S.ext e1))⟩
theorem Bu(he:QE X T E e m):QS X T E (.Return (some e) pos) (λσ=>(m σ).bind λv=>M.ret (.ret v)):=by obtain⟨t,p,r⟩:=he;exact⟨_,Ax p,λρ σ σ' h H D R S w=>r ρ σ σ' h H _ R S (W.bind w λρ1 x x' h1 H1 e1 R1 q1 w1=>W.here (b:=cQ.ret x') w1 R1 q1)⟩
theorem Bv:QS X T E (.Return none pos) (λ_=>M.ret (.ret .aC)):=⟨_,Wk,λρ σ σ' h H D R S w=>W.here (b:=cQ.ret .aC) w R .aC⟩
theorem BW(hc:QT X T E c mt)(ha:mI X T E sts ms)(hb:mI X T E rest mk):QS X T E (.If c sts rest pos) (λσ=>yF (mt σ) (ms σ) (mk σ)):=by
 obtain⟨tc,pc,rc⟩:=hc;obtain⟨ta,pa,ra⟩:=ha;obtain⟨tb,pb,rb⟩:=hb;refine⟨_,Wb pc pa pb,λρ σ σ' h H D R S w=>rc ρ σ σ' h H _ R S (W.bind w λρ1 d d' h1 H1 e1 R1 q1 w1=>?_)⟩;have q1':d=d':=q1;subst q1';cases d with
 |true=>exact ra ρ1 σ σ' h1 H1 D R1 (S.ext e1) w1|false=>exact rb ρ1 σ σ' h1 H1 D R1 (S.ext e1) w1
theorem lU:QG X T E tg (λ_ _=>M.bad):=⟨λ_ _ _ _=>False,λ_ _ _ _ _ _ _ _ _ h=>h.elim,λ_ _ _ _ _ _ _ _ _ _ _ w=>w⟩
theorem zH{i:Nat}{x:Str}(hN:X.N.Nodup)(hi:X.N[i]?=some x)(hx:kX X.env.scope x)(hf:X.fn x=true\/X.env.scope.names.lookup x=some .local):QG X T E (.Name x pos) (λv σ=>M.ret (σ.set i (some v))):=
 ⟨_,Ve hN hi hx hf,λρ v v' σ σ' h H Q R S r w=>W.here w R (S.set r i)⟩
def gu(vs:List AV)(σ:aA):M aA:=match vs with
 |[]=>M.ret σ
 |_=>M.bad
def gr(g:AV->aA->M aA)(gs:List AV->aA->M aA)(vs:List AV)(σ:aA):M aA:=match vs with
 |v::r=>(g v σ).bind λσ1=>gs r σ1
 |[]=>M.bad
def NV(n:Nat)(gs:List AV->aA->M aA)(v:AV)(σ:aA):M aA:=λh=>match v with
 |.tup xs=>if xs.length=n then gs xs σ h else .bad
 |.ref k=>match h.ob k with
  |some (.lst _ xs)=>if xs.length=n then gs xs σ h else .bad
  |_=>.bad
 |_=>.bad
theorem Bf:qL X T E [] gu:=⟨_,Vi,λρ vs vs' σ σ' h H Q R S r w=>by
 cases r with
 |nil=>exact⟨rfl,W.here w R S⟩|cons _ _=>exact w.elim⟩
def gF:Expr->Bool
 |.Name ..=>true | .Tuple ..=>true | .Subscript ..=>true | .Attribute ..=>true
 |_=>false
theorem bh{t:Expr}{ts:List Expr}{env:Env}(h:gF t=true):assignEach (t::ts) env=(false,assign t env)::assignEach ts env:=by cases t<;>first|rfl|cases h
theorem Be(h1:QG X T E tg g)(h2:qL X T E es gs)(ht:gF tg=true):qL X T E (tg::es) (gr g gs):=by
 obtain⟨t,p,r⟩:=h1;obtain⟨u,q,s⟩:=h2;refine⟨_,Vh p q (by rw[bh ht];rfl),λρ vs vs' σ σ' h H Q R S rv w=>?_⟩;cases rv with
 |nil=>exact w.elim|cons r1 rs=>exact⟨_,_,rfl,r ρ _ _ σ σ' h H _ R S r1 (W.bind w λρ1 σ1 σ1' h1 H1 e1 R1 q1 w1=>s ρ1 _ _ σ1 σ1' h1 H1 Q R1 q1 (rs.ext e1) w1)⟩
theorem Kw{ts:List Expr}{env:Env}(h:ts.all gF=true):(assignEach ts env).length=ts.length/\(assignEach ts env).findIdx? (·.1)=none:=by
 induction ts with
 |nil=>exact⟨rfl,rfl⟩|cons t ts ih=>rw[List.all_cons,Bool.and_eq_true]at h;rw[bh h.1];obtain⟨h1,h2⟩:=ih h.2;refine⟨by rw[List.length_cons,List.length_cons,h1],?_⟩;rw[List.findIdx?_cons,h2];rfl
end
section
variable {prog:Program}{w:World}{A:Around}{E:Value->Shared->Prop}{s:Shared}
theorem vm{it l:Addr}{items:Array Value}(hne:l≠it):∀(n i:Nat) (s:Shared) (Q:List Value->Shared->Prop),s.heap.IsListIter it l i->s.heap.IsList l items->i+n<=items.size ->
  (∀h',h'.IsListIter it l (i+n)->Heap.SameBut it s.heap h'->Q ((items.toList.drop i).take n) { s with heap:=h' })->wpAny (model prog w) A (draw (.ref it) n) Q E s
 |0,i,s,Q,hit,_,_,hQ=>by show wpAny _ _ (pure []) Q E s;exact wpAny_pure (by simpa using hQ s.heap hit (Heap.SameBut.refl ..))
 |n+1,i,s,Q,hit,ht,hle,hQ=>by
  have hlt:i<items.size:=by omega
  show wpAny _ _ (pyNext (.ref it)>>=_) Q E s;refine wpAny_bind (wpAny_pyNext_list_item hit ht (x:=items[i]) (by simp[hlt]) λh₁ hit₁ hs₁=>?_);refine wpAny_bind (wpAny_holding (vm hne n (i+1) _ _ hit₁ (ht.extBut hs₁.extBut hne) (by omega) λh₂ hit₂ hs₂=>wpAny_pure ?_));have hd:items.toList.drop i=items[i]::items.toList.drop (i+1):=by simp[List.drop_eq_getElem_cons,hlt]
  have:=hQ h₂ (by rw[show i+(n+1)=i+1+n by omega];exact hit₂) (hs₁.trans hs₂);rw[hd,List.take_succ_cons]at this;exact this
theorem IV{t:Addr}{items:Array Value}{Q:List Value->Shared->Prop}(hh:A.handled=none)(ht:s.heap.IsList t items)
  (hQ:∀h',Heap.ExtBut s.heap.objs.size s.heap h'->Q items.toList { s with heap:=h' }):wpAny (model prog w) A (unpackItems (.ref t) items.size none) Q E s:=by
 have hlt:t≠s.heap.objs.size:=by obtain⟨o,ho,_⟩:=ht;exact Nat.ne_of_lt (Heap.lt_size ho)
 unfold unpackItems;refine wpAny_bind ?_
 .unfold notIterableAtAll;refine wpAny_bind (wpAny_specialOf ht.typeIs PySem.slot_list_iter.lookup ?_);refine wpAny_pure ?_;simp only[Bool.false_eq_true,if_false];refine wpAny_bind (wpAny_holding (wpAny_pyIter_list ht ?_));have ht0:(s.heap.push { cls:=.type "list_iterator",data:=.fields #[.ref t,.int 0 0] }).IsList t items:=ht.at λo e=>Heap.get?_push_of_some _ e;refine wpAny_bind (wpAny_holding (vm hlt items.size 0 _ _ ⟨_,Heap.get?_push_size _ rfl,rfl,rfl⟩ ht0 (by omega) λh₁ hit₁ hs₁=>?_));have hall:List.take items.size (List.drop 0 items.toList)=items.toList:=by rw[List.drop_zero];exact List.take_of_length_le (by simp)
  rw[hall];rw[if_neg (by simp)];have ht₁:h₁.IsList t items:=ht0.extBut hs₁.extBut hlt;refine wpAny_bind (wpAny_holding (wpAny_pyNext_list_end hh hit₁ ht₁ (by simp) λh₂ he₂=>?_));simp only[Option.isSome_none,Bool.false_eq_true,if_false];refine wpAny_pure (hQ h₂ λb o hb e=>he₂ b o hb (hs₁.extBut b o hb (Heap.get?_push_of_some _ e)))
theorem Hh{env:Env}{elts:List Expr}{x1}{pos:Pos}{t:Addr}{items:Array Value}{Q:Unit->Shared->Prop}(hh:A.handled=none)(ht:s.heap.IsList t items)
  (hn:(assignEach elts env).length=items.size) (hstar:(assignEach elts env).findIdx? (·.1)=none)
  (h:∀h',Heap.ExtBut s.heap.objs.size s.heap h'->wpAny (model prog w) A (assignInOrder ((assignEach elts env).map (·.2)) items.toList) Q E { s with heap:=h' }) :
  wpAny (model prog w) A (assign (.Tuple elts x1 pos) env (.ref t)) Q E s:=by
 rw[assign_Tuple];refine wpAny_bind (wpAny_standAt ?_);unfold unpack;rw[hn,hstar];exact wpAny_bind (wpAny_holding (IV hh ht h))
end
section
variable {X:Cx}{T:Tab}{E:XK}{a b c e tg:Expr}{es:List Expr}{ma mb mc m:aA->M AV}{mt:aA->M Bool}{ms mk:aA->M Out}{pos:Pos}{st:Stmt}{sts rest:List Stmt}{g:AV->aA->M aA}{gs:List AV->aA->M aA}
def Mt(K:W.Frag)(n:Nat)(t:oM):TG:=λv σ H Q=>∃a xs,v = .ref a/\(bA K H a xs\/bG K H a xs)/\xs.length=n/\t xs σ H Q
theorem Vf{k:Nat}{t:oM}(hc:X.calm=true)(h:sX X es t)(hs:es.all gF=true):PG X (.Tuple es k pos) (Mt X.K es.length t):=by
 obtain⟨hn,hst⟩:=Kw (env:=X.env) hs;intro pins s σ H v u Q I r hw;obtain⟨a,xs,e1,hq,hl,hw⟩:=hw;subst e1;cases r;rcases hq with hq|hq
 .obtain⟨its,rv,ht,hz⟩:=I.list hq;refine Hh (I.ok.hd hc) ht.isList (by simp[hn,<- hl,rv.length]) hst λh' hx=>?_;have I1:Inv X pins σ H { s with heap:=h' }:=I.kept (t':=s.toks) λb o e=>hx b o (Nat.ne_of_lt (Heap.lt_size e)) e;exact h pins _ σ H xs _ Q I1 (by simpa using rv) hw
 .obtain⟨its,rv,ht,hz⟩:=I.tuple hq;refine assign_Tuple_tuple (I.ok.hd hc) ht (by simp[hn,<- hl,rv.length]) hst λh' hx=>?_;have I1:Inv X pins σ H { s with heap:=h' }:=I.kept (t':=s.toks) λb o e=>hx b o (Nat.ne_of_lt (Heap.lt_size e)) e;exact h pins _ σ H xs _ Q I1 (by simpa using rv) hw
def pD(n:Nat)(gs:List AV->aA->M aA)(v:AV)(σ:aA):M aA:=λh=>match cK h v with
 |some xs=>if xs.length=n then gs xs σ h else .bad
 |none=>.bad
theorem Bd(hK:X.K=T.K)(hc:X.calm=true){k:Nat}(h:qL X T E es gs)(hs:es.all gF=true):QG X T E (.Tuple es k pos) (pD es.length gs):=by
 obtain⟨t,p,r⟩:=h;refine⟨_,Vf hc p hs,λρ v v' σ σ' h H Q R S rv w=>?_⟩;unfold pD at w;cases q:cK h v with
 |none=>rw[q]at w;exact w.elim|some xs=>
  rw[q]at w;by_cases hl:xs.length=es.length
  .simp only[if_pos hl]at w;obtain⟨p,ys,rfl,hq,hr⟩:=rY R rv q;exact⟨p,ys,rfl,by rw[hK];exact hq,by rw[<- hr.length];exact hl,r ρ xs ys σ σ' h H Q R S hr w⟩
  .simp only[if_neg hl]at w;exact w.elim
def mZ(o i v:AV):M Unit:=λh=>match o,i with
 |.ref n,.int k=>match h.ob n with
  |some (.lst true xs)=>match fX xs.length k with
   |some j=>.ok () (h.put n (.lst true (xs.set j v)))
   |none=>.bad
  |_=>.bad
 |_,_=>.bad
noncomputable abbrev xn:=mZ
theorem Yl(hu:X.A.units+1<cLine)(ha:QE X T E a ma)(hb:QE X T E b mb)(hs:aL b=true):QG X T E (.Subscript a b pos) (λv σ=>(ma σ).bind λo=>(mb σ).bind λi=>(xn o i v).bind λ_=>M.ret σ):=by
 obtain⟨ta,pa,ra⟩:=ha;obtain⟨tb,pb,rb⟩:=hb;refine⟨_,Vg pa pb EB (by intro v;cases b<;>first|rfl|cases hs),λρ v v' σ σ' h H Q R S rv w=>?_⟩;refine mB ra rb R S w λρ2 x y x' y' h2 H2 e2 R2 q1 q2 S2 w2=>?_;have rv2:=rv.ext e2;cases x with
 |ref n=>
  cases y with
  |int k=>
   cases q2;cases q1 with
   |@ref _ p q=>
    cases o:h2.ob n with
    |none=>simp only[M.bind,mZ,o]at w2;exact w2.elim|some u=>
     cases u with
     |lst mu xs=>
      cases mu with
      |true=>
       obtain⟨ys,g1,r1⟩:=R2.obj n _ p o q;cases j:fX xs.length k with
       |none=>simp only[M.bind,mZ,o,j]at w2;exact w2.elim|some jj=>
        simp only[M.bind,mZ,o,j]at w2;obtain⟨R3,e3⟩:=R2.write (o':=.lst true (xs.set jj v)) (O':=.lst (ys.set jj v')) o rfl rfl q g1 (λ_ z=>by cases z) (λ_ _ z=>by cases z) ⟨_,eF,by
         have:Ext ρ2 H2 ρ2 (aK H2 p (.lst (ys.set jj v'))):=⟨λ_ _ z=>z,λb xs z=>by
          rw[aT (rM z g1 λw=>by cases w)];exact z,λb x u z=>by
          rw[aT (rM z g1 λw=>by cases w)];exact z⟩
         exact(aO.set rv2 jj r1).ext this⟩
        exact⟨p,ys,k,jj,rfl,rfl,g1,by rw[<- r1.length];exact j,W.ok w2 e3 R3 (S2.ext e3)⟩
      |false=>simp only[M.bind,mZ,o]at w2;exact w2.elim
     |bV _=>simp only[M.bind,mZ,o]at w2;exact w2.elim|ins _ _=>simp only[M.bind,mZ,o]at w2;exact w2.elim|xo _=>simp only[M.bind,mZ,o]at w2;exact w2.elim
  |_=>exact w2.elim
 |_=>exact w2.elim
theorem GK{env:Env}{tg:Expr}(h:∀es k p,tg = .Tuple es k p->∀vs k2 p2,e ≠ .Tuple vs k2 p2)(h2:gF tg=true):swappedStores [tg] e env=pure none:=by
 cases tg with
 |Tuple es k p=>
  cases e with
  |Tuple vs k2 p2=>exact absurd rfl (h es k p rfl vs k2 p2)|_=>rfl
 |_=>first|cases h2;done|(cases e<;>rfl)
theorem ko(he:QE X T E e m)(hg:QG X T E tg g)(hs:aL e=true)(hlc:kF e=false)(ht:gF tg=true)(hw:swappedStores [tg] e X.env=pure none):QS X T E (.Assign [tg] e pos) (λσ=>(m σ).bind λv=>(g v σ).bind λσ1=>M.ret (.nx σ1)):=by obtain⟨te,p,r⟩:=he;obtain⟨t,q,s⟩:=hg;refine⟨_,Av p q (vO hs hlc) hw (by rw[bh ht];rfl),λρ σ σ' h H D R S w=>r ρ σ σ' h H _ R S (W.bind w λρ1 x x' h1 H1 e1 R1 q1 w1=>?_)⟩;exact s ρ1 x x' σ σ' h1 H1 _ R1 (S.ext e1) q1 (W.bind w1 λρ2 σ2 σ2' h2 H2 e2 R2 q2 w2=>W.here (Q:=dJ D) (b:=cQ.nx σ2') w2 R2 q2)
theorem BQ(he:QE X T E e m)(hg:QG X T E tg g)(hs:swapsWithSole [tg] e pos.line X.env=pure false)(ht:gF tg=true)(hw:swappedStores [tg] e X.env=pure none):QS X T E (.Assign [tg] e pos) (λσ=>(m σ).bind λv=>(g v σ).bind λσ1=>M.ret (.nx σ1)):=by obtain⟨te,p,r⟩:=he;obtain⟨t,q,s⟩:=hg;refine⟨_,Av p q hs hw (by rw[bh ht];rfl),λρ σ σ' h H D R S w=>r ρ σ σ' h H _ R S (W.bind w λρ1 x x' h1 H1 e1 R1 q1 w1=>?_)⟩;exact s ρ1 x x' σ σ' h1 H1 _ R1 (S.ext e1) q1 (W.bind w1 λρ2 σ2 σ2' h2 H2 e2 R2 q2 w2=>W.here (Q:=dJ D) (b:=cQ.nx σ2') w2 R2 q2)
theorem Bs(he:QE X T E e m)(hg:QG X T E tg g)(hs:aL e=true)(hlc:kF e=false)(ht:gF tg=true)(hw:∀es k p,tg = .Tuple es k p->∀vs k2 p2,e ≠ .Tuple vs k2 p2):QS X T E (.Assign [tg] e pos) (λσ=>(m σ).bind λv=>(g v σ).bind λσ1=>M.ret (.nx σ1)):=ko he hg hs hlc ht (GK hw ht)
abbrev cF:=Nat->AH->Option (Option AV)
def RI(T:Tab):Rl cF It:=λρ H it J=>∀ρ' h' H' i,Ext ρ H ρ' H'->aN T ρ' h' H' ->
 (it i h'=some none->J.stop i H')/\∀v,it i h'=some (some v)->J.go i H'/\∀x H2,J.wI i H' x H2->∃ρ2,Ext ρ' H' ρ2 H2/\aN T ρ2 h' H2/\aF T ρ2 H2 v x
def QI(X:Cx)(T:Tab)(E:XK)(tg aZ:Expr)(mi:aA->M cF):Prop:=
 ∃wi,PI X tg aZ wi/\∀ρ σ σ' h H R,aN T ρ h H->aR T ρ H σ σ'->W T (RI T) (mi σ h) ρ H R E->wi σ' H R
def gK(it:cF)(g:AV->aA->M aA)(body:aA->M Out):Nat->Nat->aA->M Out
 |0,_,_=>M.bad
 |f+1,i,σ=>λh=>match it i h with
  |none=>.bad
  |some none=>.ok (.nx σ) h
  |some (some v)=>((g v σ).bind λσ1=>(body σ1).bind λo=>match o with
   |.nx σ2=>gK it g body f (i+1) σ2
   |.cnt σ2=>gK it g body f (i+1) σ2
   |.brk σ2=>M.ret (.nx σ2)
   |.ret v=>M.ret (.ret v)) h
theorem qw:∃n:Nat,n=1000000:=⟨_,rfl⟩
def FU:Nat:=qw.choose
theorem jT:FU=1000000:=qw.choose_spec
theorem BV{aZ:Expr}{mi:aA->M cF}(hp:PassesOwn (model X.prog X.w) X.A X.env X.xe)(hc:X.calm=true)(hi:QI X T E tg aZ mi)(hg:QG X T E tg g)(hb:mI X T E sts ms)(hs:aL aZ=true) :
  QS X T E (.For tg aZ sts [] pos) (λσ=>(mi σ).bind λit=>gK it g ms FU 0 σ):=by
 obtain⟨wi,pi,ri⟩:=hi;obtain⟨t,q,s⟩:=hg;obtain⟨u,pb,rb⟩:=hb;refine⟨_,Wa hp hc pi q pb (λx=>lr hs),λρ0 σ0 σ0' h0 H0 D R0 S0 w0=>ri ρ0 σ0 σ0' h0 H0 _ R0 S0 (W.bind w0 λρ1 it J h1 H1 e1 R1 q1 w1=>?_)⟩;refine⟨λi m σ' H=>∃ρ σ h,Ext ρ1 H1 ρ H/\aN T ρ h H/\aR T ρ H σ σ'/\W T (RO T) (gK it g ms m i σ h) ρ H (dJ D) E,⟨FU,ρ1,σ0,h1,.refl,R1,S0.ext e1,w1⟩,?_⟩;rintro i m σ' H ⟨ρ,σ,h,e,R,S,w⟩
 cases m with
 |zero=>exact w.elim|succ f=>
  simp only[gK]at w;cases hit:it i h with
  |none=>rw[hit]at w;exact w.elim|some o=>
   cases o with
   |none=>rw[hit]at w;exact .inl ⟨(q1 ρ h H i e R).1 hit,W.here (Q:=dJ D) (b:=cQ.nx σ') w R S⟩
   |some v=>
    rw[hit]at w;obtain⟨go,yl⟩:=(q1 ρ h H i e R).2 v hit;refine .inr ⟨go,λσ2' H2=>∃ρ2 σ2 h2,Ext ρ1 H1 ρ2 H2/\aN T ρ2 h2 H2/\aR T ρ2 H2 σ2 σ2'/\W T (RO T) (gK it g ms f (i+1) σ2 h2) ρ2 H2 (dJ D) E,λσ2' H2 z=>⟨f,Nat.lt_succ_self f,z⟩,λx H2 y=>?_⟩;obtain⟨ρ2,e2,R2,rv⟩:=yl x H2 y;refine s ρ2 v x σ σ' h H2 _ R2 (S.ext e2) rv (W.bind (w.ext e2) λρ3 σ3 σ3' h3 H3 e3 R3 S3 w3=>?_);refine rb ρ3 σ3 σ3' h3 H3 _ R3 S3 (W.bind w3 λρ4 o o' h4 H4 e4 R4 q4 w4=>?_);have eE:=((e.trans e2).trans e3).trans e4;cases o with
    |nx σ4=>cases o' with
     |nx σ4'=>exact⟨ρ4,σ4,h4,eE,R4,q4,w4⟩|_=>exact q4.elim
    |cnt σ4=>cases o' with
     |cnt σ4'=>exact⟨ρ4,σ4,h4,eE,R4,q4,w4⟩|_=>exact q4.elim
    |brk σ4=>cases o' with
     |brk σ4'=>exact(W.here (Q:=dJ D) (b:=cQ.nx σ4') w4 R4 q4:D.nx σ4' H4)|_=>exact q4.elim
    |ret v=>cases o' with
     |ret v'=>exact(W.here (Q:=dJ D) (b:=cQ.ret v') w4 R4 q4:D.rt v' H4)|_=>exact q4.elim
end
section
variable {prog:Program}{w:World}{A:Around}{E:Value->Shared->Prop}{s:Shared}
theorem Ww{it t:Addr}{i:Nat}{items:Array Value}{x:Value}{Q:Value->Shared->Prop}(hit:s.heap.IsTupleIter it t i)(ht:s.heap.IsTuple t items)(hx:items[i]?=some x)
  (hQ:∀h',h'.IsTupleIter it t (i+1)->Heap.SameBut it s.heap h'->Q x { s with heap:=h' }):wpAny (model prog w) A (Builtin.SmallTypes.nextOf (.ref it)) Q E s:=by
 obtain⟨o,ho,hc,hd⟩:=id hit;obtain⟨ol,hol,_,nl,hdl⟩:=ht;unfold Builtin.SmallTypes.nextOf;refine wpAny_bind (wpAny_callSpecial?_slot (name:=Str.ofString "__next__") hit.typeIs F.slot_tuple_iterator_next (wpAny_call_entry F.slot_tuple_iterator_next hit.typeIs F.entry_tuple_iterator_next ?_ (F.args_tuple_iterator_next_1 _)));show wpAny _ _ (field (.ref it) 0>>=_) _ _ s;refine wpAny_bind (wpAny_field ho hd (x:=.ref t) rfl ?_);show wpAny _ _ (if(Value.ref t==Value.none)=true then _ else _) _ _ s;rw[if_neg (show¬((Value.ref t==Value.none)=true) from Bool.false_ne_true)];show wpAny _ _ (field (.ref it) 1>>=_) _ _ s;refine wpAny_bind (wpAny_field ho hd (x:=.int i 0) rfl ?_);show wpAny _ _ (seqItems? (.ref t)>>=_) _ _ s;refine wpAny_bind (wpAny_seqItems hol hdl ?_);simp only[Int.toNat_natCast,hx];refine wpAny_bind (wpAny_setField ho hd (by simp) (wpAny_pure ⟨x,rfl,wpAny_pure (hQ _ ?_ (Heap.SameBut.update ..))⟩));exact⟨_,Heap.get?_update_self _ ho (Obj.isFreed_of_fields (Obj.data_mapFields hd _)),(Obj.cls_mapFields ..).trans hc,by rw[Obj.data_mapFields hd];simp[rawInt]⟩
theorem Wx{it t:Addr}{i:Nat}{items:Array Value}{Q:Value->Shared->Prop}(hh:A.handled=none)(hit:s.heap.IsTupleIter it t i)(ht:s.heap.IsTuple t items)(hx:items[i]?=none)
  (hE:∀h' e,Heap.ExtBut it s.heap h'->(∃o,h'.get? e=some o/\o.cls = .type "StopIteration")->E (.ref e) { s with heap:=h' }):wpAny (model prog w) A (Builtin.SmallTypes.nextOf (.ref it)) Q E s:=by
 obtain⟨o,ho,hc,hd⟩:=id hit;obtain⟨ol,hol,_,nl,hdl⟩:=ht;unfold Builtin.SmallTypes.nextOf;refine wpAny_bind (wpAny_callSpecial?_slot (name:=Str.ofString "__next__") hit.typeIs F.slot_tuple_iterator_next (wpAny_call_entry F.slot_tuple_iterator_next hit.typeIs F.entry_tuple_iterator_next ?_ (F.args_tuple_iterator_next_1 _)));show wpAny _ _ (field (.ref it) 0>>=_) _ _ s;refine wpAny_bind (wpAny_field ho hd (x:=.ref t) rfl ?_);show wpAny _ _ (if(Value.ref t==Value.none)=true then _ else _) _ _ s;rw[if_neg (show¬((Value.ref t==Value.none)=true) from Bool.false_ne_true)];show wpAny _ _ (field (.ref it) 1>>=_) _ _ s;refine wpAny_bind (wpAny_field ho hd (x:=.int i 0) rfl ?_);show wpAny _ _ (seqItems? (.ref t)>>=_) _ _ s;refine wpAny_bind (wpAny_seqItems hol hdl ?_);simp only[Int.toNat_natCast,hx];refine wpAny_bind (wpAny_rule (wpAny_bind (wpAny_setField ho hd (by simp) ?_)));show wpAny _ _ (newExc (.type "StopIteration") []>>=_) _ _ _;refine wpAny_bind ?_;simp only[newExc,newTuple];refine wpAny_bind (wpAny_newObj_type ?_ (by size_fits));refine wpAny_bind (m:=firstArgMember _ _) (wpAny_of_eq (a:=Value.none) (by first|rfl|(simp only[firstArgMember];rfl)) ?_);refine wpAny_newObj_type ?_ (by size_fits);simp only[raiseNew];refine wpAny_bind (wpAny_handled ?_);first|rw[show A.in1.handled=none from hh] | rw[hh]
 refine wpAny_bind (wpAny_pure (wpAny_throw ?_));exact hE _ _ (((Heap.SameBut.update ..).extBut.push _).push _) ⟨_,Heap.get?_push_size _ rfl,rfl⟩
end
structure dP(prog:Program)(w:World)(A:Around)(it l:Addr)(S:Nat->Heap->Prop)(items:Array Value):Prop where
 keep:∀k h h',S k h->(∀b,b=it\/b=l->∀o,h.get? b=some o->h'.get? b=some o)->S k h'
 live:∀k h,S k h->∃o,h.get? it=some o/\o.cls ≠ .type "zip"/\(∀v,o.data ≠ .cell v)
 item:∀k x (s:Shared) (Q:Value->Shared->Prop) (E:Value->Shared->Prop),S k s.heap->items[k]?=some x->(∀h',S (k+1) h'->Heap.SameBut it s.heap h'->Q x { s with heap:=h' })->wpAny (model prog w) A (Builtin.SmallTypes.nextOf (.ref it)) Q E s
 done:∀k (s:Shared) (Q:Value->Shared->Prop) (E:Value->Shared->Prop),S k s.heap->items[k]?=none->(∀h' e,Heap.ExtBut it s.heap h'->(∃o,h'.get? e=some o/\o.cls = .type "StopIteration")->E (.ref e) { s with heap:=h' })->wpAny (model prog w) A (Builtin.SmallTypes.nextOf (.ref it)) Q E s
theorem dP.list{prog:Program}{w:World}{A:Around}(hh:A.handled=none){it l:Addr}(hne:l≠it)(items:Array Value):dP prog w A it l (λk h=>h.IsListIter it l k/\h.IsList l items) items where
 keep:=λk h h' st hk=>⟨st.1.at λo e=>hk it (.inl rfl) o e,st.2.at λo e=>hk l (.inr rfl) o e⟩
 live:=λk h st=>let ⟨o,ho,hc,hd⟩:=st.1;⟨o,ho,by rw[hc];decide,λv z=>by rw[hd]at z;cases z⟩
 item:=λk x s Q E st hx hQ=>wpAny_nextOf_list_item st.1 st.2 hx λh' hit' hs'=>hQ h' ⟨hit',st.2.extBut hs'.extBut hne⟩ hs'
 done:=λk s Q E st hx hE=>wpAny_nextOf_list_end hh st.1 st.2 hx hE
theorem dP.tuple{prog:Program}{w:World}{A:Around}(hh:A.handled=none){it l:Addr}(hne:l≠it)(items:Array Value):dP prog w A it l (λk h=>h.IsTupleIter it l k/\h.IsTuple l items) items where
 keep:=λk h h' st hk=>⟨st.1.at λo e=>hk it (.inl rfl) o e,let ⟨o,e,r⟩:=st.2;⟨o,hk l (.inr rfl) o e,r⟩⟩
 live:=λk h st=>let ⟨o,ho,hc,hd⟩:=st.1;⟨o,ho,by rw[hc];decide,λv z=>by rw[hd]at z;cases z⟩
 item:=λk x s Q E st hx hQ=>Ww st.1 st.2 hx λh' hit' hs'=>hQ h' ⟨hit',let ⟨o,e,r⟩:=st.2;⟨o,hs'.extBut _ _ hne e,r⟩⟩ hs'
 done:=λk s Q E st hx hE=>Wx hh st.1 st.2 hx hE
section
variable {prog:Program}{w:World}{A:Around}{E:Value->Shared->Prop}{s:Shared}{z TI TO i1 i2 l1 l2:Addr}{S1 S2:Nat->Heap->Prop}{xs ys:Array Value}{k:Nat}{a b x y:Value}
theorem iM(P:dP prog w A i1 l1 S1 xs){h h':Heap}{c:Addr}(st:S1 k h)(e:Heap.ExtBut c h h')(n1:i1≠c)(n2:l1≠c):S1 k h':=P.keep k h h' st λb hb o q=>e b o (by rcases hb with rfl|rfl<;>assumption) q
theorem NQ{Q:Value->Shared->Prop}(D:ZipApart z TI TO i1 i2 l1 l2)(P1:dP prog w A i1 l1 S1 xs)(P2:dP prog w A i2 l2 S2 ys)(hz:IsZip s.heap z TI TO .none)(hTI:IsPair s.heap TI (.ref i1) (.ref i2))(hTO:IsPair s.heap TO a b)
  (h1:S1 k s.heap) (h2:S2 k s.heap) (hx:xs[k]?=some x) (hy:ys[k]?=some y)
  (hQ:∀h',IsZip h' z TI TO (rawInt s.heap.objs.size)->IsPair h' TO x y->S1 (k+1) h'->S2 (k+1) h'->IsPair h' s.heap.objs.size x y ->
   (∀c o,c≠z->c≠TO->c≠i1->c≠i2->s.heap.get? c=some o->h'.get? c=some o)->Q (.ref s.heap.objs.size) { s with heap:=h' }) :
  wpAny (model prog w) A (Builtin.«zip.__next__» ⟨[.ref z],[]⟩) (λfin s'=>∃v,fin = .done (.ret v)/\Q v s') E s:=by
 show wpAny _ _ (field (.ref z) 2>>=_) _ _ _;refine wpAny_bind (wpAny_field hz rfl (x:=.bool false) rfl ?_);show wpAny _ _ (field (.ref z) 3>>=_) _ _ _;refine wpAny_bind (wpAny_field hz rfl (x:=.ref TI) rfl (wpAny_bind (wpAny_seqItems hTI rfl ?_)));show wpAny _ _ (Builtin.SmallTypes.ownedTupleIsFree (.ref z)>>=_) _ _ _;refine wpAny_bind ?_;unfold Builtin.SmallTypes.ownedTupleIsFree;refine wpAny_bind (wpAny_field hz rfl (x:=.none) rfl (wpAny_pure ?_));simp only[if_true];refine wpAny_bind (wpAny_rule (wpAny_bind (wpAny_field hz rfl (x:=.ref TO) rfl (wpAny_bind (wpAny_setField_rec hz (by simp) λha za sa=>?_)))));replace za:IsZip ha z TI TO .ellipsis:=za
 refine wpAny_bind ?_;simp only[List.zipIdx_cons,List.zipIdx_nil,List.forIn_cons,List.forIn_nil];refine wpAny_bind (wpAny_bind (wpAny_onRaise ?_));show wpAny _ _ (Builtin.SmallTypes.nextOf (.ref i1)>>=_) _ _ _;refine wpAny_bind (P1.item k x _ _ _ (iM P1 h1 sa.extBut D.i1z D.l1z) hx λhb pb sb=>wpAny_pure ?_);have tb:IsPair hb TO a b:=sb.extBut _ _ D.TOi1 (sa.extBut _ _ D.TOz hTO);refine wpAny_bind (wpAny_seqItems tb rfl (wpAny_bind (wpAny_updateSeq_pair tb λhc tc sc=>?_)));replace tc:IsPair hc TO x b:=tc
 refine wpAny_bind (wpAny_letGo (wpAny_pure (wpAny_bind (wpAny_bind (wpAny_onRaise ?_)))));show wpAny _ _ (Builtin.SmallTypes.nextOf (.ref i2)>>=_) _ _ _;refine wpAny_bind (P2.item k y _ _ _ (iM P2 (iM P2 (iM P2 h2 sa.extBut D.i2z D.l2z) sb.extBut D.i12.symm D.l2i1) sc.extBut D.TOi2.symm D.l2TO) hy λhd pd sd=>wpAny_pure ?_);have td:IsPair hd TO x b:=sd.extBut _ _ D.TOi2 tc;refine wpAny_bind (wpAny_seqItems td rfl (wpAny_bind (wpAny_updateSeq_pair td λhe te se=>?_)));replace te:IsPair he TO x y:=te
 refine wpAny_bind (wpAny_letGo (wpAny_pure (wpAny_pure (wpAny_bind (wpAny_seqItems te rfl (wpAny_bind (wpAny_newTuple ?_)))))));have size:he.objs.size=s.heap.objs.size:=by rw[se.1,sd.1,sc.1,sb.1,sa.1]
 have ze:IsZip he z TI TO .ellipsis:=se.extBut _ _ D.TOz.symm (sd.extBut _ _ D.i2z.symm (sc.extBut _ _ D.TOz.symm (sb.extBut _ _ D.i1z.symm za)));have kept:∀c o,c≠z->c≠TO->c≠i1->c≠i2->s.heap.get? c=some o->he.get? c=some o:=λc o n1 n2 n3 n4 e=>se.extBut _ _ n2 (sd.extBut _ _ n4 (sc.extBut _ _ n2 (sb.extBut _ _ n3 (sa.extBut _ _ n1 e))));have pe:S1 (k+1) he:=iM P1 (iM P1 (iM P1 pb sc.extBut D.TOi1.symm D.l1TO) sd.extBut D.i12 D.l1i2) se.extBut D.TOi1.symm D.l1TO;have re:S2 (k+1) he:=iM P2 pd se.extBut D.TOi2.symm D.l2TO;have zlt:z<he.objs.size:=Heap.lt_size ze;show wpAny _ _ (Builtin.SmallTypes.ownedTupleHandOut (.ref z) (.ref he.objs.size)>>=_) _ _ _;refine wpAny_bind ?_;unfold Builtin.SmallTypes.ownedTupleHandOut;have zf:IsZip (he.push { cls:=.type "tuple",data:=.seq #[x,y] }) z TI TO .ellipsis:=Heap.get?_push_of_some _ ze;refine wpAny_bind (wpAny_setField_rec zf (by simp) λhg zg sg=>?_);replace zg:IsZip hg z TI TO (rawInt he.objs.size):=zg
 refine wpAny_setField_rec zg (by simp) λhh zh sh=>?_;replace zh:IsZip hh z TI TO (rawInt he.objs.size):=zh
 have up:∀c o,c≠z->he.get? c=some o->hh.get? c=some o:=λc o n1 e=>sh.extBut _ _ n1 (sg.extBut _ _ n1 (Heap.get?_push_of_some _ e));have new:IsPair hh he.objs.size x y:=sh.extBut _ _ (Nat.ne_of_gt zlt) (sg.extBut _ _ (Nat.ne_of_gt zlt) (Heap.get?_push_size _ rfl));rw[size]at zh new;refine wpAny_pure ⟨_,rfl,?_⟩;show Q (.ref he.objs.size) _;rw[size];exact hQ hh zh (up _ _ D.TOz te) (P1.keep _ _ _ pe λc hc o e=>up c o (by rcases hc with rfl|rfl;exact D.i1z;exact D.l1z) e) (P2.keep _ _ _ re λc hc o e=>up c o (by rcases hc with rfl|rfl;exact D.i2z;exact D.l2z) e) new
  λc o n1 n2 n3 n4 e=>up c o n1 (kept c o n1 n2 n3 n4 e)
theorem NR{Q:Fin->Shared->Prop}(D:ZipApart z TI TO i1 i2 l1 l2)(P1:dP prog w A i1 l1 S1 xs)(P2:dP prog w A i2 l2 S2 ys)(hz:IsZip s.heap z TI TO .none)(hTI:IsPair s.heap TI (.ref i1) (.ref i2))(hTO:IsPair s.heap TO a b)
  (h1:S1 k s.heap) (h2:S2 k s.heap) (hend:xs[k]?=none\/ys[k]?=none)
  (hE:∀h' e,(∀c o,c≠z->c≠TO->c≠i1->c≠i2->s.heap.get? c=some o->h'.get? c=some o)->(∃o,h'.get? e=some o/\o.cls = .type "StopIteration")->E (.ref e) { s with heap:=h' }) :
  wpAny (model prog w) A (Builtin.«zip.__next__» ⟨[.ref z],[]⟩) Q E s:=by
 show wpAny _ _ (field (.ref z) 2>>=_) _ _ _;refine wpAny_bind (wpAny_field hz rfl (x:=.bool false) rfl ?_);show wpAny _ _ (field (.ref z) 3>>=_) _ _ _;refine wpAny_bind (wpAny_field hz rfl (x:=.ref TI) rfl (wpAny_bind (wpAny_seqItems hTI rfl ?_)));show wpAny _ _ (Builtin.SmallTypes.ownedTupleIsFree (.ref z)>>=_) _ _ _;refine wpAny_bind ?_;unfold Builtin.SmallTypes.ownedTupleIsFree;refine wpAny_bind (wpAny_field hz rfl (x:=.none) rfl (wpAny_pure ?_));simp only[if_true];refine wpAny_bind (wpAny_rule (wpAny_bind (wpAny_field hz rfl (x:=.ref TO) rfl (wpAny_bind (wpAny_setField_rec hz (by simp) λha za sa=>?_)))));replace za:IsZip ha z TI TO .ellipsis:=za
 refine wpAny_bind ?_;simp only[List.zipIdx_cons,List.zipIdx_nil,List.forIn_cons,List.forIn_nil];refine wpAny_bind (wpAny_bind (wpAny_onRaise ?_));show wpAny _ _ (Builtin.SmallTypes.nextOf (.ref i1)>>=_) _ _ _;have sa1:=iM P1 h1 sa.extBut D.i1z D.l1z;cases hx:xs[k]? with
 |none=>
  refine wpAny_bind (P1.done k _ _ _ sa1 hx λhb e sb he=>?_);obtain⟨oe,hoe,hce⟩:=he;have zb:IsZip hb z TI TO .ellipsis:=sb _ _ D.i1z.symm za;have ne:e≠z:=λq=>by subst q;rw[zb]at hoe;cases hoe;simp at hce
  exact wpAny_setField_rec zb (by simp) λhc _ sc=>hE hc e (λc o n1 _ n3 _ q=>sc.extBut _ _ n1 (sb _ _ n3 (sa.extBut _ _ n1 q))) ⟨oe,sc.extBut _ _ ne hoe,hce⟩
 |some x=>
  have hy:ys[k]?=none:=by rcases hend with q|q;rw[hx]at q;cases q;exact q
  refine wpAny_bind (P1.item k x _ _ _ sa1 hx λhb pb sb=>wpAny_pure ?_);have tb:IsPair hb TO a b:=sb.extBut _ _ D.TOi1 (sa.extBut _ _ D.TOz hTO);refine wpAny_bind (wpAny_seqItems tb rfl (wpAny_bind (wpAny_updateSeq_pair tb λhc tc sc=>?_)));refine wpAny_bind (wpAny_letGo (wpAny_pure (wpAny_bind (wpAny_bind (wpAny_onRaise ?_)))));show wpAny _ _ (Builtin.SmallTypes.nextOf (.ref i2)>>=_) _ _ _;refine wpAny_bind (P2.done k _ _ _ (iM P2 (iM P2 (iM P2 h2 sa.extBut D.i2z D.l2z) sb.extBut D.i12.symm D.l2i1) sc.extBut D.TOi2.symm D.l2TO) hy λhd e sd he=>?_);obtain⟨oe,hoe,hce⟩:=he;have zd:IsZip hd z TI TO .ellipsis:=sd _ _ D.i2z.symm (sc.extBut _ _ D.TOz.symm (sb.extBut _ _ D.i1z.symm za));have ne:e≠z:=λq=>by subst q;rw[zd]at hoe;cases hoe;simp at hce
  exact wpAny_setField_rec zd (by simp) λhf _ sf=>hE hf e (λc o n1 n2 n3 n4 q=>sf.extBut _ _ n1 (sd _ _ n4 (sc.extBut _ _ n2 (sb.extBut _ _ n3 (sa.extBut _ _ n1 q))))) ⟨oe,sf.extBut _ _ ne hoe,hce⟩
end
def fN(kd:Bool)(h:Heap)(it l:Addr)(k:Nat):Prop:=if kd=true then h.IsListIter it l k else h.IsTupleIter it l k
def gH(kd:Bool)(h:Heap)(l:Addr)(items:Array Value):Prop:=if kd=true then h.IsList l items else h.IsTuple l items
def gW(kd:Bool)(K:W.Frag)(H:Hp)(a:Addr)(xs:List V):Prop:=if kd=true then bA K H a xs else bG K H a xs
def fw(kd:Bool):String:=if kd=true then "list_iterator" else "tuple_iterator"
theorem fN.at{kd:Bool}{h h':Heap}{it l:Addr}{k:Nat}(st:fN kd h it l k)(f:∀o,h.get? it=some o->h'.get? it=some o):fN kd h' it l k:=by
 cases kd with
 |true=>exact Heap.IsListIter.at st f|false=>exact Heap.IsTupleIter.at st f
theorem fN.live{kd:Bool}{h:Heap}{it l:Addr}{k:Nat}(st:fN kd h it l k):∃o,h.get? it=some o/\∀v,o.data ≠ .cell v:=by
 cases kd with
 |true=>obtain⟨o,ho,hc,hd⟩:=(show h.IsListIter it l k from st);exact⟨o,ho,λv z=>by rw[hd]at z;cases z⟩|false=>obtain⟨o,ho,hc,hd⟩:=(show h.IsTupleIter it l k from st);exact⟨o,ho,λv z=>by rw[hd]at z;cases z⟩
theorem dP.kd{prog:Program}{w:World}{A:Around}(hh:A.handled=none)(kd:Bool){it l:Addr}(hne:l≠it)(items:Array Value):dP prog w A it l (λk h=>fN kd h it l k/\gH kd h l items) items:=by
 cases kd with
 |true=>exact dP.list hh hne items|false=>exact dP.tuple hh hne items
theorem yh(kd:Bool)(h:Heap)(l:Addr):fN kd (h.push { cls:=.type (fw kd),data:=.fields #[.ref l,.int 0 0] }) h.objs.size l 0:=by
 cases kd with
 |true=>exact⟨_,Heap.get?_push_size _ rfl,rfl,rfl⟩|false=>exact⟨_,Heap.get?_push_size _ rfl,rfl,rfl⟩
theorem yi{prog:Program}{w:World}{A:Around}{E:Value->Shared->Prop}{s:Shared}(kd:Bool){l:Addr}{items:Array Value}{Q:Value->Shared->Prop}(hl:gH kd s.heap l items)
  (hQ:Q (.ref s.heap.objs.size) { s with heap:=s.heap.push { cls:=.type (fw kd),data:=.fields #[.ref l,.int 0 0] } }):wpAny (model prog w) A (pyIter (.ref l)) Q E s:=by
 cases kd with
 |true=>exact wpAny_pyIter_list hl hQ|false=>exact wpAny_pyIter_tuple hl hQ
theorem gH.push{kd:Bool}{h:Heap}{l:Addr}{items:Array Value}(hl:gH kd h l items)(o:Obj):gH kd (h.push o) l items:=by
 cases kd with
 |true=>exact Heap.IsList.push hl o|false=>obtain⟨ob,e,r⟩:=(show h.IsTuple l items from hl);exact⟨ob,Heap.get?_push_of_some _ e,r⟩
noncomputable abbrev zA(kd:Bool)(h:Heap)(l:Addr):Heap:=h.push { cls:=.type (fw kd),data:=.fields #[.ref l,.int 0 0] }
noncomputable abbrev zB(aU aX:Bool)(h:Heap)(l1 l2:Addr):Heap:=zA aX (zA aU h l1) l2
noncomputable abbrev zC(aU aX:Bool)(h:Heap)(l1 l2:Addr):Heap:=(zB aU aX h l1 l2).push { cls:=.type "tuple",data:=.seq #[.ref h.objs.size,.ref (zA aU h l1).objs.size] }
noncomputable abbrev zD(aU aX:Bool)(h:Heap)(l1 l2:Addr):Heap:=(zC aU aX h l1 l2).push { cls:=.type "tuple",data:=.seq #[.none,.none] }
noncomputable abbrev zE(aU aX:Bool)(h:Heap)(l1 l2:Addr):Heap:=(zD aU aX h l1 l2).push { cls:=.type "zip",data:=.fields #[.none,.bool false,.bool false,.ref (zB aU aX h l1 l2).objs.size,.ref (zC aU aX h l1 l2).objs.size] }
theorem NS(aU aX:Bool)(l1 l2:Addr)(xs ys:Array Value) :
  Meets (Builtin.«zip.__new__» ⟨[.type "zip",.ref l1,.ref l2],[]⟩) (λ_ R s=>gH aU s.heap l1 xs/\gH aX s.heap l2 ys/\R (.ok (.ret (.ref (zD aU aX s.heap l1 l2).objs.size))) { s with heap:=zE aU aX s.heap l1 l2 }):=
 .of_wp λprog w A R s h=>by
  obtain⟨hp,g,d,tk,os⟩:=s;obtain⟨hl1,hl2,h⟩:=h;have hsub:=sub_zip;have hL1:gH aU (Shared.heap ⟨hp,g,d,tk,os⟩) l1 xs:=hl1;have hL2:gH aX (Shared.heap ⟨zA aU hp l1,g,d,tk,os⟩) l2 ys:=gH.push hl2 _;wp_walk using yi aU hL1,yi aX hL2
  exact⟨_,rfl,h⟩
section
variable {prog:Program}{w:World}{A:Around}{E:Value->Shared->Prop}{s:Shared}
theorem Ka(aU aX:Bool){l1 l2:Addr}{xs ys:Array Value}{Q:Value->Shared->Prop}(hl1:gH aU s.heap l1 xs)(hl2:gH aX s.heap l2 ys)
  (h:∀h',IsZip h' (s.heap.objs.size+4) (s.heap.objs.size+2) (s.heap.objs.size+3) .none->IsPair h' (s.heap.objs.size+2) (.ref s.heap.objs.size) (.ref (s.heap.objs.size+1)) ->
   IsPair h' (s.heap.objs.size+3) .none .none->fN aU h' s.heap.objs.size l1 0->fN aX h' (s.heap.objs.size+1) l2 0 ->
   (∀c o,s.heap.get? c=some o->h'.get? c=some o)->Q (.ref (s.heap.objs.size+4)) { s with heap:=h' }):wpAny (model prog w) A (call (.type "zip") [.ref l1,.ref l2]) Q E s:=by
 refine callType_new F.called_zip (by decide) (F.typeCall_zip_2 _ _) (F.newCall_zip_2 _ _) (λobj=>F.args_object_init_3 obj _ _) F.entry_zip_new (NS aU aX l1 l2 xs ys) ⟨hl1,hl2,?_⟩;have z1:(zA aU s.heap l1).objs.size=s.heap.objs.size+1:=Heap.size_push ..;have z2:(zB aU aX s.heap l1 l2).objs.size=s.heap.objs.size+2:=by rw[Heap.size_push,z1]
 have z3:(zC aU aX s.heap l1 l2).objs.size=s.heap.objs.size+3:=by rw[Heap.size_push,z2]
 have z4:(zD aU aX s.heap l1 l2).objs.size=s.heap.objs.size+4:=by rw[Heap.size_push,z3]
 have g5:(zE aU aX s.heap l1 l2).get? (zD aU aX s.heap l1 l2).objs.size=some _:=Heap.get?_push_size _ rfl;have g4:(zE aU aX s.heap l1 l2).get? (zC aU aX s.heap l1 l2).objs.size=some _:=Heap.get?_push_of_some _ (Heap.get?_push_size _ rfl);have g3:(zE aU aX s.heap l1 l2).get? (zB aU aX s.heap l1 l2).objs.size=some _:=Heap.get?_push_of_some _ (Heap.get?_push_of_some _ (Heap.get?_push_size _ rfl));have up:∀c o,(zB aU aX s.heap l1 l2).get? c=some o->(zE aU aX s.heap l1 l2).get? c=some o:=λc o e=>Heap.get?_push_of_some _ (Heap.get?_push_of_some _ (Heap.get?_push_of_some _ e));have i2:fN aX (zE aU aX s.heap l1 l2) (zA aU s.heap l1).objs.size l2 0:=(yh aX (zA aU s.heap l1) l2).at λo e=>up _ o e;have i1:fN aU (zE aU aX s.heap l1 l2) s.heap.objs.size l1 0:=(yh aU s.heap l1).at λo e=>up _ o (Heap.get?_push_of_some _ e);show _/\_;rw[z2,z3,z4]at g5;rw[z1,z2]at g3;rw[z3]at g4;rw[z1]at i2;rw[z4];exact⟨⟨_,g5,rfl⟩,h _ g5 g3 g4 i1 i2 λc o e=>up c o (Heap.get?_push_of_some _ (Heap.get?_push_of_some _ e))⟩
variable {z TI TO i1 i2 l1 l2:Addr}{S1 S2:Nat->Heap->Prop}{xs ys:Array Value}{k:Nat}{a b x y:Value}
theorem Qs{Q:Option Value->Shared->Prop}(D:ZipApart z TI TO i1 i2 l1 l2)(P1:dP prog w A.in1 i1 l1 S1 xs)(P2:dP prog w A.in1 i2 l2 S2 ys)(hz:IsZip s.heap z TI TO .none)(hTI:IsPair s.heap TI (.ref i1) (.ref i2))(hTO:IsPair s.heap TO a b)
  (h1:S1 k s.heap) (h2:S2 k s.heap) (hx:xs[k]?=some x) (hy:ys[k]?=some y)
  (hQ:∀h',IsZip h' z TI TO (rawInt s.heap.objs.size)->IsPair h' TO x y->S1 (k+1) h'->S2 (k+1) h'->IsPair h' s.heap.objs.size x y ->
   (∀c o,c≠z->c≠TO->c≠i1->c≠i2->s.heap.get? c=some o->h'.get? c=some o)->Q (some (.ref s.heap.objs.size)) { s with heap:=h' }):wpAny (model prog w) A (pyNext (.ref z)) Q E s:=by
 have hT:s.TypeIs (.ref z) "zip":=⟨_,hz,rfl⟩;unfold pyNext;exact wpAny_bind (wpAny_attempt (wpAny_callSpecial?_slot (name:=Str.ofString "__next__") hT F.slot_zip_next
  (wpAny_call_entry F.slot_zip_next hT F.entry_zip_next (NQ D P1 P2 hz hTI hTO h1 h2 hx hy λh' a1 a2 a3 a4 a5 a6=>wpAny_pure (hQ h' a1 a2 a3 a4 a5 a6)) (F.args_zip_next_1 _))))
theorem Ky{Q:Option Value->Shared->Prop}(D:ZipApart z TI TO i1 i2 l1 l2)(P1:dP prog w A.in1 i1 l1 S1 xs)(P2:dP prog w A.in1 i2 l2 S2 ys)(hz:IsZip s.heap z TI TO .none)(hTI:IsPair s.heap TI (.ref i1) (.ref i2))(hTO:IsPair s.heap TO a b)
  (h1:S1 k s.heap) (h2:S2 k s.heap) (hend:xs[k]?=none\/ys[k]?=none)
  (hQ:∀h',(∀c o,c≠z->c≠TO->c≠i1->c≠i2->s.heap.get? c=some o->h'.get? c=some o)->Q none { s with heap:=h' }):wpAny (model prog w) A (pyNext (.ref z)) Q E s:=by
 have hT:s.TypeIs (.ref z) "zip":=⟨_,hz,rfl⟩;unfold pyNext;refine wpAny_bind (wpAny_attempt (wpAny_callSpecial?_slot (name:=Str.ofString "__next__") hT F.slot_zip_next
  (wpAny_call_entry F.slot_zip_next hT F.entry_zip_next (NR D P1 P2 hz hTI hTO h1 h2 hend λh' e hk he=>?_) (F.args_zip_next_1 _))))
 obtain⟨o,ho,hc⟩:=he;exact wpAny_bind (wpAny_isInstance (T:="StopIteration") (b:=true) ⟨o,ho,hc⟩ isSubtype_stop (wpAny_pure (hQ _ hk)))
end
def eN(n:Nat):cF:=λi h=>match h.ob n with
 |some (.lst _ xs)=>some xs[i]?
 |_=>none
def eQ(xs:List AV):cF:=λi _=>some xs[i]?
def jQ(lo:Int)(n:Nat):cF:=λi _=>some (if i<n then some (.int (lo+i)) else none)
def lF(it:cF):cF:=λi h=>match it i h with
 |some (some v)=>some (some (.tup [.int i,v]))
 |some none=>some none
 |none=>none
def hJ(v:AV):M cF:=λh=>match v with
 |.tup xs=>.ok (eQ xs) h
 |.ref n=>match h.ob n with
  |some (.lst _ _)=>.ok (eN n) h
  |_=>.bad
 |_=>.bad
def oY(v:AV):M cF:=match v with
 |.str z=>λh=>.ok (eQ ((iX z).map AV.str)) h
 |v=>hJ v
def gO(j:Int):Bool:=decide (-(2 ^ 62)<=j)&&decide (j<2 ^ 62)
def xU(xs:List AV):M cF:=λh=>match xs with
 |[.int j]=>if gO j=true then .ok (jQ 0 j.toNat) h else .bad
 |_=>.bad
def xV(xs:List AV):M cF:=λh=>match xs with
 |[.int i,.int j]=>if(gO i&&gO j)=true then .ok (jQ i (j-i).toNat) h else .bad
 |_=>.bad
def xS(v:AV):M cF:=λh=>match v with
 |.ref n=>match h.ob n with
  |some (.lst _ _)=>.ok (lF (eN n)) h
  |_=>.bad
 |_=>.bad
section
variable {X:Cx}{T:Tab}{E:XK}{a b c e tg l:Expr}{es:List Expr}{ma mb mc m:aA->M AV}{mr:aA->M (List AV)}{pos p:Pos}{tl:TE}
theorem Co{ρ:List Addr}{H:Hp}{n:Nat}{a:Addr}(q:ρ[n]?=some a):RI T ρ H (eN n) (da T.K a):=by
 intro ρ' h' H' i e R;have q':=e.pre n a q;unfold eN;cases o:h'.ob n with
 |none=>exact⟨λz=>(by cases z),λv z=>(by cases z)⟩|some u=>
  cases u with
  |lst m xs=>
   obtain⟨ys,h1,r⟩:=iS R o q';refine⟨λz=>⟨ys,h1,?_⟩,λv z=>?_⟩
   .have z':xs[i]?=none:=Option.some.inj z;rw[<- r.length];exact List.getElem?_eq_none_iff.mp z'
   .have z':xs[i]?=some v:=Option.some.inj z;obtain⟨y,h2,rv⟩:=r.get z';refine⟨⟨ys,y,h1,h2⟩,λx H2 yl=>?_⟩;obtain⟨e2,k⟩:=yl;subst e2;have:=k ys h1;rw[h2]at this;cases this;exact⟨ρ',.refl,R,rv⟩
  |bV _=>exact⟨λz=>(by cases z),λv z=>(by cases z)⟩|ins _ _=>exact⟨λz=>(by cases z),λv z=>(by cases z)⟩|xo _=>exact⟨λz=>(by cases z),λv z=>(by cases z)⟩
theorem DU{ρ:List Addr}{H:Hp}{a:Addr}{xs:List AV}{ys:List V}(hq:bG T.K H a ys)(r:aO T ρ H xs ys):RI T ρ H (eQ xs) (de T.K a):=by
 intro ρ' h' H' i e R;have r':=r.ext e;have hq':=e.mz hq;unfold eQ;refine⟨λz=>⟨ys,hq',?_⟩,λv z=>?_⟩
 .have z':xs[i]?=none:=Option.some.inj z;rw[<- r.length];exact List.getElem?_eq_none_iff.mp z'
 .have z':xs[i]?=some v:=Option.some.inj z;obtain⟨y,h2,rv⟩:=r'.get z';refine⟨⟨ys,y,hq',h2⟩,λx H2 yl=>?_⟩;obtain⟨e2,k⟩:=yl;subst e2;have:=k ys hq';rw[h2]at this;cases this;exact⟨ρ',.refl,R,rv⟩
theorem Cq{ρ:List Addr}{H:Hp}{lo:Int}{n:Nat}:RI T ρ H (jQ lo n) (sW lo n):=by
 intro ρ' h' H' i e R;unfold jQ;by_cases hi:i<n
 .rw[if_pos hi];refine⟨λz=>(by cases z),λv z=>⟨hi,λx H2 yl=>?_⟩⟩;cases z;obtain⟨e2,e3⟩:=yl;subst e2;subst e3;exact⟨ρ',.refl,R,.int _⟩
 .rw[if_neg hi];exact⟨λ_=>(by show n<=i;omega),λv z=>(by cases z)⟩
theorem DT{ρ:List Addr}{H:Hp}{z:Str}:RI T ρ H (eQ ((iX z).map AV.str)) (wL z):=by
 intro ρ' h' H' i e R;have hl:(iX z).length=z.cps.size:=by simp[iX]
 unfold eQ;refine⟨λq=>?_,λv q=>?_⟩
 .have q':((iX z).map AV.str)[i]?=none:=Option.some.inj q;have:=List.getElem?_eq_none_iff.mp q';rw[List.length_map,hl]at this;exact this
 .have q':((iX z).map AV.str)[i]?=some v:=Option.some.inj q;rw[List.getElem?_map]at q';obtain⟨y,h2,rfl⟩:=Option.map_eq_some_iff.mp q';have hi:=(List.getElem?_eq_some_iff.mp h2).1;refine⟨by show i<z.cps.size;omega,λx H2 yl=>?_⟩;obtain⟨e2,y',h3,e3⟩:=yl;subst e2 e3;rw[h2]at h3;cases h3;exact⟨ρ',.refl,R,.str _⟩
def Nk(K:W.Frag)(tl:TE):TI:=λσ H R=>tl σ H λx H1=>
 (∃z,x = .str z/\R (wL z) H1) \/
 ∃a,x = .ref a/\(((∃xs,bA K H1 a xs)/\R (da K a) H1)\/((∃xs,bG K H1 a xs)/\R (de K a) H1))
theorem Vm(hl:PE X l tl):PI X tg l (Nk X.K tl):=by
 intro pins s σ H R I h;refine aJ (hl pins s σ H _ I h) λv s1 ⟨x,H1,I1,r1,q1⟩=>?_;rcases q1 with⟨z,rfl,q⟩|q1
 .obtain⟨t,rfl⟩:=r1;exact GB I1 q
 obtain⟨a,e,q⟩:=q1;subst e;cases r1;rcases q with⟨⟨xs,hq⟩,q⟩|⟨⟨xs,hq⟩,q⟩
 .obtain⟨its,rv,p,hz⟩:=I1.list hq;refine wpAny_pyIter_list p.isList ?_;refine⟨s1.heap.objs.size,[s1.heap.objs.size],_,_,H1,rfl,I1.kept (t':=s1.toks) λb o e=>Heap.get?_push_of_some _ e,II a _,⟨_,Heap.get?_push_size _ rfl,rfl,rfl⟩,λb hb=>?_,q⟩;have e:b=s1.heap.objs.size:=by simpa using hb
  subst e;exact I1.lH (Nat.le_refl _) (I1.aI.fresh (Nat.le_refl _))
 .obtain⟨its,rv,p,hz⟩:=I1.tuple hq;refine wpAny_pyIter_tuple (show s1.heap.IsTuple a its.toArray from p) ?_;refine⟨s1.heap.objs.size,[s1.heap.objs.size],_,_,H1,rfl,I1.kept (t':=s1.toks) λb o e=>Heap.get?_push_of_some _ e,IL a _,⟨_,Heap.get?_push_size _ rfl,rfl,rfl⟩,λb hb=>?_,q⟩;have e:b=s1.heap.objs.size:=by simpa using hb
  subst e;exact I1.lH (Nat.le_refl _) (I1.aI.fresh (Nat.le_refl _))
theorem nN:QI X T E tg e (λ_=>M.bad):=⟨λ_ _ _=>False,λ_ _ _ _ _ _ h=>h.elim,λ_ _ _ _ _ _ _ _ w=>w⟩
theorem Bg(hK:X.K=T.K)(ha:QE X T E l m):QI X T E tg l (λσ=>(m σ).bind oY):=by
 obtain⟨tl,pl,rl⟩:=ha;refine⟨_,Vm pl,λρ σ σ' h H Q R S w=>rl ρ σ σ' h H _ R S (W.bind w λρ1 x x' h1 H1 e1 R1 q1 w1=>?_)⟩;cases x with
 |tup xs=>
  cases q1 with
  |tup hq hr=>refine .inr ?_;exact⟨_,rfl,.inr ⟨⟨_,by rw[hK];exact hq⟩,by rw[hK];exact W.here w1 R1 (DU hq hr)⟩⟩
 |str z=>cases q1;exact .inl ⟨z,rfl,W.here w1 R1 DT⟩
 |ref n=>
  cases q1 with
  |@ref _ a q=>
   simp only[oY,hJ]at w1;cases o:h1.ob n with
   |none=>rw[o]at w1;exact w1.elim|some u=>
    rw[o]at w1;cases u with
    |lst mu xs=>obtain⟨ys,g1,r1⟩:=iS R1 o q;refine .inr ?_;exact⟨a,rfl,.inl ⟨⟨ys,by rw[hK];exact g1⟩,by rw[hK];exact W.here w1 R1 (Co q)⟩⟩
    |bV _=>exact w1.elim|ins _ _=>exact w1.elim|xo _=>exact w1.elim
 |_=>exact w1.elim
theorem lq{j:Int}(h:gO j=true):-(2 ^ 62)<=j/\j<2 ^ 62:=by simp only[gO,Bool.and_eq_true,decide_eq_true_eq]at h;exact h
theorem Yn(hg:Gl X "range") (hm:X.mg "range"=none) (ha:QA X T E [a] mr) (hs:aL a=true):QI X T E tg (.Call (.Name "range" p) [a] [] pos) (λσ=>(mr σ).bind xU):=by
 obtain⟨tr,pr,rr⟩:=ha;refine⟨_,Vk hg hm pr (by rw[bH hs];rfl),λρ σ σ' h H Q R S w=>rr ρ σ σ' h H _ R S (W.bind w λρ1 xs bI h1 H1 e1 R1 q1 w1=>?_)⟩;cases q1 with
 |nil=>exact w1.elim|cons r1 rs=>
  cases rs with
  |nil=>
   cases r1 with
   |int j=>
    simp only[xU]at w1;by_cases hj:gO j=true
    .rw[if_pos hj]at w1;obtain⟨h1,h2⟩:=lq hj;exact⟨j,rfl,h1,h2,W.here w1 R1 Cq⟩
    .rw[if_neg hj]at w1;exact w1.elim
   |_=>exact w1.elim
  |cons r2 rs2=>cases r1<;>exact w1.elim
theorem Yo(hg:Gl X "range") (hm:X.mg "range"=none) (ha:QA X T E [a,b] mr) (hs:aL a=true) (hs2:aL b=true):QI X T E tg (.Call (.Name "range" p) [a,b] [] pos) (λσ=>(mr σ).bind xV):=by
 obtain⟨tr,pr,rr⟩:=ha;refine⟨_,Vl hg hm pr (by rw[bH hs,bH hs2];rfl) (by rw[bH hs2];rfl),λρ σ σ' h H Q R S w=>rr ρ σ σ' h H _ R S (W.bind w λρ1 xs bI h1 H1 e1 R1 q1 w1=>?_)⟩;cases q1 with
 |nil=>exact w1.elim|cons r1 rs=>
  cases rs with
  |nil=>cases r1<;>exact w1.elim|cons r2 rs2=>
   cases rs2 with
   |nil=>
    cases r1 with
    |int i=>
     cases r2 with
     |int j=>
      simp only[xV]at w1;by_cases hj:(gO i&&gO j)=true
      .rw[if_pos hj]at w1;rw[Bool.and_eq_true]at hj;obtain⟨h1,h2⟩:=lq hj.1;obtain⟨h3,h4⟩:=lq hj.2;exact⟨i,j,rfl,⟨h1,h2,h3,h4⟩,W.here w1 R1 Cq⟩
      .rw[if_neg hj]at w1;exact w1.elim
     |_=>exact w1.elim
    |_=>exact w1.elim
   |cons _ _=>cases r1<;>first|exact w1.elim|(cases r2<;>exact w1.elim)
def cz(K:W.Frag)(a:Addr):It:=
 ⟨λi H=>∃xs x,bA K H a xs/\xs[i]?=some x,λi H x H'=>∃T y,H T=none/\x = .ref T/\H'=aK H T (.tup [.int i,y])/\∀xs,bA K H a xs->xs[i]?=some y,λi H=>∃xs,bA K H a xs/\xs.length<=i⟩
theorem Fd{pins:List (Addr×Obj)}{σ:L2.St}{H:Hp}{s:Shared}{h':Heap}{tk:Nat}{ch:List Addr}{Tt:Addr}{ys:List V}{its:List Value}(I:Inv X pins σ H s)(hf:∀b∈ch,eK X pins H b)
  (k:∀b o,b∉ch->s.heap.get? b=some o->h'.get? b=some o) (th:∀b∈ch,∃o,h'.get? b=some o) (hT:s.heap.objs.size<=Tt) (ht:IsTup h' Tt its.toArray) (rv:Vals ys its) (hz:ys.length<=sizeLine) :
  Inv X pins σ (aK H Tt (.tup ys)) { s with heap:=h',toks:=tk }:=by
 have hn:H Tt=none:=I.aI.fresh hT;have nch:∀b u,H b=some u->b∉ch:=λb u e hb=>by rw[(hf b hb).1]at e;cases e
 have lch:X.env.locals∉ch:=λhb=>(hf _ hb).2.1 rfl;refine I.step (g':=s.gens) (d':=s.drawn) (ch:=ch) (λb hb=>⟨(hf b hb).2.2.2.1,(hf b hb).2.1,(hf b hb).2.2.2.2.1,(hf b hb).2.2.2.2.2⟩) (λb o _ _ hc e _=>k b o hc e) (λb o _ _ hc e _=>⟨o.slots,k b o hc e⟩)
  (λb o _ e n=>by rw[aT (Nat.ne_of_lt (Nat.lt_of_lt_of_le (Heap.lt_size e) hT))];exact n) (λb o hc e=>⟨o,k b o hc e⟩)
  (λb xs e=>by rw[aT (dG e hn)];exact e) (λb o u e=>by rw[aT (dG e hn)];exact e) (λb ps e=>⟨#[],by rw[aT (dG e hn),e];simp⟩) (λm hm=>?_) (λb u e=>?_) I.bare
 .obtain⟨o,es,ep,ho,r⟩:=hm;exact⟨o,es,ep,k _ o lch ho,r⟩
 .by_cases hb:b=Tt
  .subst hb;rw[eF]at e;cases e;exact⟨hz,its,rv,ht⟩
  .rw[aT hb]at e;refine(I.aI b u e).iY (λc v hc q=>k c v ?_ q) (λc q=>by rw[aT (dG q hn)];exact q) λc xs q=>by rw[aT (dG q hn)];exact q
   rcases hc with rfl|hc
   .exact nch _ _ e
   .exact nch _ _ hc
theorem Fc{pins:List (Addr×Obj)}{σ:L2.St}{H:Hp}{s:Shared}{h':Heap}{tk:Nat}{ch:List Addr}(I:Inv X pins σ H s)(hf:∀b∈ch,eK X pins H b)
  (k:∀b o,b∉ch->s.heap.get? b=some o->h'.get? b=some o):Inv X pins σ H { s with heap:=h',toks:=tk }:=by
 have nch:∀b u,H b=some u->b∉ch:=λb u e hb=>by rw[(hf b hb).1]at e;cases e
 have lch:X.env.locals∉ch:=λhb=>(hf _ hb).2.1 rfl;refine I.step (g':=s.gens) (d':=s.drawn) (ch:=ch) (λb hb=>⟨(hf b hb).2.2.2.1,(hf b hb).2.1,(hf b hb).2.2.2.2.1,(hf b hb).2.2.2.2.2⟩) (λb o _ _ hc e _=>k b o hc e) (λb o _ _ hc e _=>⟨o.slots,k b o hc e⟩)
  (λb o _ e n=>n) (λb o hc e=>⟨o,k b o hc e⟩) (λb xs e=>e) (λb o u e=>e) (λb ps e=>⟨#[],by rw[e];simp⟩) (λm hm=>?_) (λb u e=>?_) I.bare
 .obtain⟨o,es,ep,ho,r⟩:=hm;exact⟨o,es,ep,k _ o lch ho,r⟩
 .refine(I.aI b u e).iY (λc v hc q=>k c v ?_ q) (λc q=>q) λc xs q=>q;rcases hc with rfl|hc
  .exact nch _ _ e
  .exact nch _ _ hc
theorem IH{P:Program}{w:World}{K:W.Frag}{elts:List Expr}{k:Nat}{tp:Pos}(a en it:Addr)(h1:en≠it)(h2:a≠en)(h3:a≠it) :
  Turn P w K (.Tuple elts k tp) (cz K a) [en,it] en (λi h=>(∃old,IsEnum h en it i old)/\h.IsListIter it a i) where
 mem:=by simp
 obj:=λi h st b hb=>by
  obtain⟨⟨old,he⟩,o,e,c,d⟩:=st;rcases List.mem_cons.mp hb with rfl|hb
  .exact⟨_,he,λv z=>by cases z⟩
  .have e':b=it:=by simpa using hb
   subst e';exact⟨o,e,λv z=>by rw[d]at z;cases z⟩
 keep:=λi h h' st k=>by obtain⟨⟨old,he⟩,hit⟩:=st;exact⟨⟨old,k en (by simp) _ he⟩,hit.at λo e=>k it (by simp) o e⟩
 item:=by
  intro X hP hw hK hc i pins s σ H E I hf st hg;subst hP hw hK;obtain⟨xs,x,hq,hx⟩:=hg;obtain⟨its,rv,p,hz⟩:=I.list hq;obtain⟨u,hu,ru⟩:=rv.get hx;have hi:i<its.toArray.size:=by have:=(List.getElem?_eq_some_iff.mp hu).1;simpa using this
  have W:=WalksT.enumerate (prog:=X.prog) (w:=X.w) (I.ok.hd hc) en it a h1 h2 h3 its.toArray;refine W.item i s _ _ hi ⟨st.1,st.2,p.isList⟩ λTt vals h' tk hv hT htup hmid kk=>?_;obtain⟨t,x',hx',rfl⟩:=hv;have ex:x'=u:=by
   have:its.toArray[i]?=some u:=by simpa using hu
   rw[this]at hx';exact(Option.some.inj hx').symm
  subst ex;refine⟨.ref Tt,rfl,?_⟩;refine W.go elts k tp i Tt { s with heap:=h',toks:=tk } _ _ hmid λh'' hst kk2=>?_;obtain⟨he2,hit2,hl2⟩:=hst;have keep2:∀b o,b∉[en,it]->s.heap.get? b=some o->h''.get? b=some o:=λb o hb e=>kk2 b o hb (kk b o hb e);have htup2:IsTup h'' Tt #[.int i t,x']:=by obtain⟨o,e,r⟩:=htup;exact⟨o,kk2 _ _ (W.apart i Tt _ hmid) e,r⟩
  have I2:Inv X pins σ (aK H Tt (.tup [.int i,x])) { s with heap:=h'',toks:=tk }:=Fd (its:=[.int i t,x']) I hf keep2 (λb hb=>by
   obtain⟨⟨old,he⟩,o,e,_⟩:=(⟨he2,hit2⟩:(∃old,IsEnum h'' en it (i+1) old)/\h''.IsListIter it a (i+1));rcases List.mem_cons.mp hb with rfl|hb
   .exact⟨_,he⟩
   .have e':b=it:=by simpa using hb
    subst e';exact⟨o,e⟩) hT htup2 (.cons ⟨t,rfl⟩ (.cons ru .nil)) (by show 2<=sizeLine;decide)
  have hn:H Tt=none:=I.aI.fresh hT;refine⟨.ref Tt,_,I2,rfl,⟨Tt,x,hn,rfl,rfl,λzs hzs=>by rw[I.jd hzs hq];exact hx⟩,⟨he2,hit2⟩,λb hb=>?_⟩;have hb':b<s.heap.objs.size:=by
   obtain⟨⟨old,he⟩,o,e,_⟩:=id st;rcases List.mem_cons.mp hb with rfl|hb
   .exact Heap.lt_size he
   .have e':b=it:=by simpa using hb
    subst e';exact Heap.lt_size e
  rw[aT (Nat.ne_of_lt (Nat.lt_of_lt_of_le hb' hT))];exact(hf b hb).1
 done:=by intro X hP hw hK hc i pins s σ H E I hf st hg;subst hP hw hK;obtain⟨xs,hq,hx⟩:=hg;obtain⟨its,rv,p,hz⟩:=I.list hq;have hl:=rv.length;obtain⟨⟨old,he⟩,hit⟩:=st;exact wpAny_pyNext_enum_end (I.ok.hd hc) he hit p.isList (by simp;omega) λh' eb=>⟨rfl,Fc (tk:=s.toks) I hf λb o hb e=>eb b o (λz=>hb (by simp[z])) e⟩
 self:=λA i s Q E st h=>by obtain⟨⟨old,he⟩,_⟩:=st;exact wpAny_pyIter_enum he h
def Ng(K:W.Frag)(ta:TA):TI:=λσ H R=>ta σ H λvs H1=>
 ∃a,vs=[.ref a]/\(∃xs,bA K H1 a xs)/\R (cz K a) H1
theorem Vj{elts:List Expr} {k:Nat} {tp:Pos} {ta:TA} (hg:Gl X "enumerate") (hm:X.mg "enumerate"=none) (ha:PA X [a] ta) (hs:starEach [a] X.env=[(false,eval a X.env)]):PI X (.Tuple elts k tp) (.Call (.Name "enumerate" p) [a] [] pos) (Ng X.K ta):=by
 intro pins s σ H R I h;refine Call_ (nG I hg hm boot_enumerate (PyProof.Rows.callWith_type1 (aJ (ha pos pins s σ H _ I h) λus s1 ⟨vs,H1,I1,r1,q1⟩=>?_) hs rfl));obtain⟨a,e,⟨xs,hq⟩,q⟩:=q1;subst e;cases r1 with
 |cons r rr=>
  cases rr;cases r;obtain⟨its,rv,p,hz⟩:=I1.list hq;have ha:a<s1.heap.objs.size:=by obtain⟨o,_,e,_⟩:=p;exact Heap.lt_size e
  refine call_enumerate_list p.isList λh' he hit hsz kk=>?_;have I2:Inv X pins σ H1 { s1 with heap:=h' }:=I1.kept (t':=s1.toks) kk;refine wpAny_pyIter_enum he ?_;refine⟨s1.heap.objs.size+1,[s1.heap.objs.size+1,s1.heap.objs.size],_,_,H1,rfl,I2,IH a _ _ (Nat.ne_of_gt (Nat.lt_succ_self _)) (Nat.ne_of_lt (Nat.lt_succ_of_lt ha)) (Nat.ne_of_lt ha),⟨⟨_,he⟩,hit⟩,λb hb=>?_,q⟩;rcases List.mem_cons.mp hb with rfl|hb
  .exact I1.lH (Nat.le_succ _) (I1.aI.fresh (Nat.le_succ _))
  .have e':b=s1.heap.objs.size:=by simpa using hb
   subst e';exact I1.lH (Nat.le_refl _) (I1.aI.fresh (Nat.le_refl _))
theorem DS{ρ:List Addr}{H:Hp}{n:Nat}{a:Addr}(q:ρ[n]?=some a):RI T ρ H (lF (eN n)) (cz T.K a):=by
 intro ρ' h' H' i e R;obtain⟨h1,h2⟩:=Co (T:=T) (H:=H) q ρ' h' H' i e R;unfold lF;cases o:eN n i h' with
 |none=>exact⟨λz=>(by cases z),λv z=>(by cases z)⟩|some u=>
  cases u with
  |none=>exact⟨λ_=>h1 o,λv z=>(by cases z)⟩|some v=>refine⟨λz=>(by cases z),λv' z=>?_⟩;cases z;obtain⟨g1,g2⟩:=h2 v o;refine⟨g1,λx H2 yl=>?_⟩;obtain⟨Tt,y,hn,rfl,rfl,k⟩:=yl;obtain⟨ρ2,e2,R2,rv⟩:=g2 y H' ⟨rfl,k⟩;exact⟨ρ2,⟨e2.pre,(Ext.eP (ρ:=ρ') hn).tup,(Ext.eP (ρ:=ρ') hn).bO⟩,R2.keep hn,.tup (.of eF) (.cons (.int _) (.cons (rv.ext (.eP hn)) .nil))⟩
theorem Ym{elts:List Expr} {k:Nat} {tp:Pos} (hK:X.K=T.K) (hg:Gl X "enumerate") (hm:X.mg "enumerate"=none) (ha:QE X T E a m) (hs:aL a=true) :
  QI X T E (.Tuple elts k tp) (.Call (.Name "enumerate" p) [a] [] pos) (λσ=>(m σ).bind xS):=by
 obtain⟨ta,pa,ra⟩:=ha;refine⟨_,Vj hg hm (gB pa hZ (bH hs)) (by rw[bH hs];rfl),λρ σ σ' h H Q R S w=>ra ρ σ σ' h H _ R S (W.bind w λρ1 x x' h1 H1 e1 R1 q1 w1=>?_)⟩;cases x with
 |ref n=>
  cases q1 with
  |@ref _ a q=>
   simp only[xS]at w1;cases o:h1.ob n with
   |none=>rw[o]at w1;exact w1.elim|some u=>
    rw[o]at w1;cases u with
    |lst mu xs=>obtain⟨ys,g1,r1⟩:=iS R1 o q;exact⟨a,rfl,⟨ys,by rw[hK];exact g1⟩,by rw[hK];exact W.here w1 R1 (DS q)⟩
    |bV _=>exact w1.elim|ins _ _=>exact w1.elim|xo _=>exact w1.elim
 |_=>exact w1.elim
def eM(xs:List AV)(lo hi:Option Int):List AV:=(xs.drop (HT.aP xs.length 0 lo)).take (HT.aP xs.length xs.length hi-HT.aP xs.length 0 lo)
theorem va{ρ:List Addr}{H:Hp}{xs:List AV}{ys:List V}(r:aO T ρ H xs ys)(lo hi:Option Int):aO T ρ H (eM xs lo hi) (mR ys lo hi):=by unfold eM mR;rw[<- r.length];exact(r.drop _).take _
def fF(x:AV)(lo hi:Option Int):M AV:=λh=>match x with
 |.ref n=>match h.ob n with
  |some (.lst _ xs)=>gA (eM xs lo hi) h
  |_=>.bad
 |.tup xs=>if HT.aP xs.length 0 lo=0/\HT.aP xs.length xs.length hi=xs.length then .bad else .ok (.tup (eM xs lo hi)) h
 |.str z=>if z.length<=sizeLine then .ok (.str (Txt.slice z lo hi)) h else .bad
 |_=>.bad
def Ha:Rl (Option Int) (Option Int):=λ_ _ a b=>a=b
def QO(X:Cx)(T:Tab)(E:XK)(o:Option Expr)(m:aA->M (Option Int)):Prop:=
 ∃t,PO X o t/\∀ρ σ σ' h H Q,aN T ρ h H->aR T ρ H σ σ'->W T Ha (m σ h) ρ H Q E->t σ' H Q
def tO(v:AV):M (Option Int):=λh=>match v with
 |.int i=>.ok (some i) h
 |_=>.bad
theorem BO:QO X T E none (λ_=>M.ret none):=⟨_,Vt,λρ σ σ' h H Q R S w=>W.here w R rfl⟩
theorem BP(ha:QE X T E a m):QO X T E (some a) (λσ=>(m σ).bind tO):=by
 obtain⟨ta,pa,ra⟩:=ha;refine⟨_,Vu pa,λρ σ σ' h H Q R S w=>ra ρ σ σ' h H _ R S (W.bind w λρ1 x x' h1 H1 e1 R1 q1 w1=>?_)⟩;cases x with
 |int i=>cases q1;exact⟨i,rfl,W.here w1 R1 rfl⟩|_=>exact w1.elim
theorem Yc(hK:X.K=T.K){lo hi:Option Expr}{p2:Pos}{ml mh:aA->M (Option Int)}(ha:QE X T E a m)(hl:QO X T E lo ml)(hh:QO X T E hi mh) :
  QE X T E (.Subscript a (.Slice lo hi none p2) pos) (λσ=>(m σ).bind λx=>(ml σ).bind λl=>(mh σ).bind λu=>fF x l u):=by
 obtain⟨ta,pa,ra⟩:=ha;obtain⟨tl,pl,rl⟩:=hl;obtain⟨th,ph,rh⟩:=hh;refine⟨_,Va ((EH.or EJ).or EI) pa pl ph,λρ σ σ' h H Q R S w=>ra ρ σ σ' h H _ R S (W.bind w λρ1 x x' h1 H1 e1 R1 q1 w1=>?_)⟩;refine rl ρ1 σ σ' h1 H1 _ R1 (S.ext e1) (W.bind w1 λρ2 l l' h2 H2 e2 R2 q2 w2=>?_);refine rh ρ2 σ σ' h2 H2 _ R2 ((S.ext e1).ext e2) (W.bind w2 λρ3 u u' h3 H3 e3 R3 q3 w3=>?_);cases(show l=l' from q2);cases(show u=u' from q3);have q1':=(q1.ext e2).ext e3;cases x with
 |ref n=>
  cases q1' with
  |@ref _ a q=>
   simp only[fF]at w3;cases o:h3.ob n with
   |none=>rw[o]at w3;exact w3.elim|some ob=>
    rw[o]at w3;cases ob with
    |lst mu xs=>obtain⟨ys,g1,r1⟩:=iS R3 o q;refine .inl ?_;exact .inl ⟨a,ys,rfl,by rw[hK];exact g1,λp hp=>pN R3 (va r1 l u) hp w3⟩
    |bV _=>exact w3.elim|ins _ _=>exact w3.elim|xo _=>exact w3.elim
 |tup xs=>
  cases q1' with
  |@tup a _ ys hq hr=>
   simp only[fF]at w3;by_cases hw:HT.aP xs.length 0 l=0/\HT.aP xs.length xs.length u=xs.length
   .rw[if_pos hw]at w3;exact w3.elim
   .rw[if_neg hw]at w3;refine .inl ?_;refine .inr ⟨a,ys,rfl,by rw[hK];exact hq,by rw[<- hr.length];exact hw,λp hp=>tV R3 (va hr l u) hp w3⟩
 |str z=>
  cases q1';simp only[fF]at w3;by_cases hz:z.length<=sizeLine
  .rw[if_pos hz]at w3;exact .inr ⟨z,rfl,Nat.le_trans (Txt.slice_le ..) hz,W.here w3 R3 (.str _)⟩
  .rw[if_neg hz]at w3;exact w3.elim
 |_=>exact w3.elim
def pA(xs:List AV):M AV:=λh=>match xs with
 |[.str z]=>if z.length<=sizeLine then .ok (.int z.length) h else .bad
 |[x]=>match cK h x with
  |some ys=>.ok (.int ys.length) h
  |none=>.bad
 |_=>.bad
def tL(xs:List AV):M AV:=λh=>match xs with
 |[.int i]=>.ok (.int i) h
 |[.bl k]=>.ok (.int (if k then 1 else 0)) h
 |[.str z]=>if z.length<=640 then match intText? z with
  |some n=>.ok (.int n) h
  |none=>.bad
  else .bad
 |_=>.bad
def pI:List AV->Option (Int×Int)
 |[.int i,.int j]=>some (i,j)
 |_=>none
def pQ:List AV->Option AV
 |[x]=>some x
 |_=>none
def xj(xs:List AV):M AV:=λh=>match pI xs with
 |some (i,j)=>.ok (.int (if j<i then j else i)) h
 |none=>.bad
def xi(xs:List AV):M AV:=λh=>match pI xs with
 |some (i,j)=>.ok (.int (if j > i then j else i)) h
 |none=>.bad
def wy(xs:List AV):M AV:=λh=>match pI xs with
 |some (i,j)=>if jH j=true then .ok (.tup [.int (i / j),.int (i%j)]) h else .bad
 |none=>.bad
def xX(xs:List AV):M AV:=λh=>match (pQ xs).bind (cK h) with
 |some ys=>.ok (.tup ys) h
 |none=>.bad
def xg(xs:List AV):M AV:=λh=>match (pQ xs).bind (cK h) with
 |some ys=>gA ys h
 |none=>.bad
theorem Nr{xs:List AV}{i j:Int}(h:pI xs=some (i,j)):xs=[.int i,.int j]:=by
 unfold pI at h;split at h
 .cases h;rfl
 .cases h
theorem Rj{xs:List AV}{x:AV}(h:pQ xs=some x):xs=[x]:=by
 unfold pQ at h;split at h
 .cases h;rfl
 .cases h
theorem Kn(hK:X.K=T.K):jA X T E (.builtin "len") pA:=by
 refine⟨_,Jp.or Jq,λρ h H xs bI Q R r w=>?_⟩;cases r with
 |nil=>exact w.elim|@cons x x' _ _ r1 rs=>
  cases rs with
  |nil=>
   have go:(∀z,x ≠ .str z)->(∃p ys,[x']=[.ref p]/\(bA X.K H p ys\/bG X.K H p ys)/\Q (.int ys.length) H):=λnz=>by
    have w':W T (aF T) (match cK h x with
     |some ys=>Res.ok (.int ys.length) h
     |none=>.bad) ρ H Q E:=by
      cases x with
      |str z=>exact absurd rfl (nz z)|_=>exact w
    cases o:cK h x with
    |none=>rw[o]at w';exact w'.elim|some ys=>rw[o]at w';obtain⟨p,zs,e,hq,hr⟩:=rY R r1 o;refine⟨p,zs,by rw[e],by rw[hK];exact hq,?_⟩;rw[<- hr.length];exact w'.here R (.int _)
   cases x with
   |str z=>
    cases r1;simp only[pA]at w;by_cases hz:z.length<=sizeLine
    .rw[if_pos hz]at w;exact .inr ⟨z,rfl,hz,w.here R (.int _)⟩
    .rw[if_neg hz]at w;exact w.elim
   |_=>exact .inl (go λz e=>by cases e)
  |cons r2 rs2=>cases x<;>exact w.elim
theorem Km:jA X T E (.type "int") tL:=by
 refine⟨_,Jl.or Jm,λρ h H xs bI Q R r w=>?_⟩;cases r with
 |nil=>exact w.elim|cons r1 rs=>
  cases rs with
  |nil=>
   cases r1 with
   |int i=>refine .inl ?_;exact .inl ⟨i,rfl,W.here w R (.int _)⟩
   |bl k=>refine .inl ?_;exact .inr ⟨k,rfl,W.here w R (.int _)⟩
   |str z=>
    simp only[tL]at w;by_cases hz:z.length<=640
    .rw[if_pos hz]at w;cases hn:intText? z with
     |none=>rw[hn]at w;exact w.elim|some n=>rw[hn]at w;exact .inr ⟨z,n,rfl,hz,hn,W.here w R (.int _)⟩
    .rw[if_neg hz]at w;exact w.elim
   |_=>exact w.elim
  |cons r2 rs2=>cases r1<;>exact w.elim
def rD(xs:List AV):M AV:=λh=>match xs with
 |[.int i]=>if i.natAbs.log2<1920 then .ok (.str (toString i)) h else .bad
 |[.str z]=>.ok (.str z) h
 |_=>.bad
theorem Jy:dA X (.type "str") (λxs H Q=>∃z,xs=[.str z]/\Q (.str z) H):=by intro pins s σ H xs us Q I r h;obtain⟨z,rfl,q⟩:=h;obtain⟨u,rfl,t,rfl⟩:=eW r;exact PySem.P.str_of_str ⟨.str _,H,I,⟨_,rfl⟩,q⟩
theorem Ks:jA X T E (.type "str") rD:=by
 refine⟨_,Jx.or Jy,λρ h H xs bI Q R r w=>?_⟩;cases r with
 |nil=>exact w.elim|cons r1 rs=>
  cases rs with
  |nil=>
   cases r1 with
   |int i=>
    by_cases hi:i.natAbs.log2<1920
    .simp only[rD,if_pos hi]at w;refine .inl ?_;exact⟨i,rfl,hi,W.here w R (.str _)⟩
    .simp only[rD,if_neg hi]at w;exact w.elim
   |str z=>exact .inr ⟨z,rfl,W.here w R (.str _)⟩|_=>exact w.elim
  |cons r2 rs2=>cases r1<;>exact w.elim
theorem fz{f:Value}{k:Int->Int->M AV}{r:List V->Hp->VK->Prop}(hr:dA X f r)
  (hw:∀ρ h H i j Q,aN T ρ h H->W T (aF T) (k i j h) ρ H Q E->r [.int i,.int j] H Q):jA X T E f (λxs h=>match pI xs with
   |some (i,j)=>k i j h
   |none=>.bad):=by
 refine⟨_,hr,λρ h H xs bI Q R rr w=>?_⟩;cases o:pI xs with
 |none=>simp only[o]at w;exact w.elim|some q=>
  obtain⟨i,j⟩:=q;simp only[o]at w;have e:=Nr o;subst e;cases rr with
  |cons r1 rs=>
   cases r1;cases rs with
   |cons r2 rs2=>cases r2;cases rs2;exact hw ρ h H i j Q R w
theorem Kr(hc:X.calm=true):jA X T E (.builtin "min") xj:=fz (k:=λi j h=>.ok (.int (if j<i then j else i)) h) (Ju hc) λρ h H i j Q R w=>⟨i,j,rfl,W.here w R (.int _)⟩
theorem Kq(hc:X.calm=true):jA X T E (.builtin "max") xi:=fz (k:=λi j h=>.ok (.int (if j > i then j else i)) h) (Js hc) λρ h H i j Q R w=>⟨i,j,rfl,W.here w R (.int _)⟩
theorem Jk:dA X (.builtin "divmod") (λxs H Q=>∃i j,xs=[.int i,.int j]/\(0<j/\j<2 ^ 1000)/\∀p,H p=none->Q (.ref p) (aK H p (.tup [.int (i / j),.int (i%j)]))):=by intro pins s σ H xs us Q I r h;obtain⟨i,j,rfl,⟨h1,h2⟩,q⟩:=h;obtain⟨u,w',rfl,⟨t,rfl⟩,⟨t',rfl⟩⟩:=wD r;refine divmod_int (by omega) ?_ (.inl (PyProof.noPylong_of_log2 (log2_lt h2 h1)));rw[Int.fdiv_eq_ediv_of_nonneg i (by omega),Int.fmod_eq_emod_of_nonneg i (by omega)];have hn:H s.heap.objs.size=none:=I.aI.fresh (Nat.le_refl _);refine⟨.ref s.heap.objs.size,_,?_,rfl,q _ hn⟩;refine I.laid (λb o e=>Heap.get?_push_of_some _ e) (Nat.le_refl _) ⟨by simp only[List.length_cons,List.length_nil];rw[sizeLine_eq];decide,[.int (i / j) s.toks,.int (i%j) (s.toks+1)],.cons ⟨_,rfl⟩ (.cons ⟨_,rfl⟩ .nil),?_⟩;exact⟨_,Heap.get?_push_size s.heap rfl,rfl,0,rfl⟩
theorem Kl:jA X T E (.builtin "divmod") wy:=fz (k:=λi j h=>if jH j=true then .ok (.tup [.int (i / j),.int (i%j)]) h else .bad) Jk λρ h H i j Q R w=>by
 by_cases hj:jH j=true
 .simp only[if_pos hj]at w;exact⟨i,j,rfl,vk hj,λp hp=>tV R (.cons (.int _) (.cons (.int _) .nil)) hp w⟩
 .simp only[if_neg hj]at w;exact w.elim
theorem Ad{ρ:List Addr}{h:AH}{H:Hp}{xs:List AV}{bI:List V}{Q:VK}{k:List AV->M AV}(R:aN T ρ h H)(r:aO T ρ H xs bI)(w:W T (aF T) ((match (pQ xs).bind (cK h) with
  |some ys=>k ys h
  |none=>.bad:Res AV)) ρ H Q E):∃p ys zs,bI=[.ref p]/\(bA T.K H p zs\/bG T.K H p zs)/\aO T ρ H ys zs/\W T (aF T) (k ys h) ρ H Q E:=by
 cases o1:pQ xs with
 |none=>rw[o1]at w;exact w.elim|some x=>
  rw[o1]at w;simp only[Option.bind_some]at w;have e:=Rj o1;subst e;cases r with
  |cons r1 rs=>
   cases rs;cases o:cK h x with
   |none=>rw[o]at w;exact w.elim|some ys=>rw[o]at w;obtain⟨p,zs,e,hq,hr⟩:=rY R r1 o;exact⟨p,ys,zs,by rw[e],hq,hr,w⟩
theorem Kt(hK:X.K=T.K):jA X T E (.type "tuple") xX:=by
 refine⟨_,Jz,λρ h H xs bI Q R r w=>?_⟩;obtain⟨p,ys,zs,rfl,hq,hr,w'⟩:=Ad (k:=λys h=>.ok (.tup ys) h) R r w;rcases hq with hq|hq
 .exact⟨p,zs,rfl,.inl ⟨by rw[hK];exact hq,λl hl=>tV R hr hl w'⟩⟩
 .exact⟨p,zs,rfl,.inr ⟨by rw[hK];exact hq,W.here w' R (.tup hq hr)⟩⟩
theorem Ko(hK:X.K=T.K)(hc:X.calm=true):jA X T E (.type "list") xg:=by refine⟨_,Jr,λρ h H xs bI Q R r w=>?_⟩;obtain⟨p,ys,zs,rfl,hq,hr,w'⟩:=Ad (k:=λys h=>gA ys h) R r w;exact⟨p,zs,rfl,by rw[hK];exact hq,λl hl=>pN R hr hl w'⟩
theorem zF{x:Str} {id:String} {g:List AV->M AV} (hc:jA X T E (.builtin id) g) (hg:Gl X x) (hm:X.mg x=none) (hv:bootBuiltins x=some (.builtin id)) (ha:QA X T E (e::es) mr) (hs:(e::es).all aL=true) (hn:x≠"__name__") (hd:(x==("__debug__":Str))=false) :
  QE X T E (.Call (.Name x p) (e::es) [] pos) (λσ=>(mr σ).bind g):=by
 obtain⟨r,hr,hgg⟩:=hc;obtain⟨tr,pr,rr⟩:=ha;rw[List.all_cons,Bool.and_eq_true]at hs;exact⟨_,rP hr hg hm hv pr hn hd (bH hs.1) (rZ hs.2),λρ σ σ' h H Q R S w=>rr ρ σ σ' h H _ R S (W.bind w λρ1 xs bI h1 H1 e1 R1 q1 w1=>hgg ρ1 h1 H1 xs bI Q R1 q1 w1)⟩
theorem zG{x:Str} {id:String} {g:List AV->M AV} (hc:jA X T E (.type id) g) (hg:Gl X x) (hm:X.mg x=none) (hv:bootBuiltins x=some (.type id)) (ha:QA X T E (e::es) mr) (hs:(e::es).all aL=true) (hn:x≠"__name__") (hd:(x==("__debug__":Str))=false) :
  QE X T E (.Call (.Name x p) (e::es) [] pos) (λσ=>(mr σ).bind g):=by
 obtain⟨r,hr,hgg⟩:=hc;obtain⟨tr,pr,rr⟩:=ha;rw[List.all_cons,Bool.and_eq_true]at hs;exact⟨_,Uq hr hg hm hv pr hn hd (bH hs.1) (rZ hs.2),λρ σ σ' h H Q R S w=>rr ρ σ σ' h H _ R S (W.bind w λρ1 xs bI h1 H1 e1 R1 q1 w1=>hgg ρ1 h1 H1 xs bI Q R1 q1 w1)⟩
end
def qy(aU aX:Bool)(K:W.Frag)(a b:Addr):It:=
  ⟨λi H=>∃xs ys x y,gW aU K H a xs/\gW aX K H b ys/\xs[i]?=some x/\ys[i]?=some y,
   λi H x H'=>∃T u v,H T=none/\x = .ref T/\H'=aK H T (.tup [u,v])/\(∀xs,gW aU K H a xs->xs[i]?=some u)/\∀ys,gW aX K H b ys->ys[i]?=some v,
   λi H=>∃xs ys,gW aU K H a xs/\gW aX K H b ys/\(xs[i]?=none\/ys[i]?=none)⟩
section
variable {X:Cx}{T:Tab}{E:XK}{a b c e tg l:Expr}{es:List Expr}{ma mb m:aA->M AV}{mr:aA->M (List AV)}{pos p:Pos}
theorem sJ{pins:List (Addr×Obj)}{σ:L2.St}{H:Hp}{s:Shared}{kd:Bool}{l:Addr}{xs:List V}(I:Inv X pins σ H s)(h:gW kd X.K H l xs):∃its:List Value,Vals xs its/\gH kd s.heap l its.toArray:=by
 cases kd with
 |true=>obtain⟨its,rv,p,_⟩:=I.list h;exact⟨its,rv,p.isList⟩|false=>obtain⟨its,rv,p,_⟩:=I.tuple h;exact⟨its,rv,p⟩
theorem Dv{pins:List (Addr×Obj)}{σ:L2.St}{H:Hp}{s:Shared}{kd:Bool}{l:Addr}{xs ys:List V}(I:Inv X pins σ H s)(h:gW kd X.K H l xs)(h':gW kd X.K H l ys):xs=ys:=by
 cases kd with
 |true=>exact I.jd h h'|false=>exact I.Ez h h'
theorem IP{P:Program}{w:World}{K:W.Frag}{elts:List Expr}{k:Nat}{tp:Pos}(aU aX:Bool){z TI TO i1 i2 l1 l2:Addr}(D:ZipApart z TI TO i1 i2 l1 l2) :
  Turn P w K (.Tuple elts k tp) (qy aU aX K l1 l2) [z,TI,TO,i1,i2] z (λi h=>IsZip h z TI TO .none/\IsPair h TI (.ref i1) (.ref i2)/\(∃a b,IsPair h TO a b)/\fN aU h i1 l1 i/\fN aX h i2 l2 i) where
 mem:=by simp
 obj:=λi h st b hb=>by
  obtain⟨hz,hTI,⟨a,b',hTO⟩,h1,h2⟩:=st;simp only[List.mem_cons,List.not_mem_nil,or_false]at hb;rcases hb with rfl|rfl|rfl|rfl|rfl
  .exact⟨_,hz,λv q=>by cases q⟩
  .exact⟨_,hTI,λv q=>by cases q⟩
  .exact⟨_,hTO,λv q=>by cases q⟩
  .exact h1.live
  .exact h2.live
 keep:=λi h h' st kk=>by obtain⟨hz,hTI,⟨a,b',hTO⟩,h1,h2⟩:=st;exact⟨kk z (by simp) _ hz,kk TI (by simp) _ hTI,⟨a,b',kk TO (by simp) _ hTO⟩,h1.at λo e=>kk i1 (by simp) o e,h2.at λo e=>kk i2 (by simp) o e⟩
 item:=by
  intro X hP hw hK hc i pins s σ H E I hf st hg;subst hP hw hK;obtain⟨xs,ys,x,y,hq1,hq2,hx,hy⟩:=hg;obtain⟨its1,rv1,p1⟩:=sJ I hq1;obtain⟨its2,rv2,p2⟩:=sJ I hq2;obtain⟨u1,hu1,ru1⟩:=rv1.get hx;obtain⟨u2,hu2,ru2⟩:=rv2.get hy;obtain⟨hz,hTI,⟨a,b',hTO⟩,h1,h2⟩:=id st;have hh:X.A.in1.handled=none:=I.ok.hd hc;refine Qs D (dP.kd hh aU D.l1i1 its1.toArray) (dP.kd hh aX D.l2i2 its2.toArray) hz hTI hTO ⟨h1,p1⟩ ⟨h2,p2⟩ (x:=u1) (y:=u2) (by simpa using hu1) (by simpa using hu2) λh' z' t' s1 s2 new kk=>?_;refine⟨_,rfl,?_⟩;refine wpAny_letOwnedTupleGo_zip z' λh'' z'' sb=>?_;have lt:∀{c:Addr} {o:Obj},s.heap.get? c=some o->s.heap.objs.size≠c:=λe=>Nat.ne_of_gt (Heap.lt_size e);have keep2:∀c o,c∉[z,TI,TO,i1,i2]->s.heap.get? c=some o->h''.get? c=some o:=λc o hc e=>by simp only[List.mem_cons,List.not_mem_nil,or_false,not_or]at hc;exact sb.extBut _ _ hc.1 (kk c o hc.1 hc.2.2.1 hc.2.2.2.1 hc.2.2.2.2 e)
  have hTI2:IsPair h'' TI (.ref i1) (.ref i2):=sb.extBut _ _ D.TIz (kk _ _ D.TIz D.TITO D.TIi1 D.TIi2 hTI);have hTO2:IsPair h'' TO u1 u2:=sb.extBut _ _ D.TOz t';have s1':fN aU h'' i1 l1 (i+1):=s1.1.at λo e=>sb.extBut _ _ D.i1z e;have s2':fN aX h'' i2 l2 (i+1):=s2.1.at λo e=>sb.extBut _ _ D.i2z e;have new2:IsPair h'' s.heap.objs.size u1 u2:=sb.extBut _ _ (lt hz) new;have I2:Inv X pins σ (aK H s.heap.objs.size (.tup [x,y])) { s with heap:=h'' }:=Fd (tk:=s.toks) (its:=[u1,u2]) I hf keep2 (λc hc=>by
   simp only[List.mem_cons,List.not_mem_nil,or_false]at hc;rcases hc with rfl|rfl|rfl|rfl|rfl
   .exact⟨_,z''⟩
   .exact⟨_,hTI2⟩
   .exact⟨_,hTO2⟩
   .exact let ⟨o,e,_⟩:=s1'.live;⟨o,e⟩
   .exact let ⟨o,e,_⟩:=s2'.live;⟨o,e⟩) (Nat.le_refl _) ⟨_,new2,rfl,_,rfl⟩ (.cons ru1 (.cons ru2 .nil)) (by show 2<=sizeLine;decide)
  have hn:H s.heap.objs.size=none:=I.aI.fresh (Nat.le_refl _);refine⟨.ref s.heap.objs.size,_,I2,rfl,⟨_,x,y,hn,rfl,rfl,λzs hzs=>by rw[Dv I hzs hq1];exact hx,λzs hzs=>by rw[Dv I hzs hq2];exact hy⟩,⟨z'',hTI2,⟨_,_,hTO2⟩,s1',s2'⟩,λc hc=>?_⟩;have hc':s.heap.objs.size≠c:=by
   simp only[List.mem_cons,List.not_mem_nil,or_false]at hc;rcases hc with rfl|rfl|rfl|rfl|rfl
   .exact lt hz
   .exact lt hTI
   .exact lt hTO
   .exact let ⟨o,e,_⟩:=h1.live;lt e
   .exact let ⟨o,e,_⟩:=h2.live;lt e
  rw[aT hc'.symm];exact(hf c hc).1
 done:=by
  intro X hP hw hK hc i pins s σ H E I hf st hg;subst hP hw hK;obtain⟨xs,ys,hq1,hq2,hend⟩:=hg;obtain⟨its1,rv1,p1⟩:=sJ I hq1;obtain⟨its2,rv2,p2⟩:=sJ I hq2;obtain⟨hz,hTI,⟨a,b',hTO⟩,h1,h2⟩:=id st;have hh:X.A.in1.handled=none:=I.ok.hd hc;refine Ky D (dP.kd hh aU D.l1i1 its1.toArray) (dP.kd hh aX D.l2i2 its2.toArray) hz hTI hTO ⟨h1,p1⟩ ⟨h2,p2⟩ ?_ λh' kk=>⟨rfl,Fc (tk:=s.toks) I hf λc o hc e=>?_⟩
  .rcases hend with q|q
   .exact .inl (by simpa using rv1.none_of q)
   .exact .inr (by simpa using rv2.none_of q)
  .simp only[List.mem_cons,List.not_mem_nil,or_false,not_or]at hc;exact kk c o hc.1 hc.2.2.1 hc.2.2.2.1 hc.2.2.2.2 e
 self:=λA i s Q E st h=>wpAny_pyIter_zip st.1 h
theorem NP(n a b:Nat)(ha:a<n)(hb:b<n):ZipApart (n+4) (n+2) (n+3) n (n+1) a b:=
 ⟨Nat.ne_of_lt (by omega),Nat.ne_of_lt (by omega),Nat.ne_of_lt (by omega),Nat.ne_of_lt (by omega),Nat.ne_of_lt (by omega),Nat.ne_of_gt (by omega),Nat.ne_of_gt (by omega),Nat.ne_of_gt (by omega),Nat.ne_of_gt (by omega),Nat.ne_of_lt (by omega),
  Nat.ne_of_lt (by omega),Nat.ne_of_lt (by omega),Nat.ne_of_lt (by omega),Nat.ne_of_lt (by omega),Nat.ne_of_lt (by omega),Nat.ne_of_lt (by omega),Nat.ne_of_lt (by omega),Nat.ne_of_lt (by omega)⟩
def Nl(K:W.Frag)(ta:TA):TI:=λσ H R=>ta σ H λvs H1=>∃a b aU aX,vs=[.ref a,.ref b]/\(∃xs,gW aU K H1 a xs)/\(∃ys,gW aX K H1 b ys)/\R (qy aU aX K a b) H1
theorem Vn{elts:List Expr} {k:Nat} {tp:Pos} {ta:TA} (hg:Gl X "zip") (hm:X.mg "zip"=none) (ha:PA X [a,b] ta) (hs:aL a=true) (hs2:aL b=true):PI X (.Tuple elts k tp) (.Call (.Name "zip" p) [a,b] [] pos) (Nl X.K ta):=by
 intro pins s σ H R I h;refine Call_ (nG I hg hm boot_zip (PyProof.Rows.callWith_type1 (aJ (ha pos pins s σ H _ I h) λus s1 ⟨vs,H1,I1,r1,q1⟩=>?_) (bH hs) (rZ (by simp[hs2]))));obtain⟨a,b,aU,aX,e,⟨xs,hq1⟩,⟨ys,hq2⟩,q⟩:=q1;subst e;cases r1 with
 |cons r rr=>
  cases r;cases rr with
  |cons r' rr'=>
   cases r';cases rr';obtain⟨its1,rv1,p1⟩:=sJ I1 hq1;obtain⟨its2,rv2,p2⟩:=sJ I1 hq2;have ltA:∀{kd:Bool} {l:Addr} {items:Array Value},gH kd s1.heap l items->l<s1.heap.objs.size:=λ{kd l items} hl=>by
    cases kd with
    |true=>obtain⟨o,e,_⟩:=(show s1.heap.IsList l items from hl);exact Heap.lt_size e|false=>obtain⟨o,e,_⟩:=(show s1.heap.IsTuple l items from hl);exact Heap.lt_size e
   have la:=ltA p1;have lb:=ltA p2;refine Ka aU aX p1 p2 λh' hz hTI hTO h1 h2 kk=>?_;have I2:Inv X pins σ H1 { s1 with heap:=h' }:=I1.kept (t':=s1.toks) kk;refine wpAny_pyIter_zip hz ?_;have ne:∀{x y:Nat},x<y->x≠y:=λh=>Nat.ne_of_lt h;have D:ZipApart (s1.heap.objs.size+4) (s1.heap.objs.size+2) (s1.heap.objs.size+3) s1.heap.objs.size (s1.heap.objs.size+1) a b:=NP _ _ _ la lb;refine⟨s1.heap.objs.size+4,[s1.heap.objs.size+4,s1.heap.objs.size+2,s1.heap.objs.size+3,s1.heap.objs.size,s1.heap.objs.size+1],_,_,H1,rfl,I2,IP aU aX D,⟨hz,hTI,⟨_,_,hTO⟩,h1,h2⟩,λc hc=>?_,q⟩;have hle:s1.heap.objs.size<=c:=by
    simp only[List.mem_cons,List.not_mem_nil,or_false]at hc;rcases hc with rfl|rfl|rfl|rfl|rfl
    .exact Nat.le_add_right _ _
    .exact Nat.le_add_right _ _
    .exact Nat.le_add_right _ _
    .exact Nat.le_refl _
    .exact Nat.le_add_right _ _
   exact I1.lH hle (I1.aI.fresh hle)
def mF(it jt:cF):cF:=λi h=>match it i h,jt i h with
 |some (some u),some (some v)=>some (some (.tup [u,v]))
 |some none,some _=>some none
 |some _,some none=>some none
 |_,_=>none
def xY(xs:List AV):M cF:=λh=>match xs with
 |[x,y]=>match hJ x h,hJ y h with
  |.ok it _,.ok jt _=>.ok (mF it jt) h
  |_,_=>.bad
 |_=>.bad
theorem yj{ρ:List Addr}{h:AH}{H:Hp}{x:AV}{x':V}{it:cF}{h2:AH}(R:aN T ρ h H)(r:aF T ρ H x x')(e:hJ x h = .ok it h2) :
  ∃a kd,x' = .ref a/\(∃xs,gW kd T.K H a xs)/\∀ρ' h' H' i,Ext ρ H ρ' H'->aN T ρ' h' H'->∀o,it i h'=some o->∃ys,gW kd T.K H' a ys/\((o=none/\ys[i]?=none)\/∃v v',o=some v/\ys[i]?=some v'/\aF T ρ' H' v v'):=by
 cases x with
 |tup xs=>
  cases r with
  |@tup a _ ys hq hr=>
   cases e;refine⟨a,false,rfl,⟨ys,hq⟩,λρ' h' H' i ex R' o ho=>⟨ys,ex.mz hq,?_⟩⟩;have ho':xs[i]?=o:=Option.some.inj ho;have r':=hr.ext ex;cases o with
   |none=>exact .inl ⟨rfl,by rw[List.getElem?_eq_none_iff]at ho' ⊢;rw[<- hr.length];exact ho'⟩|some v=>obtain⟨v',g1,g2⟩:=r'.get ho';exact .inr ⟨v,v',rfl,g1,g2⟩
 |ref n=>
  cases r with
  |@ref _ a q=>
   simp only[hJ]at e;cases ob:h.ob n with
   |none=>rw[ob]at e;cases e|some u=>
    rw[ob]at e;cases u with
    |lst mu xs=>
     cases e;obtain⟨ys,g1,r1⟩:=iS R ob q;refine⟨a,true,rfl,⟨ys,g1⟩,λρ' h' H' i ex R' o ho=>?_⟩;unfold eN at ho;cases ob':h'.ob n with
     |none=>rw[ob']at ho;cases ho|some u'=>
      rw[ob']at ho;cases u' with
      |lst mu' bI=>
       obtain⟨zs,g2,r2⟩:=iS R' ob' (ex.pre n a q);have ho':bI[i]?=o:=Option.some.inj ho;refine⟨zs,g2,?_⟩;cases o with
       |none=>exact .inl ⟨rfl,by rw[List.getElem?_eq_none_iff]at ho' ⊢;rw[<- r2.length];exact ho'⟩|some v=>obtain⟨v',g3,g4⟩:=r2.get ho';exact .inr ⟨v,v',rfl,g3,g4⟩
      |bV _=>cases ho|ins _ _=>cases ho|xo _=>cases ho
    |bV _=>cases e|ins _ _=>cases e|xo _=>cases e
 |_=>cases e
theorem Yp{elts:List Expr} {k:Nat} {tp:Pos} (hK:X.K=T.K) (hg:Gl X "zip") (hm:X.mg "zip"=none) (ha:QA X T E [a,b] mr) (hs:aL a=true) (hs2:aL b=true) :
  QI X T E (.Tuple elts k tp) (.Call (.Name "zip" p) [a,b] [] pos) (λσ=>(mr σ).bind xY):=by
 obtain⟨ta,pa,ra⟩:=ha;refine⟨_,Vn hg hm pa hs hs2,λρ σ σ' h H Q R S w=>ra ρ σ σ' h H _ R S (W.bind w λρ1 xs bI h1 H1 e1 R1 q1 w1=>?_)⟩;cases q1 with
 |nil=>exact w1.elim|@cons x x' _ _ r1 rs=>
  cases rs with
  |nil=>exact w1.elim|@cons y y' _ _ r2 rs2=>
   cases rs2 with
   |cons _ _=>exact w1.elim|nil=>
    simp only[xY]at w1;cases g1:hJ x h1 with
    |exc _ _ _=>rw[g1]at w1;exact w1.elim|bad=>rw[g1]at w1;exact w1.elim|ok it hx=>
     cases g2:hJ y h1 with
     |exc _ _ _=>rw[g1,g2]at w1;exact w1.elim|bad=>rw[g1,g2]at w1;exact w1.elim|ok jt hy=>
      rw[g1,g2]at w1;obtain⟨pa,aU,rfl,sa,fa⟩:=yj R1 r1 g1;obtain⟨pb,aX,rfl,sb,fb⟩:=yj R1 r2 g2;refine⟨pa,pb,aU,aX,rfl,by rw[hK];exact sa,by rw[hK];exact sb,?_⟩;rw[hK];refine W.here w1 R1 λρ' h' H' i ex R'=>?_;unfold mF;cases o1:it i h' with
      |none=>exact⟨λq=>(by cases q),λv q=>(by cases q)⟩|some u=>
       cases o2:jt i h' with
       |none=>
        cases u with
        |none=>exact⟨λq=>(by cases q),λv q=>(by cases q)⟩|some u=>exact⟨λq=>(by cases q),λv q=>(by cases q)⟩
       |some v=>
        obtain⟨ys1,s1,c1⟩:=fa ρ' h' H' i ex R' u o1;obtain⟨ys2,s2,c2⟩:=fb ρ' h' H' i ex R' v o2;rcases c1 with⟨rfl,n1⟩|⟨u1,u1',rfl,n1,t1⟩
        .exact⟨λ_=>⟨ys1,ys2,s1,s2,.inl n1⟩,λv q=>(by cases q)⟩
        .rcases c2 with⟨rfl,n2⟩|⟨u2,u2',rfl,n2,t2⟩
         .exact⟨λ_=>⟨ys1,ys2,s1,s2,.inr n2⟩,λv q=>(by cases q)⟩
         .refine⟨λq=>(by cases q),λv q=>⟨⟨ys1,ys2,u1',u2',s1,s2,n1,n2⟩,λx H2 yl=>?_⟩⟩;cases q;obtain⟨Tt,y1,y2,hn,rfl,rfl,k1,k2⟩:=yl;have e1:=k1 ys1 s1;have e2:=k2 ys2 s2;rw[n1]at e1;rw[n2]at e2;cases e1;cases e2;exact⟨ρ',.eP hn,R'.keep hn,.tup (.of eF) (.cons (t1.ext (.eP hn)) (.cons (t2.ext (.eP hn)) .nil))⟩
end
def bP{α:Type}(m:M α):M α:=λh=>match m h with
 |.ok a h1=>.ok a h1
 |_=>.bad
theorem jo{T:Tab}{α β:Type}{Rp:Rl α β}{m:M α}{h:AH}{ρ:List Addr}{H:Hp}{Q:β->Hp->Prop}{E E':XK}(w:W T Rp (bP m h) ρ H Q E):W T Rp (m h) ρ H Q E':=by
 unfold bP at w;cases e:m h with
 |ok a h1=>rw[e]at w;exact w|exc c x h1=>rw[e]at w;exact w.elim|bad=>rw[e]at w;exact w.elim
theorem M.bind_assoc{α β γ:Type}(m:M α)(k:α->M β)(l:β->M γ):(m.bind k).bind l=m.bind λx=>(k x).bind l:=by
 funext h
 unfold M.bind;cases m h<;>rfl
def bU(it:cF)(g:AV->aA->M aA)(mt:aA->M Bool)(me:aA->M AV):Nat->Nat->List AV->aA->M (List AV)
 |0,_,_,_=>M.bad
 |f+1,i,ys,σ=>λh=>match it i h with
  |none=>.bad
  |some none=>.ok ys h
  |some (some v)=>((bP (g v σ)).bind λσ1=>(bP (mt σ1)).bind λb=>if b=true then(bP (me σ1)).bind λy=>M.guard (ys.length<sizeLine) (bU it g mt me f (i+1) (ys++[y]) σ1) else bU it g mt me f (i+1) ys σ1) h
def hW{α:Type}(imp:List (Option Nat))(σ:List (Option α)):List (Option α):=imp.map λo=>match o with
 |some j=>(σ[j]?).getD none
 |none=>none
def oR(mi:M cF)(g:AV->aA->M aA)(mt:aA->M Bool)(me:aA->M AV)(imp:List (Option Nat))(σ:aA):M AV:=mi.bind λit=>(bU it g mt me FU 0 [] (hW imp σ)).bind gA
def Eg(T:Tab)(m:aA->M AV):TE:=λσ' H Q=>∃ρ σ h,aN T ρ h H/\aR T ρ H σ σ'/\W T (aF T) (m σ h) ρ H Q E0
def Ei(T:Tab)(m:aA->M Bool):TT:=λσ' H Q=>∃ρ σ h,aN T ρ h H/\aR T ρ H σ σ'/\W T RB (m σ h) ρ H Q E0
def Eh(T:Tab)(g:AV->aA->M aA):TG:=λv' σ' H Q=>∃ρ v σ h,aN T ρ h H/\aR T ρ H σ σ'/\aF T ρ H v v'/\W T (aR T) (g v σ h) ρ H Q E0
section
variable {X:Cx}{T:Tab}{E:XK}{elt tg aZ:Expr}{ct:Option Expr}{me:aA->M AV}{mt:aA->M Bool}{mi:aA->M cF}{g:AV->aA->M aA}{imp:List (Option Nat)}{N':List Str}{scope:Scope}{pos:Pos}
theorem QE.canon{e:Expr}{m:aA->M AV}(h:QE X T E0 e m):PE X e (Eg T m):=let ⟨t,p,r⟩:=h;λpins s σ' H Q I ⟨ρ,σ,h,R,S,w⟩=>p pins s σ' H Q I (r ρ σ σ' h H Q R S w)
theorem QT.canon{e:Expr}{m:aA->M Bool}(h:QT X T E0 e m):PT X e (Ei T m):=let ⟨t,p,r⟩:=h;λpins s σ' H Q I ⟨ρ,σ,h,R,S,w⟩=>p pins s σ' H Q I (r ρ σ σ' h H Q R S w)
theorem QG.canon{e:Expr}{g:AV->aA->M aA}(h:QG X T E0 e g):PG X e (Eh T g):=let ⟨t,p,r⟩:=h;λpins s σ' H v' u Q I ru ⟨ρ,v,σ,h,R,S,rv,w⟩=>p pins s σ' H v' u Q I ru (r ρ v v' σ σ' h H Q R S rv w)
theorem yB{α:Type}(σ:List (Option α)):(hW imp σ).length=imp.length:=by simp[hW]
theorem ic{α:Type}{σ:List (Option α)}{i:Nat}{v:α}(h:(hW imp σ)[i]?=some (some v)):∃j,imp[i]?=some (some j)/\σ[j]?=some (some v):=by
 unfold hW at h;rw[List.getElem?_map]at h;cases e:imp[i]? with
 |none=>rw[e]at h;cases h|some o=>
  rw[e]at h;cases o with
  |none=>cases h|some j=>
   refine⟨j,rfl,?_⟩;have h':(σ[j]?).getD none=some v:=Option.some.inj h;cases q:σ[j]? with
   |none=>rw[q]at h';cases h'|some w=>rw[q]at h';exact congrArg some h'
theorem aR.Nm{ρ:List Addr}{H:Hp}{σ:aA}{σ':L2.St}(S:aR T ρ H σ σ'):aR T ρ H (hW imp σ) (hW imp σ'):=by refine⟨by rw[yB,yB],λi v e=>?_⟩;obtain⟨j,h1,h2⟩:=ic e;obtain⟨v',h3,r⟩:=S.2 j v h2;refine⟨v',?_,r⟩;unfold hW;rw[List.getElem?_map,h1];show some ((σ'[j]?).getD none)=_;rw[h3];rfl
theorem uv{wi:TI}(ri:∀ρ σ σ' h H R,aN T ρ h H->aR T ρ H σ σ'->W T (RI T) (mi σ h) ρ H R E->wi σ' H R){ρ:List Addr}{σ:aA}{σ':L2.St}{h:AH}{H:Hp}{Q:VK}(R:aN T ρ h H)(S:aR T ρ H σ σ')
  (w:W T (aF T) (oR (mi σ) g mt me imp σ h) ρ H Q E):ny wi (hW imp) (Eh T g) (Ei T mt) (Eg T me) σ' H Q:=by
 refine ri ρ σ σ' h H _ R S (W.bind w λρ1 it J h1 H1 e1 R1 q1 w1=>?_);refine⟨λi m ys' σ' H=>∃ρ ys σ h,Ext ρ1 H1 ρ H/\aN T ρ h H/\aR T ρ H σ σ'/\aO T ρ H ys ys'/\W T (aF T) (((bU it g mt me m i ys σ).bind gA) h) ρ H Q E,FU,⟨ρ1,[],_,h1,.refl,R1,(S.ext e1).Nm,.nil,w1⟩,?_⟩;rintro i m ys' σ' H ⟨ρ,ys,σ,h,e,R,S,rys,w⟩
 cases m with
 |zero=>exact w.elim|succ f=>
  cases hit:it i h with
  |none=>
   have w':W T (aF T) Res.bad ρ H Q E:=by simp only[bU,M.bind,hit]at w;exact w
   exact w'.elim
  |some o=>
   cases o with
   |none=>
    have w':W T (aF T) (gA ys h) ρ H Q E:=by simp only[bU,M.bind,hit]at w;exact w
    exact .inl ⟨(q1 ρ h H i e R).1 hit,λD hD=>pN R rys hD w'⟩
   |some v=>
    have w':W T (aF T) ((((bP (g v σ)).bind λσ1=>(bP (mt σ1)).bind λb=>if b=true then(bP (me σ1)).bind λy=>M.guard (ys.length<sizeLine) (bU it g mt me f (i+1) (ys++[y]) σ1) else bU it g mt me f (i+1) ys σ1).bind gA) h) ρ H Q E:=by
     have e1:∀k:List AV->M AV,((bU it g mt me (f+1) i ys σ).bind k) h=((((bP (g v σ)).bind λσ1=>(bP (mt σ1)).bind λb=>if b=true then(bP (me σ1)).bind λy=>M.guard (ys.length<sizeLine) (bU it g mt me f (i+1) (ys++[y]) σ1) else bU it g mt me f (i+1) ys σ1).bind k) h):=λk=>by unfold M.bind;simp only[bU,hit];rfl
     rw[e1]at w;exact w
    rw[M.bind_assoc]at w';obtain⟨go,yl⟩:=(q1 ρ h H i e R).2 v hit;refine .inr ⟨go,λx H2 y=>?_⟩;obtain⟨ρ2,e2,R2,rv⟩:=yl x H2 y;refine⟨ρ2,v,σ,h,R2,S.ext e2,rv,jo (E:=E) (W.bind (w'.ext e2) λρ3 σ3 σ3' h3 H3 e3 R3 S3 w3=>?_)⟩;rw[M.bind_assoc]at w3;refine⟨ρ3,σ3,h3,R3,S3,jo (E:=E) (W.bind w3 λρ4 d d' h4 H4 e4 R4 q4 w4=>?_)⟩;have q4':d=d':=q4;subst q4';cases d with
    |true=>
     rw[if_pos rfl]at w4 ⊢;rw[M.bind_assoc]at w4;refine⟨ρ4,σ3,h4,R4,S3.ext e4,jo (E:=E) (W.bind w4 λρ5 y y' h5 H5 e5 R5 q5 w5=>?_)⟩;by_cases hz:ys.length<sizeLine
     .have w6:W T (aF T) (((bU it g mt me f (i+1) (ys++[y]) σ3).bind gA) h5) ρ5 H5 Q E:=by
       have e6:((M.guard (ys.length<sizeLine) (bU it g mt me f (i+1) (ys++[y]) σ3)).bind gA) h5=((bU it g mt me f (i+1) (ys++[y]) σ3).bind gA) h5:=by unfold M.bind M.guard;rw[if_pos hz]
       rw[e6]at w5;exact w5
      have eE:=(((e.trans e2).trans e3).trans e4).trans e5;exact⟨by rw[<- rys.length];exact hz,f,Nat.lt_succ_self f,ρ5,ys++[y],σ3,h5,eE,R5,(S3.ext e4).ext e5,(rys.ext (((e2.trans e3).trans e4).trans e5)).append (.cons q5 .nil),w6⟩
     .have e6:((M.guard (ys.length<sizeLine) (bU it g mt me f (i+1) (ys++[y]) σ3)).bind gA) h5 = .bad:=by unfold M.bind M.guard;rw[if_neg hz]
      rw[e6]at w5;exact w5.elim
    |false=>rw[if_neg Bool.false_ne_true]at w4 ⊢;exact⟨f,Nat.lt_succ_self f,ρ4,ys,σ3,h4,((e.trans e2).trans e3).trans e4,R4,S3.ext e4,rys.ext ((e2.trans e3).trans e4),w4⟩
theorem Az(hsc:iJ X N' scope)(hcalm:X.calm=true)(hi:QI X T E tg aZ mi)(hg:∀s H C fp,QG (X.comp N' scope s H C fp) T E0 tg g)(hct:∀c,ct=some c->∀s H C fp,QT (X.comp N' scope s H C fp) T E0 c mt)
  (hct0:ct=none->mt=λ_=>M.ret true) (he:∀s H C fp,QE (X.comp N' scope s H C fp) T E0 elt me) (himp:imp.length=N'.length)
  (hσ:∀(i j:Nat) x,N'[i]?=some x->imp[i]?=some (some j)->scope.names.lookup x=some .free/\(x,NameKind.free)∈scope.names/\X.N[j]?=some x) (hs:aL aZ=true) :
  QE X T E (.ListComp elt [⟨tg,aZ,ct.toList,0⟩] scope pos) (λσ=>oR (mi σ) g mt me imp σ):=by
 obtain⟨wi,pi,ri⟩:=hi;refine⟨_,Ut (imp:=hW imp) hsc hcalm pi (λs H C fp=>(hg s H C fp).canon) (λc e s H C fp=>(hct c e s H C fp).canon) (λe σ H Q=>?_) (λs H C fp=>(he s H C fp).canon) (λσ=>by rw[yB,himp]) (λσ i x v e1 e2=>?_) λx=>lr hs,λρ σ σ' h H Q R S w=>uv ri R S w⟩
 .rintro ⟨ρ,σ,h,R,S,w⟩
  rw[hct0 e]at w;exact W.here (Rp:=RB) w R rfl
 .obtain⟨j,h1,h2⟩:=ic e2;obtain⟨a,b,c⟩:=hσ i j x e1 h1;exact⟨a,b,j,c,h2⟩
theorem Bw{i:Nat}{y:Str}{py spos:Pos}(hN:X.N.Nodup)(hi':X.N[i]?=some y)(hy:X.env.scope.names.lookup y=some .local)
  (hsw:swapsWith (.ListComp elt [⟨tg,aZ,ct.toList,0⟩] scope pos) (some (.Name y py)) spos.line X.env=pure true) (hsc:iJ X N' scope) (hcalm:X.calm=true) (hi:QI X T E tg aZ mi) (hg:∀s H C fp,QG (X.comp N' scope s H C fp) T E0 tg g) (hct:∀c,ct=some c->∀s H C fp,QT (X.comp N' scope s H C fp) T E0 c mt)
  (hct0:ct=none->mt=λ_=>M.ret true) (he:∀s H C fp,QE (X.comp N' scope s H C fp) T E0 elt me) (himp:imp.length=N'.length)
  (hσ:∀(i j:Nat) x,N'[i]?=some x->imp[i]?=some (some j)->scope.names.lookup x=some .free/\(x,NameKind.free)∈scope.names/\X.N[j]?=some x) (hs:aL aZ=true) :
  QS X T E (.Assign [.Name y py] (.ListComp elt [⟨tg,aZ,ct.toList,0⟩] scope pos) spos) (λσ=>(oR (mi σ) g mt me imp σ).bind λv=>(M.ret (σ.set i (some v))).bind λσ1=>M.ret (.nx σ1)):=by
 obtain⟨wi,pi,ri⟩:=hi;refine⟨_,Wm (imp:=hW imp) hN hi' hy hsw hsc hcalm pi (λs H C fp=>(hg s H C fp).canon) (λc e s H C fp=>(hct c e s H C fp).canon) (λe σ H Q=>?_) (λs H C fp=>(he s H C fp).canon) (λσ=>by rw[yB,himp]) (λσ i x v e1 e2=>?_) λx=>lr hs,
  λρ σ σ' h H D R S w=>uv ri R S (W.bind w λρ1 x x' h1 H1 e1 R1 q1 w1=>W.here (Q:=dJ D) (b:=cQ.nx (σ'.set i (some x'))) w1 R1 ((S.ext e1).set q1 i))⟩
 .rintro ⟨ρ,σ,h,R,S,w⟩
  rw[hct0 e]at w;exact W.here (Rp:=RB) w R rfl
 .obtain⟨j,h1,h2⟩:=ic e2;obtain⟨a,b,c⟩:=hσ i j x e1 h1;exact⟨a,b,j,c,h2⟩
end
inductive Kc where
 |any|srt (b:Bool)|jg
 |all|mx
def jY:List AV->Option (List Bool)
 |[]=>some []
 |.bl b::r=>(jY r).map (b::·)
 |_=>none
def nE:List AV->Option (List Int)
 |[]=>some []
 |.int b::r=>(nE r).map (b::·)
 |_=>none
theorem ej:∀bs:List Bool,jY (bs.map AV.bl)=some bs
 |[]=>rfl|b::bs=>by simp[jY,ej bs]
def Kc.gl:Kc->List AV->M AV
 |.any,xs=>λh=>match jY xs with
  |some bs=>.ok (.bl (bs.any id)) h
  |none=>.bad
 |.all,xs=>λh=>match jY xs with
  |some bs=>.ok (.bl (bs.all id)) h
  |none=>.bad
 |.mx,xs=>λh=>match nE xs with
  |some ns=>if ns.isEmpty=true then .bad else .ok (.int (pM ns)) h
  |none=>.bad
 |.srt b,xs=>λh=>match nE xs with
  |some ns=>if ns.length<64 then gA ((sH b ns).map AV.int) h else .bad
  |none=>.bad
 |.jg,xs=>λh=>match xs with
  |[]=>.ok .aC h
  |_=>.bad
def Kc.g(k:Kc)(x:AV):M AV:=λh=>match x with
 |.ref n=>match h.ob n with
  |some (.lst _ xs)=>k.gl xs h
  |_=>.bad
 |_=>.bad
section
variable {X:Cx}{T:Tab}{E:XK}{a:Expr}{m:aA->M AV}{p pos:Pos}
theorem ef{ρ:List Addr}{H:Hp}:∀{xs:List AV} {ys:List V} {bs:List Bool},aO T ρ H xs ys->jY xs=some bs->ys=bs.map V.bl
 |_,_,_,.nil,e=>by cases e;rfl
 |_,_,_,.cons (x:=x) (xs:=xs) h t,e=>by
  cases h with
  |bl b=>
   simp only[jY]at e;cases q:jY xs with
   |none=>rw[q]at e;cases e|some bs=>rw[q]at e;cases e;rw[ef t q];rfl
  |_=>cases e
theorem ip{ρ:List Addr}{H:Hp}:∀{xs:List AV} {ys:List V} {bs:List Int},aO T ρ H xs ys->nE xs=some bs->ys=bs.map V.int
 |_,_,_,.nil,e=>by cases e;rfl
 |_,_,_,.cons (x:=x) (xs:=xs) h t,e=>by
  cases h with
  |int b=>
   simp only[nE]at e;cases q:nE xs with
   |none=>rw[q]at e;cases e|some bs=>rw[q]at e;cases e;rw[ip t q];rfl
  |_=>cases e
theorem tR(hK:X.K=T.K){k:Kc}
  {ρ:List Addr} {h:AH} {H:Hp} {x:AV} {x':V} {Q:VK} (R:aN T ρ h H) (r:aF T ρ H x x') (w:W T (aF T) (k.g x h) ρ H Q E) :
  ∃(l:Addr) (xs:List AV) (ys:List V),x' = .ref l/\bA X.K H l ys/\aO T ρ H xs ys/\W T (aF T) (k.gl xs h) ρ H Q E:=by
 unfold Kc.g at w;cases x with
 |ref n=>
  cases r with
  |@ref _ l q=>
   dsimp only at w;cases o:h.ob n with
   |none=>rw[o]at w;exact w.elim|some u=>
    rw[o]at w;cases u with
    |lst b xs=>obtain⟨ys,h1,h2⟩:=iS R o q;exact⟨l,xs,ys,rfl,by rw[hK];exact h1,h2,w⟩
    |_=>exact w.elim
 |_=>exact w.elim
theorem Xk(hK:X.K=T.K) (hc:X.calm=true) (hg:Gl X "any") (hm:X.mg "any"=none) (ha:QE X T E a m) (hs:aL a=true):QE X T E (.Call (.Name "any" p) [a] [] pos) (λσ=>(m σ).bind (Kc.any.g)):=by
 obtain⟨ta,pa,ra⟩:=ha;refine⟨_,rP (Jj hc) hg hm (by decide +kernel) (gB pa hZ (bH hs)) (by decide) (by decide) (bH hs) rfl,λρ σ σ' h H Q R S w=>?_⟩;refine ra ρ σ σ' h H _ R S (W.bind w λρ1 x x' h1 H1 e1 R1 q1 w1=>?_);obtain⟨l,xs,ys,rfl,hq,hr,w2⟩:=tR hK
  R1 q1 w1
 simp only[Kc.gl]at w2;cases q:jY xs with
 |none=>rw[q]at w2;exact w2.elim|some bs=>rw[q]at w2;have e:=ef hr q;subst e;exact⟨l,bs,rfl,hq,w2.here R1 (.bl _)⟩
theorem Xi(hK:X.K=T.K) (hc:X.calm=true) (hg:Gl X "all") (hm:X.mg "all"=none) (ha:QE X T E a m) (hs:aL a=true):QE X T E (.Call (.Name "all" p) [a] [] pos) (λσ=>(m σ).bind (Kc.all.g)):=by
 obtain⟨ta,pa,ra⟩:=ha;refine⟨_,rP (Ji hc) hg hm (by decide +kernel) (gB pa hZ (bH hs)) (by decide) (by decide) (bH hs) rfl,λρ σ σ' h H Q R S w=>?_⟩;refine ra ρ σ σ' h H _ R S (W.bind w λρ1 x x' h1 H1 e1 R1 q1 w1=>?_);obtain⟨l,xs,ys,rfl,hq,hr,w2⟩:=tR hK
  R1 q1 w1
 simp only[Kc.gl]at w2;cases q:jY xs with
 |none=>rw[q]at w2;exact w2.elim|some bs=>rw[q]at w2;have e:=ef hr q;subst e;exact⟨l,bs,rfl,hq,w2.here R1 (.bl _)⟩
theorem Xy(hK:X.K=T.K) (hc:X.calm=true) (hg:Gl X "max") (hm:X.mg "max"=none) (ha:QE X T E a m) (hs:aL a=true):QE X T E (.Call (.Name "max" p) [a] [] pos) (λσ=>(m σ).bind (Kc.mx.g)):=by
 obtain⟨ta,pa,ra⟩:=ha;refine⟨_,rP (Jt hc) hg hm (by decide +kernel) (gB pa hZ (bH hs)) (by decide) (by decide) (bH hs) rfl,λρ σ σ' h H Q R S w=>?_⟩;refine ra ρ σ σ' h H _ R S (W.bind w λρ1 x x' h1 H1 e1 R1 q1 w1=>?_);obtain⟨l,xs,ys,rfl,hq,hr,w2⟩:=tR hK
  R1 q1 w1
 simp only[Kc.gl]at w2;cases q:nE xs with
 |none=>rw[q]at w2;exact w2.elim|some ns=>
  rw[q]at w2;have e:=ip hr q;subst e;dsimp only at w2;by_cases hn:ns.isEmpty=true
  .rw[if_pos hn]at w2;exact w2.elim
  .rw[if_neg hn]at w2;exact⟨l,ns,rfl,hq,λz=>hn (by rw[z];rfl),w2.here R1 (.int _)⟩
theorem Yd(hK:X.K=T.K) {b:Bool} {k:Nat} {kp kq:Pos} (hg:Gl X "sorted") (hm:X.mg "sorted"=none) (ha:QE X T E a m) (hs:aL a=true) :
  QE X T E (.Call (.Name "sorted" p) [a] [⟨some "reverse",.Constant (.bool b) k kq,kp⟩] pos) (λσ=>(m σ).bind ((Kc.srt b).g)):=by
 obtain⟨ta,pa,ra⟩:=ha;refine⟨_,Ao (z:=.bl b) (r:=λv H Q=>∃l ns,v = .ref l/\bA X.K H l (ns.map V.int)/\ns.length<64/\∀D,H D=none->Q (.ref D) (aK H D (.lst ((sH b ns).map V.int)))) ?_ hg hm boot_sorted pa yU (bH hs) (by decide) (by decide),λρ σ σ' h H Q R S w=>?_⟩
 .intro pins s σ H v u zu Q I rv rz ⟨l,ns,ev,hq,hn,q⟩;subst ev;cases rv;have rz':zu=Value.bool b:=rz;subst rz';exact Jw b I hq hn q
 refine ra ρ σ σ' h H _ R S (W.bind w λρ1 x x' h1 H1 e1 R1 q1 w1=>?_);obtain⟨l,xs,ys,rfl,hq,hr,w2⟩:=tR hK
  R1 q1 w1
 simp only[Kc.gl]at w2;cases q:nE xs with
 |none=>rw[q]at w2;exact w2.elim|some ns=>
  rw[q]at w2;dsimp only at w2;have e:=ip hr q;subst e;by_cases hn:ns.length<64
  .rw[if_pos hn]at w2;exact⟨l,ns,rfl,hq,hn,λD hD=>pN R1 (aO.ints _) hD w2⟩
  .rw[if_neg hn]at w2;exact w2.elim
theorem Xx(hK:X.K=T.K) (hc:X.calm=true) {k:Nat} {kp kq:Pos} (hg:Gl X "min") (hm:X.mg "min"=none) (ha:QE X T E a m) (hs:aL a=true) :
  QE X T E (.Call (.Name "min" p) [a] [⟨some "default",.Constant .none k kq,kp⟩] pos) (λσ=>(m σ).bind (Kc.jg.g)):=by
 obtain⟨ta,pa,ra⟩:=ha;refine⟨_,Ao (z:=.aC) (r:=λv H Q=>∃l,v = .ref l/\bA X.K H l []/\Q .aC H) ?_ hg hm (show bootBuiltins "min"=some (.builtin "min") from by decide +kernel) pa yW (bH hs) (by decide) (by decide),λρ σ σ' h H Q R S w=>?_⟩
 .intro pins s σ H v u zu Q I rv rz ⟨l,ev,hq,q⟩;subst ev;cases rv;exact Jv hc I hq rz q
 refine ra ρ σ σ' h H _ R S (W.bind w λρ1 x x' h1 H1 e1 R1 q1 w1=>?_);obtain⟨l,xs,ys,rfl,hq,hr,w2⟩:=tR hK
  R1 q1 w1
 cases xs with
 |nil=>cases hr;exact⟨l,rfl,hq,W.here w2 R1 .aC⟩|cons _ _=>exact w2.elim
end
inductive BT where
 |aC|bl|int|str|tup|lst|bV
 deriving DecidableEq
def BT.nm:BT->String
 |.aC=>"NoneType" |.bl=>"bool" |.int=>"int" |.str=>"str" |.tup=>"tuple" |.lst=>"list" |.bV=>"dict"
def BT.sub(s t:BT):Bool:=decide (s=t)||(decide (s = .bl)&&decide (t = .int))
theorem pJ{K:W.Frag}(s t:BT):W.kitOne K (.type s.nm) (.type t.nm)=some (s.sub t):=by cases s<;>cases t<;>first|rfl|(with_unfolding_all rfl)|decide +kernel
inductive lA(K:W.Frag)(H:Hp):V->BT->Prop where
 |aC:lA K H .aC .aC
 |bl (x:Bool):lA K H (.bl x) .bl
 |int (i:Int):lA K H (.int i) .int
 |str (x:Str):lA K H (.str x) .str
 |lst {a:Addr} {xs:List V} (e:bA K H a xs):lA K H (.ref a) .lst
 |tup {a:Addr} {xs:List V} (e:bG K H a xs):lA K H (.ref a) .tup
 |bV {a:Addr} {aE:List (dO×V)} (e:H a=some (.dK aE)):lA K H (.ref a) .bV
def oQ(h:AH):AV->Option BT
 |.aC=>some .aC
 |.bl _=>some .bl
 |.int _=>some .int
 |.str _=>some .str
 |.tup _=>some .tup
 |.ref n=>match h.ob n with
  |some (.lst _ _)=>some .lst
  |some (.bV _)=>some .bV
  |_=>none
 |_=>none
def oX(t:BT)(x:AV):M AV:=λh=>match oQ h x with
 |some s=>.ok (.bl (s.sub t)) h
 |none=>.bad
section
variable {X:Cx}{T:Tab}{E:XK}{a b c e tg l o:Expr}{es:List Expr}{ma mb mc m:aA->M AV}{mr:aA->M (List AV)}{pos p apos:Pos}
theorem Jn(t:BT):dA X (.builtin "isinstance") (λxs H Q=>∃x s,xs=[x,.ty t.nm]/\lA X.K H x s/\Q (.bl (s.sub t)) H):=by
 intro pins st σ H xs us Q I r h;obtain⟨x,s,rfl,ty,q⟩:=h;obtain⟨u,w',rfl,ru,rw'⟩:=wD r;obtain rfl:w'=Value.type t.nm:=rw';have fin:∀tk,EP X pins σ Q (.bool (s.sub t)) { st with toks:=tk }:=λtk=>⟨.bl _,H,I.tok tk,rfl,q⟩;cases ty with
 |aC=>cases ru;exact W.kia_one W.kitx_none I.cW True.intro (pJ .aC t) (λz=>nomatch z) fin|bl y=>cases ru;exact W.kia_one W.kitx_bool I.cW True.intro (pJ .bl t) (λz=>nomatch z) fin|int i=>obtain⟨tk,rfl⟩:=ru;exact W.kia_one W.kitx_int I.cW True.intro (pJ .int t) (λz=>nomatch z) fin|str y=>obtain⟨tk,rfl⟩:=ru;exact W.kia_one W.kitx_str I.cW True.intro (pJ .str t) (λz=>nomatch z) fin|lst e=>cases ru;obtain⟨_,_,⟨ob,n,h1,h2,_⟩,_⟩:=I.list e;exact W.kia_one W.kitx_list I.cW ⟨ob,h1,h2⟩ (pJ .lst t) (λz=>nomatch z) fin
 |tup e=>cases ru;obtain⟨_,_,⟨ob,h1,h2,_⟩,_⟩:=I.tuple e;exact W.kia_one W.kitx_tuple I.cW ⟨ob,h1,h2⟩ (pJ .tup t) (λz=>nomatch z) fin
 |@bV a aE e=>cases ru;obtain⟨_,_,vs,_,ob,es,ep,h1,h2,_⟩:=(show dD X.prog X.w H st.heap a (.dK aE) from I.aI a _ e);exact W.kia_one W.kitx_dict I.cW ⟨ob,h1,h2.1⟩ (pJ .bV t) (λz=>nomatch z) fin
theorem Jf(hK:X.K=T.K){ρ:List Addr}{h:AH}{H:Hp}{x:AV}{x':V}{s:BT}(R:aN T ρ h H)(r:aF T ρ H x x')(e:oQ h x=some s):lA X.K H x' s:=by
 cases r with
 |aC=>cases e;exact .aC|bl b=>cases e;exact .bl b|int i=>cases e;exact .int i|str y=>cases e;exact .str y|tup hq hr=>cases e;exact .tup (by rw[hK];exact hq)|@ref n a q=>
  simp only[oQ]at e;cases o:h.ob n with
  |none=>rw[o]at e;cases e|some u=>
   rw[o]at e;cases u with
   |lst m xs=>cases e;obtain⟨ys,h1,_⟩:=iS R o q;exact .lst (by rw[hK];exact h1)
   |bV aE=>cases e;obtain⟨ks,ys,h1,_⟩:=R.obj n _ a o q;exact .bV h1
   |ins _ _=>cases e|xo _=>cases e
 |lK q=>cases e
theorem Xs(hK:X.K=T.K) {y:Str} {p2:Pos} (t:BT) (hg:Gl X "isinstance") (hm:X.mg "isinstance"=none) (hg2:Gl X y) (hm2:X.mg y=none) (hv2:bootBuiltins y=some (.type t.nm)) (hn2:y≠"__name__") (hd2:(y==("__debug__":Str))=false)
  (ha:QE X T E a m) (hs:aL a=true):QE X T E (.Call (.Name "isinstance" p) [a,.Name y p2] [] pos) (λσ=>(m σ).bind (oX t)):=by
 obtain⟨ta,pa,ra⟩:=ha;refine⟨_,rP (Jn t) hg hm boot_isinstance (gB pa (gB (An (v:=.ty t.nm) hg2 hm2 hv2 rfl hn2 hd2) hZ) (bH hs)) (by decide) (by decide) (bH hs) rfl,λρ σ σ' h H Q R S w=>?_⟩;refine ra ρ σ σ' h H _ R S (W.bind w λρ1 x x' h1 H1 e1 R1 q1 w1=>?_);unfold oX at w1;cases o:oQ h1 x with
 |none=>rw[o]at w1;exact w1.elim|some s=>rw[o]at w1;exact⟨x',s,rfl,Jf hK R1 q1 o,w1.here R1 (.bl _)⟩
def lJ(cs:List (Nat×Bool))(x:AV):M AV:=λh=>match x with
 |.ref n=>match h.ob n with
  |some (.xo c)=>match cs.lookup (c%64) with
   |some b=>.ok (.bl b) h
   |none=>.bad
  |_=>.bad
 |_=>.bad
theorem Jo{v:V}{c:Value}(hv:∀u,RelV v u->u=c):dA X (.builtin "isinstance") (λxs H Q=>∃a C dx b,xs=[.ref a,v]/\H a=some (.ext (fL a (.ref C) dx))/\W.qG X.K C=true/\W.kitOne X.K (.ref C) c=some b/\Q (.bl b) H):=by intro pins st σ H xs us Q I r h;obtain⟨a,C,dx,b,rfl,e,hx,hk,q⟩:=h;obtain⟨u,w',rfl,ru,rw'⟩:=wD r;obtain rfl:=hv _ rw';cases ru;obtain⟨p,_,_⟩:=(show dD X.prog X.w H st.heap a (.ext (fL a (.ref C) dx)) from I.aI a _ e);exact W.kia_one (W.NJ hx) I.cW p hk (λz=>nomatch z) λtk=>⟨.bl _,H,I.tok tk,rfl,q⟩
theorem Xt(hK:X.K=T.K) {y:Str} {p2:Pos} {v:V} {d:Value} {cs:List (Nat×Bool)} (hv:∀u,RelV v u->u=d) (hg:Gl X "isinstance") (hm:X.mg "isinstance"=none) (py:PE X (.Name y p2) (tC v))
  (hcs:∀k b,cs.lookup k=some b->∃C,T.C k=some C/\W.qG X.K C=true/\W.kitOne X.K (.ref C) d=some b)
  (ha:QE X T E a m) (hs:aL a=true):QE X T E (.Call (.Name "isinstance" p) [a,.Name y p2] [] pos) (λσ=>(m σ).bind (lJ cs)):=by
 obtain⟨ta,pa,ra⟩:=ha;refine⟨_,rP (Jo hv) hg hm boot_isinstance (gB pa (gB py hZ) (bH hs)) (by decide) (by decide) (bH hs) rfl,λρ σ σ' h H Q R S w=>?_⟩;refine ra ρ σ σ' h H _ R S (W.bind w λρ1 x x' h1 H1 e1 R1 q1 w1=>?_);unfold lJ at w1;cases x with
 |ref n=>
  dsimp only at w1;cases q1 with
  |@ref _ a' q=>
   cases o:h1.ob n with
   |none=>rw[o]at w1;exact w1.elim|some u=>
    rw[o]at w1;cases u with
    |xo c=>
     dsimp only at w1;cases l:cs.lookup (c%64) with
     |none=>rw[l]at w1;exact w1.elim|some b=>rw[l]at w1;obtain⟨C,dx,hC,g1,_⟩:=R1.obj n _ a' o q;obtain⟨C',hC',hx,hk⟩:=hcs _ b l;rw[hC]at hC';cases hC';exact⟨a',C,dx,b,rfl,g1,hx,hk,w1.here R1 (.bl _)⟩
    |_=>exact w1.elim
 |_=>exact w1.elim
def nA(cs:List Nat)(x:AV):M AV:=λh=>match x with
 |.ref n=>match h.ob n with
  |some (.xo c)=>if(cs.contains (c%64)&&decide (c / 64≠0))=true then .ok (.int (c / 64-1:Nat)) h else .bad
  |_=>.bad
 |_=>.bad
def lI(x v:AV):M AV:=λh=>match x with
 |.ref n=>match h.ob n with
  |some (.lst true xs)=>if xs.length<sizeLine then .ok .aC (h.put n (.lst true (xs++[v]))) else .bad
  |_=>.bad
 |_=>.bad
def nF(h:AH):AV->Bool
 |.ref n=>match h.ob n with
  |some (.lst _ _)=>true
  |_=>false
 |_=>false
def dn(a b:M AV):M AV:=a.bind λx h=>if nF h x=true then(b.bind λy=>lI x y) h else .bad
theorem rH{α β:Type} [BEq α] [LawfulBEq α]:∀{l:List (α×β)} {x:α} {v:β},l.lookup x=some v->(x,v)∈l
 |[],_,_,h=>by cases h
 | (k,u)::r,x,v,h=>by
  rw[List.lookup_cons]at h;cases hb:(x==k) with
  |true=>simp only[hb]at h;rw[eq_of_beq hb,Option.some.inj h];exact List.mem_cons_self ..
  |false=>simp only[hb]at h;exact List.mem_cons_of_mem _ (rH h)
def jX:Expr->Bool
 |.Name ..=>true | .Attribute ..=>true | .Subscript ..=>true
 |.Call (.Attribute ..) _ _ _=>true
 |.Call (.Name ..) (_::_) _ _=>true
 |_=>false
theorem xD{o:Expr}{f:Str}{env:Env}{whole:Sem Value}(h:jX o=true):attributeBase o f env whole=whole:=by
 cases o with
 |Name=>rfl|Attribute=>rfl|Subscript=>rfl|Call g es ks p=>
  cases g with
  |Attribute=>rfl|Name=>
   cases es with
   |nil=>cases h|cons=>rfl
  |_=>cases h
 |_=>cases h
theorem Yk{cs:List Nat} (hC:∀c,cs.contains c=true->∃D,T.C c=some D/\W.gS X.K D "line"=true) (ho:QE X T E o ma) (hb:jX o=true):QE X T E (.Attribute o "line" pos) (λσ=>(ma σ).bind (nA cs)):=by
 obtain⟨ta,pa,ra⟩:=ho;refine⟨_,Vd pa (xD hb),λρ σ σ' h H Q R S w=>ra ρ σ σ' h H _ R S (W.bind w λρ1 x x' h1 H1 e1 R1 q1 w1=>?_)⟩;cases x with
 |ref n=>
  cases q1 with
  |@ref _ p q=>
   simp only[nA]at w1;cases ob:h1.ob n with
   |none=>rw[ob]at w1;exact w1.elim|some u=>
    rw[ob]at w1;cases u with
    |xo c=>
     obtain⟨C,dx,hc,g,hx⟩:=R1.obj n _ p ob q;by_cases hm:(cs.contains (c%64)&&decide (c / 64≠0))=true
     case neg=>simp only[if_neg hm]at w1;exact w1.elim
     simp only[if_pos hm]at w1;rw[Bool.and_eq_true,decide_eq_true_eq]at hm;obtain⟨D,hD,aI⟩:=hC _ hm.1;rw[hc]at hD;cases hD;obtain⟨d,od,rfl,hd⟩:=hx hm.2;exact⟨p,C,d,od,_,rfl,g,hd,aI,W.here w1 R1 (.int _)⟩
    |_=>exact w1.elim
 |_=>exact w1.elim
theorem ML{ρ:List Addr}{H:Hp}{p:Addr}{O O':HO}(g1:H p=some O)(nt:∀xs,O ≠ .tup xs)(nf:∀x u,O ≠ .bO x u):Ext ρ H ρ (aK H p O'):=⟨λ_ _ z=>z,λb xs z=>by
 rw[aT (rM z g1 λw=>nt xs w.symm)];exact z,λb x u z=>by
 rw[aT (rM z g1 λw=>nf x u w.symm)];exact z⟩
theorem Xl(hK:X.K=T.K)(ho:QE X T E o ma)(ha:QE X T E a mb)(hb:jX o=true)(hs:aL a=true)(hl:(apos.endLine==pos.line)=true) :
  QE X T E (.Call (.Attribute o "append" apos) [a] [] pos) (λσ=>dn (ma σ) (mb σ)):=by
 obtain⟨ta,pa,ra⟩:=ho;obtain⟨tb,pb,rb⟩:=ha;refine⟨_,yV PySem.F.plainAttrs_list PySem.F.slot_list_append PySem.F.type_list_append Qg pa (gB pb hZ (bH hs)) (xD hb) (by rw[bH hs];rfl) hl (bH hs) rfl,λρ σ σ' h H Q R S w=>?_⟩;refine ra ρ σ σ' h H _ R S (W.bind w λρ1 x x' h1 H1 e1 R1 q1 w1=>?_);have w1':W T (aF T) (if nF h1 x=true then((mb σ).bind λy=>lI x y) h1 else .bad) ρ1 H1 Q E:=w1;by_cases hL:nF h1 x=true
 case neg=>rw[if_neg hL]at w1';exact w1'.elim
 rw[if_pos hL]at w1';cases x with
 |ref n=>
  cases q1 with
  |@ref _ p q=>
   have fin:∀ρ2 y y' h2 H2,Ext ρ1 H1 ρ2 H2->aN T ρ2 h2 H2->aF T ρ2 H2 y y'->W T (aF T) (lI (.ref n) y h2) ρ2 H2 Q E->Bz (.ref p) [y'] H2 Q:=λρ2 y y' h2 H2 e2 R2 q2 w2=>by
    have q':=e2.pre n p q;simp only[lI]at w2;cases ob:h2.ob n with
    |none=>rw[ob]at w2;exact w2.elim|some u=>
     rw[ob]at w2;cases u with
     |lst mu xs=>
      cases mu with
      |true=>
       obtain⟨ys,g1,r1⟩:=R2.obj n _ p ob q';by_cases hz:xs.length<sizeLine
       .simp only[if_pos hz]at w2;obtain⟨R3,e3⟩:=R2.write (o':=.lst true (xs++[y])) (O':=.lst (ys++[y'])) ob rfl rfl q' g1 (λ_ z=>by cases z) (λ_ _ z=>by cases z)
         ⟨_,eF,(r1.append (.cons q2 .nil)).ext (ML g1 (λ_ z=>by cases z) (λ_ _ z=>by cases z))⟩
        exact⟨p,ys,y',rfl,rfl,g1,by rw[<- r1.length];exact hz,W.ok w2 e3 R3 .aC⟩
       .simp only[if_neg hz]at w2;exact w2.elim
      |false=>exact w2.elim
     |bV _=>exact w2.elim|ins _ _=>exact w2.elim|xo _=>exact w2.elim
   refine⟨.inl ⟨rfl,?_⟩,rb ρ1 σ σ' h1 H1 _ R1 (S.ext e1) (W.bind w1' λρ2 y y' h2 H2 e2 R2 q2 w2=>fin ρ2 y y' h2 H2 e2 R2 q2 w2)⟩;simp only[nF]at hL;cases ob:h1.ob n with
   |none=>rw[ob]at hL;cases hL|some u=>
    cases u with
    |lst mu xs=>obtain⟨ys,g1,_⟩:=iS R1 ob q;exact⟨ys,by rw[hK];exact g1⟩
    |bV _=>rw[ob]at hL;cases hL|ins _ _=>rw[ob]at hL;cases hL|xo _=>rw[ob]at hL;cases hL
 |_=>cases hL
def qz(P:Program)(w:World)(K:W.Frag)(a:Addr)(aE:List (Str×Int)):Prop:=∀h:Heap,K.In h->StrTab P w h a (aE.map λp=>(PyData.str p.1,PyData.int p.2))
def OB:List AV->Option (Str×Int)
 |[.str s,.int z]=>some (s,z)
 |_=>none
def pC(aE:List (Str×AV))(y:AV):M AV:=λh=>match y with
 |.str k=>match aE.lookup k with
  |some v=>.ok v h
  |none=>.bad
 |_=>.bad
def wX(X:Cx)(T:Tab)(x:Str)(aE:List (Str×AV)):Prop:=∃(a:Addr) (us:List (Str×Value)),X.mg x=some (.ref a)/\oK X.prog X.w X.K a us /\
 (a==sysModules)=false/\(∀k,aE.lookup k=none->valueAt us k=none) /\
 ∀k v,aE.lookup k=some v->∃u v',valueAt us k=some u/\RelV v' u/\∀ρ H,aF T ρ H v v'
theorem Yf{x:Str} {aE:List (Str×AV)} {b:Expr} {mb:aA->M AV} {p1 pos:Pos} (hg:Gl X x) (hT:wX X T x aE) (hb:QE X T E b mb) (hs:wR b) (hd:(x==("__debug__":Str))=false) :
  QE X T E (.Subscript (.Name x p1) b pos) (λσ=>(mb σ).bind (pC aE)):=by
 obtain⟨tb,pb,rb⟩:=hb;obtain⟨a,us,hm,hK,-,-,hv⟩:=hT;refine⟨_,Aq Oi (rQ (v:=.ref a) hg hm rfl hd) pb hs,λρ σ σ' h H Q R S w=>?_⟩;refine rb ρ σ σ' h H _ R S (W.bind w λρ1 y y' h1 H1 e1 R1 q1 w1=>?_);cases y with
 |str k=>
  cases q1;simp only[pC]at w1;cases l:aE.lookup k with
  |none=>rw[l]at w1;exact w1.elim|some v=>rw[l]at w1;obtain⟨u,v',h1,h2,h3⟩:=hv k v l;exact⟨a,us,k,u,v',rfl,rfl,hK,h1,h2,W.here w1 R1 (h3 _ _)⟩
 |_=>exact w1.elim
def nU:List AV->Option (List Str)
 |[]=>some []
 |.str x::r=>(nU r).map (x::·)
 |_::_=>none
theorem Dz:∀{xs:List AV} {ts:List Str},nU xs=some ts->xs=ts.map AV.str
 |[],ts,h=>by cases h;rfl
 |x::r,ts,h=>by
  cases x with
  |str y=>
   simp only[nU]at h;cases q:nU r with
   |none=>rw[q]at h;cases h|some us=>rw[q]at h;cases h;rw[Dz q];rfl
  |_=>cases h
theorem aO.strs:∀{ρ:List Addr} {H:Hp} {ts:List Str} {ys:List V},aO T ρ H (ts.map AV.str) ys->ys=ts.map V.str
 |_,_,[],_,.nil=>rfl|_,_,t::ts,_,.cons (.str _) r=>by rw[aO.strs r];rfl
inductive Tk where
 |sw|ew|st|sp|pa
 |ls
def Tk.nm:Tk->Str
 |.sw=>"startswith" |.ew=>"endswith" |.st=>"strip" |.sp=>"split" |.pa=>"partition"
 |.ls=>"lstrip"
def vQ(z u:Str):Bool:=!(u.length==0)&&(decide (z.length<=sizeLine)&&(decide ((Txt.split z u).length<=sizeLine)&&decide ((Builtin.Str.partsBetween z (Builtin.Str.occurrences z u 0 z.length (z.length+1)) u.length).length<=sizeLine)))
def dB(k:Tk)(x y:AV):M AV:=λh=>match x,y with
 |.str z,.str u=>match k with
  |.sw=>.ok (.bl (Txt.startswith z u)) h
  |.ew=>.ok (.bl (Txt.endswith z u)) h
  |.st=>if z.length<=sizeLine then .ok (.str (Txt.stripChars z u)) h else .bad
  |.ls=>if z.length<=sizeLine then .ok (.str (Txt.lstripChars z u)) h else .bad
  |.sp=>if vQ z u=true then gA ((Txt.split z u).map AV.str) h else .bad
  |.pa=>if(u.length==0)=false/\z.length<=sizeLine then .ok (.tup ((pR z u).map AV.str)) h else .bad
 |_,_=>.bad
def bq(k:Tk)(a b:M AV):M AV:=a.bind λx=>match x with
 |.str z=>b.bind λy=>dB k (.str z) y
 |_=>M.bad
theorem aO.ni{ρ:List Addr}{H:Hp}:∀{ts:List Str},aO T ρ H (ts.map AV.str) (ts.map V.str)
 |[]=>.nil
 |_::_=>.cons (.str _) aO.ni
theorem rT{k:Tk} {id:String} {r:V->List V->Hp->VK->Prop} (hsl:Slot "str" k.nm id) (hty:typeOf (.builtin id)=pure (.type "method_descriptor")) (hm:iK X id r) (ho:QE X T E o ma) (ha:QE X T E a mb) (hb:jX o=true) (hs:aL a=true) (hl:(apos.endLine==pos.line)=true)
  (hr:∀ρ h H z u Q,aN T ρ h H->W T (aF T) (dB k (.str z) (.str u) h) ρ H Q E->r (.str z) [.str u] H Q) :
  QE X T E (.Call (.Attribute o k.nm apos) [a] [] pos) (λσ=>bq k (ma σ) (mb σ)):=by
 obtain⟨ta,pa,ra⟩:=ho;obtain⟨tb,pb,rb⟩:=ha;refine⟨_,yV PySem.F.plainAttrs_str hsl hty hm pa (gB pb hZ (bH hs)) (xD hb) (by rw[bH hs];rfl) hl (bH hs) rfl,λρ σ σ' h H Q R S w=>?_⟩;refine ra ρ σ σ' h H _ R S (W.bind w λρ1 x x' h1 H1 e1 R1 q1 w1=>?_);cases x with
 |str z=>
  cases q1;refine⟨rfl,rb ρ1 σ σ' h1 H1 _ R1 (S.ext e1) (W.bind w1 λρ2 y y' h2 H2 e2 R2 q2 w2=>?_)⟩;cases y with
  |str u=>cases q2;exact hr ρ2 h2 H2 z u Q R2 w2
  |_=>exact w2.elim
 |_=>exact w1.elim
theorem Yg(k:Tk)(ho:QE X T E o ma)(ha:QE X T E a mb)(hb:jX o=true)(hs:aL a=true)(hl:(apos.endLine==pos.line)=true) :
  QE X T E (.Call (.Attribute o k.nm apos) [a] [] pos) (λσ=>bq k (ma σ) (mb σ)):=by
 cases k with
 |sw=>exact rT PySem.F.slot_str_startswith PySem.F.type_str_startswith Qm ho ha hb hs hl λρ h H z u Q R w=>⟨z,u,rfl,rfl,W.here w R (.bl _)⟩|ew=>exact rT PySem.F.slot_str_endswith PySem.F.type_str_endswith Qh ho ha hb hs hl λρ h H z u Q R w=>⟨z,u,rfl,rfl,W.here w R (.bl _)⟩|st=>
  exact rT PySem.F.slot_str_strip PySem.F.type_str_strip Qn ho ha hb hs hl λρ h H z u Q R w=>by
   by_cases hz:z.length<=sizeLine
   .simp only[dB,if_pos hz]at w;exact⟨z,u,rfl,rfl,hz,W.here w R (.str _)⟩
   .simp only[dB,if_neg hz]at w;exact w.elim
 |ls=>
  exact rT PySem.F.slot_str_lstrip PySem.F.type_str_lstrip Qj ho ha hb hs hl λρ h H z u Q R w=>by
   by_cases hz:z.length<=sizeLine
   .simp only[dB,if_pos hz]at w;exact⟨z,u,rfl,rfl,hz,W.here w R (.str _)⟩
   .simp only[dB,if_neg hz]at w;exact w.elim
 |sp=>
  exact rT PySem.F.slot_str_split PySem.F.type_str_split Ql ho ha hb hs hl λρ h H z u Q R w=>by
   by_cases hz:vQ z u=true
   .simp only[dB,if_pos hz]at w;simp only[vQ,Bool.and_eq_true,Bool.not_eq_true',decide_eq_true_eq]at hz;exact⟨z,u,rfl,rfl,hz.1,hz.2.1,hz.2.2.1,hz.2.2.2,λD hD=>pN R aO.ni hD w⟩
   .simp only[dB,if_neg hz]at w;exact w.elim
 |pa=>
  exact rT PySem.F.slot_str_partition PySem.F.type_str_partition Qk ho ha hb hs hl λρ h H z u Q R w=>by
   by_cases hz:(u.length==0)=false/\z.length<=sizeLine
   .simp only[dB,if_pos hz]at w;exact⟨z,u,rfl,rfl,hz.1,hz.2,λD hD=>tV R aO.ni hD w⟩
   .simp only[dB,if_neg hz]at w;exact w.elim
def pE(x:AV):M AV:=λh=>match x with
 |.str z=>if Builtin.Str.tooLong (Txt.upper z).length=false then .ok (.str (Txt.upper z)) h else .bad
 |_=>.bad
theorem Yj(ho:QE X T E o ma)(hb:jX o=true)(hl:(apos.endLine==pos.line)=true):QE X T E (.Call (.Attribute o "upper" apos) [] [] pos) (λσ=>(ma σ).bind pE):=by
 obtain⟨ta,pa,ra⟩:=ho;refine⟨_,Ul PySem.F.plainAttrs_str PySem.F.slot_str_upper PySem.F.type_str_upper Qp pa (xD hb) hl,λρ σ σ' h H Q R S w=>?_⟩;refine ra ρ σ σ' h H _ R S (W.bind w λρ1 x x' h1 H1 e1 R1 q1 w1=>?_);cases x with
 |str z=>
  cases q1;simp only[pE]at w1;by_cases hz:Builtin.Str.tooLong (Txt.upper z).length=false
  .rw[if_pos hz]at w1;exact⟨rfl,z,rfl,rfl,hz,W.here w1 R1 (.str _)⟩
  .rw[if_neg hz]at w1;exact w1.elim
 |_=>exact w1.elim
def rg(X:Cx)(x:Str)(ts:List Str):Prop:=∃(a:Addr) (o:Obj) (its:Array Value) (n:Nat),X.mg x=some (.ref a)/\X.K.lookup a=some o/\o.cls = .type "tuple"/\o.dict=none/\o.data = .seq its n/\its.size<=sizeLine/\Vals (ts.map V.str) its.toList
def pB(ts:List Str)(y:AV):M AV:=λh=>match y with
 |.str u=>match ts.idxOf? u with
  |some i=>.ok (.int (i:Nat)) h
  |none=>.bad
 |_=>.bad
theorem Ye{x:Str} {ts:List Str} {p1:Pos} (hg:Gl X x) (hT:rg X x ts) (ha:QE X T E a mb) (hs:aL a=true) (hd:(x==("__debug__":Str))=false) (hl:(apos.endLine==pos.line)=true) :
  QE X T E (.Call (.Attribute (.Name x p1) "index" apos) [a] [] pos) (λσ=>(mb σ).bind (pB ts)):=by
 obtain⟨tb,pb,rb⟩:=ha;obtain⟨d,o,its,n,hm,hk,hc,hn,hdt,hz,hv⟩:=hT;refine⟨_,yV PySem.F.plainAttrs_tuple PySem.F.slot_tuple_index PySem.F.type_tuple_index Qo (rQ (v:=.ref d) hg hm rfl hd) (gB pb hZ (bH hs)) rfl (by rw[bH hs];rfl) hl (bH hs) rfl,λρ σ σ' h H Q R S w=>?_⟩;refine⟨.inr (.inl ⟨rfl,o,hk,hc,hn⟩),rb ρ σ σ' h H _ R S (W.bind w λρ2 y y' h2 H2 e2 R2 q2 w2=>?_)⟩;cases y with
 |str u=>
  cases q2;simp only[pB]at w2;cases hi:ts.idxOf? u with
  |none=>rw[hi]at w2;exact w2.elim|some i=>rw[hi]at w2;exact⟨d,ts,u,i,rfl,.inr ⟨o,its,n,hk,hc,hdt,hz,hv⟩,rfl,hi,W.here w2 R2 (.int _)⟩
 |_=>exact w2.elim
def hU(neg:Bool)(aE:List (Str×AV))(y:AV):M AV:=λh=>match y with
 |.str k=>match aE.lookup k with
  |some _=>.ok (.bl (!neg)) h
  |none=>.ok (.bl neg) h
 |_=>.bad
def ig(neg:Bool):CmpOp:=if neg then .NotIn else .In
theorem Ae(neg:Bool):aS X (compareOp (ig neg)) (ah X neg):=by
 cases neg with
 |true=>exact Sm|false=>exact Sb
theorem Er{neg:Bool}{x:Str}{aE:List (Str×AV)}{a:Addr}{us:List (Str×Value)}(hK:oK X.prog X.w X.K a us)(hs:(a==sysModules)=false)(hv:∀k v,aE.lookup k=some v->∃u v',valueAt us k=some u/\RelV v' u/\∀ρ H,aF T ρ H v v')(hz:∀k,aE.lookup k=none->valueAt us k=none)
  {ρ:List Addr} {h:AH} {H:Hp} {y:AV} {y':V} {Q:VK} (R:aN T ρ h H) (r:aF T ρ H y y') (w:W T (aF T) (hU neg aE y h) ρ H Q E):ah X neg y' (.ref a) H Q:=by
 cases y with
 |str k=>
  cases r;simp only[hU]at w;cases l:aE.lookup k with
  |none=>rw[l]at w;refine⟨a,us,k,rfl,rfl,hK,hs,?_⟩;rw[hz k l];cases neg<;>exact W.here w R (.bl _)
  |some v=>rw[l]at w;obtain⟨u,v',h1,h2,h3⟩:=hv k v l;refine⟨a,us,k,rfl,rfl,hK,hs,?_⟩;rw[h1];cases neg<;>exact W.here w R (.bl _)
 |_=>exact w.elim
theorem Bb{neg:Bool} {x:Str} {aE:List (Str×AV)} {p1:Pos} (hg:Gl X x) (hT:wX X T x aE) (ha:QE X T E a mb) (hd:(x==("__debug__":Str))=false) :
  QE X T E (.Compare a [ig neg] [.Name x p1] pos) (λσ=>(mb σ).bind (hU neg aE)):=by
 obtain⟨tb,pb,rb⟩:=ha;obtain⟨d,us,hm,hK,hs,hz,hv⟩:=hT;refine⟨_,Ap (Ae neg) pb (rQ (v:=.ref d) hg hm rfl hd) (by cases neg<;>rfl),λρ σ σ' h H Q R S w=>?_⟩;exact rb ρ σ σ' h H _ R S (W.bind w λρ2 y y' h2 H2 e2 R2 q2 w2=>Er (x:=x) hK hs hv hz R2 q2 w2)
theorem Bx{neg:Bool} {x:Str} {aE:List (Str×AV)} {p1:Pos} (hg:Gl X x) (hT:wX X T x aE) (ha:QE X T E a mb) (hd:(x==("__debug__":Str))=false) :
  QT X T E (.Compare a [ig neg] [.Name x p1] pos) (λσ=>((mb σ).bind (hU neg aE)).bind mX):=by
 obtain⟨tb,pb,rb⟩:=ha;obtain⟨d,us,hm,hK,hs,hz,hv⟩:=hT;refine⟨_,Ay (Ae neg) pb (rQ (v:=.ref d) hg hm rfl hd) (by cases neg<;>rfl),λρ σ σ' h H Q R S w=>?_⟩;have w':W T (aF T) ((mb σ).bind (hU neg aE) h) ρ H (λx H'=>∃k,x = .bl k/\Q k H') E:=W.bind w λρ1 z z' h1 H1 e1 R1 q1 w1=>xF R1 q1 w1;exact rb ρ σ σ' h H _ R S (W.bind w' λρ2 y y' h2 H2 e2 R2 q2 w2=>Er (x:=x) hK hs hv hz R2 q2 w2)
def bp(m:Str):Option Tk:=if m="startswith" then some .sw else if m="endswith" then some .ew else if m="strip" then some .st else if m="split" then some .sp else if m="partition" then some .pa else
 if m="lstrip" then some .ls else
 none
theorem HY{m:Str}{k:Tk}(h:bp m=some k):m=k.nm:=by
 unfold bp at h;repeat' (split at h;· rename_i e;cases h;exact e)
 cases h
def oZ(z:Str)(x:AV):M AV:=λh=>match x with
 |.ref n=>match h.ob n with
  |some (.lst _ xs)=>match nU xs with
   |some ts=>if JoinOk z ts=true then .ok (.str (Txt.join z ts)) h else .bad
   |none=>.bad
  |_=>.bad
 |_=>.bad
theorem Xv{z:Str}{k:Nat}{p0:Pos}(hK:X.K=T.K)(ha:QE X T E a mb)(hs:aL a=true)(hl:(apos.endLine==pos.line)=true) :
  QE X T E (.Call (.Attribute (.Constant (.str z) k p0) "join" apos) [a] [] pos) (λσ=>(mb σ).bind (oZ z)):=by
 obtain⟨tb,pb,rb⟩:=ha;refine⟨_,yV PySem.F.plainAttrs_str PySem.F.slot_str_join PySem.F.type_str_join Qi (yX (x:=z)) (gB pb hZ (bH hs)) rfl (by rw[bH hs];rfl) hl (bH hs) rfl,λρ σ σ' h H Q R S w=>?_⟩;refine⟨rfl,rb ρ σ σ' h H _ R S (W.bind w λρ1 y y' h1 H1 e1 R1 q1 w1=>?_)⟩;cases y with
 |ref n=>
  cases q1 with
  |@ref _ p q=>
   simp only[oZ]at w1;cases ob:h1.ob n with
   |none=>rw[ob]at w1;exact w1.elim|some u=>
    rw[ob]at w1;cases u with
    |lst mu xs=>
     obtain⟨ys,g1,r1⟩:=iS R1 ob q;cases l:nU xs with
     |none=>simp only[l]at w1;exact w1.elim|some ts=>
      simp only[l]at w1;have e:=Dz l;subst e;have e2:=aO.strs r1;subst e2;by_cases hj:JoinOk z ts=true
      .rw[if_pos hj]at w1;exact⟨z,p,ts,rfl,rfl,by rw[hK];exact g1,hj,W.here w1 R1 (.str _)⟩
      .rw[if_neg hj]at w1;exact w1.elim
    |_=>exact w1.elim
 |_=>exact w1.elim
end
inductive Op where
 |add|sub|mul|fdiv|mod|pow|shl|shr|band|bor|bxor|ix
def Op.g:Op->AV->AV->M AV
 |.add=>fU | .sub=>xW | .mul=>rB | .fdiv=>wz | .mod=>xk | .pow=>xm | .shl=>xp | .shr=>xq | .band=>wx | .bor=>xl | .bxor=>xr | .ix=>qZ
inductive Cp where
 |eq|ne|lt|le|gt|ge|kG|isn|rE|nin
def Cp.g:Cp->AV->AV->M AV
 |.eq=>tK | .ne=>tM | .lt=>xh | .le=>xf | .gt=>xc | .ge=>xb | .kG=>gm | .isn=>gp | .rE=>mY false | .nin=>mY true
inductive Bi where
 |len|int|min|max|divmod|tuple|list
 |str
def Bi.g:Bi->List AV->M AV
 |.len=>pA | .int=>tL | .min=>xj | .max=>xi | .divmod=>wy | .tuple=>xX | .list=>xg
 |.str=>rD
inductive CT where
 |bad
 |nm (i:Nat)
 |tup (is:List Nat)
def wZ:List Nat->List AV->aA->M aA
 |[]=>gu
 |i::is=>gr (λv σ=>M.ret (σ.set i (some v))) (wZ is)
def lB:CT->AV->aA->M aA
 |.bad,_,_=>M.bad
 |.nm i,v,σ=>M.ret (σ.set i (some v))
 |.tup is,v,σ=>pD is.length (wZ is) v σ
mutual
inductive Ex where
 |mQ (imp:List (Option Nat)) (t:CT) (it:Ir) (e:Ex)
 |qV (imp:List (Option Nat)) (t:CT) (it:Ir) (c e:Ex)
 |bad|no
 |var (i:Nat)
 |val (v:AV)
 |op (o:Op) (a b:Ex)
 |cmp (o:Cp) (a b:Ex)
 |chain (o o':Cp) (a b c:Ex)
 |fv (o o' o'':Cp) (a b c d:Ex)
 |neg (a:Ex)
 |not (a:Ex)
 |and (a b:Ex)
 |or (a b:Ex)
 |ite (c a b:Ex)
 |tup (es:cT)
 |lst (es:cT)
 |slice (a lo hi:Ex)
 |call (f:Nat) (es:cT)
 |bi (f:Bi) (es:cT)
 |eG (t:BT) (a:Ex)
 |sN (aE:List (Str×AV)) (a:Ex)
 |join (z:Str) (a:Ex)
 |tm (k:Tk) (o a:Ex)
 |sM (ts:List Str) (a:Ex)
 |nW (neg:Bool) (aE:List (Str×AV)) (a:Ex)
 |kc (k:Kc) (a:Ex)
 |bT (cs:List (Nat×Bool)) (a:Ex)
 |up (o:Ex)
 |oF (cs:List Nat) (o:Ex)
 |app (o a:Ex)
inductive cT where
 |nil
 |cons (e:Ex) (es:cT)
inductive Ir where
 |bad
 |seq (e:Ex)
 |rX (es:cT)
 |vN (es:cT)
 |enum (e:Ex)
 |zip (es:cT)
end
abbrev Run:=Nat->List AV->M AV
def iA(e:Ex)(m:M AV):M (Option Int):=match e with
 |.no=>M.ret none
 |_=>m.bind tO
mutual
noncomputable def aD(F:Run):Ex->aA->M AV
 |.bad,_=>M.bad
 |.no,_=>M.bad
 |.var i,σ=>pF i σ
 |.val v,_=>M.ret v
 |.op o a b,σ=>lR o.g (aD F a σ) (aD F b σ)
 |.cmp o a b,σ=>lR o.g (aD F a σ) (aD F b σ)
 |.chain o o' a b c,σ=>qT o.g o'.g (aD F a σ) (aD F b σ) (aD F c σ)
 |.fv o o' o'' a b c d,σ=>qR o.g o'.g o''.g (aD F a σ) (aD F b σ) (aD F c σ) (aD F d σ)
 |.neg a,σ=>(aD F a σ).bind tN
 |.not a,σ=>(aD F a σ).bind λx=>(bC x).bind λb=>M.ret (.bl (!b))
 |.and a b,σ=>rq (aD F a σ) (aD F b σ)
 |.or a b,σ=>Ag (aD F a σ) (aD F b σ)
 |.ite c a b,σ=>yF (bL F c σ) (aD F a σ) (aD F b σ)
 |.tup es,σ=>pf (bS F es σ)
 |.lst es,σ=>nI (bS F es σ)
 |.slice a lo hi,σ=>(aD F a σ).bind λx=>(iA lo (aD F lo σ)).bind λl=>(iA hi (aD F hi σ)).bind λu=>fF x l u
 |.call f es,σ=>(bS F es σ).bind (F f)
 |.bi f es,σ=>(bS F es σ).bind f.g
 |.eG t a,σ=>(aD F a σ).bind (oX t)
 |.sN aE a,σ=>(aD F a σ).bind (pC aE)
 |.join z a,σ=>(aD F a σ).bind (oZ z)
 |.tm k o a,σ=>bq k (aD F o σ) (aD F a σ)
 |.sM ts a,σ=>(aD F a σ).bind (pB ts)
 |.nW neg aE a,σ=>(aD F a σ).bind (hU neg aE)
 |.kc k a,σ=>(aD F a σ).bind k.g
 |.bT cs a,σ=>(aD F a σ).bind (lJ cs)
 |.up o,σ=>(aD F o σ).bind pE
 |.oF cs o,σ=>(aD F o σ).bind (nA cs)
 |.app o a,σ=>dn (aD F o σ) (aD F a σ)
 |.mQ imp t it e,σ=>oR (aZ F it σ) (lB t) (λ_=>M.ret true) (aD F e) imp σ
 |.qV imp t it c e,σ=>oR (aZ F it σ) (lB t) (bL F c) (aD F e) imp σ
noncomputable def bL(F:Run):Ex->aA->M Bool
 |.bad,_=>M.bad
 |.no,_=>M.bad
 |.ite _ _ _,_=>M.bad
 |.var i,σ=>(pF i σ).bind bC
 |.val v,_=>bC v
 |.op o a b,σ=>(lR o.g (aD F a σ) (aD F b σ)).bind bC
 |.cmp o a b,σ=>(lR o.g (aD F a σ) (aD F b σ)).bind mX
 |.chain o o' a b c,σ=>(qT o.g o'.g (aD F a σ) (aD F b σ) (aD F c σ)).bind mX
 |.fv o o' o'' a b c d,σ=>(qR o.g o'.g o''.g (aD F a σ) (aD F b σ) (aD F c σ) (aD F d σ)).bind mX
 |.neg a,_=>M.bad
 |.not a,σ=>(bL F a σ).bind λb=>M.ret (!b)
 |.and a b,σ=>rn (bL F a σ) (bL F b σ)
 |.or a b,σ=>Af (bL F a σ) (bL F b σ)
 |.tup es,σ=>(pf (bS F es σ)).bind bC
 |.lst es,σ=>(nI (bS F es σ)).bind bC
 |.slice a lo hi,σ=>((aD F a σ).bind λx=>(iA lo (aD F lo σ)).bind λl=>(iA hi (aD F hi σ)).bind λu=>fF x l u).bind bC
 |.call f es,σ=>((bS F es σ).bind (F f)).bind bC
 |.bi f es,σ=>((bS F es σ).bind f.g).bind bC
 |.eG t a,σ=>((aD F a σ).bind (oX t)).bind bC
 |.sN aE a,σ=>((aD F a σ).bind (pC aE)).bind bC
 |.join z a,σ=>((aD F a σ).bind (oZ z)).bind bC
 |.tm k o a,σ=>(bq k (aD F o σ) (aD F a σ)).bind bC
 |.sM ts a,σ=>((aD F a σ).bind (pB ts)).bind bC
 |.nW neg aE a,σ=>((aD F a σ).bind (hU neg aE)).bind mX
 |.kc k a,σ=>((aD F a σ).bind k.g).bind bC
 |.bT cs a,σ=>((aD F a σ).bind (lJ cs)).bind bC
 |.up o,σ=>((aD F o σ).bind pE).bind bC
 |.oF cs o,σ=>((aD F o σ).bind (nA cs)).bind bC
 |.app o a,σ=>(dn (aD F o σ) (aD F a σ)).bind bC
 |.mQ imp t it e,σ=>(oR (aZ F it σ) (lB t) (λ_=>M.ret true) (aD F e) imp σ).bind bC
 |.qV imp t it c e,σ=>(oR (aZ F it σ) (lB t) (bL F c) (aD F e) imp σ).bind bC
noncomputable def bS(F:Run):cT->aA->M (List AV)
 |.nil,_=>M.ret []
 |.cons e es,σ=>uw (aD F e σ) (bS F es σ)
noncomputable def aZ(F:Run):Ir->aA->M cF
 |.bad,_=>M.bad
 |.seq e,σ=>(aD F e σ).bind oY
 |.rX es,σ=>(bS F es σ).bind xU
 |.vN es,σ=>(bS F es σ).bind xV
 |.enum e,σ=>(aD F e σ).bind xS
 |.zip es,σ=>(bS F es σ).bind xY
end
structure Cn where
 N:List Str
 sc:Scope
 fns:List Str
 tP:List (Str×AV)
 cU:List Str
 iI:List (Str×Nat)
 cat:List (Str×List (Nat×Bool))
 bT:List (Str×List (Nat×Bool))
 top:Bool:=true
 eD:List (Str×List (Str×AV)):=[]
 iG:List (Str×List Str):=[]
 eY:List (Str×Nat):=[]
def Cn.gl(C:Cn)(x:Str):Bool:=decide (C.sc.names.lookup x=some .globalImplicit)
def eO(x:Str):Bool:=!(x==("__debug__":Str)) && !(x==("__classdict__":Str)) && !(x==("__name__":Str))
def Cn.loc(C:Cn)(x:Str):Bool:=decide (C.sc.names.lookup x=some .local)||decide (C.sc.names.lookup x=some .cell)
def Cn.name(C:Cn)(x:Str):Ex:=if eO x then
  if C.loc x then match C.N.idxOf? x with
   |some i=>.var i
   |none=>.bad
  else if C.gl x then match C.tP.lookup x with
   |some v=>.val v
   |none=>.bad
  else .bad
 else .bad
def gb:Const->Ex
 |.none=>.val .aC
 |.bool b=>.val (.bl b)
 |.int i=>.val (.int i)
 |.str x=>.val (.str x)
 |_=>.bad
def su:Operator->Option Op
 |.Add=>some .add | .Sub=>some .sub | .Mult=>some .mul | .FloorDiv=>some .fdiv | .Mod=>some .mod | .Pow=>some .pow
 |.LShift=>some .shl | .RShift=>some .shr | .BitAnd=>some .band | .BitOr=>some .bor | .BitXor=>some .bxor
 |_=>none
def oT:CmpOp->Cp
 |.Eq=>.eq | .NotEq=>.ne | .Lt=>.lt | .LtE=>.le | .Gt=>.gt | .GtE=>.ge | .Is=>.kG | .IsNot=>.isn | .In=>.rE | .NotIn=>.nin
def fg(op:Operator)(a b:Ex):Ex:=match su op with
 |some o=>.op o a b
 |none=>.bad
def mO(k:Ex->Ex->Ex):List Ex->Ex
 |[]=>.bad
 |[a]=>a
 |a::r=>k a (mO k r)
def gZ:List Ex->cT
 |[]=>.nil
 |e::es=>.cons e (gZ es)
def tj(x:Str):Option BT:=
 if x="int" then some .int else if x="bool" then some .bl else if x="str" then some .str else if x="tuple" then some .tup else if x="list" then some .lst else if x="dict" then some .bV else none
def sr(x:Str):Option Bi:=
 if x="len" then some .len else if x="int" then some .int else if x="min" then some .min else if x="max" then some .max else if x="divmod" then some .divmod else if x="tuple" then some .tuple else if x="list" then some .list else
  if x="str" then some .str else
  none
def Cn.bl(C:Cn)(x:Str):Bool:=C.gl x&&C.cU.contains x&&eO x
def pO:Expr->Option Str
 |.Name x _=>some x
 |_=>none
def Cn.xH(C:Cn)(x:Str)(es:List Expr)(cs:List Ex):Ex:=if eO x&&es.all aL then match C.fns.idxOf? x with
  |some i=>if C.gl x then .call i (gZ cs) else .bad
  |none=>match sr x with
   |some f=>if C.bl x && !es.isEmpty then .bi f (gZ cs) else .bad
   |none=>if decide (x="isinstance")&&C.bl x then match es,cs with
     |[_,t],[a,_]=>match (pO t).bind λy=>if C.bl y then tj y else none with
      |some bt=>.eG bt a
      |none=>match (pO t).bind λy=>if eO y&&C.gl y then C.bT.lookup y else none with
       |some cs=>.bT cs a
       |none=>.bad
     |_,_=>.bad
    else .bad
 else .bad
def EF:Nat:=40
def Cn.slot(C:Cn)(x:Str):Option Nat:=if C.loc x then C.N.idxOf? x else none
def cI(C:Cn)(f:Expr->Ex)(tg:Expr)(e:Expr):Ir:=match e with
 |.Call (.Name x _) es [] _=>
  if decide (x="range")&&C.bl x then match es with
   |[a]=>if aL a then .rX (gZ ([a].map f)) else .bad
   |[a,b]=>if aL a&&aL b then .vN (gZ ([a,b].map f)) else .bad
   |_=>.bad
  else if decide (x="enumerate")&&C.bl x then match es,tg with
   |[a],.Tuple _ _ _=>if aL a then .enum (f a) else .bad
   |_,_=>.bad
  else if decide (x="zip")&&C.bl x then match es,tg with
   |[a,b],.Tuple _ _ _=>if aL a&&aL b then .zip (gZ ([a,b].map f)) else .bad
   |_,_=>.bad
  else .seq (f e)
 |e=>if aL e then .seq (f e) else .bad
def oS(scope:Scope):List Str:=(scope.names.filter λx=>(x.2==NameKind.local&&x.1 != (".0":Str))||x.2==NameKind.free).map (·.1)
def Cm(scope sc:Scope):Scope:=
 { scope with names:=scope.names.map λ(n,k)=>if(k == .free&&sc.kind == .function&&sc.names.lookup n==some .cell) then(n,.cell) else(n,k) }
def Cn.comp(C:Cn)(scope:Scope):Cn:={ C with N:=oS scope,sc:=Cm scope C.sc,top:=false }
def Cn.imp(C:Cn)(scope:Scope):List (Option Nat):=(oS scope).map λx=>if decide (scope.names.lookup x=some .free) then C.N.idxOf? x else none
def Cn.lE(C:Cn)(scope:Scope):Bool:=decide (scope.kind = .function)&&scope.names.all (λy=>decide (y.2 ≠ .cell))&&scope.names.all (λy=>decide (y.2 = .local->scope.names.lookup y.1=some .local)) &&
 scope.names.all (λy=>decide (y.2 = .free->C.sc.names.lookup y.1=some .cell))&&decide (oS scope).Nodup
def xJ(C:Cn):List Expr->Option (List Nat)
 |[]=>some []
 |.Name x _::r=>if decide (C.sc.names.lookup x=some .local) then match C.N.idxOf? x,xJ C r with
   |some i,some l=>some (i::l)
   |_,_=>none
  else none
 |_=>none
def qP(C:Cn)(e:Expr):CT:=match e with
 |.Name x _=>if decide (C.sc.names.lookup x=some .local) then match C.N.idxOf? x with
   |some i=>.nm i
   |none=>.bad
  else .bad
 |.Tuple es _ _=>match xJ C es with
  |some l=>.tup l
  |none=>.bad
 |_=>.bad
def Cn.fX(C:Cn)(a:Expr)(ea eb:Ex):Ex:=match (pO a).bind λx=>if eO x&&C.gl x then C.eD.lookup x else none with
 |some aE=>.sN aE eb
 |none=>.op .ix ea eb
def Dx:Expr->Option Str
 |.Constant (.str z) _ _=>some z
 |_=>none
def yK(o:Expr)(m:Str)(eo:Ex):Ex:=
 if decide (m="upper")&&jX o then .up eo else
 .bad
def yL(o:Expr)(m:Str)(eo ea:Ex):Ex:=
 if decide (m="append")&&jX o then .app eo ea else
 if decide (m="join") then(match Dx o with
  |some z=>.join z ea
  |none=>.bad) else
 if jX o&&(bp m).isSome then(match bp m with
  |some f=>.tm f eo ea
  |none=>.bad) else
 .bad
def yM(o:Expr)(m:Str)(eo ea eb:Ex):Ex:=
 .bad
def ek(o:Expr)(m:Str)(eo:Ex):List Ex->Ex
 |[]=>yK o m eo
 |[a]=>yL o m eo a
 |[a,b]=>yM o m eo a b
 |_=>.bad
def Cn.Em(C:Cn)(o:Expr)(m:Str)(es:List Expr):Option (List Str):=if decide (m="index")&&(es.length==1) then(pO o).bind λx=>if eO x&&C.gl x then C.iG.lookup x else none else none
def En(ts:List Str):List Ex->Ex
 |[a]=>.sM ts a
 |_=>.bad
def Cn.Ep(C:Cn)(os:List CmpOp)(bs:List Expr):Option (Bool×List (Str×AV)):=match os,bs with
 |[.In],[.Name x _]=>if eO x&&C.gl x then(C.eD.lookup x).map λk=>(false,k) else none
 |[.NotIn],[.Name x _]=>if eO x&&C.gl x then(C.eD.lookup x).map λk=>(true,k) else none
 |_,_=>none
def Cn.yJ(C:Cn)(o:Expr)(m:Str)(apos pos:Pos)(es:List Expr)(eo:Ex)(cs:List Ex):Ex:=
 if es.all aL&&(apos.endLine==pos.line) then
  match C.Em o m es with
  |some ts=>En ts cs
  |none=>
  ek o m eo cs
 else .bad
def fu(op:UnaryOp)(a:Ex):Ex:=match op with
 |.USub=>.neg a
 |.Not=>.not a
 |_=>.bad
def fj(f:Expr->Ex)(a:Expr)(os:List CmpOp)(bs:List Expr):Ex:=match os,bs with
 |[o],[b]=>if aL b then .cmp (oT o) (f a) (f b) else .bad
 |[o,o'],[b,c]=>if aL c then .chain (oT o) (oT o') (f a) (f b) (f c) else .bad
 |[o,o',o''],[b,c,d]=>if aL d then .fv (oT o) (oT o') (oT o'') (f a) (f b) (f c) (f d) else .bad
 |_,_=>.bad
def fh(op:BoolOp)(vs:List Ex):Ex:=match op with
 |.And=>mO .and vs
 |.Or=>mO .or vs
def fq(C:Cn)(f:Expr->Ex)(a s:Expr):Ex:=match s with
 |.Slice lo hi none _=>.slice (f a) (lo.elim .no f) (hi.elim .no f)
 |b=>if aL b then C.fX a (f a) (f b) else .bad
def fi(C:Cn)(f:Expr->Ex)(g:Expr)(es:List Expr)(ks:List Keyword)(pos:Pos):Ex:=match ks with
 |[]=>match g with
  |.Name x _=>C.xH x es (es.map f)
  |.Attribute o m apos=>C.yJ o m apos pos es (f o) (es.map f)
  |_=>.bad
 |_=>.bad
def fm(C:Cn)(r:Cn->Expr->Ex)(elt:Expr)(gs:List Comprehension)(scope:Scope):Ex:=match gs with
 |[⟨t,it,cs,0⟩]=>if C.lE scope&&aL it then match cs with
   |[]=>.mQ (C.imp scope) (qP (C.comp scope) t) (cI C (r C) t it) (r (C.comp scope) elt)
   |[c]=>.qV (C.imp scope) (qP (C.comp scope) t) (cI C (r C) t it) (r (C.comp scope) c) (r (C.comp scope) elt)
   |_=>.bad
  else .bad
 |_=>.bad
def fe(C:Cn)(o:Expr)(f:Str)(eo:Ex):Ex:=if jX o then
  if decide (f="line") && !C.eY.isEmpty then .oF (C.eY.map (·.2)) eo else
  .bad
 else .bad
def yo(x:Str)(ks:List Keyword):Option Kc:=match ks with
 |[]=>if x="any" then some .any else
  if x="all" then some .all else
  if x="max" then some .mx else
  none
 |[⟨some nm,kc,_⟩]=>match kc with
  |.Constant (.bool b) _ _=>if x="sorted"/\nm="reverse" then some (.srt b) else none
  |.Constant .none _ _=>if x="min"/\nm="default" then some .jg else none
  |_=>none
 |_=>none
def tD(C:Cn)(f:Expr->Ex)(g:Expr)(es:List Expr)(ks:List Keyword):Option Ex:=match g,es with
 |.Name x _,[a]=>match yo x ks with
  |some k=>if C.bl x&&aL a then some (.kc k (f a)) else none
  |none=>none
 |_,_=>none
def cE:Cn->Nat->Expr->Ex
 |_,0,_=>.bad
 |C,n+1,e=>match e with
  |.Name x _=>C.name x
  |.Constant c _ _=>gb c
  |.BinOp a op b _=>fg op (cE C n a) (cE C n b)
  |.UnaryOp op a _=>fu op (cE C n a)
  |.Compare a os bs _=>(match C.Ep os bs with
   |some (neg,aE)=>.nW neg aE (cE C n a)
   |none=>fj (cE C n) a os bs)
  |.BoolOp op vs _=>fh op (vs.map (cE C n))
  |.IfExp c a b _=>.ite (cE C n c) (cE C n a) (cE C n b)
  |.Tuple es _ _=>if es.all aL then .tup (gZ (es.map (cE C n))) else .bad
  |.List es _=>if es.all aL then .lst (gZ (es.map (cE C n))) else .bad
  |.Subscript a s _=>fq C (cE C n) a s
  |.Call g es ks pos=>match tD C (cE C n) g es ks with
   |some y=>y
   |none=>fi C (cE C n) g es ks pos
  |.Attribute o f _=>fe C o f (cE C n o)
  |.ListComp elt gs scope _=>fm C (λC' e'=>cE C' n e') elt gs scope
  |_=>.bad
def rk(X:Cx)(T:Tab)(x:Str)(c:Nat):Prop:=∃(D f:Addr) (bmB:List Value) (newId initId Bn:String) (k:Nat) (fd:FuncData) (ps:List Str),X.mg x=some (.ref D)/\T.C c=some D/\c<64/\sU X.K D f bmB newId=true/\ExcBaseFacts Bn newId initId bmB/\W.gS X.K D "line"=true /\
 dW X.prog X.w X.K X.mg X.base (cN X.prog X.w) k f fd ps (mj X.K "line")/\cM (k+1) X.A/\Binds X.K fd ps []
structure Lk(X:Cx)(T:Tab)(E:XK)(C:Cn)(F:Run):Prop where
 K:X.K=T.K
 N:X.N=C.N
 sc:X.env.scope=C.sc
 nd:C.N.Nodup
 fn:C.top=true->∀x,X.fn x=true
 calm:X.calm=true
 po:PassesOwn (model X.prog X.w) X.A X.env X.xe
 gv:∀x v,C.tP.lookup x=some v->∃u v',X.mg x=some u/\RelV v' u/\∀ρ H,aF T ρ H v v'
 fns:∀(i:Nat) x,C.fns[i]?=some x->Fn X T E x (F i)
 cU:∀x,C.cU.contains x=true->X.mg x=none
 tab:∀aE a,T.G aE a->qz X.prog X.w X.K a aE
 eD:∀x aE,C.eD.lookup x=some aE->wX X T x aE
 iG:∀x ts,C.iG.lookup x=some ts->rg X x ts
 un:X.A.units+64<cLine
 iI:∀x c,C.iI.lookup x=some c->∃(D:Addr) (bmB:List Value) (newId initId Bn:String),X.mg x=some (.ref D)/\T.C c=some D/\c<64/\W.excIn X.K D bmB newId=true/\ExcBaseFacts Bn newId initId bmB
 cat:∀x cs,C.cat.lookup x=some cs->∃D:Addr,X.mg x=some (.ref D)/\L2.clsIn X.K D=true/\∀c b,cs.lookup c=some b->∃D':Addr,T.C c=some D'/\L2.clsIn X.K D'=true/\(mroOf X.K D').contains (.ref D)=b
 bT:∀y cs,C.bT.lookup y=some cs->∃(v:V) (d:Value),(∀u,RelV v u->u=d)/\RelV v d/\(X.mg y=some d\/(X.mg y=none/\bootBuiltins y=some d)) /\
  ∀k b,cs.lookup k=some b->∃D:Addr,T.C k=some D/\W.qG X.K D=true/\W.kitOne X.K (.ref D) d=some b
 ra:wU X E
 eY:∀x c,(x,c)∈C.eY->∃D:Addr,X.mg x=some (.ref D)/\T.C c=some D/\W.gS X.K D "line"=true
 wH:C.top=true->X.ex=[]/\wV X E/\∀x c,(x,c)∈C.eY->rk X T x c
 fH:C.top=true->X.stack=X.env::X.outer
 fr:C.top=true->X.env.frame=some X.env.locals
theorem Lk.fK{X:Cx}{T:Tab}{E:XK}{C:Cn}{F:Run}(L:Lk X T E C F)(pn:List (Addr×Obj))(E1:Value->Shared->Prop):Lk (X.fK pn E1).rN T E0 C F:=
 ⟨L.K,L.N,L.sc,L.nd,L.fn,L.calm,PassesOwn.never,L.gv,λi x h=>let ⟨k,f,fd,ps,F,hr,hm,hk,hb,_⟩:=(L.fns i x h).ex;⟨⟨k,f,fd,ps,F,hr,hm,hk,hb,λ_ _ _ _ _ _ _ z=>(xK z).elim⟩⟩,L.cU,L.tab,
 L.eD,
 L.iG,
 L.un,
 L.iI,L.cat,L.bT,λ_ _ _ _ _ _ _ _ _ _ z=>z.elim,
 L.eY,λh=>⟨(L.wH h).1,λ_ _ _ _ _ _ _ _ _ _ _ _ _ _ _ _ _ z=>z.elim,(L.wH h).2.2⟩,
 L.fH,L.fr⟩
section
variable {X:Cx}{T:Tab}{E:XK}{C:Cn}{F:Run}(L:Lk X T E C F)
theorem eI{x:Str}(h:eO x=true):(x==("__debug__":Str))=false/\(x==("__classdict__":Str))=false/\x≠"__name__":=by simp only[eO,Bool.and_eq_true,Bool.not_eq_true',beq_eq_false_iff_ne]at h;exact⟨beq_eq_false_iff_ne.mpr h.1.1,beq_eq_false_iff_ne.mpr h.1.2,h.2⟩
theorem hV{x:Str}{l:List Str}{i:Nat}(h:l.idxOf? x=some i):l[i]?=some x:=by unfold List.idxOf? at h;obtain⟨h1,h2,_⟩:=List.findIdx?_eq_some_iff_getElem.mp h;rw[List.getElem?_eq_getElem h1];exact congrArg some (eq_of_beq h2)
include L in
theorem Lk.gl{x:Str}(h:C.gl x=true):Gl X x:=by have h':C.sc.names.lookup x=some .globalImplicit:=of_decide_eq_true h;rw[<- L.sc]at h';exact h'
def Q2(X:Cx)(T:Tab)(E:XK)(F:Run)(e:Expr)(x:Ex):Prop:=QE X T E e (aD F x)/\QT X T E e (bL F x)
theorem bM{e:Expr}:Q2 X T E F e .bad:=⟨uK,kr⟩
include L in
theorem FE(x:Str)(pos:Pos):Q2 X T E F (.Name x pos) (C.name x):=by
 unfold Cn.name;split
 case isFalse=>exact bM
 case isTrue ok=>
  obtain⟨h1,h2,h3⟩:=eI ok;split
  case isTrue hl=>
   split
   case h_1 i hi=>
    have hv:qO X.env.scope x:=by
     rw[L.sc];simp only[Cn.loc,Bool.or_eq_true,decide_eq_true_eq]at hl;rcases hl with hl|hl
     .exact .inl hl
     .exact .inr (.inl hl)
    have q:QE X T E (.Name x pos) (pF i):=Bc (by rw[L.N];exact hV hi) hv h1 h2;exact⟨q,jO L.K q rfl⟩
   case h_2=>exact bM
  case isFalse=>
   split
   case isFalse=>exact bM
   case isTrue hg=>
    split
    case h_1 v hv=>obtain⟨u,v',e1,r,rp⟩:=L.gv x v hv;have q:QE X T E (.Name x pos) (λ_=>M.ret v):=iC (rQ (L.gl hg) e1 r h1) rp;exact⟨q,jO L.K q rfl⟩
    case h_2=>exact bM
include L in
theorem EY(c:Const)(k:Nat)(pos:Pos):Q2 X T E F (.Constant c k pos) (gb c):=by
 cases c with
 |none=>exact⟨iC yW λ_ _=>.aC,jO L.K (iC yW λ_ _=>.aC) rfl⟩|bool b=>exact⟨iC yU λ_ _=>.bl b,jO L.K (iC yU λ_ _=>.bl b) rfl⟩|int i=>exact⟨iC jz λ_ _=>.int i,jO L.K (iC jz λ_ _=>.int i) rfl⟩|str x=>exact⟨iC yX λ_ _=>.str x,jO L.K (iC yX λ_ _=>.str x) rfl⟩|_=>exact bM
include L in
theorem Tb{op:Operator}{o:Op}(h:su op=some o):bF X T E (binaryOp op) o.g:=by
 cases op<;>cases h
 .exact Sz L.K
 .exact Ub
 .exact Tr
 .exact Tq
 .exact Tx
 .exact Tz
 .exact Ua
 .exact Tw
 .exact Uc
 .exact Ta
 .exact Td
include L in
theorem iT(op:CmpOp):bF X T E (compareOp op) (oT op).g:=by
 cases op
 .exact Tc L.K (by have:=L.un;omega)
 .exact Ts L.K (by have:=L.un;omega)
 .exact Tp
 .exact To
 .exact Tf
 .exact Te
 .exact Tj
 .exact Tn
 .exact Th L.K (by have:=L.un;omega)
 .exact Tu L.K (by have:=L.un;omega)
theorem kD{es:List Expr}{f:Expr->Ex}(hs:es.all aL=true)(h:∀e,Q2 X T E F e (f e)):QA X T E es (bS F (gZ (es.map f))):=by
 induction es with
 |nil=>exact Xg|cons e es ih=>rw[List.all_cons,Bool.and_eq_true]at hs;exact Xf (h e).1 (ih hs.2) hs.1
include L in
theorem si{pos:Pos}{f:Expr->Ex}(h:∀e,Q2 X T E F e (f e)):∀(e:Expr) (es:List Expr),QE X T E (.BoolOp .And (e::es) pos) (aD F (mO .and ((e::es).map f)))/\QW X T E (.BoolOp .And (e::es) pos) (bL F (mO .and ((e::es).map f)))
 |e,[]=>⟨Ba (h e).1,CK (h e).2⟩
 |e,b::rest=>by obtain⟨h1,h2⟩:=si h b rest;exact⟨Xj L.K (h e).1 h1,CJ (h e).2 h2⟩
include L in
theorem Ah{pos:Pos}{f:Expr->Ex}(h:∀e,Q2 X T E F e (f e)):∀(e:Expr) (es:List Expr),QE X T E (.BoolOp .Or (e::es) pos) (aD F (mO .or ((e::es).map f)))/\QW X T E (.BoolOp .Or (e::es) pos) (bL F (mO .or ((e::es).map f)))
 |e,[]=>⟨Ba (h e).1,CM (h e).2⟩
 |e,b::rest=>by obtain⟨h1,h2⟩:=Ah h b rest;exact⟨Yb L.K (h e).1 h1,CL (h e).2 h2⟩
theorem Ak{o:Option Expr}{f:Expr->Ex}(h:∀e,Q2 X T E F e (f e))(hn:∀e,f e ≠ .no):QO X T E o (λσ=>iA (o.elim .no f) (aD F (o.elim .no f) σ)):=by
 cases o with
 |none=>exact BO|some e=>
  have q:QO X T E (some e) (λσ=>(aD F (f e) σ).bind tO):=BP (h e).1;have e1:∀m,iA (f e) m=m.bind tO:=λm=>by
   unfold iA;split
   .rename_i z;exact absurd z (hn e)
   .rfl
  simp only[Option.elim,e1];exact q
theorem ua{k:Ex->Ex->Ex}(hk:∀a b,k a b ≠ .no):∀{l:List Ex},(∀x∈l,x ≠ .no)->mO k l ≠ .no
 |[],_=>by intro z;cases z
 |[a],h=>h a (by simp)
 |a::b::r,_=>hk _ _
theorem Jh{f:Expr->Ex}{g:Expr}{es:List Expr}{ks:List Keyword}{y:Ex}(h:tD C f g es ks=some y):y ≠ .no:=by
 unfold tD at h;split at h
 .split at h
  .split at h
   .cases h;intro z;cases z
   .cases h
  .cases h
 .cases h
theorem fk:∀(n:Nat) (e:Expr),cE C n e ≠ .no
 |0,e=>by intro z;cases z
 |n+1,e=>by
  have ih:=fk n;unfold cE;split
  .unfold Cn.name;(repeat' split)<;>(intro z;cases z;done)
  .rename_i c _ _;cases c<;>(intro z;cases z;done)
  .unfold fg;split<;>(intro z;cases z;done)
  .unfold fu;split<;>(intro z;cases z;done)
  .split
   .intro z;cases z
   .unfold fj;(repeat' split)<;>(intro z;cases z;done)
  .rename_i op vs _;have:∀x∈vs.map (cE C n),x ≠ .no:=λx hx=>by obtain⟨y,_,rfl⟩:=List.mem_map.mp hx;exact ih y
   unfold fh;split
   .exact ua (λ_ _ z=>by cases z) this
   .exact ua (λ_ _ z=>by cases z) this
  .intro z;cases z
  .split<;>(intro z;cases z;done)
  .split<;>(intro z;cases z;done)
  .unfold fq;unfold Cn.fX
   (repeat' split)<;>(intro z;cases z;done)
  .split
   .rename_i h;exact Jh h
   unfold fi;split
   .split
    .unfold Cn.xH;(repeat' split)<;>(intro z;cases z;done)
    .unfold Cn.yJ En ek yK yL yM;(repeat' split)<;>(intro z;cases z;done)
    .intro z;cases z
   .intro z;cases z
  .unfold fe;(repeat' split)<;>(intro z;cases z;done)
  .unfold fm;(repeat' split)<;>(intro z;cases z;done)
  .intro z;cases z
include L in
theorem FC{f:Expr->Ex}(ih:∀e,Q2 X T E F e (f e)){g:Expr}{es:List Expr}{ks:List Keyword}{pos:Pos}{y:Ex}(h:tD C f g es ks=some y):Q2 X T E F (.Call g es ks pos) y:=by
 unfold tD at h;split at h
 case h_2=>cases h
 case h_1 x p a=>
  split at h
  case h_2=>cases h
  case h_1 k hk=>
   split at h
   case isFalse=>cases h
   case isTrue hb=>
    cases h;simp only[Bool.and_eq_true,Cn.bl]at hb;obtain⟨⟨⟨hg,hm⟩,_⟩,hs⟩:=hb;have mk:QE X T E (.Call (.Name x p) [a] ks pos) (aD F (.kc k (f a)))->Q2 X T E F (.Call (.Name x p) [a] ks pos) (.kc k (f a)):=λq=>⟨q,jO L.K q rfl⟩;refine mk ?_;unfold yo at hk;split at hk
    case h_1=>
     split at hk
     case isTrue hx=>cases hk;subst hx;exact Xk L.K L.calm (L.gl hg) (L.cU _ hm) (ih a).1 hs
     split at hk
     case isTrue hx=>cases hk;subst hx;exact Xi L.K L.calm (L.gl hg) (L.cU _ hm) (ih a).1 hs
     split at hk
     case isTrue hx=>cases hk;subst hx;exact Xy L.K L.calm (L.gl hg) (L.cU _ hm) (ih a).1 hs
     cases hk
    case h_2 nm kc kp=>
     split at hk
     case h_1 b kk kq=>
      split at hk
      case isFalse=>cases hk
      case isTrue hx=>cases hk;obtain⟨rfl,rfl⟩:=hx;exact Yd L.K (L.gl hg) (L.cU _ hm) (ih a).1 hs
     case h_2 kk kq=>
      split at hk
      case isFalse=>cases hk
      case isTrue hx=>cases hk;obtain⟨rfl,rfl⟩:=hx;exact Xx L.K L.calm (L.gl hg) (L.cU _ hm) (ih a).1 hs
     case h_3=>cases hk
    case h_3=>cases hk
include L in
theorem EX{n:Nat}(ih:∀e,Q2 X T E F e (cE C n e))(x:Str)(p:Pos)(es:List Expr)(pos:Pos):Q2 X T E F (.Call (.Name x p) es [] pos) (C.xH x es (es.map (cE C n))):=by
 have mk:∀{y:Ex},QE X T E (.Call (.Name x p) es [] pos) (aD F y)->(∀σ,bL F y σ=(aD F y σ).bind bC)->Q2 X T E F (.Call (.Name x p) es [] pos) y:=λ{y} q e=>by refine⟨q,?_⟩;have:=jO L.K q rfl;have e2:bL F y=λσ=>(aD F y σ).bind bC:=funext e;rw[e2];exact this
 unfold Cn.xH;split
 case isFalse=>exact bM
 case isTrue ok=>
  rw[Bool.and_eq_true]at ok;obtain⟨h1,h2,h3⟩:=eI ok.1;split
  case h_1 i hi=>
   split
   case isFalse=>exact bM
   case isTrue hg=>
    have FN:=L.fns i x (hV hi);refine mk ?_ λ_=>rfl;cases es with
    |nil=>exact Xn FN (L.gl hg) h1|cons e es=>exact Xm FN (L.gl hg) (kD ok.2 ih) ok.2 h1
  case h_2=>
   split
   case h_1 f hf=>
    split
    case isFalse=>exact bM
    case isTrue hb=>
     simp only[Cn.bl,Bool.and_eq_true]at hb;obtain⟨⟨⟨hg,hm⟩,_⟩,hne⟩:=hb;refine mk ?_ λ_=>rfl;cases es with
     |nil=>cases hne|cons e es=>
      have q:=kD ok.2 ih;have hm':=L.cU x hm;unfold sr at hf;split at hf
      case isTrue hx=>cases hf;subst hx;exact zF (Kn L.K) (L.gl hg) hm' boot_len q ok.2 h3 h1
      split at hf
      case isTrue hx=>cases hf;subst hx;exact zG Km (L.gl hg) hm' boot_int q ok.2 h3 h1
      split at hf
      case isTrue hx=>cases hf;subst hx;exact zF (Kr L.calm) (L.gl hg) hm' boot_min q ok.2 h3 h1
      split at hf
      case isTrue hx=>cases hf;subst hx;exact zF (Kq L.calm) (L.gl hg) hm' boot_max q ok.2 h3 h1
      split at hf
      case isTrue hx=>cases hf;subst hx;exact zF Kl (L.gl hg) hm' boot_divmod q ok.2 h3 h1
      split at hf
      case isTrue hx=>cases hf;subst hx;exact zG (Kt L.K) (L.gl hg) hm' boot_tuple q ok.2 h3 h1
      split at hf
      case isTrue hx=>cases hf;subst hx;exact zG (Ko L.K L.calm) (L.gl hg) hm' boot_list q ok.2 h3 h1
      split at hf
      case isTrue hx=>cases hf;subst hx;exact zG Ks (L.gl hg) hm' boot_str q ok.2 h3 h1
      cases hf
   case h_2=>
    split
    case isFalse=>exact bM
    case isTrue hi=>
     simp only[Bool.and_eq_true,decide_eq_true_eq,Cn.bl]at hi;obtain⟨hx,⟨hg,hm⟩,_⟩:=hi;subst hx;split
     case h_2=>exact bM
     case h_1 a t ca ct ec=>
      rw[List.map_cons,List.map_cons,List.map_nil]at ec;injection ec with ec1 ec2;subst ec1;cases t with
      |Name y p2=>
       simp only[pO,Option.bind_some];have sa':aL a=true:=by have:=ok.2;rw[List.all_cons,Bool.and_eq_true]at this;exact this.1
       split
       case h_2=>
        split
        case h_2=>exact bM
        case h_1 cs hcs=>
         refine mk ?_ λ_=>rfl;split at hcs
         case isFalse=>cases hcs
         case isTrue hy=>
          rw[Bool.and_eq_true]at hy;obtain⟨k1,k2,k3⟩:=eI hy.1;obtain⟨v,d,hv,hd,hm2,hk⟩:=L.bT y cs hcs;refine Xt L.K hv (L.gl hg) (L.cU _ hm) ?_ hk (ih a).1 sa';rcases hm2 with hm2|⟨hm2,hb2⟩
          .exact rQ (L.gl hy.2) hm2 hd k1
          .exact An (L.gl hy.2) hm2 hb2 hd k3 k1
       case h_1 bt hbt=>
        refine mk ?_ λ_=>rfl;split at hbt
        case isFalse=>cases hbt
        case isTrue hy=>
         simp only[Cn.bl,Bool.and_eq_true]at hy;obtain⟨⟨hg2,hm2⟩,oky⟩:=hy;obtain⟨k1,k2,k3⟩:=eI oky;have sa:aL a=true:=by have:=ok.2;rw[List.all_cons,Bool.and_eq_true]at this;exact this.1
         have fin:∀bt,bootBuiltins y=some (.type bt.nm)->QE X T E (.Call (.Name "isinstance" p) [a,.Name y p2] [] pos) (aD F (.eG bt (cE C n a))):=λbt hv=>
          Xs L.K bt (L.gl hg) (L.cU _ hm) (L.gl hg2) (L.cU _ hm2) hv k3 k1 (ih a).1 sa
         unfold tj at hbt;split at hbt
         case isTrue hz=>cases hbt;subst hz;exact fin .int boot_int
         split at hbt
         case isTrue hz=>cases hbt;subst hz;exact fin .bl boot_bool
         split at hbt
         case isTrue hz=>cases hbt;subst hz;exact fin .str boot_str
         split at hbt
         case isTrue hz=>cases hbt;subst hz;exact fin .tup boot_tuple
         split at hbt
         case isTrue hz=>cases hbt;subst hz;exact fin .lst boot_list
         split at hbt
         case isTrue hz=>cases hbt;subst hz;exact fin .bV (by decide +kernel)
         cases hbt
      |_=>exact bM
include L in
theorem vP{f:Expr->Ex}(ih:∀e,Q2 X T E F e (f e))(tg e:Expr):QI X T E tg e (aZ F (cI C f tg e)):=by
 unfold cI;split
 .rename_i x p es pos;split
  .rename_i h;simp only[Bool.and_eq_true,decide_eq_true_eq,Cn.bl]at h;obtain⟨hx,⟨hg,hm⟩,_⟩:=h;subst hx;split
   .split
    .rename_i a hs;exact Yn (L.gl hg) (L.cU _ hm) (kD (f:=f) (by simp[hs]) ih) hs
    .exact nN
   .split
    .rename_i a b hs;rw[Bool.and_eq_true]at hs;exact Yo (L.gl hg) (L.cU _ hm) (kD (f:=f) (by simp[hs.1,hs.2]) ih) hs.1 hs.2
    .exact nN
   .exact nN
  .split
   .rename_i h;simp only[Bool.and_eq_true,decide_eq_true_eq,Cn.bl]at h;obtain⟨hx,⟨hg,hm⟩,_⟩:=h;subst hx;split
    .split
     .rename_i hs;exact Ym L.K (L.gl hg) (L.cU _ hm) (ih _).1 hs
     .exact nN
    .exact nN
   .split
    .rename_i h;simp only[Bool.and_eq_true,decide_eq_true_eq,Cn.bl]at h;obtain⟨hx,⟨hg,hm⟩,_⟩:=h;subst hx;split
     .split
      .rename_i hs;rw[Bool.and_eq_true]at hs;exact Yp L.K (L.gl hg) (L.cU _ hm) (kD (f:=f) (by simp[hs.1,hs.2]) ih) hs.1 hs.2
      .exact nN
     .exact nN
    .exact Bg L.K (ih _).1
 .split
  .exact Bg L.K (ih _).1
  .exact nN
include L in
theorem Dj:∀{es:List Expr} {l:List Nat},xJ C es=some l->qL X T E es (wZ l)/\es.all gF=true/\l.length=es.length
 |[],l,h=>by cases h;exact⟨Bf,rfl,rfl⟩
 |e::es,l,h=>by
  cases e with
  |Name x p=>
   simp only[xJ]at h;split at h
   .rename_i hx;split at h
    .rename_i i l' hi hl;cases h;obtain⟨h1,h2,h3⟩:=Dj hl;have hx':X.env.scope.names.lookup x=some .local:=by rw[L.sc];exact of_decide_eq_true hx
     exact⟨Be (zH (by rw[L.N];exact L.nd) (by rw[L.N];exact hV hi) (.inl hx') (.inr hx')) h1 rfl,by rw[List.all_cons,h2];rfl,by simp[h3]⟩
    .cases h
   .cases h
  |_=>cases h
include L in
theorem aw(e:Expr):QG X T E e (lB (qP C e)):=by
 unfold qP;split
 .split
  .rename_i hx;split
   .rename_i i hi;have lc:∀{x:Str},C.sc.names.lookup x=some .local->X.env.scope.names.lookup x=some .local:=λ{x} h=>by rw[L.sc];exact h
    exact zH (by rw[L.N];exact L.nd) (by rw[L.N];exact hV hi) (.inl (lc (of_decide_eq_true hx))) (.inr (lc (of_decide_eq_true hx)))
   .exact lU
  .exact lU
 .split
  .rename_i l hl;obtain⟨h1,h2,h3⟩:=Dj L hl;show QG X T E _ (pD l.length (wZ l));rw[h3];exact Bd L.K L.calm h1 h2
  .exact lU
 .exact lU
end
theorem yz{α:Type}{x:Str}{v:α}:∀{l:List (Str×α)},l.lookup x=some v->(x,v)∈l
 |[],h=>by cases h
 | (k,u)::r,h=>by
  rw[List.lookup_cons]at h;split at h
  .rename_i q;have:=eq_of_beq q;subst this;cases h;exact List.mem_cons_self
  .exact List.mem_cons_of_mem _ (yz h)
section
variable {X:Cx}{T:Tab}{E:XK}{C:Cn}{F:Run}{scope:Scope}
theorem ur(ok:C.lE scope=true):scope.kind = .function/\(∀y∈scope.names,y.2 ≠ .cell)/\(∀y∈scope.names,y.2 = .local->scope.names.lookup y.1=some .local)/\(∀y∈scope.names,y.2 = .free->C.sc.names.lookup y.1=some .cell)/\(oS scope).Nodup:=by simp only[Cn.lE,Bool.and_eq_true,decide_eq_true_eq,List.all_eq_true]at ok;exact⟨ok.1.1.1.1,ok.1.1.1.2,ok.1.1.2,ok.1.2,ok.2⟩
theorem Lk.xI(L:Lk X T E C F)(ok:C.lE scope=true):iJ X (oS scope) scope:=by obtain⟨h1,h2,h3,h4,_⟩:=ur ok;exact⟨h1,h2,h3,λy hy hk=>by rw[L.sc];exact h4 y hy hk⟩
theorem Lk.imp(L:Lk X T E C F){i j:Nat}{x:Str}(e1:(oS scope)[i]?=some x)(e2:(C.imp scope)[i]?=some (some j)):scope.names.lookup x=some .free/\(x,NameKind.free)∈scope.names/\X.N[j]?=some x:=by
 unfold Cn.imp at e2;rw[List.getElem?_map,e1]at e2;have e3:(if decide (scope.names.lookup x=some .free) then C.N.idxOf? x else none)=some j:=Option.some.inj e2;split at e3
 .rename_i h;have h:=of_decide_eq_true h;exact⟨h,yz h,by rw[L.N];exact hV e3⟩
 .cases e3
theorem Lk.comp(L:Lk X T E C F)(ok:C.lE scope=true)(s:Shared)(H:Hp)(a:Addr)(fp:List Addr):Lk (X.comp (oS scope) scope s H a fp) T E0 (C.comp scope) F where
 K:=L.K
 N:=rfl
 sc:=by show relabel scope X.env=Cm scope C.sc;rw[<- L.sc];rfl
 nd:=(ur ok).2.2.2.2
 fn:=λz=>by cases z
 calm:=L.calm
 po:=PassesOwn.never
 gv:=L.gv
 fns:=λi x h=>let ⟨k,f,fd,ps,F,hr,hm,hk,hb,_⟩:=(L.fns i x h).ex;⟨⟨k,f,fd,ps,F,hr,hm,hk,hb,λ_ _ _ _ _ _ _ z=>(xK z).elim⟩⟩
 cU:=L.cU
 tab:=L.tab
 eD:=L.eD
 iG:=L.iG
 un:=L.un
 iI:=L.iI
 cat:=L.cat
 bT:=L.bT
 ra:=λ_ _ _ _ _ _ _ _ _ _ z=>z.elim
 eY:=L.eY
 wH:=λz=>by cases z
 fH:=λz=>by cases z
 fr:=λz=>by cases z
end
theorem FA{X:Cx}{T:Tab}{E:XK}{C:Cn}{F:Run}(L:Lk X T E C F){n:Nat}(ih:∀e,Q2 X T E F e (cE C n e))(a b:Expr)(pos:Pos)(hb:aL b=true):Q2 X T E F (.Subscript a b pos) (C.fX a (cE C n a) (cE C n b)):=by
 have tr:∀{e:Expr} {y:Ex},QE X T E e (aD F y)->uD e=true->(∀σ,bL F y σ=(aD F y σ).bind bC)->Q2 X T E F e y:=λ{e y} q pl e1=>by refine⟨q,?_⟩;have:=jO L.K q pl;have e2:bL F y=λσ=>(aD F y σ).bind bC:=funext e1;rw[e2];exact this
 have pl:QE X T E (.Subscript a b pos) (aD F (.op .ix (cE C n a) (cE C n b))):=Xu (Ol L.K (by have:=L.un;omega)) (ih _).1 (ih _).1 (Dd hb);cases a with
 |Name x p=>
  unfold Cn.fX;simp only[pO,Option.bind_some];by_cases hy:(eO x&&C.gl x)=true
  .rw[if_pos hy];rw[Bool.and_eq_true]at hy;cases hk:C.eD.lookup x with
   |none=>exact tr pl rfl λ_=>rfl|some aE=>exact tr (Yf (L.gl hy.2) (L.eD _ _ hk) (ih _).1 (Dd hb) (eI hy.1).1) rfl λ_=>rfl
  .rw[if_neg hy];exact tr pl rfl λ_=>rfl
 |_=>exact tr pl rfl λ_=>rfl
theorem FD{X:Cx}{T:Tab}{E:XK}{C:Cn}{F:Run}(L:Lk X T E C F){n:Nat}(ih:∀e,Q2 X T E F e (cE C n e))(o:Expr)(m:Str)(apos pos:Pos)(es:List Expr):Q2 X T E F (.Call (.Attribute o m apos) es [] pos) (C.yJ o m apos pos es (cE C n o) (es.map (cE C n))):=by
 have tr:∀{e:Expr} {y:Ex},QE X T E e (aD F y)->uD e=true->(∀σ,bL F y σ=(aD F y σ).bind bC)->Q2 X T E F e y:=λ{e y} q pl e1=>by refine⟨q,?_⟩;have:=jO L.K q pl;have e2:bL F y=λσ=>(aD F y σ).bind bC:=funext e1;rw[e2];exact this
 unfold Cn.yJ;split
 case isFalse=>exact bM
 case isTrue hb=>
  rw[Bool.and_eq_true]at hb;obtain⟨hs,hl⟩:=hb;have blt:Q2 X T E F (.Call (.Attribute o m apos) es [] pos) (ek o m (cE C n o) (es.map (cE C n))):=by
   cases es with
   |nil=>
    show Q2 X T E F _ (yK o m (cE C n o));unfold yK;split
    case isTrue hm=>simp only[Bool.and_eq_true,decide_eq_true_eq]at hm;obtain⟨hm,ho⟩:=hm;subst hm;exact tr (Yj (ih _).1 ho hl) rfl λ_=>rfl
    exact bM
   |cons a es=>
    rw[List.all_cons,Bool.and_eq_true]at hs;cases es with
    |nil=>
     show Q2 X T E F _ (yL o m (cE C n o) (cE C n a));unfold yL;split
     case isTrue hm=>simp only[Bool.and_eq_true,decide_eq_true_eq]at hm;obtain⟨hm,ho⟩:=hm;subst hm;exact tr (Xl L.K (ih _).1 (ih _).1 ho hs.1 hl) rfl λ_=>rfl
     split
     case isTrue hm=>
      have hm:=of_decide_eq_true hm;subst hm;split
      .rename_i z hz;unfold Dx at hz;split at hz
       .cases hz;exact tr (Xv L.K (ih _).1 hs.1 hl) rfl λ_=>rfl
       .cases hz
      .exact bM
     split
     case isTrue hm=>
      rw[Bool.and_eq_true]at hm;split
      .rename_i f hf;rw[HY hf];exact tr (Yg f (ih _).1 (ih _).1 hm.1 hs.1 hl) rfl λ_=>rfl
      .exact bM
     exact bM
    |cons b es=>
     obtain⟨hs1,hs2⟩:=hs;rw[List.all_cons,Bool.and_eq_true]at hs2;cases es with
     |nil=>show Q2 X T E F _ (yM o m (cE C n o) (cE C n a) (cE C n b));unfold yM;exact bM
     |cons c es=>exact bM
  split
  case h_1 ts hts=>
   unfold Cn.Em at hts;split at hts
   case isFalse=>cases hts
   case isTrue hz=>
    rw[Bool.and_eq_true]at hz;have hm:=of_decide_eq_true hz.1;subst hm;cases o with
    |Name x p=>
     simp only[pO,Option.bind_some]at hts;split at hts
     case isFalse=>cases hts
     case isTrue hx=>
      rw[Bool.and_eq_true]at hx;cases es with
      |nil=>cases hz.2|cons a es=>
       cases es with
       |cons b es=>cases hz.2|nil=>
        have hsa:aL a=true:=by simpa using hs
        exact tr (Ye (L.gl hx.2) (L.iG _ _ hts) (ih _).1 hsa (eI hx.1).1 hl) rfl λ_=>rfl
    |_=>cases hts
  exact blt
theorem dE{T:Tab}{F:Run}:∀(n:Nat) {X:Cx} {E:XK} {C:Cn} (L:Lk X T E C F) (e:Expr),Q2 X T E F e (cE C n e)
 |0,X,E,C,L,e=>bM
 |n+1,X,E,C,L,e=>by
  have ih:∀e,Q2 X T E F e (cE C n e):=λe=>dE n L e;have tr:∀{e:Expr} {y:Ex},QE X T E e (aD F y)->uD e=true->(∀σ,bL F y σ=(aD F y σ).bind bC)->Q2 X T E F e y:=λ{e y} q pl e1=>by refine⟨q,?_⟩;have:=jO L.K q pl;have e2:bL F y=λσ=>(aD F y σ).bind bC:=funext e1;rw[e2];exact this
  unfold cE;split
  .exact FE L _ _
  .exact EY L _ _ _
  .unfold fg;split
   .rename_i o ho;exact tr (Ya (Tb L ho) (ih _).1 (ih _).1) rfl λ_=>rfl
   .exact bM
  .unfold fu;split
   .exact⟨Yi IZ (ih _).1,kr⟩
   .exact⟨Xz L.K (ih _).1,CI (ih _).2⟩
   .exact bM
  .split
   .rename_i neg aE ht;unfold Cn.Ep at ht;split at ht
    .split at ht
     case isFalse=>cases ht
     case isTrue hx=>rw[Bool.and_eq_true]at hx;obtain⟨k,hk,e⟩:=Option.map_eq_some_iff.mp ht;cases e;exact⟨Bb (neg:=false) (L.gl hx.2) (L.eD _ _ hk) (ih _).1 (eI hx.1).1,Bx (neg:=false) (L.gl hx.2) (L.eD _ _ hk) (ih _).1 (eI hx.1).1⟩
    .split at ht
     case isFalse=>cases ht
     case isTrue hx=>rw[Bool.and_eq_true]at hx;obtain⟨k,hk,e⟩:=Option.map_eq_some_iff.mp ht;cases e;exact⟨Bb (neg:=true) (L.gl hx.2) (L.eD _ _ hk) (ih _).1 (eI hx.1).1,Bx (neg:=true) (L.gl hx.2) (L.eD _ _ hk) (ih _).1 (eI hx.1).1⟩
    .cases ht
   .unfold fj;split
    .split
     .rename_i hb;exact⟨Xq (iT L _) (ih _).1 (ih _).1 (sA hb),CH (iT L _) (ih _).1 (ih _).1 (sA hb)⟩
     .exact bM
    .split
     .rename_i hc;exact⟨Xo (iT L _) (iT L _) (ih _).1 (ih _).1 (ih _).1 (sA hc),CF (iT L _) (iT L _) (ih _).1 (ih _).1 (ih _).1 (sA hc)⟩
     .exact bM
    .split
     .rename_i hc;exact⟨Xp (iT L _) (iT L _) (iT L _) (ih _).1 (ih _).1 (ih _).1 (ih _).1 (sA hc),CG (iT L _) (iT L _) (iT L _) (ih _).1 (ih _).1 (ih _).1 (ih _).1 (sA hc)⟩
     .exact bM
    .exact bM
  .rename_i op vs _;unfold fh;cases vs with
   |nil=>split<;>exact bM|cons v vs=>
    split
    .obtain⟨h1,h2⟩:=si L ih v vs;exact⟨h1,h2.qt⟩
    .obtain⟨h1,h2⟩:=Ah L ih v vs;exact⟨h1,h2.qt⟩
  .exact⟨Xr (ih _).2 (ih _).1 (ih _).1,kr⟩
  .split
   .rename_i hs;exact tr (Yh (kD hs ih)) rfl λ_=>rfl
   .exact bM
  .split
   .rename_i hs;exact tr (Xw (kD hs ih)) rfl λ_=>rfl
   .exact bM
  .unfold fq;split
   .exact tr (Yc L.K (ih _).1 (Ak ih (fk n)) (Ak ih (fk n))) rfl λ_=>rfl
   .split
    .rename_i hb;exact FA L ih _ _ _ hb
    .exact bM
  .split
   .rename_i h;exact FC L ih h
   unfold fi;split
   .split
    .exact EX L ih _ _ _ _
    .exact FD L ih _ _ _ _ _
    .exact bM
   .exact bM
  .unfold fe;split
   .rename_i hb;split
    .rename_i hz;rw[Bool.and_eq_true,decide_eq_true_eq]at hz;obtain⟨rfl,_⟩:=hz;exact tr (Yk (λc hc=>by obtain⟨x,hx,e⟩:=List.mem_map.mp (List.contains_iff_mem.mp hc);obtain⟨D,_,h2,h3⟩:=L.eY x.1 x.2 hx;exact⟨D,e▸h2,h3⟩) (ih _).1 hb) rfl λ_=>rfl
    all_goals exact bM
   .exact bM
  .unfold fm;split
   .split
    .rename_i hb;rw[Bool.and_eq_true]at hb;have LY:=λs H a fp=>L.comp hb.1 s H a fp;split
     .exact tr (Az (ct:=none) (L.xI hb.1) L.calm (vP L ih _ _) (λs H a fp=>aw (LY s H a fp) _) (λc z=>by cases z) (λ_=>rfl) (λs H a fp=>(dE n (LY s H a fp) _).1) (by simp[Cn.imp]) (λi j x e1 e2=>L.imp e1 e2) hb.2) rfl λ_=>rfl
     .exact tr (Az (ct:=some _) (L.xI hb.1) L.calm (vP L ih _ _) (λs H a fp=>aw (LY s H a fp) _) (λc z s H a fp=>by cases z;exact(dE n (LY s H a fp) _).2) (λz=>by cases z) (λs H a fp=>(dE n (LY s H a fp) _).1) (by simp[Cn.imp]) (λi j x e1 e2=>L.imp e1 e2) hb.2) rfl λ_=>rfl
     .exact bM
    .exact bM
   .exact bM
  .exact bM
def Out.drop(i:Nat):Out->Out
 |.nx σ=>.nx (σ.set i none)
 |.brk σ=>.brk (σ.set i none)
 |.cnt σ=>.cnt (σ.set i none)
 |.ret v=>.ret v
def nB(i:Option Nat)(ms:aA->M Out)(σ:aA)(c:Nat):M Out:=λh1=>match i with
 |some i=>((bP (ms (σ.set i (some (.ref h1.nx))))).bind λo=>M.ret (o.drop i)) (h1.new (.xo c))
 |none=>bP (ms σ) (h1.new (.xo c))
def tZ(k:Option (Option Nat))(σ:aA)(v:AV):Out:=match k with
 |none=>.ret v
 |some none=>.nx σ
 |some (some j)=>.nx (σ.set j (some v))
def vY(mc:M AV)(ok:AV->Out)(hd:Nat->M Out):M Out:=λh=>match mc h with
 |.ok v h1=>.ok (ok v) h1
 |.exc c _ h1=>hd c h1
 |.bad=>.bad
def uC(cs:List (Nat×Bool))(c:Nat)(a b:M Out):M Out:=match cs.lookup (c%64) with
 |some true=>a
 |some false=>b
 |none=>M.bad
def Cj(m:M AV)(c:Nat):M Out:=m.bind λv h=>match v with
 |.int i=>if 0<=i then .exc (c+64*(i.toNat+1)) .aC h else .bad
 |_=>.bad
def Ci(mr:M (List AV))(c:Nat):M Out:=mr.bind λxs=>M.guard (xs.length<=sizeLine) λh=>.exc c .aC h
section
variable {X:Cx}{T:Tab}{E:XK}
theorem W.bP{α β:Type}{Rp:Rl α β}{m:M α}{h:AH}{ρ:List Addr}{H:Hp}{Q:β->Hp->Prop}{E E':XK}(w:W T Rp (AM.bP m h) ρ H Q E):W T Rp (m h) ρ H Q E':=by
 unfold AM.bP at w;cases e:m h with
 |ok a h1=>rw[e]at w;exact w|exc c x h1=>rw[e]at w;exact w.elim|bad=>rw[e]at w;exact w.elim
theorem aR.drop{ρ:List Addr}{H:Hp}{σ:aA}{σ':L2.St}(S:aR T ρ H σ σ')(i:Nat):aR T ρ H (σ.set i none) (σ'.set i none):=by
 refine⟨by simp[S.1],λj u q=>?_⟩;by_cases hj:i=j
 .subst hj;by_cases hl:i<σ.length
  .rw[List.getElem?_set_self hl]at q;cases q
  .rw[List.getElem?_eq_none (by simpa using hl)]at q;cases q
 .rw[List.getElem?_set_ne hj]at q ⊢;exact S.2 j u q
def Ab(k:Option (Option Nat))(σ:L2.St)(v:V):cQ:=match k with
 |none=>.ret v
 |some none=>.nx σ
 |some (some j)=>.nx (σ.set j (some v))
theorem Ri{ρ:List Addr}{H:Hp}{σ:aA}{σ':L2.St}{v:AV}{v':V}(S:aR T ρ H σ σ')(r:aF T ρ H v v'):∀k,RO T ρ H (tZ k σ v) (Ab k σ' v')
 |none=>r
 |some none=>S
 |some (some j)=>S.set r j
inductive kU(X:Cx)(call:Expr):Option (Option Nat)->Stmt->Prop
 |ret (p:Pos):kU X call none (.Return (some call) p)
 |expr (p:Pos):kU X call (some none) (.Expr call p)
 |asg (j:Nat) (y:Str) (p p':Pos) (hN:X.N.Nodup) (hj:X.N[j]?=some y) (hl:kX X.env.scope y) (hf:X.fn y=true):kU X call (some (some j)) (.Assign [.Name y p'] call p)
theorem kU.fK{call:Expr}{k:Option (Option Nat)}{st:Stmt}{pn:List (Addr×Obj)}{E1:Value->Shared->Prop}(h:kU X call k st):kU (X.fK pn E1) call k st:=by
 cases h with
 |ret p=>exact .ret p|expr p=>exact .expr p|asg j y p p' hN hj hl hf=>exact .asg j y p p' hN hj hl hf
def oo(k:Option (Option Nat))(te:TE):TS:=match k with
 |none=>bg (Ej te) vT
 |some none=>bg (Ef te) vT
 |some (some j)=>bg (ba te (xT j)) vT
theorem HS{k:Option (Option Nat)}{te:TE}{D:Ends}{σ:L2.St}{H:Hp}(h:te σ H λv H1=>dJ D (Ab k σ v) H1):oo k te D σ H:=by
 match k with
 |none=>exact h|some none=>exact h|some (some j)=>exact h
theorem Jb{call:Expr}{te:TE}{k:Option (Option Nat)}{st:Stmt}(hp:PE X call te)(hs:aL call=true)(hlc:kF call=false)(h:kU X call k st):iL X [st] (oo k te):=by
 cases h with
 |ret p=>exact uF (Ax hp) uG|expr p=>exact uF (Aw hp (vO hs hlc)) uG|asg j y p p' hN hj hl hf=>exact uF (Wl hN hj hl hp (vO hs hlc) (.inl hf)) uG
def Eo(T:Tab)(m:aA->M AV)(EE:L2.St->XK):TE:=λσ' H Q=>∃ρ σ h,aN T ρ h H/\aR T ρ H σ σ'/\W T (aF T) (m σ h) ρ H Q (EE σ')
def QC(X:Cx)(T:Tab)(e:Expr)(m:aA->M AV):Prop:=∀pn E1 EE,wQ (cN X.prog X.w) (X.fK pn E1) EE->PE (X.fK pn E1) e (Eo T m EE)
def IG(T:Tab)(ms:aA->M Out):TS:=λD σ' H=>∃ρ σ h,aN T ρ h H/\aR T ρ H σ σ'/\W T (RO T) (ms σ h) ρ H (dJ D) E0
inductive kY(X:Cx)(T:Tab):List ExceptHandler->List Hd->(aA->Nat->M Out)->Prop
 |nil:kY X T [] [] λ_ _=>M.bad
 |cons {x:Str} {np hpos:Pos} {Dc:Addr} {nm:Option Str} {i:Option Nat} {b₀:Stmt} {suite:List Stmt} {cs:List (Nat×Bool)} {ms:aA->M Out} {hs:List ExceptHandler} {ds:List Hd} {g:aA->Nat->M Out} (hg:Gl X x) (hm:X.mg x=some (.ref Dc)) (hD:L2.clsIn X.K Dc=true)
  (hdb:(x==("__debug__":Str))=false) (hn:wN X nm i) (hc:∀c b,cs.lookup c=some b->∃C,T.C c=some C/\L2.clsIn X.K C=true/\(mroOf X.K C).contains (.ref Dc)=b) (hsu:∀a,mI (X.held a) T E0 (b₀::suite) ms) (t:kY X T hs ds g) :
  kY X T (.ExceptHandler (some (.Name x np)) nm (b₀::suite) hpos::hs) (⟨Dc,i,IG T ms⟩::ds) λσ c=>uC cs c (nB i ms σ c) (g σ c)
section
variable {x fn:Str}{np fp cp pos apos:Pos}{e o:Expr}{es:List Expr}{mr:aA->M (List AV)}{ma mc:aA->M AV}{g:List AV->M AV}{hs:List ExceptHandler}{ds:List Hd}{gh:aA->Nat->M Out}{k:Option (Option Nat)}
theorem kY.ok(q:kY X T hs ds gh):qH X hs ds:=by
 induction q with
 |nil=>exact .nil|cons hg hm hD hdb hn hc hsu t ih=>exact .cons hg hm hD hdb hn (λa pins s σ' H D I ⟨ρ,σ,h,R,S,w⟩=>(hsu a).choose_spec.1 pins s σ' H D I ((hsu a).choose_spec.2 ρ σ σ' h H D R S w)) ih
theorem kY.reads(q:kY X T hs ds gh){ρ:List Addr}{σ:aA}{σ':L2.St}{h:AH}{H:Hp}{D:Ends}{c:Nat}(R:aN T ρ h H)(S:aR T ρ H σ σ'):W T (RO T) (gh σ c h) ρ H (dJ D) E ->
  ∃C,T.C (c%64)=some C/\L2.clsIn X.K C=true/\∀a dx,H a=none->XD H dx c->nC X.K C D σ' a (aK H a (.ext (fL a (.ref C) dx))) ds:=by
 induction q with
 |nil=>exact λw=>w.elim|@cons x np hpos Dc nm i b₀ suite cs ms hs ds g hg hm hD hdb hn hc hsu t ih=>
  intro w;dsimp only[uC]at w;cases l:cs.lookup (c%64) with
  |none=>rw[l]at w;exact w.elim|some b=>
   obtain⟨C,h1,h2,h3⟩:=hc _ b l;rw[l]at w;cases b with
   |false=>obtain⟨C',g1,g2,g3⟩:=ih w;rw[h1]at g1;cases g1;exact⟨C,h1,h2,λa dx ha hx=>by unfold nC;rw[if_neg (by rw[h3];exact Bool.false_ne_true)];exact g3 a dx ha hx⟩
   |true=>
    refine⟨C,h1,h2,λa dx ha hx=>?_⟩;unfold nC;rw[if_pos h3];obtain⟨R2,ex⟩:=R.alloc (o:=.xo c) ha ⟨C,dx,h1,eF,λz=>let ⟨d,od,g1,g2⟩:=hx z;⟨d,od,g1,by rw[aT (dG g2 ha)];exact g2⟩⟩;have w2:=w.ext ex;unfold nB at w2;cases i with
    |none=>exact⟨_,_,_,R2,S.ext ex,W.bP (E:=E) w2⟩|some i=>
     refine⟨_,_,_,R2,(S.ext ex).set (.ref (n:=h.nx) (by rw[<- R.len];simp)) i,W.bP (E:=E) (W.bind w2 λρ3 o o' h3 H3 e3 R3 q3 w3=>?_)⟩;cases o with
     |nx σ2=>cases o' with
      |nx σ2'=>exact(W.here (Q:=dJ D) (b:=cQ.nx (σ2'.set i none)) w3 R3 (aR.drop q3 i):D.nx (σ2'.set i none) H3)|_=>exact q3.elim
     |brk σ2=>cases o' with
      |brk σ2'=>exact(W.here (Q:=dJ D) (b:=cQ.brk (σ2'.set i none)) w3 R3 (aR.drop q3 i):D.bk (σ2'.set i none) H3)|_=>exact q3.elim
     |cnt σ2=>cases o' with
      |cnt σ2'=>exact(W.here (Q:=dJ D) (b:=cQ.cnt (σ2'.set i none)) w3 R3 (aR.drop q3 i):D.ct (σ2'.set i none) H3)|_=>exact q3.elim
     |ret v=>cases o' with
      |ret v'=>exact(W.here (Q:=dJ D) (b:=cQ.ret v') w3 R3 q3:D.rt v' H3)|_=>exact q3.elim
theorem CB{call:Expr}{st:Stmt}{h₀:ExceptHandler}(hst:X.stack=X.env::X.outer)(hf:X.env.frame=some X.env.locals)(hN:X.N.Nodup)(hc:QC X T call mc)(hb:kU X call k st)(hsp:aL call=true)(hlc:kF call=false)(hh:kY X T (h₀::hs) ds gh) :
  QS X T E (.Try [st] (h₀::hs) [] [] pos) (λσ=>vY (mc σ) (tZ k σ) (gh σ)):=by
 refine⟨_,Wn (tb:=λpn E1 EE=>oo k (Eo T mc EE)) hst hf hN hh.ok λpn E1 EE ps=>Jb (X:=X.fK pn E1) (hc pn E1 EE ps) hsp hlc hb.fK,λρ σ σ' h H D R S w pn E1=>HS ⟨ρ,σ,h,R,S,?_⟩⟩;dsimp only[vY]at w;cases e:mc σ h with
 |ok v h2=>rw[e]at w;exact λρ2 b H2 e2 R2 r2=>w ρ2 _ H2 e2 R2 (Ri (S.ext e2) r2 k)
 |bad=>rw[e]at w;exact w.elim|exc c x h2=>rw[e]at w;exact λρ2 H2 e2 R2=>let ⟨C,h1,h2,h3⟩:=hh.reads R2 (S.ext e2) (w.ext e2);⟨C,h1,λdx hx=>⟨C,rfl,h2,λa ha=>h3 a dx ha hx⟩⟩
theorem uJ:QC X T e (λ_=>M.bad):=λpn E1 EE ps pins s σ' H Q I ⟨ρ,σ,h,R,S,w⟩=>w.elim
theorem Xh(Fx:Fn X T E fn g) (hgf:Gl X fn) (hdf:(fn==("__debug__":Str))=false) (hss:(e::es).all aL=true) (ha:∀pn E1,QA (X.fK pn E1).rN T E0 (e::es) mr):QC X T (.Call (.Name fn fp) (e::es) [] cp) (λσ=>(bP (mr σ)).bind g):=by intro pn E1 EE ps;obtain⟨kk,f,fd,pl,F,hr,hm,hk,hb,_⟩:=Fx.ex;obtain⟨ta,pa,ra⟩:=ha pn E1;rw[List.all_cons,Bool.and_eq_true]at hss;exact(Up (X:=X.fK pn E1) F (hr.mono (Nat.le_succ _)) hgf hm hk hb ps pa.rN hdf (bH hss.1) (rZ hss.2)).of λσ' H Q ⟨ρ,σ,h,R,S,w⟩=>ra ρ σ σ' h H _ R S (W.bP (W.bind w λρ1 xs ys h1 H1 e1 R1 q1 w1=>⟨ρ1,h1,xs,R1,q1,w1⟩))
theorem yw{c n:Nat}(h:c<64):(c+64*(n+1))%64=c/\(c+64*(n+1)) / 64-1=n:=by omega
theorem CA{c:Nat} {m:aA->M AV} (hc:X.calm=true) (hx:X.ex=[]) (hg:Gl X x) (h:rk X T x c) (hX:wV X E) (ha:QE X T E e m) (hs:aL e=true) (hd:(x==("__debug__":Str))=false) :
  QS X T E (.Raise (some (.Call (.Name x np) [e] [] cp)) none pos) (λσ=>Cj (m σ) c):=by
 obtain⟨D,f,bmB,newId,initId,Bn,k,fd,ps,hm,hT,hl,q,FB,xa,F,hr,hb⟩:=h;obtain⟨ta,pa,ra⟩:=ha;refine⟨_,Wj hc hx hg hm q FB xa F hr hb hX (gB pa hZ (bH hs)) hd (bH hs),λρ σ σ' h H D' R S w=>ra ρ σ σ' h H _ R S (W.bind w λρ1 v v' h1 H1 e1 R1 q1 w1=>?_)⟩;cases v with
 |int i=>
  cases q1;dsimp only at w1;by_cases hi:0<=i
  .rw[if_pos hi]at w1;refine⟨i,rfl,λd od hd1=>?_⟩;obtain⟨D2,h2,z⟩:=w1 ρ1 (aK H1 d (.bO od (.xd [("line",.int i)]))) (Ext.eP hd1) (R1.keep hd1);rw[(yw hl).1,hT]at h2;cases h2;refine z (some d) λ_=>⟨d,od,rfl,?_⟩;rw[eF,(yw hl).2,Int.toNat_of_nonneg hi]
  .rw[if_neg hi]at w1;exact w1.elim
 |_=>exact w1.elim
theorem BZ{C:Addr}{c:Nat}{bmB:List Value}{Bn newId initId:String}(hc:X.calm=true)(hg:Gl X x)(hm:X.mg x=some (.ref C))(hT:T.C c=some C)(hl:c<64)(q:W.excIn X.K C bmB newId=true)(FB:ExcBaseFacts Bn newId initId bmB)(hX:wU X E)
  (ha:QA X T E (e::es) mr) (hss:(e::es).all aL=true) (hd:(x==("__debug__":Str))=false):QS X T E (.Raise (some (.Call (.Name x np) (e::es) [] cp)) none pos) (λσ=>Ci (mr σ) c):=by
 obtain⟨tr,pr,rr⟩:=ha;rw[List.all_cons,Bool.and_eq_true]at hss;refine⟨_,Wi hc hg hm q FB hX pr hd (bH hss.1) (rZ hss.2),λρ σ σ' h H D R S w=>rr ρ σ σ' h H _ R S (W.bind w λρ1 xs bI h1 H1 e1 R1 q1 w1=>?_)⟩;obtain⟨hz,w1⟩:=lL w1;obtain⟨C',hC',z⟩:=w1 ρ1 H1 .refl R1;rw[Nat.mod_eq_of_lt hl,hT]at hC';cases hC';exact⟨by rw[<- q1.length];exact hz,z none λy=>absurd (Nat.div_eq_of_lt hl) y⟩
end
end
def au:List Nat->List AV->aA->aA
 |i::is,v::vs,σ=>au is vs (σ.set i (some v))
 |_,_,σ=>σ
def jx(is:List Nat)(mr:M (List AV))(σ:aA):M Out:=mr.bind λvs=>M.guard (vs.length=is.length) (M.ret (.nx (au is vs σ)))
def HF(i j k:Nat)(ta:TA):TS:=λD σ H=>ta σ H λvs H1=>∃v w z,vs=[v,w,z]/\D.nx (((σ.set i (some v)).set j (some w)).set k (some z)) H1
section
variable {X:Cx}{T:Tab}{E:XK}{a b c:Expr}{x y z:Str}{px py pz pt pos:Pos}{kt k2:Nat}{pt2:Pos}{i j k:Nat}{mr:aA->M (List AV)}
theorem Wg{ta:TA}(hc:X.calm=true)(hN:X.N.Nodup)(hi:X.N[i]?=some x)(hj:X.N[j]?=some y)(hk:X.N[k]?=some z)(hij:i≠j)(hik:i≠k)(hjk:j≠k)
  (hx:X.env.scope.names.lookup x=some .local) (hy:X.env.scope.names.lookup y=some .local) (hz:X.env.scope.names.lookup z=some .local) (ha:PA X [a,b,c] ta)
  (hw:swappedStores [.Tuple [.Name x px,.Name y py,.Name z pz] kt pt] (.Tuple [a,b,c] k2 pt2) X.env=pure (some [x,y,z])) :
  PS X (.Assign [.Tuple [.Name x px,.Name y py,.Name z pz] kt pt] (.Tuple [a,b,c] k2 pt2) pos) (HF i j k ta):=by
 have hs:swapsWithSole [.Tuple [.Name x px,.Name y py,.Name z pz] kt pt] (.Tuple [a,b,c] k2 pt2) pos.line X.env=pure false:=by rfl
 intro pins s σ H D I h;rw[exec_Assign_arm];refine wpAny_bind (wpAny_standAt ?_);rw[hs];refine wpAny_bind (wpAny_pure ?_);rw[if_neg (by decide)];refine wpAny_bind (Tuple_ (aJ (ha _ pins s σ H _ I h) λus s1 ⟨vs,H1,I1,r1,q1⟩=>?_));obtain⟨v,w,z',e1,q1⟩:=q1;subst e1;obtain⟨u1,u2,u3,rfl,rv,rw',rz⟩:∃u1 u2 u3,us=[u1,u2,u3]/\RelV v u1/\RelV w u2/\RelV z' u3:=by
  cases r1 with
  |cons p q=>
   cases q with
   |cons p' q'=>
    cases q' with
    |cons p2 q2=>cases q2;exact⟨_,_,_,rfl,p,p',p2⟩
 refine wpAny_newObj_type ?_ (by show 3<=sizeLine;decide);have I2:Inv X pins σ H1 { s1 with heap:=s1.heap.push { cls:=.type "tuple",data:=.seq [u1,u2,u3].toArray } }:=I1.kept (t':=s1.toks) λb o e=>Heap.get?_push_of_some _ e;rw[hw];refine wpAny_bind (wpAny_pure ?_);show wpAny (model X.prog X.w) X.A (do rule "assign.swapped-stores";let items <- unpackItems (.ref s1.heap.objs.size) 3 none;assignInOrder [λv=>bindName X.env z v,λv=>bindName X.env y v,λv=>bindName X.env x v] items.reverse;pure Flow.next) _ _ _;refine wpAny_bind (wpAny_rule (wpAny_bind (unpackItems_tuple (items:=#[u1,u2,u3]) (I.ok.hd hc) (IsTup.new s1.heap _) λh' hx'=>?_)));have I3:=I2.kept (h':=h') (t':=s1.toks) λb o e=>hx' b o (Nat.ne_of_lt (Heap.lt_size e)) e;show wpAny _ _ (assignInOrder [λv=>bindName X.env z v,λv=>bindName X.env y v,λv=>bindName X.env x v] [u3,u2,u1]>>=λ_=>pure Flow.next) _ _ _;refine wpAny_bind (assignInOrder_cons (wpAny_bindName (lZ I3 hN hk (.inl hz) rz (λs2 I4=>?_) (.inr hz))));refine assignInOrder_cons (wpAny_bindName (lZ I4 hN hj (.inl hy) rw' (λs3 I5=>?_) (.inr hy)));refine assignInOrder_cons (wpAny_bindName (lZ I5 hN hi (.inl hx) rv (λs4 I6=>assignInOrder_nil (wpAny_pure ?_)) (.inr hx)));rw[List.set_comm _ _ (Ne.symm hjk),List.set_comm _ _ (Ne.symm hik),List.set_comm _ _ (Ne.symm hij)]at I6;exact⟨_,H1,I6,q1⟩
theorem BX(hc:X.calm=true)(hN:X.N.Nodup)(hi:X.N[i]?=some x)(hj:X.N[j]?=some y)(hij:i≠j)(hx:X.env.scope.names.lookup x=some .local)(hy:X.env.scope.names.lookup y=some .local)(ha:QA X T E [a,b] mr)
  (hw:swappedStores [.Tuple [.Name x px,.Name y py] kt pt] (.Tuple [a,b] k2 pt2) X.env=pure (some [x,y])) :
  QS X T E (.Assign [.Tuple [.Name x px,.Name y py] kt pt] (.Tuple [a,b] k2 pt2) pos) (λσ=>jx [i,j] (mr σ) σ):=by
 obtain⟨tr,pr,rr⟩:=ha;refine⟨_,Wf hc hN hi hj hij hx hy pr hw,λρ σ σ' h H D R S w=>rr ρ σ σ' h H _ R S (W.bind w λρ1 xs bI h1 H1 e1 R1 q1 w1=>?_)⟩;obtain⟨hz,w1⟩:=lL w1;cases q1 with
 |nil=>cases hz|cons r1 rs=>
  cases rs with
  |nil=>cases hz|cons r2 rs=>
   cases rs with
   |nil=>exact⟨_,_,rfl,W.here (Q:=dJ D) (b:=cQ.nx _) w1 R1 (((S.ext e1).set r1 i).set r2 j)⟩|cons _ _=>cases hz
theorem BY(hc:X.calm=true)(hN:X.N.Nodup)(hi:X.N[i]?=some x)(hj:X.N[j]?=some y)(hk:X.N[k]?=some z)(hij:i≠j)(hik:i≠k)(hjk:j≠k)
  (hx:X.env.scope.names.lookup x=some .local) (hy:X.env.scope.names.lookup y=some .local) (hz:X.env.scope.names.lookup z=some .local) (ha:QA X T E [a,b,c] mr)
  (hw:swappedStores [.Tuple [.Name x px,.Name y py,.Name z pz] kt pt] (.Tuple [a,b,c] k2 pt2) X.env=pure (some [x,y,z])) :
  QS X T E (.Assign [.Tuple [.Name x px,.Name y py,.Name z pz] kt pt] (.Tuple [a,b,c] k2 pt2) pos) (λσ=>jx [i,j,k] (mr σ) σ):=by
 obtain⟨tr,pr,rr⟩:=ha;refine⟨_,Wg hc hN hi hj hk hij hik hjk hx hy hz pr hw,λρ σ σ' h H D R S w=>rr ρ σ σ' h H _ R S (W.bind w λρ1 xs bI h1 H1 e1 R1 q1 w1=>?_)⟩;obtain⟨hz,w1⟩:=lL w1;cases q1 with
 |nil=>cases hz|cons r1 rs=>
  cases rs with
  |nil=>cases hz|cons r2 rs=>
   cases rs with
   |nil=>cases hz|cons r3 rs=>
    cases rs with
    |nil=>exact⟨_,_,_,rfl,W.here (Q:=dJ D) (b:=cQ.nx _) w1 R1 ((((S.ext e1).set r1 i).set r2 j).set r3 k)⟩|cons _ _=>cases hz
end
mutual
inductive Tg where
 |bad
 |nm (i:Nat)
 |tup (n:Nat) (ts:mL)
 |sub (o i:Ex)
inductive mL where
 |nil
 |cons (t:Tg) (ts:mL)
end
mutual
inductive Sx where
 |bad|pass|brk|cnt|vM
 |expr (e:Ex)
 |ret (e:Ex)
 |asg (t:Tg) (e:Ex)
 |ite (c:Ex) (a b:aW)
 |kE (t:Tg) (it:Ir) (b:aW)
 |par (is:List Nat) (es:cT)
 |raise (c:Nat) (es:cT)
 |ai (c:Nat) (e:Ex)
 |vZ (k:Option (Option Nat)) (c:Ex) (hs:oJ)
inductive aW where
 |nil
 |cons (s:Sx) (ss:aW)
inductive oJ where
 |nil
 |cons (cs:List (Nat×Bool)) (i:Option Nat) (b:aW) (r:oJ)
end
mutual
noncomputable def jC(F:Run):Tg->AV->aA->M aA
 |.bad,_,_=>M.bad
 |.nm i,v,σ=>M.ret (σ.set i (some v))
 |.tup n ts,v,σ=>pD n (mM F ts) v σ
 |.sub o i,v,σ=>(aD F o σ).bind λx=>(aD F i σ).bind λy=>(xn x y v).bind λ_=>M.ret σ
noncomputable def mM(F:Run):mL->List AV->aA->M aA
 |.nil,vs,σ=>gu vs σ
 |.cons t ts,vs,σ=>gr (jC F t) (mM F ts) vs σ
end
def qX(F:Run)(c:Ex)(σ:aA):M AV:=match c with
 |.call f es=>(bP (bS F es σ)).bind (F f)
 |_=>M.bad
mutual
noncomputable def dY(F:Run):Sx->aA->M Out
 |.bad,_=>M.bad
 |.pass,σ=>M.ret (.nx σ)
 |.brk,σ=>M.ret (.brk σ)
 |.cnt,σ=>M.ret (.cnt σ)
 |.vM,_=>M.ret (.ret .aC)
 |.expr e,σ=>(aD F e σ).bind λ_=>M.ret (.nx σ)
 |.ret e,σ=>(aD F e σ).bind λv=>M.ret (.ret v)
 |.asg t e,σ=>(aD F e σ).bind λv=>(jC F t v σ).bind λσ1=>M.ret (.nx σ1)
 |.ite c a b,σ=>yF (bL F c σ) (dF F a σ) (dF F b σ)
 |.kE t it b,σ=>(aZ F it σ).bind λi=>gK i (jC F t) (dF F b) FU 0 σ
 |.par is es,σ=>jx is (bS F es σ) σ
 |.raise c es,σ=>Ci (bS F es σ) c
 |.ai c e,σ=>Cj (aD F e σ) c
 |.vZ k c hs,σ=>vY (qX F c σ) (tZ k σ) (lN F hs σ)
noncomputable def dF(F:Run):aW->aA->M Out
 |.nil,σ=>M.ret (.nx σ)
 |.cons s ss,σ=>Cw (dY F s σ) (dF F ss)
noncomputable def lN(F:Run):oJ->aA->Nat->M Out
 |.nil,_,_=>M.bad
 |.cons cs i b r,σ,c=>uC cs c (nB i (dF F b) σ c) (lN F r σ c)
end
def vW:List Tg->mL
 |[]=>.nil
 |t::ts=>.cons t (vW ts)
def cG(C:Cn):Nat->Expr->Tg
 |0,_=>.bad
 |n+1,e=>match e with
  |.Name x _=>match C.slot x with
   |some i=>.nm i
   |none=>.bad
  |.Tuple es _ _=>if es.all gF then .tup es.length (vW (es.map (cG C n))) else .bad
  |.Subscript a b _=>if aL b then .sub (cE C EF a) (cE C EF b) else .bad
  |_=>.bad
def yf:Expr->Bool
 |.Tuple ..=>true
 |_=>false
def pY:List Sx->aW
 |[]=>.nil
 |s::ss=>.cons s (pY ss)
def cA(C:Cn):Expr->Ex
 |.Name x _=>if eO x&&C.loc x then match C.N.idxOf? x with
   |some i=>.var i
   |none=>.bad
  else .bad
 |.Constant c _ _=>gb c
 |_=>.bad
def cH(C:Cn):Stmt->Sx
 |.Pass _=>.pass
 |.Return none _=>.vM
 |.Return (some e) _=>.ret (cA C e)
 |.Assign [.Name y _] e _=>if aL e && !kF e then match C.slot y with
   |some j=>.asg (.nm j) (cA C e)
   |none=>.bad
  else .bad
 |_=>.bad
def oy(C:Cn):Stmt->Option (Option (Option Nat)×Expr)
 |.Return (some c) _=>some (none,c)
 |.Expr c _=>some (some none,c)
 |.Assign [.Name y _] c _=>(C.slot y).map λj=>(some (some j),c)
 |_=>none
def Qt(C:Cn):Option Str->Option (Option Nat)
 |none=>some none
 |some n=>if decide (C.sc.names.lookup n=some .local) then(C.N.idxOf? n).map some else none
def cC(C:Cn)(c:Expr):Ex:=match c with
 |.Call g es [] pos=>if es.all aL then match g with
  |.Name f _=>match C.fns.idxOf? f with
   |some j=>if eO f&&C.gl f && !es.isEmpty then .call j (gZ (es.map (cE C EF))) else .bad
   |none=>.bad
  |_=>.bad
  else .bad
 |_=>.bad
def xG(C:Cn):List ExceptHandler->Option oJ
 |[]=>some .nil
 |.ExceptHandler (some (.Name x _)) nm (b₀::suite) _::hs=>match C.cat.lookup x,Qt C nm,xG C hs with
  |some cs,some i,some r=>if eO x&&C.gl x then some (.cons cs i (pY ((b₀::suite).map (cH C))) r) else none
  |_,_,_=>none
 |_=>none
def cR(C:Cn)(x:Str)(es:List Expr):Sx:=match C.iI.lookup x with
 |some c=>if eO x&&C.gl x&&es.all aL && !es.isEmpty then .raise c (gZ (es.map (cE C EF))) else .bad
 |none=>
  match C.eY.lookup x,es with
  |some c,[e]=>if eO x&&C.gl x&&aL e then .ai c (cE C EF e) else .bad
  |_,_=>
   .bad
def Ec(C:Cn)(y:Str)(yl:Nat)(e:Expr):Bool:=match e with
 |.ListComp _ _ scope pos=>decide (C.sc.kind = .function)&&decide (C.sc.names.lookup y=some .local)&&(yl==pos.line) && !(scope.names.any λx=>x.1==y&&(x.2 == .local||x.2 == .cell))|_=>false
def Pe(e:Expr):Bool:=match e with
 |.ListComp _ [⟨_,_,[],0⟩] _ _=>true
 |.ListComp _ [⟨_,_,[_],0⟩] _ _=>true
 |_=>false
def cL(C:Cn)(t e:Expr):Sx:=match t with
 |.Name y py=>match C.slot y with
  |some i=>if Ec C y py.line e&&Pe e then .asg (.nm i) (cE C EF e) else
   if !decide (C.sc.names.lookup y=some .local) then .asg (cG C 4 t) (cE C EF e) else
   .bad
  |none=>.bad
 |_=>.bad
def yO(C:Cn):List Expr->Option (List (Str×Pos×Nat))
 |[]=>some []
 |.Name x p::r=>if decide (C.sc.names.lookup x=some .local) then match C.N.idxOf? x,yO C r with
   |some i,some l=>some ((x,p,i)::l)
   |_,_=>none
  else none
 |_=>none
def Aj(C:Cn)(l:List (Str×Pos×Nat))(vs:List Expr):Bool:=decide (C.sc.kind = .function)&&(l.length==2||l.length==3)&&(vs.length==l.length)&&l.all (λx=>x.2.1.line==(l.head?.map (·.2.1.line)).getD 0)&&decide ((l.map (·.1)).Nodup) &&
 vs.all aL && !(vs.all (foldedForSure 8)) && !(vs.all (constantsAlone 8))
def uf(C:Cn):Expr->Bool
 |.Name x _=>!decide (C.sc.names.lookup x=some .local)
 |_=>true
def cP(C:Cn)(t e:Expr):Sx:=match t,e with
 |.Tuple ts _ _,.Tuple vs _ _=>match yO C ts with
  |some l=>if Aj C l vs then .par (l.map (·.2.2)) (gZ (vs.map (cE C EF))) else
   if vs.all (foldedForSure 8)&&gF t&&aL e then .asg (cG C 4 t) (cE C EF e) else
   .bad
  |none=>if ts.any (uf C)&&vs.all aL&&gF t&&aL e then .asg (cG C 4 t) (cE C EF e) else .bad
 |_,_=>.bad
def ff(C:Cn)(t:Expr)(op:Operator)(e:Expr):Sx:=match t with
 |_=>.bad
def uc(C:Cn)(o:Option Expr):Sx:=match o with
 |none=>.vM
 |some e=>.ret (cE C EF e)
def tu(C:Cn)(t e:Expr):Sx:=
 if kF e then cL C t e else
 if yf t&&yf e then cP C t e else
 if aL e&&gF t then .asg (cG C 4 t) (cE C EF e) else .bad
def tw(C:Cn)(ts:List Expr)(e:Expr):Sx:=match ts with
 |[t]=>tu C t e
 |_=>.bad
def ub(C:Cn)(o c:Option Expr):Sx:=match c with
 |none=>match o with
  |some (.Call (.Name x _) es [] _)=>cR C x es
  |_=>.bad
 |_=>.bad
def Nw:Expr->Bool
 |.Call ..=>true
 |_=>false
def ft(C:Cn)(bs:List Stmt)(hs:List ExceptHandler)(os fs:List Stmt):Sx:=match os,fs,bs with
 |[],[],[st]=>match oy C st,xG C hs with
  |some (k,c),some h=>if !hs.isEmpty&&Nw c then .vZ k (cC C c) h else .bad
  |_,_=>.bad
 |_,_,_=>.bad
def cS(C:Cn):Nat->Stmt->Sx
 |0,_=>.bad
 |n+1,s=>match s with
  |.Pass _=>.pass
  |.Break _=>.brk
  |.Continue _=>.cnt
  |.Return o _=>uc C o
  |.Expr e _=>if aL e && !kF e then .expr (cE C EF e) else .bad
  |.Assign ts e _=>tw C ts e
  |.AugAssign t op e _=>ff C t op e
  |.If c a b _=>.ite (cE C EF c) (pY (a.map (cS C n))) (pY (b.map (cS C n)))
  |.For t it b els _=>if els.isEmpty&&aL it then .kE (cG C 4 t) (cI C (cE C EF) t it) (pY (b.map (cS C n))) else .bad
  |.Raise o c _=>ub C o c
  |.Try bs hs os fs _=>ft C bs hs os fs
  |_=>.bad
section
variable {X:Cx}{T:Tab}{E:XK}{C:Cn}{F:Run}(L:Lk X T E C F)(ht:C.top=true)
theorem HV{es:List Expr}{f:Expr->Tg}(hs:es.all gF=true)(h:∀e,QG X T E e (jC F (f e))):qL X T E es (mM F (vW (es.map f))):=by
 induction es with
 |nil=>exact Bf|cons e es ih=>rw[List.all_cons,Bool.and_eq_true]at hs;exact Be (h e) (ih hs.2) hs.1
include L ht in
theorem sF:∀(n:Nat) (e:Expr),QG X T E e (jC F (cG C n e))
 |0,e=>lU
 |n+1,e=>by
  have ih:=sF n;unfold cG;split
  .split
   .rename_i i hi;unfold Cn.slot at hi;split at hi
    .rename_i hl;have hv:∀{x:Str},C.loc x=true->kX X.env.scope x:=λ{x} hl=>by rw[L.sc];simp only[Cn.loc,Bool.or_eq_true,decide_eq_true_eq]at hl;exact hl
     exact zH (by rw[L.N];exact L.nd) (by rw[L.N];exact hV hi) (hv hl) (.inl (L.fn ht _))
    .cases hi
   .exact lU
  .split
   .rename_i hs;exact Bd L.K L.calm (HV hs ih) hs
   .exact lU
  .split
   .rename_i hs;exact Yl (by have:=L.un;omega) (dE EF L _).1 (dE EF L _).1 hs
   .exact lU
  .exact lU
theorem vS{ss:List Stmt}{f:Stmt->Sx}(h:∀s,QS X T E s (dY F (f s))):mI X T E ss (dF F (pY (ss.map f))):=by
 induction ss with
 |nil=>exact CD|cons s ss ih=>exact CC (h s) ih
include L in
theorem Di(a:Addr)(e:Expr):QE (X.held a) T E0 e (aD F (cA C e)):=by
 unfold cA;split
 .rename_i x pos;split
  .rename_i h;rw[Bool.and_eq_true]at h;obtain⟨h1,h2,_⟩:=eI h.1;split
   .rename_i i hi;have hv:qO X.env.scope x:=by
     have hl:=h.2;rw[L.sc];simp only[Cn.loc,Bool.or_eq_true,decide_eq_true_eq]at hl;rcases hl with hl|hl
     .exact .inl hl
     .exact .inr (.inl hl)
    exact Bc (X:=X.held a) (by show X.N[i]?=_;rw[L.N];exact hV hi) hv h1 h2
   .exact uK
  .exact uK
 .rename_i c _ _;cases c with
  |none=>exact iC yW λ_ _=>.aC|bool b=>exact iC yU λ_ _=>.bl b|int i=>exact iC jz λ_ _=>.int i|str x=>exact iC yX λ_ _=>.str x|_=>exact uK
 .exact uK
include L ht in
theorem EZ(a:Addr)(s:Stmt):QS (X.held a) T E0 s (dY F (cH C s)):=by
 unfold cH;split
 .exact Bt
 .exact Bv
 .exact Bu (Di L a _)
 .split
  .rename_i y _ e _ hs;rw[Bool.and_eq_true,Bool.not_eq_true']at hs;split
   .rename_i j hj;unfold Cn.slot at hj;split at hj
    .rename_i hl;have hv:kX X.env.scope y:=by rw[L.sc];simp only[Cn.loc,Bool.or_eq_true,decide_eq_true_eq]at hl;exact hl
     exact Bs (Di L a e) (zH (X:=X.held a) (by show X.N.Nodup;rw[L.N];exact L.nd) (by show X.N[j]?=_;rw[L.N];exact hV hj) hv (.inl (L.fn ht _))) hs.1 hs.2 rfl λes k p e1=>by cases e1
    .cases hj
   .exact cO
  .exact cO
 .exact cO
include L in
theorem FF(ht:C.top=true)(x:Str)(es:List Expr)(np cp pos:Pos):QS X T E (.Raise (some (.Call (.Name x np) es [] cp)) none pos) (dY F (cR C x es)):=by
 unfold cR;split
 .rename_i c hc;split
  .rename_i h;simp only[Bool.and_eq_true,Bool.not_eq_true']at h;obtain⟨⟨⟨ho,hg⟩,hs⟩,hn⟩:=h;obtain⟨D,bmB,newId,initId,Bn,hm,hT,hl,q,FB⟩:=L.iI x c hc;cases es with
   |nil=>cases hn|cons e es=>exact BZ L.calm (L.gl hg) hm hT hl q FB L.ra (kD (f:=cE C EF) hs (dE EF L)) hs (eI ho).1
  .exact cO
 ·
  split
  .rename_i c e hc;split
   .rename_i h;simp only[Bool.and_eq_true]at h;obtain⟨⟨ho,hg⟩,hs⟩:=h;obtain⟨h1,h2,h3⟩:=L.wH ht;exact CA L.calm h1 (L.gl hg) (h3 x c (rH hc)) h2 (dE EF L e).1 hs (eI ho).1
   .exact cO
  ·
   exact cO
theorem IF{C:Cn}{st:Stmt}{k:Option (Option Nat)}{c:Expr}(L:Lk X T E C F)(ht:C.top=true)(h:oy C st=some (k,c)):kU X c k st:=by
 unfold oy at h;split at h
 .cases h;exact .ret _
 .cases h;exact .expr _
 .rename_i y _ _ _;obtain⟨j,hj,e⟩:=Option.map_eq_some_iff.mp h;cases e;unfold Cn.slot at hj;split at hj
  .rename_i hl;have hv:kX X.env.scope y:=by rw[L.sc];simp only[Cn.loc,Bool.or_eq_true,decide_eq_true_eq]at hl;exact hl
   exact .asg j y _ _ (by rw[L.N];exact L.nd) (by rw[L.N];exact hV hj) hv (L.fn ht _)
  .cases hj
 .cases h
include L in
theorem EU(c:Expr):QC X T c (qX F (cC C c)):=by
 have ha:∀(es:List Expr),es.all aL=true->∀pn E1,QA (X.fK pn E1).rN T E0 es (bS F (gZ (es.map (cE C EF)))):=λes hs pn E1=>kD (f:=cE C EF) hs (dE EF (L.fK pn E1));unfold cC;split
 .rename_i g es pos;split
  .rename_i hs;split
   .rename_i f fp;split
    .rename_i j hj;split
     .rename_i h;simp only[Bool.and_eq_true,Bool.not_eq_true']at h;cases es with
      |nil=>cases h.2|cons e es=>exact Xh (L.fns j f (hV hj)) (L.gl h.1.2) (eI h.1.1).1 hs (ha _ hs)
     .exact uJ
    .exact uJ
   .exact uJ
  .exact uJ
 .exact uJ
include L ht in
theorem Dh:∀(hs:List ExceptHandler) (r:oJ),xG C hs=some r->∃ds,kY X T hs ds (lN F r)
 |[],r,h=>by cases h;exact⟨[],.nil⟩
 |d::hs,r,h=>by
  unfold xG at h;split at h
  .rename_i z;cases z
  .rename_i x np nm b₀ suite hpos hs' z;cases z;split at h
   .rename_i cs i r' hc hi hr;split at h
    .rename_i ho;cases h;rw[Bool.and_eq_true]at ho;obtain⟨ds,q⟩:=Dh hs r' hr;obtain⟨Dc,hm,hD,hcs⟩:=L.cat x cs hc;refine⟨_,.cons (L.gl ho.2) hm hD (eI ho.1).1 ?_ hcs (λa=>vS (EZ L ht a)) q⟩;cases nm with
     |none=>cases hi;exact .no|some n=>
      have hi:(if decide (C.sc.names.lookup n=some .local) then(C.N.idxOf? n).map some else none)=some i:=hi;split at hi
      .rename_i hk;obtain⟨i',hi',e'⟩:=Option.map_eq_some_iff.mp hi;cases e';exact .as (by rw[L.N];exact hV hi') (by have:=of_decide_eq_true hk;rw[<- L.sc]at this;exact this)
      .cases hi
    .cases h
   .cases h
  .cases h
include L ht in
theorem FG(bs:List Stmt)(hs:List ExceptHandler)(os fs:List Stmt)(pos:Pos):QS X T E (.Try bs hs os fs pos) (dY F (ft C bs hs os fs)):=by
 unfold ft;split
 .rename_i st;split
  .rename_i k c h hb hh;split
   .rename_i hz;rw[Bool.and_eq_true,Bool.not_eq_true']at hz;obtain⟨ds,q⟩:=Dh L ht hs h hh;cases hs with
    |nil=>cases hz.1|cons h₀ hs=>
     cases c with
     |Call=>exact CB (L.fH ht) (L.fr ht) (by rw[L.N];exact L.nd) (EU L _) (IF L ht hb) rfl rfl q|_=>cases hz.2
   .exact cO
  .exact cO
 .exact cO
theorem zt:∀{ts:List Expr} {l:List (Str×Pos×Nat)},yO C ts=some l->ts=l.map (λq=>Expr.Name q.1 q.2.1)/\∀q∈l,C.sc.names.lookup q.1=some .local/\C.N[q.2.2]?=some q.1
 |[],l,h=>by cases h;exact⟨rfl,λq hq=>by cases hq⟩
 |e::es,l,h=>by
  cases e with
  |Name x p=>
   simp only[yO]at h;split at h
   .rename_i hx;split at h
    .rename_i i l' hi hl;cases h;obtain⟨h1,h2⟩:=zt hl;refine⟨by rw[List.map_cons,h1],λq hq=>?_⟩;rcases List.mem_cons.mp hq with rfl|hq
     .exact⟨of_decide_eq_true hx,hV hi⟩
     .exact h2 q hq
    .cases h
   .cases h
  |_=>cases h
theorem yP{N:List Str}(hN:N.Nodup){i j:Nat}{x y:Str}(h1:N[i]?=some x)(h2:N[j]?=some y)(h:x≠y):i≠j:=by
 rintro rfl
 rw[h1]at h2;exact h (Option.some.inj h2)
theorem nJ{x y:Str}(h:x≠y):(x==y)=false:=beq_eq_false_iff_ne.mpr h
theorem GI{env:Env}{x y:Str}{px py pt p2:Pos}{kt k2:Nat}{a b:Expr}(hb:env.blockKind = .function)(q1:env.kindOf x=some .local)(q2:env.kindOf y=some .local)(hl:py.line=px.line)(hn:x≠y)
  (s1:aL a=true) (s2:aL b=true) (hff:([a,b].all (foldedForSure 8))=false) (hca:([a,b].all (constantsAlone 8))=false) :
  swappedStores [.Tuple [.Name x px,.Name y py] kt pt] (.Tuple [a,b] k2 p2) env=pure (some [x,y]):=by
 have e1:([x,y]:List Str).eraseDups=[x,y]:=by simp[List.eraseDups_cons,nJ hn,nJ (Ne.symm hn)]
 unfold swappedStores;simp only[List.length_cons,List.length_nil,hb,hff,hca,List.filterMap_cons,List.filterMap_nil,q1,q2,List.head?_cons,Option.map_some,Option.getD_some,hl];simp[e1,Expr.pos,hl];rintro (h|h)
 .cases a<;>first|(cases h;done)|(cases s1;done)
 .cases b<;>first|(cases h;done)|(cases s2;done)
theorem GJ{env:Env}{x y z:Str}{px py pz pt p2:Pos}{kt k2:Nat}{a b c:Expr}(hb:env.blockKind = .function)(q1:env.kindOf x=some .local)(q2:env.kindOf y=some .local)(q3:env.kindOf z=some .local)(hl:py.line=px.line)(hl2:pz.line=px.line)(hn:x≠y)(hn2:x≠z)(hn3:y≠z)
  (s1:aL a=true) (s2:aL b=true) (s3:aL c=true) (hff:([a,b,c].all (foldedForSure 8))=false) (hca:([a,b,c].all (constantsAlone 8))=false) :
  swappedStores [.Tuple [.Name x px,.Name y py,.Name z pz] kt pt] (.Tuple [a,b,c] k2 p2) env=pure (some [x,y,z]):=by
 have e1:([x,y,z]:List Str).eraseDups=[x,y,z]:=by simp[List.eraseDups_cons,nJ hn,nJ (Ne.symm hn),nJ hn2,nJ (Ne.symm hn2),nJ hn3,nJ (Ne.symm hn3)]
 unfold swappedStores;simp only[List.length_cons,List.length_nil,hb,hff,hca,List.filterMap_cons,List.filterMap_nil,q1,q2,q3,List.head?_cons,Option.map_some,Option.getD_some,hl,hl2];simp[e1,Expr.pos,hl,hl2];rintro (h|h|h)
 .cases a<;>first|(cases h;done)|(cases s1;done)
 .cases b<;>first|(cases h;done)|(cases s2;done)
 .cases c<;>first|(cases h;done)|(cases s3;done)
theorem GG{env:Env}{ts vs:List Expr}{kt k2:Nat}{pt p2:Pos}(hc:∃t∈ts,(match t with
  |.Name id pos=>if env.kindOf id==some .local&&pos.line==(ts.head?.map (·.pos.line)).getD 0 then some id else none
  |_=>none:Option Str)=none) (hv:vs.all aL=true):swappedStores [.Tuple ts kt pt] (.Tuple vs k2 p2) env=pure none:=by
 unfold swappedStores;dsimp only;split
 .rfl
 split
 .rfl
 .obtain⟨t,hm,ht⟩:=hc;rw[if_pos]
  .rw[Bool.or_eq_true];refine .inl ?_;rw[bne_iff_ne];refine Nat.ne_of_lt (List.length_filterMap_lt_length_iff_exists.mpr ⟨t,hm,?_⟩);cases t with
   |Name x p=>exact ht|_=>rfl
theorem GH{env:Env}{ts vs:List Expr}{kt k2:Nat}{pt p2:Pos}(hv:vs.all (foldedForSure 8)=true):swappedStores [.Tuple ts kt pt] (.Tuple vs k2 p2) env=pure none:=by
 unfold swappedStores;dsimp only;split
 .rfl
 split
 .rfl
 split
 .rfl
 rfl
include L ht in
theorem EW(t e:Expr)(spos:Pos):QS X T E (.Assign [t] e spos) (dY F (cP C t e)):=by
 unfold cP;split
 .rename_i ts kt pt vs k2 p2;split
  .rename_i l hl;split
   .rename_i ok;obtain⟨hts,hq⟩:=zt hl;subst hts;simp only[Aj,Bool.and_eq_true,Bool.not_eq_true',decide_eq_true_eq,beq_iff_eq,Bool.or_eq_true]at ok;obtain⟨⟨⟨⟨⟨⟨⟨hk,hlen⟩,hvl⟩,hline⟩,hnd⟩,hshp⟩,hff⟩,hca⟩:=ok;have qa:=kD (f:=cE C EF) hshp (dE EF L);have hb:X.env.blockKind = .function:=by
     have:X.env.scope.kind = .function:=by rw[L.sc];exact hk
     unfold Env.blockKind;rw[this];rfl
    have lc:∀{x:Str},C.sc.names.lookup x=some .local->X.env.scope.names.lookup x=some .local:=λ{x} h=>by rw[L.sc];exact h
    have kd:∀{x:Str},C.sc.names.lookup x=some .local->X.env.kindOf x=some .local:=λ{x} h=>lc h;match l,vs,hlen,hvl,hline,hnd,hq with
    |[(x,px,i),(y,py,j)],[a,b],_,_,hline,hnd,hq=>obtain⟨q1,g1⟩:=hq (x,px,i) (by simp);obtain⟨q2,g2⟩:=hq (y,py,j) (by simp);simp only[List.all_cons,List.all_nil,Bool.and_true,List.head?_cons,Option.map_some,Option.getD_some,Bool.and_eq_true,beq_iff_eq]at hline;simp only[List.map_cons,List.map_nil,List.nodup_cons,List.mem_cons,List.not_mem_nil,or_false,not_false_eq_true,List.nodup_nil,and_true]at hnd;refine BX L.calm (by rw[L.N];exact L.nd) (by rw[L.N];exact g1) (by rw[L.N];exact g2) (yP L.nd g1 g2 hnd) (lc q1) (lc q2) qa ?_;simp only[List.all_cons,List.all_nil,Bool.and_true,Bool.and_eq_true]at hshp;exact GI hb (kd q1) (kd q2) hline.2 hnd hshp.1 hshp.2 hff hca
    |[(x,px,i),(y,py,j),(z,pz,k)],[a,b,c],_,_,hline,hnd,hq=>obtain⟨q1,g1⟩:=hq (x,px,i) (by simp);obtain⟨q2,g2⟩:=hq (y,py,j) (by simp);obtain⟨q3,g3⟩:=hq (z,pz,k) (by simp);simp only[List.all_cons,List.all_nil,Bool.and_true,List.head?_cons,Option.map_some,Option.getD_some,Bool.and_eq_true,beq_iff_eq]at hline;simp only[List.map_cons,List.map_nil,List.nodup_cons,List.mem_cons,List.not_mem_nil,or_false,not_false_eq_true,List.nodup_nil,and_true,not_or]at hnd;refine BY L.calm (by rw[L.N];exact L.nd) (by rw[L.N];exact g1) (by rw[L.N];exact g2) (by rw[L.N];exact g3) (yP L.nd g1 g2 hnd.1.1) (yP L.nd g1 g3 hnd.1.2) (yP L.nd g2 g3 hnd.2) (lc q1) (lc q2) (lc q3) qa ?_;simp only[List.all_cons,List.all_nil,Bool.and_true,Bool.and_eq_true]at hshp;exact GJ hb (kd q1) (kd q2) (kd q3) hline.2.1 hline.2.2 hnd.1.1 hnd.1.2 hnd.2 hshp.1 hshp.2.1 hshp.2.2 hff hca
   .split
    .rename_i hz;simp only[Bool.and_eq_true]at hz;exact ko (dE EF L _).1 (sF L ht 4 _) hz.2 rfl hz.1.2 (GH hz.1.1)
    .exact cO
  .split
   .rename_i hz;simp only[Bool.and_eq_true]at hz;refine ko (dE EF L _).1 (sF L ht 4 _) hz.2 rfl hz.1.2 (GG ?_ hz.1.1.2);obtain⟨t,hm,hb⟩:=List.any_eq_true.mp hz.1.1.1;refine⟨t,hm,?_⟩;cases t with
    |Name x p=>
     have hk:¬X.env.kindOf x=some .local:=by
      have:¬C.sc.names.lookup x=some .local:=by simpa[uf]using hb
      rw[<- L.sc]at this;exact this
     exact if_neg (by simp[hk])
    |_=>rfl
   .exact cO
 .exact cO
include L ht in
theorem EV(t e:Expr)(spos:Pos)(hlc:kF e=true):QS X T E (.Assign [t] e spos) (dY F (cL C t e)):=by
 unfold cL;split
 .rename_i y py;split
  .rename_i i hi;split
   .rename_i hsw;rw[Bool.and_eq_true]at hsw;obtain⟨hsw,aI⟩:=hsw;cases e with
    |ListComp elt gens scope pos=>
     simp only[Ec,Bool.and_eq_true,Bool.not_eq_true',decide_eq_true_eq,beq_iff_eq]at hsw;obtain⟨⟨⟨hk,hy⟩,hln⟩,hnm⟩:=hsw;unfold Cn.slot at hi;split at hi
     .have hy':X.env.scope.names.lookup y=some .local:=by rw[L.sc];exact hy
      have hb:X.env.blockKind = .function:=by
       have:X.env.scope.kind = .function:=by rw[L.sc];exact hk
       unfold Env.blockKind;rw[this];rfl
      have hs2:swapsWith (.ListComp elt gens scope pos) (some (.Name y py)) spos.line X.env=pure true:=by show(pure (X.env.blockKind == .function&&X.env.kindOf y==some .local&&py.line==pos.line && !(scope.names.any λ(n,k)=>n==y&&(k == .local||k == .cell))):Sem Bool)=pure true;rw[hb,show X.env.kindOf y=some .local from hy',hln];have:(scope.names.any λ(n,k)=>n==y&&(k==NameKind.local||k==NameKind.cell))=false:=hnm;rw[this];simp
      have hN:X.N.Nodup:=by rw[L.N];exact L.nd
      have hi':X.N[i]?=some y:=by rw[L.N];exact hV hi
      match gens,aI,hs2 with
      |[⟨t,it,[],0⟩],_,hs2=>
       show QS X T E _ (λσ=>(aD F (if C.lE scope&&aL it then .mQ (C.imp scope) (qP (C.comp scope) t) (cI C (cE C 39) t it) (cE (C.comp scope) 39 elt) else .bad) σ).bind λv=>(M.ret (σ.set i (some v))).bind λσ1=>M.ret (.nx σ1));split
       .rename_i hb;rw[Bool.and_eq_true]at hb;have LY:=λs H a fp=>L.comp hb.1 s H a fp;exact Bw (ct:=none) hN hi' hy' hs2 (L.xI hb.1) L.calm (vP L (dE 39 L) _ _) (λs H a fp=>aw (LY s H a fp) _) (λc z=>by cases z) (λ_=>rfl) (λs H a fp=>(dE 39 (LY s H a fp) _).1) (by simp[Cn.imp]) (λi j x e1 e2=>L.imp e1 e2) hb.2
       .exact cO
      |[⟨t,it,[c],0⟩],_,hs2=>
       show QS X T E _ (λσ=>(aD F (if C.lE scope&&aL it then .qV (C.imp scope) (qP (C.comp scope) t) (cI C (cE C 39) t it) (cE (C.comp scope) 39 c) (cE (C.comp scope) 39 elt) else .bad) σ).bind λv=>(M.ret (σ.set i (some v))).bind λσ1=>M.ret (.nx σ1));split
       .rename_i hb;rw[Bool.and_eq_true]at hb;have LY:=λs H a fp=>L.comp hb.1 s H a fp;exact Bw (ct:=some c) hN hi' hy' hs2 (L.xI hb.1) L.calm (vP L (dE 39 L) _ _) (λs H a fp=>aw (LY s H a fp) _) (λc z s H a fp=>by cases z;exact(dE 39 (LY s H a fp) _).2) (λz=>by cases z) (λs H a fp=>(dE 39 (LY s H a fp) _).1) (by simp[Cn.imp]) (λi j x e1 e2=>L.imp e1 e2) hb.2
       .exact cO
     .cases hi
    |_=>cases hlc
   .split
    .rename_i hc;have hk:¬X.env.kindOf y=some .local:=by
      have:¬C.sc.names.lookup y=some .local:=by simpa using hc
      rw[<- L.sc]at this;exact this
     cases e with
     |ListComp elt gens scope pos=>
      refine BQ (dE EF L _).1 (sF L ht 4 _) ?_ rfl rfl;show(pure (X.env.blockKind == .function&&X.env.kindOf y==some .local&&py.line==pos.line && !(scope.names.any λ(n,k)=>n==y&&(k == .local||k == .cell))):Sem Bool)=pure false;have:(X.env.kindOf y==some NameKind.local)=false:=by simpa using hk
      rw[this];simp
     |_=>cases hlc
    .exact cO
  .exact cO
 .exact cO
include L ht in
theorem ET(t:Expr)(op:Operator)(e:Expr)(pos:Pos):QS X T E (.AugAssign t op e pos) (dY F (ff C t op e)):=by
 unfold ff;split
 .exact cO
include L ht in
theorem Dk:∀(n:Nat) (s:Stmt),QS X T E s (dY F (cS C n s))
 |0,s=>cO
 |n+1,s=>by
  have ih:=Dk n;unfold cS;split
  .exact Bt
  .exact BR
  .exact BS
  .unfold uc;split
   .exact Bv
   .exact Bu (dE EF L _).1
  .split
   .rename_i hs;rw[Bool.and_eq_true,Bool.not_eq_true']at hs;exact BU (dE EF L _).1 hs.1 hs.2
   .exact cO
  .rename_i ts e spos;unfold tw;split
   case h_2=>exact cO
   case h_1 t=>
    unfold tu;split
    .rename_i hlc;exact EV L ht t e spos hlc
    .rename_i hlc;split
     .exact EW L ht t e spos
     .rename_i htt;split
      .rename_i hs;rw[Bool.and_eq_true]at hs;refine Bs (dE EF L _).1 (sF L ht 4 _) hs.1 (by simpa using hlc) hs.2 λes k p e1 vs k2 p2 e2=>?_;subst e1;subst e2;exact htt rfl
      .exact cO
  .exact ET L ht _ _ _ _
  .exact BW (dE EF L _).2 (vS ih) (vS ih)
  .rename_i els _;split
   .rename_i hs;rw[Bool.and_eq_true]at hs;cases els with
    |nil=>exact BV L.po L.calm (vP L (dE EF L) _ _) (sF L ht 4 _) (vS ih) hs.2|cons _ _=>cases hs.1
   .exact cO
  .unfold ub;split
   .split
    .exact FF L ht _ _ _ _ _
    .exact cO
   .exact cO
  .exact FG L ht _ _ _ _ _
  .exact cO
end
abbrev Pg:=Nat->Option (Nat×Nat×aW)
def Ai:Out->M AV
 |.nx _=>M.ret .aC
 |.ret v=>M.ret v
 |_=>M.bad
def run(P:Pg):Nat->Run
 |0,_,_=>M.bad
 |k+1,f,args=>match P f with
  |none=>M.bad
  |some (np,nn,b)=>M.guard (args.length=np) ((dF (run P k) b (args.map some++List.replicate (nn-np) none)).bind Ai)
def Kg:Stmt->List Stmt
 |.ClassDef _ _ _ body ..=>body
 |_=>[]
structure Df where
 name:Str
 qual:Str
 st:Stmt
 N:List Str
 ps:List Str
structure Pr where
 defs:List Df
 oV:Nat
 tP:List (Str×AV)
 cU:List Str
 iI:List (Str×Nat):=[]
 cat:List (Str×List (Nat×Bool)):=[]
 bT:List (Str×List (Nat×Bool)):=[]
 eD:List (Str×List (Str×AV)):=[]
 iG:List (Str×List Str):=[]
 eY:List (Str×Nat×Nat):=[]
def SF:Nat:=30
def Pr.cn(p:Pr)(d:Df):Cn:=⟨d.N,iO d.st,(p.defs.take p.oV).map (·.name),p.tP,p.cU,p.iI,p.cat,p.bT,true
 ,p.eD
 ,p.iG
 ,p.eY.map λx=>(x.1,x.2.1)
 ⟩
def Pr.bodyOf(p:Pr)(d:Df):Nat×Nat×aW:=(d.ps.length,d.N.length,pY ((mS d.st).map (cS (p.cn d) SF)))
def Pr.ir(p:Pr):Pg:=λi=>(p.defs[i]?).map p.bodyOf
structure qx(K:W.Frag)(x qual:Str)(st:Stmt)(f:Addr)(fd:FuncData):Prop where
 ex:∃(oc:Value) (od:Option Addr) (dV kV doc pm:Value) (an:Option Addr) (cdv ct:Value) (osl:Array (Option Value)),
  fd=W.fnOf x qual (xM st) (mS st) (iO st) dV kV doc pm an cdv ct/\K.lookup f=some ⟨oc,od,.func fd,osl⟩/\W.codeIn K cdv qual=true
 kp:W.keepIn K (.ref f)=true
structure wK(K:W.Frag)(d:Df)(f:Addr)(fd:FuncData):Prop where
 fn:qx K d.name d.qual d.st f fd
 bd:Binds K fd d.ps []
 sc:sV d.N d.ps (iO d.st)
inductive fM(K:W.Frag):List Df->List Addr->List FuncData->Prop
 |nil:fM K [] [] []
 |cons {d:Df} {a:Addr} {f:FuncData} {ds:List Df} {as:List Addr} {fs:List FuncData} (h:wK K d a f) (t:fM K ds as fs):fM K (d::ds) (a::as) (f::fs)
theorem fM.get{K:W.Frag}{ds:List Df}{as:List Addr}{fs:List FuncData}(h:fM K ds as fs){f0:FuncData}:∀(i:Nat) d,ds[i]?=some d->wK K d (as.getD i 0) (fs.getD i f0):=by
 induction h with
 |nil=>intro i d e;simp at e|cons h t ih=>
  intro i d e;cases i with
  |zero=>cases(show some _=some d from e);exact h|succ i=>exact ih i d e
theorem JA{α:Type}{us:List α}(h:us.length=0):us=[]:=List.eq_nil_of_length_eq_zero h
theorem Fm{α:Type}{us:List α}(h:us.length=1):∃a0,us=[a0]:=by obtain⟨a,r,rfl⟩:=List.exists_cons_of_length_eq_add_one h;obtain rfl:=JA (us:=r) (by simpa using h);exact⟨a,rfl⟩
theorem Fo{α:Type}{us:List α}(h:us.length=2):∃a0 a1,us=[a0,a1]:=by obtain⟨a,r,rfl⟩:=List.exists_cons_of_length_eq_add_one h;obtain⟨b0,rfl⟩:=Fm (us:=r) (by simpa using h);exact⟨a,b0,rfl⟩
theorem JB{α:Type}{us:List α}(h:us.length=3):∃a0 a1 a2,us=[a0,a1,a2]:=by obtain⟨a,r,rfl⟩:=List.exists_cons_of_length_eq_add_one h;obtain⟨b0,b1,rfl⟩:=Fo (us:=r) (by simpa using h);exact⟨a,b0,b1,rfl⟩
def iz(d:Df):Bool:=match mS d.st with
 |[.Assign [.Attribute (.Name a _) f _] (.Name b _) _]=>decide (f="line")&&decide (d.N=[a,b])&&decide (d.ps=[a,b])&&eO a&&eO b|_=>false
structure dk(P:Program)(w:World)(p:Pr)(T:Tab)(mg:Str->Option Value)(ad:Nat->Addr)(fds:Nat->FuncData):Prop where
 df:∀(i:Nat) d,p.defs[i]?=some d->wK T.K d (ad i) (fds i)
 gn:∀(i:Nat) d,(p.defs.take p.oV)[i]?=some d->mg d.name=some (.ref (ad i))
 gv:∀x v,p.tP.lookup x=some v->∃u v',mg x=some u/\RelV v' u/\∀ρ H,aF T ρ H v v'
 bl:∀x,p.cU.contains x=true->mg x=none
 tab:∀(aE:List (Str×Int)) a,T.G aE a->qz P w T.K a aE
 eD:∀x aE,p.eD.lookup x=some aE->∃(a:Addr) (us:List (Str×Value)),mg x=some (.ref a)/\oK P w T.K a us /\
  (a==sysModules)=false/\(∀k,aE.lookup k=none->valueAt us k=none) /\
  ∀k v,aE.lookup k=some v->∃u v',valueAt us k=some u/\RelV v' u/\∀ρ H,aF T ρ H v v'
 iG:∀x ts,p.iG.lookup x=some ts->∃(a:Addr) (o:Obj) (its:Array Value) (n:Nat),mg x=some (.ref a)/\T.K.lookup a=some o/\o.cls = .type "tuple"/\o.dict=none/\o.data = .seq its n/\its.size<=sizeLine/\Vals (ts.map V.str) its.toList
 iI:∀x c,p.iI.lookup x=some c->∃(D:Addr) (bmB:List Value) (newId initId Bn:String),mg x=some (.ref D)/\T.C c=some D/\c<64/\W.excIn T.K D bmB newId=true/\ExcBaseFacts Bn newId initId bmB
 cat:∀x cs,p.cat.lookup x=some cs->∃D:Addr,mg x=some (.ref D)/\L2.clsIn T.K D=true/\∀c b,cs.lookup c=some b->∃D':Addr,T.C c=some D'/\L2.clsIn T.K D'=true/\(mroOf T.K D').contains (.ref D)=b
 bT:∀y cs,p.bT.lookup y=some cs->∃(v:V) (d:Value),(∀u,RelV v u->u=d)/\RelV v d/\(mg y=some d\/(mg y=none/\bootBuiltins y=some d)) /\
  ∀k b,cs.lookup k=some b->∃D:Addr,T.C k=some D/\W.qG T.K D=true/\W.kitOne T.K (.ref D) d=some b
 eY:∀x c i,(x,c,i)∈p.eY->∃(d:Df) (D:Addr) (bmB:List Value) (newId initId Bn:String),p.defs[i]?=some d/\iz d=true/\mg x=some (.ref D)/\T.C c=some D/\c<64/\sU T.K D (ad i) bmB newId=true/\ExcBaseFacts Bn newId initId bmB/\W.gS T.K D "line"=true
theorem aO.ofStrs{T:Tab}{ρ:List Addr}{H:Hp}:∀(ts:List Str),aO T ρ H (ts.map AV.str) (ts.map V.str)
 |[]=>.nil
 |_::ts=>.cons (.str _) (aO.ofStrs ts)
theorem El:∀{ks:List (Str×List Str)} {k:Str} {v:AV},(ks.map λp=>(p.1,AV.tup (p.2.map AV.str))).lookup k=some v->∃ts,ks.lookup k=some ts/\v = .tup (ts.map AV.str)
 |[],_,_,h=>by cases h
 | (x,ts)::r,k,v,h=>by
  rw[List.map_cons,List.lookup_cons]at h;rw[List.lookup_cons];cases hb:(k==x) with
  |true=>simp only[hb]at h ⊢;cases h;exact⟨ts,rfl,rfl⟩
  |false=>simp only[hb]at h ⊢;exact El h
theorem HU{P:Program}{w:World}{T:Tab}{mg:Str->Option Value}{x:Str}{a:Addr}{o:Obj}{ks:List (Str×List Str)}(m:mg x=some (.ref a))(l:T.K.lookup a=some o)(e:PyProof.Rows.KTD.tabLook aj (λ_=>some o) a (rW o)=true)
  (n:(ks.map (·.1)).Nodup) (q:PyProof.Rows.KTD.hashesOf (λ_=>some o) a=(rW o).map λp=>(PySem.strKind P w).hash p.1) (t:wC T.K (rW o) ks=true)
  (hs:(a==sysModules)=false)
  :
  ∃(a:Addr) (us:List (Str×Value)),mg x=some (.ref a)/\oK P w T.K a us /\
  (a==sysModules)=false/\(∀k,(ks.map λp=>(p.1,AV.tup (p.2.map AV.str))).lookup k=none->valueAt us k=none) /\
  ∀k v,(ks.map λp=>(p.1,AV.tup (p.2.map AV.str))).lookup k=some v->∃u v',valueAt us k=some u/\RelV v' u/\∀ρ H,aF T ρ H v v':=by
 obtain⟨g1,g2⟩:=Fb t;refine⟨a,_,m,Ox l e (by rw[g1];exact n) q,hs,λk hk=>?_,λk v hk=>?_⟩
 .unfold valueAt;rw[List.find?_eq_none.mpr λy hy=>?_]
  .rfl
  .obtain⟨z,hz,rfl⟩:=List.mem_map.mp hy;have h1:z.1∈ks.map (·.1):=g1▸List.mem_map_of_mem hz;obtain⟨u,hu,e⟩:=List.mem_map.mp h1;intro c;have c:z.1=k:=of_decide_eq_true c;exact List.lookup_eq_none_iff.mp hk _ (List.mem_map_of_mem hu) |> λx=>absurd (c.symm.trans e.symm) (by simpa using x)
 obtain⟨ts,h1,rfl⟩:=El hk;obtain⟨b,ob,vs,nn,z1,z2,z3,z4,z5,z6⟩:=g2 k ts h1;exact⟨_,.ref b,z1,rfl,λρ H=>.tup (.inr ⟨ob,vs,nn,z2,z3,z4,z5,z6⟩) (aO.ofStrs ts)⟩
section
variable {P:Program}{w:World}{T:Tab}{mg:Str->Option Value}{base:Heap}{p:Pr}{ad:Nat->Addr}{fds:Nat->FuncData}
theorem FR{ρ:List Addr}{H:Hp}{args:List AV}{vs:List V}{N:List Str}{n:Nat}(r:aO T ρ H args vs)(hn:N.length=n):aR T ρ H (args.map some++List.replicate (n-args.length) none) (L2.start N vs):=by
 subst hn;unfold L2.start;have hl:=r.length;refine⟨by simp[hl],λi v e=>?_⟩;by_cases hi:i<args.length
 .rw[List.getElem?_append_left (by simpa using hi),List.getElem?_map]at e;cases q:args[i]? with
  |none=>rw[q]at e;cases e|some a=>rw[q]at e;cases e;obtain⟨y,h1,h2⟩:=r.get q;exact⟨y,by rw[List.getElem?_append_left (by rw[List.length_map,<- hl];exact hi),List.getElem?_map,h1];rfl,h2⟩
 .rw[List.getElem?_append_right (by simpa using hi),List.getElem?_replicate]at e;split at e<;>cases e
theorem wu{K:W.Frag}{x qual:Str}{st:Stmt}{f:Addr}{fd:FuncData}{N ps:List Str}{k:Nat}{sp:Sp}(F:qx K x qual st f fd)(S:sV N ps (iO st))(len:∀vs H Q E,sp vs H Q E->vs.length=ps.length)
  (hbody:∀(cdv:Value) (A:Around) (outer:List Env) (s:Shared) (H:Hp) (vs:List V) (Q:VK) (E:XK),cM k (A.deeper (envOfC qual (iO st) s.heap.objs.size f cdv))->sp vs H Q E ->
   ∃t,iL (jZ (cN P w) P w K mg base N qual (iO st) f cdv A outer s H E) (mS st) t/\t { nx:=λ_ H'=>Q .aC H',rt:=Q } (L2.start N vs) H):dW P w K mg base (cN P w) (k+1) f fd ps sp:=by
 obtain⟨oc,od,dV,kV,doc,pm,an,cdv,ct,osl,rfl,lk,hcd⟩:=F.ex;exact Ml lk hcd S len λA outer s H vs Q E hr hsp=>hbody cdv A outer s H vs Q E hr hsp
theorem NM{K:W.Frag}{d:Df}{f:Addr}{fd:FuncData}(D:wK K d f fd)(h:iz d=true):dW P w K mg base (cN P w) 1 f fd d.ps (mj K "line"):=by
 unfold iz at h;split at h
 .rename_i a p1 g p2 b p3 p4 hb;simp only[Bool.and_eq_true,decide_eq_true_eq]at h;obtain⟨⟨⟨⟨hf,hN⟩,hps⟩,oa⟩,ob⟩:=h;subst hf;have vis:∀y,y∈[a,b]->qO (iO d.st) y:=λy hy=>(D.sc.par y (by rw[hps];exact hy)).elim .inl λz=>.inr (.inl z);refine wu (k:=0) D.fn D.sc (λvs H Q E ⟨_,_,_,e,_⟩=>by rw[e,hps];rfl) λcdv A outer s H vs Q E hr hsp=>?_;obtain⟨ad,C,i,rfl,ha,xa,q⟩:=hsp;rw[hb,hN];exact⟨_,uF (Wo (kb (i:=0) rfl (vis a (.head _)) (eI oa).1 (eI oa).2.1) (kb (i:=1) rfl (vis b (.tail _ (.head _))) (eI ob).1 (eI ob).2.1) (vO rfl rfl)) uG,
   ⟨.int i,rfl,⟨.ref ad,rfl,ad,C,i,rfl,rfl,ha,xa,λe od h1 h2=>q e od h1 h2⟩⟩⟩
 .cases h
theorem Cs(O:dk P w p T mg ad fds):∀(k i:Nat) (d:Df),p.defs[i]?=some d->dW P w T.K mg base (cN P w) (2*k+2) (ad i) (fds i) d.ps (Dm T (run p.ir k i))
 |0,i,d,hd=>⟨λvs H Q E ⟨ρ,h,args,_,_,w⟩=>w.elim,λA outer s H args us vs Q E _ _ _ _ ⟨ρ,h,ar,_,_,w⟩=>w.elim⟩
 |k+1,i,d,hd=>by
  have ih:=Cs O k;have D:=O.df i d hd;have hir:p.ir i=some (p.bodyOf d):=by unfold Pr.ir;rw[hd];rfl
  refine wu (k:=2*k+3) D.fn D.sc (λvs H Q E h=>?_) (λcdv A outer s H vs Q E hr h=>?_)
  .obtain⟨ρ,h,args,R,r,w⟩:=h;simp only[run,hir,Pr.bodyOf]at w;obtain⟨hl,_⟩:=lL w;rw[<- r.length,hl]
  .obtain⟨ρ,h,args,R,r,wq⟩:=h;simp only[run,hir,Pr.bodyOf]at wq;obtain⟨hl,wq⟩:=lL wq;have L:Lk (jZ (cN P w) P w T.K mg base d.N d.qual (iO d.st) (ad i) cdv A outer s H E) T E (p.cn d) (run p.ir k):={
    K:=rfl
    N:=rfl
    sc:=rfl
    nd:=D.sc.nd
    fn:=λ_ _=>rfl
    calm:=rfl
    po:=PassesOwn.leaving
    gv:=O.gv
    fns:=λj x hx=>by
     have hx':((p.defs.take p.oV).map (·.name))[j]?=some x:=hx;rw[List.getElem?_map]at hx';cases q:(p.defs.take p.oV)[j]? with
     |none=>rw[q]at hx';cases hx'|some d'=>
      rw[q]at hx';cases hx';have q':p.defs[j]?=some d':=by
       rw[List.getElem?_take]at q;split at q
       .exact q
       .cases q
      have D':=O.df j d' q';exact⟨2*k+2,ad j,fds j,d'.ps,ih j d' q',hr,O.gn j d' q,D'.fn.kp,D'.bd,Uj⟩
    cU:=O.bl
    tab:=O.tab
    eD:=O.eD
    iG:=O.iG
    un:=hr.units
    iI:=O.iI
    cat:=O.cat
    bT:=O.bT
    ra:=DL
    eY:=λx c h=>by obtain⟨y,hy,e⟩:=List.mem_map.mp h;cases e;obtain⟨d',D',bmB,n1,n2,Bn,_,_,h1,h2,_,_,_,h3⟩:=O.eY y.1 y.2.1 y.2.2 hy;exact⟨D',h1,h2,h3⟩
    wH:=λ_=>⟨rfl,DJ,λx c h=>by obtain⟨y,hy,e⟩:=List.mem_map.mp h;cases e;obtain⟨d',D',bmB,n1,n2,Bn,hd',hx,h1,h2,hl,h4,h5,h3⟩:=O.eY y.1 y.2.1 y.2.2 hy;exact⟨D',ad y.2.2,bmB,n1,n2,Bn,1,fds y.2.2,d'.ps,h1,h2,hl,h4,h5,h3,NM (O.df _ d' hd') hx,hr.mono (Nat.le_add_left 2 _),(O.df _ d' hd').bd⟩⟩
    fH:=λ_=>rfl
    fr:=λ_=>rfl }
   obtain⟨t,ps,rs⟩:=vS (ss:=mS d.st) (f:=cS (p.cn d) SF) (Dk L rfl SF);refine⟨t,ps,rs ρ _ (L2.start d.N vs) h H _ R ?_ (W.bind wq λρ1 o o' h1 H1 e1 R1 q1 w1=>?_)⟩
   .rw[<- hl];exact FR r rfl
   .cases o with
    |nx σ=>cases o' with
     |nx σ'=>exact(W.here (Q:=Q) (Rp:=aF T) (a:=AV.aC) (b:=V.aC) w1 R1 aF.aC:Q V.aC H1)|_=>exact q1.elim
    |ret v=>cases o' with
     |ret v'=>exact(W.here (Q:=Q) (Rp:=aF T) (a:=v) (b:=v') w1 R1 q1:Q v' H1)|_=>exact q1.elim
    |brk σ=>exact w1.elim|cnt σ=>exact w1.elim
def ay(K:W.Frag):Sp:=λvs H Q _=>∃(a:Addr) (ns:List Int),vs=[.ref a]/\kW K H a (ns.map V.int)/\ns.length<=63/\∀H',Q (.bl true) H'
def h0(ns:List Int):AH:=⟨1,λm=>if m=0 then some (.lst false (ns.map AV.int)) else none⟩
def Keeps(P:Pg)(k i:Nat):Prop:=∀ns:List Int,ns.length<=63->∃h',run P k i [.ref 0] (h0 ns) = .ok (.bl true) h'
theorem Mx{H:Hp}{a:Addr}{ns:List Int}(h:kW T.K H a (ns.map V.int)):aN T [a] (h0 ns) H:=by
 have z:∀{n:Nat} {o:cZ},(h0 ns).ob n=some o->n=0/\o = .lst false (ns.map AV.int):=λ{n o} e=>by
  have e':(if n=0 then some (cZ.lst false (ns.map AV.int)) else none)=some o:=e;by_cases hn:n=0
  .rw[if_pos hn]at e';exact⟨hn,(Option.some.inj e').symm⟩
  .rw[if_neg hn]at e';cases e'
 refine⟨rfl,λn o e=>?_,λn o b e q=>?_,λn m b o u e1 e2 m1 m2 _ _=>?_⟩
 .rw[(z e).1];exact Nat.zero_lt_one
 .obtain⟨rfl,rfl⟩:=z e;cases q;exact⟨_,h,aO.ints ns⟩
 .rw[(z e1).1,(z e2).1]
theorem Pd(O:dk P w p T mg ad fds){k i:Nat}{d:Df}(hd:p.defs[i]?=some d)(h:Keeps p.ir k i):dW P w T.K mg base (cN P w) (2*k+2) (ad i) (fds i) d.ps (ay T.K):=by refine(Cs O k i d hd).imp λvs H Q E ⟨a,ns,e,hf,hl,q⟩=>?_;subst e;obtain⟨h',e⟩:=h ns hl;refine⟨[a],h0 ns,[.ref 0],Mx hf,.cons (.ref rfl) .nil,?_⟩;rw[e];intro ρ' b H' _ _ r;cases r;exact q H'
theorem Mp{K:W.Frag}{H:Hp}{a:Addr}{xs:List V}(ho:wO H)(h:bA K H a xs):kW K H a xs:=by
 rcases h with(h|h)|h
 .rcases ho a with z|⟨o,ys,z⟩
  .rw[h]at z;cases z
  .rw[h]at z;cases z
 .exact .inl h
 .exact .inr h
end
theorem walk{l:W.OpenLaw}{q:Program}{loose:List Str}{XP:(Str->Option Value)->Heap->Prop}{YP:World->Heap->Prop}{d:DefRec}{K:Params->W.Frag}{k:Nat}{x:Str}(hn:l.most=some 63)(hdf:d.params.defaults=[])(hr:cM k callerA)
  (hY:∀(w:World) (h:Heap),YP w h->(K w.params).In h)
  (F:∀(w:World) (mg:Str->Option Value) (fa:Addr) (h:Heap),(K w.params).In h->h.Ns mainGlobals mg->mg d.name=some (.ref fa) ->
   ∃fd:FuncData,(∀(s:Shared) (u:Value),BindsTo s fd ⟨[u],[]⟩ [(x,u)])/\∀base:Heap,(K w.params).In base->base.Ns mainGlobals mg->dW l.prog w (K w.params) mg base (cN l.prog w) k fa fd [x] (ay (K w.params))) :
  W.WalkO q loose XP YP l.row.toRowW d [] (λf vs=>PySem.call f vs):=
 L2.JK (n:=63) (k:=k) (x:=x) (CX:=λw=>cN l.prog w) (sp:=λw=>ay (K w.params)) hn (by decide) hdf hr hY F (λ_ _ a ns hl ho hS=>⟨a,ns,rfl,Mp ho hS,hl,λ_=>rfl⟩) λ_ _ _ _ _ z=>xK z
def We{α:Type}(Xc:Nat->AH->Prop)(m:M α)(h:AH)(Q:α->AH->Prop):Prop:=match m h with
 |.ok a h'=>Q a h'
 |.exc c _ h'=>Xc c h'
 |.bad=>False
abbrev Wp{α:Type}(m:M α)(h:AH)(Q:α->AH->Prop):Prop:=We (λ_ _=>False) m h Q
variable {Xc:Nat->AH->Prop}
section
variable {α β:Type}{m:M α}{k:α->M β}{h h':AH}{Q:α->AH->Prop}{Q2:β->AH->Prop}{F:Run}{σ:aA}
theorem aM(w:We Xc m h λa h1=>We Xc (k a) h1 Q2):We Xc (M.bind m k) h Q2:=by
 unfold We at w ⊢;unfold M.bind;cases e:m h with
 |ok a h1=>rw[e]at w;exact w|exc c x h1=>rw[e]at w;exact w|bad=>rw[e]at w;exact w.elim
theorem We.mono{Q':α->AH->Prop}(w:We Xc m h Q)(f:∀a h1,Q a h1->Q' a h1):We Xc m h Q':=by
 unfold We at w ⊢;cases e:m h with
 |ok a h1=>rw[e]at w;exact f a h1 w|exc c x h1=>rw[e]at w;exact w|bad=>rw[e]at w;exact w.elim
theorem We.eq{a:α}(e:m h = .ok a h')(q:Q a h'):We Xc m h Q:=by unfold We;rw[e];exact q
theorem We.ex(w:We (λ_ _=>False) m h Q):∃a h',m h = .ok a h'/\Q a h':=by
 unfold We at w;cases e:m h with
 |ok a h1=>rw[e]at w;exact⟨a,h1,rfl,w⟩|exc c x h1=>rw[e]at w;exact w.elim|bad=>rw[e]at w;exact w.elim
theorem qD{p:Prop} [Decidable p] (hp:p)(w:We Xc m h Q):We Xc (M.guard p m) h Q:=by unfold We at w ⊢;unfold M.guard;rw[if_pos hp];exact w
variable {V1:AV->AH->Prop}{B1:Bool->AH->Prop}{L1:List AV->AH->Prop}
theorem Gr{v:AV}(q:V1 v h):We Xc (aD F (.val v) σ) h V1:=q
theorem oE{i:Nat}{v:AV}(e:σ[i]?=some (some v))(q:V1 v h):We Xc (aD F (.var i) σ) h V1:=by show We Xc (pF i σ) h V1;unfold We pF;rw[e];exact q
theorem ME{o:Op}{a b:Ex}(w:We Xc (aD F a σ) h λx h1=>We Xc (aD F b σ) h1 λy h2=>We Xc (o.g x y) h2 V1):We Xc (aD F (.op o a b) σ) h V1:=aM (w.mono λ_ _ z=>aM z)
theorem LW{o:Cp}{a b:Ex}(w:We Xc (aD F a σ) h λx h1=>We Xc (aD F b σ) h1 λy h2=>We Xc (o.g x y) h2 V1):We Xc (aD F (.cmp o a b) σ) h V1:=aM (w.mono λ_ _ z=>aM z)
theorem MB{a:Ex}(w:We Xc (aD F a σ) h λx h1=>We Xc (tN x) h1 V1):We Xc (aD F (.neg a) σ) h V1:=aM w
theorem MD{a:Ex}(w:We Xc (aD F a σ) h λx h1=>We Xc (bC x) h1 λb h2=>V1 (.bl (!b)) h2):We Xc (aD F (.not a) σ) h V1:=aM (w.mono λ_ _ z=>aM z)
theorem LU{a b:Ex}(w:We Xc (aD F a σ) h λx h1=>We Xc (bC x) h1 λt h2=>if t=true then We Xc (aD F b σ) h2 V1 else V1 x h2):We Xc (aD F (.and a b) σ) h V1:=
 aM (w.mono λx _ z=>aM (z.mono λt _ y=>by
  cases t with
  |true=>exact y|false=>exact y))
theorem MF{a b:Ex}(w:We Xc (aD F a σ) h λx h1=>We Xc (bC x) h1 λt h2=>if t=true then V1 x h2 else We Xc (aD F b σ) h2 V1):We Xc (aD F (.or a b) σ) h V1:=
 aM (w.mono λx _ z=>aM (z.mono λt _ y=>by
  cases t with
  |true=>exact y|false=>exact y))
theorem LZ{c a b:Ex}(w:We Xc (bL F c σ) h λt h1=>if t=true then We Xc (aD F a σ) h1 V1 else We Xc (aD F b σ) h1 V1):We Xc (aD F (.ite c a b) σ) h V1:=aM (w.mono λt _ y=>by
 cases t with
 |true=>exact y|false=>exact y)
theorem Gp{o o':Cp}{a b c:Ex}(w:We Xc (aD F a σ) h λx h1=>We Xc (aD F b σ) h1 λy h2=>We Xc (o.g x y) h2 λz h3=>∃t,z = .bl t/\if t=true then We Xc (aD F c σ) h3 λu h4=>We Xc (o'.g y u) h4 V1 else V1 (.bl false) h3) :
 We Xc (aD F (.chain o o' a b c) σ) h V1:=aM (w.mono λx _ z=>aM (z.mono λy _ z=>aM (z.mono λu h3 ⟨t,e,q⟩=>by
 subst e;cases t with
 |true=>exact aM (h:=h3) q|false=>exact q)))
theorem MK{es:cT}(w:We Xc (bS F es σ) h λxs h1=>xs.length<=sizeLine/\V1 (.tup xs) h1):We Xc (aD F (.tup es) σ) h V1:=aM (w.mono λxs _ z=>qD z.1 z.2)
theorem MA{es:cT}(w:We Xc (bS F es σ) h λxs h1=>xs.length<=sizeLine/\V1 (.ref h1.nx) (h1.new (.lst true xs))):We Xc (aD F (.lst es) σ) h V1:=aM (w.mono λxs _ z=>qD z.1 z.2)
theorem MJ{a lo hi:Ex}(w:We Xc (aD F a σ) h λx h1=>We Xc (iA lo (aD F lo σ)) h1 λl h2=>We Xc (iA hi (aD F hi σ)) h2 λu h3=>We Xc (fF x l u) h3 V1):We Xc (aD F (.slice a lo hi) σ) h V1:=
 aM (w.mono λ_ _ z=>aM (z.mono λ_ _ z=>aM z))
theorem Gn{f:Nat}{es:cT}(w:We Xc (bS F es σ) h λxs h1=>We Xc (F f xs) h1 V1):We Xc (aD F (.call f es) σ) h V1:=aM w
theorem Gm{f:Bi}{es:cT}(w:We Xc (bS F es σ) h λxs h1=>We Xc (f.g xs) h1 V1):We Xc (aD F (.bi f es) σ) h V1:=aM w
theorem Gq{t:BT}{a:Ex}(w:We Xc (aD F a σ) h λx h1=>We Xc (oX t x) h1 V1):We Xc (aD F (.eG t a) σ) h V1:=aM w
theorem LV{o a:Ex}(w:We Xc (aD F o σ) h λx h1=>nF h1 x=true/\We Xc (aD F a σ) h1 λy h2=>We Xc (lI x y) h2 V1):We Xc (aD F (.app o a) σ) h V1:=aM (w.mono λx h1 ⟨z1,z2⟩=>by unfold We;simp only[if_pos z1];exact aM z2)
theorem cw(q:L1 [] h):We Xc (bS F .nil σ) h L1:=q
theorem qF{e:Ex}{es:cT}(w:We Xc (aD F e σ) h λx h1=>We Xc (bS F es σ) h1 λxs h2=>L1 (x::xs) h2):We Xc (bS F (.cons e es) σ) h L1:=aM (w.mono λ_ _ z=>aM z)
theorem MZ{o:Cp}{a b:Ex}(w:We Xc (aD F a σ) h λx h1=>We Xc (aD F b σ) h1 λy h2=>We Xc (o.g x y) h2 λz h3=>∃t,z = .bl t/\B1 t h3):We Xc (bL F (.cmp o a b) σ) h B1:=
 aM (aM (w.mono λ_ _ z=>aM (z.mono λ_ _ z=>z.mono λu h3 ⟨t,e,q⟩=>by subst e;exact q)))
theorem MY{o o':Cp}{a b c:Ex}(w:We Xc (aD F (.chain o o' a b c) σ) h λz h3=>∃t,z = .bl t/\B1 t h3):We Xc (bL F (.chain o o' a b c) σ) h B1:=
 aM (w.mono λu h3 ⟨t,e,q⟩=>by subst e;exact q)
theorem NB{a:Ex}(w:We Xc (bL F a σ) h λt h1=>B1 (!t) h1):We Xc (bL F (.not a) σ) h B1:=aM w
theorem MW{a b:Ex}(w:We Xc (bL F a σ) h λt h1=>if t=true then We Xc (bL F b σ) h1 B1 else B1 false h1):We Xc (bL F (.and a b) σ) h B1:=aM (w.mono λt _ y=>by
 cases t with
 |true=>exact y|false=>exact y)
theorem NC{a b:Ex}(w:We Xc (bL F a σ) h λt h1=>if t=true then B1 true h1 else We Xc (bL F b σ) h1 B1):We Xc (bL F (.or a b) σ) h B1:=aM (w.mono λt _ y=>by
 cases t with
 |true=>exact y|false=>exact y)
theorem ND{i:Nat}(w:We Xc (aD F (.var i) σ) h λx h1=>We Xc (bC x) h1 B1):We Xc (bL F (.var i) σ) h B1:=aM w
theorem MX{f:Nat}{es:cT}(w:We Xc (aD F (.call f es) σ) h λx h1=>We Xc (bC x) h1 B1):We Xc (bL F (.call f es) σ) h B1:=aM w
theorem NA{t:BT}{a:Ex}(w:We Xc (aD F (.eG t a) σ) h λx h1=>We Xc (bC x) h1 B1):We Xc (bL F (.eG t a) σ) h B1:=aM w
theorem JQ{i j:Int}(q:V1 (.int (i+j)) h):We Xc (Op.g .add (.int i) (.int j)) h V1:=q
theorem KZ{i j:Int}(q:V1 (.int (i-j)) h):We Xc (Op.g .sub (.int i) (.int j)) h V1:=q
theorem cm{p:Int->Int->Bool}{f:Int->Int->Int}{i j:Int}(hp:p i j=true)(q:V1 (.int (f i j)) h):We Xc (fV p f (.int i) (.int j)) h V1:=by unfold We fV;simp only[if_pos hp];exact q
theorem KP{i j:Int}(hp:kH i j=true)(q:V1 (.int (i*j)) h):We Xc (Op.g .mul (.int i) (.int j)) h V1:=cm hp q
theorem JX{i j:Int}(hp:jH j=true)(q:V1 (.int (i / j)) h):We Xc (Op.g .fdiv (.int i) (.int j)) h V1:=cm (p:=λ_ j=>jH j) hp q
theorem KO{i j:Int}(hp:0<j)(q:V1 (.int (i%j)) h):We Xc (Op.g .mod (.int i) (.int j)) h V1:=cm (p:=λ_ j=>decide (0<j)) (decide_eq_true hp) q
theorem cu{i j:Int}(hp:uE i j=true)(q:V1 (.int (i ^ j.toNat)) h):We Xc (Op.g .pow (.int i) (.int j)) h V1:=cm (f:=λi j=>i ^ j.toNat) hp q
theorem KN{i j:Int}(q:V1 (.bl (decide (i<j))) h):We Xc (Cp.g .lt (.int i) (.int j)) h V1:=q
theorem KJ{i j:Int}(q:V1 (.bl (decide (i<=j))) h):We Xc (Cp.g .le (.int i) (.int j)) h V1:=q
theorem JZ{i j:Int}(q:V1 (.bl (decide (j<i))) h):We Xc (Cp.g .gt (.int i) (.int j)) h V1:=q
theorem JY{i j:Int}(q:V1 (.bl (decide (j<=i))) h):We Xc (Cp.g .ge (.int i) (.int j)) h V1:=q
theorem JV{i j:Int}(q:V1 (.bl (decide (i=j))) h):We Xc (Cp.g .eq (.int i) (.int j)) h V1:=q
theorem KQ{i j:Int}(q:V1 (.bl (!decide (i=j))) h):We Xc (Cp.g .ne (.int i) (.int j)) h V1:=q
theorem JW{i j:Str}(q:V1 (.bl (decide (i=j))) h):We Xc (Cp.g .eq (.str i) (.str j)) h V1:=q
theorem KR{i j:Str}(q:V1 (.bl (!decide (i=j))) h):We Xc (Cp.g .ne (.str i) (.str j)) h V1:=q
theorem Gb{x y:AV}{b:Bool}(e:mW x y=some b)(q:V1 (.bl (!b)) h):We Xc (Cp.g .ne x y) h V1:=by show We Xc (tM x y) h V1;unfold We tM;rw[e];exact q
theorem KD{x:AV}(q:V1 (.bl (cV x)) h):We Xc (Cp.g .kG x .aC) h V1:=q
theorem KG{x:AV}(q:V1 (.bl (!cV x)) h):We Xc (Cp.g .isn x .aC) h V1:=q
theorem Fz{x y:AV}{xs:List AV}(e:cK h y=some xs)(f:(dZ x&&xs.all dZ)=true)(q:V1 (.bl (pH x xs)) h):We Xc (Cp.g .rE x y) h V1:=by show We Xc (mY false x y) h V1;unfold We mY oW;rw[e];simp only[if_pos f];exact q
theorem cD{x v:AV}{i:Int}{xs:List AV}(e:cK h x=some xs)(e2:bJ xs i=some v)(q:V1 v h):We Xc (Op.g .ix x (.int i)) h V1:=by
 show We Xc (qZ x (.int i)) h V1;unfold We qZ rA;cases x with
 |str z=>cases e|aC=>cases e|bl _=>cases e|int _=>cases e|lK _=>cases e|tup ys=>simp only[e,Option.bind_some,e2];exact q|ref n=>simp only[e,Option.bind_some,e2];exact q
theorem KH{cs:List (Nat×Bool)}{n c:Nat}{b:Bool}(e:h.ob n=some (.xo c))(l:cs.lookup (c%64)=some b)(q:V1 (.bl b) h):We Xc (lJ cs (.ref n)) h V1:=by unfold We lJ;simp only[e,l];exact q
theorem LF{z:Str}(l:Builtin.Str.tooLong (Txt.upper z).length=false)(q:V1 (.str (Txt.upper z)) h):We Xc (pE (.str z)) h V1:=by unfold We pE;simp only[if_pos l];exact q
theorem LG{cs:List Nat}{n c:Nat}(e:h.ob n=some (.xo c))(l:(cs.contains (c%64)&&decide (c / 64≠0))=true)(q:V1 (.int (c / 64-1:Nat)) h):We Xc (nA cs (.ref n)) h V1:=by unfold We nA;simp only[e,if_pos l];exact q
theorem Ga{t s:BT}{x:AV}(e:oQ h x=some s)(q:V1 (.bl (s.sub t)) h):We Xc (oX t x) h V1:=by unfold We oX;rw[e];exact q
theorem cq{x:AV}{xs:List AV}(e:cK h x=some xs)(q:V1 (.int xs.length) h):We Xc (Bi.g .len [x]) h V1:=by
 show We Xc (pA [x]) h V1;unfold We pA;cases x with
 |str z=>cases e|aC=>cases e|bl _=>cases e|int _=>cases e|lK _=>cases e|tup ys=>simp only[e];exact q|ref n=>simp only[e];exact q
theorem Gf{x:AV}{xs:List AV}(e:cK h x=some xs)(q:V1 (.tup xs) h):We Xc (Bi.g .tuple [x]) h V1:=by show We Xc (xX [x]) h V1;unfold We xX pQ;simp only[Option.bind_some,e];exact q
theorem JT{n:Nat}{v:AV}{xs:List AV}(e:h.ob n=some (.lst true xs))(hz:xs.length<sizeLine)(q:V1 .aC (h.put n (.lst true (xs++[v])))):We Xc (lI (.ref n) v) h V1:=by unfold We lI;simp only[e,if_pos hz];exact q
theorem ql{n k:Nat}{xs ys:List AV}(e:h.ob n=some (.lst true xs))(e2:h.ob k=some (.lst true ys))(hz:xs.length+ys.length<=sizeLine)(q:V1 (.ref h.nx) (h.new (.lst true (xs++ys)))):We Xc (Op.g .add (.ref n) (.ref k)) h V1:=by show We Xc (fU (.ref n) (.ref k)) h V1;unfold We fU;simp only[e,e2,if_pos hz];exact q
theorem wG{n:Nat}{b:Bool}{lo hi:Option Int}{xs:List AV}(e:h.ob n=some (.lst b xs))(q:V1 (.ref h.nx) (h.new (.lst true (eM xs lo hi)))):We Xc (fF (.ref n) lo hi) h V1:=by unfold We fF;simp only[e];exact q
variable {P1:Option Int->AH->Prop}
theorem MG{e:Ex}(he:∀m,iA e m=m.bind tO)(w:We Xc (aD F e σ) h λx h1=>∃i,x = .int i/\P1 (some i) h1):We Xc (iA e (aD F e σ)) h P1:=by rw[he];exact aM (w.mono λx h1 ⟨i,e,q⟩=>by subst e;exact q)
end
def Wt(Xc:Nat->AH->Prop)(m:M Out)(h:AH)(N:aA->AH->Prop)(R:AV->AH->Prop)(B C:aA->AH->Prop):Prop:=We Xc m h λo h1=>match o with
 |.nx σ=>N σ h1
 |.ret v=>R v h1
 |.brk σ=>B σ h1
 |.cnt σ=>C σ h1
abbrev Ws(m:M Out)(h:AH)(N:aA->AH->Prop)(R:AV->AH->Prop)(B C:aA->AH->Prop):Prop:=Wt (λ_ _=>False) m h N R B C
section
variable {F:Run}{σ:aA}{h:AH}{N B C:aA->AH->Prop}{R:AV->AH->Prop}
theorem MN{s:Sx}{ss:aW}(w:Wt Xc (dY F s σ) h (λσ1 h1=>Wt Xc (dF F ss σ1) h1 N R B C) R B C):Wt Xc (dF F (.cons s ss) σ) h N R B C:=
 aM (We.mono w λo h1 z=>by
  cases o with
  |nx σ1=>exact z|ret v=>exact z|brk σ1=>exact z|cnt σ1=>exact z)
theorem MV{e:Ex}(w:We Xc (aD F e σ) h R):Wt Xc (dY F (.ret e) σ) h N R B C:=aM w
theorem MO{e:Ex}(w:We Xc (aD F e σ) h λ_ h1=>N σ h1):Wt Xc (dY F (.expr e) σ) h N R B C:=aM w
theorem MM{t:Tg}{e:Ex}(w:We Xc (aD F e σ) h λv h1=>We Xc (jC F t v σ) h1 N):Wt Xc (dY F (.asg t e) σ) h N R B C:=aM (w.mono λ_ _ z=>aM z)
theorem JJ{n:Nat}{ts:mL}{v:AV}{xs:List AV}{Q:aA->AH->Prop}(e:cK h v=some xs)(hl:xs.length=n)(w:We Xc (mM F ts xs σ) h Q):We Xc (jC F (.tup n ts) v σ) h Q:=by show We Xc (pD n (mM F ts) v σ) h Q;unfold We pD;simp only[e,if_pos hl];exact w
theorem JH{t:Tg}{ts:mL}{v:AV}{vs:List AV}{Q:aA->AH->Prop}(w:We Xc (jC F t v σ) h λσ1 h1=>We Xc (mM F ts vs σ1) h1 Q):We Xc (mM F (.cons t ts) (v::vs) σ) h Q:=aM w
theorem MR{c:Ex}{a b:aW}(w:We Xc (bL F c σ) h λt h1=>if t=true then Wt Xc (dF F a σ) h1 N R B C else Wt Xc (dF F b σ) h1 N R B C):Wt Xc (dY F (.ite c a b) σ) h N R B C:=aM (w.mono λt _ y=>by
 cases t with
 |true=>exact y|false=>exact y)
theorem xR{it:cF}{g:AV->aA->M aA}{body:aA->M Out}(I:Nat->aA->AH->Prop)(n:Nat)
  (turn:∀i σ h,i<n->I i σ h->∃v,it i h=some (some v)/\We Xc (g v σ) h λσ1 h1=>Wt Xc (body σ1) h1 (I (i+1)) R N (I (i+1)))
  (done:∀σ h,I n σ h->it n h=some none/\N σ h):∀(f i:Nat) (σ:aA) (h:AH),i<=n->n-i<f->I i σ h->Wt Xc (gK it g body f i σ) h N R B C
 |0,i,σ,h,hi,hf,_=>by omega
 |f+1,i,σ,h,hi,hf,hI=>by
  have ih:=xR I n turn done f;by_cases hn:i<n
  .obtain⟨v,e,w⟩:=turn i σ h hn hI;unfold Wt We gK;simp only[e];refine aM (w.mono λσ1 h1 w1=>aM (We.mono w1 λo h2 z=>?_));cases o with
   |nx σ2=>exact ih (i+1) σ2 h2 hn (by omega) z|cnt σ2=>exact ih (i+1) σ2 h2 hn (by omega) z|brk σ2=>exact z|ret v=>exact z
  .have e0:i=n:=by omega
   subst e0;obtain⟨e,q⟩:=done σ h hI;unfold Wt We gK;simp only[e];exact q
theorem MU{c:Nat}{e:Ex}(w:We Xc (aD F e σ) h λv h1=>∃n:Nat,v = .int n/\Xc (c+64*(n+1)) h1):Wt Xc (dY F (.ai c e) σ) h N R B C:=aM (w.mono λv h1 ⟨n,e,z⟩=>by subst e;unfold We;dsimp only;rw[if_pos (Int.natCast_nonneg n),Int.toNat_natCast];exact z)
theorem Gu{k:Option (Option Nat)}{c:Ex}{hs:oJ}
  (w:We (λcl h2=>Wt Xc (lN F hs σ cl) h2 N R B C) (qX F c σ) h λv h2=>match tZ k σ v with
   |.nx σ=>N σ h2
   |.ret v=>R v h2
   |.brk σ=>B σ h2
   |.cnt σ=>C σ h2):Wt Xc (dY F (.vZ k c hs) σ) h N R B C:=by
 show We Xc (vY (qX F c σ) (tZ k σ) (lN F hs σ)) h _;unfold We vY;unfold We at w;cases g:qX F c σ h with
 |ok v h2=>rw[g]at w;exact w|bad=>rw[g]at w;exact w.elim|exc c x h2=>rw[g]at w;exact w
theorem MT{cs:List (Nat×Bool)}{c:Nat}{a b:M Out}(l:cs.lookup (c%64)=some true)(w:Wt Xc a h N R B C):Wt Xc (uC cs c a b) h N R B C:=by unfold uC;rw[l];exact w
theorem Gs{cs:List (Nat×Bool)}{c:Nat}{i:Option Nat}{b:aW}{r:oJ}(l:cs.lookup (c%64)=some true)(w:Wt Xc (nB i (dF F b) σ c) h N R B C):Wt Xc (lN F (.cons cs i b r) σ c) h N R B C:=MT l w
theorem MC{α:Type}{m:M α}{Q:α->AH->Prop}(w:Wp m h Q):We Xc (bP m) h Q:=by obtain⟨xs,h1,e,w⟩:=We.ex w;exact We.eq (by unfold bP;rw[e]) w
theorem Fv{f:Nat}{es:cT}{V1:AV->AH->Prop}(w:Wp (bS F es σ) h λxs h1=>We Xc (F f xs) h1 V1):We Xc (qX F (.call f es) σ) h V1:=aM (MC w)
theorem MP{i c:Nat}{ms:aW}(w:Ws (dF F ms (σ.set i (some (.ref h.nx)))) (h.new (.xo c)) (λσ h=>N (σ.set i none) h) R (λσ h=>B (σ.set i none) h) (λσ h=>C (σ.set i none) h)):Wt Xc (nB (some i) (dF F ms) σ c) h N R B C:=by
 unfold Wt nB;obtain⟨o,h1,e,q⟩:=We.ex w;show We Xc ((bP (dF F ms (σ.set i (some (.ref h.nx))))).bind λo=>M.ret (o.drop i)) (h.new (.xo c)) _;refine aM (We.eq (show bP _ _ = .ok o h1 by unfold bP;rw[e]) ?_);cases o with
 |nx σ1=>exact q|ret v=>exact q|brk σ1=>exact q|cnt σ1=>exact q
theorem MQ{c:Nat}{ms:aW}(w:Ws (dF F ms σ) (h.new (.xo c)) N R B C):Wt Xc (nB none (dF F ms) σ c) h N R B C:=by unfold Wt nB;obtain⟨o,h1,e,q⟩:=We.ex w;show We Xc (bP (dF F ms σ)) (h.new (.xo c)) _;exact We.eq (show bP _ _ = .ok o h1 by unfold bP;rw[e]) q
theorem sT{t:Tg}{it:Ir}{b:aW}(w:We Xc (aZ F it σ) h λi h1=>Wt Xc (gK i (jC F t) (dF F b) FU 0 σ) h1 N R B C):Wt Xc (dY F (.kE t it b) σ) h N R B C:=aM w
variable {Q:cF->AH->Prop}
theorem qs{e:Ex}(w:We Xc (aD F e σ) h λx h1=>We Xc (oY x) h1 Q):We Xc (aZ F (.seq e) σ) h Q:=aM w
theorem LJ{es:cT}(w:We Xc (bS F es σ) h λxs h1=>∃j,xs=[.int j]/\gO j=true/\Q (jQ 0 j.toNat) h1):We Xc (aZ F (.rX es) σ) h Q:=aM (w.mono λxs h1 ⟨j,e,r,q⟩=>by subst e;unfold We xU;simp only[if_pos r];exact q)
theorem LK{es:cT}(w:We Xc (bS F es σ) h λxs h1=>∃i j,xs=[.int i,.int j]/\(gO i&&gO j)=true/\Q (jQ i (j-i).toNat) h1):We Xc (aZ F (.vN es) σ) h Q:=aM (w.mono λxs h1 ⟨i,j,e,r,q⟩=>by subst e;unfold We xV;simp only[if_pos r];exact q)
theorem Gg{e:Ex}(w:We Xc (aD F e σ) h λx h1=>∃n b xs,x = .ref n/\h1.ob n=some (.lst b xs)/\Q (lF (eN n)) h1):We Xc (aZ F (.enum e) σ) h Q:=aM (w.mono λx h1 ⟨n,b,xs,e,r,q⟩=>by subst e;unfold We xS;simp only[r];exact q)
theorem Gj{es:cT}(w:We Xc (bS F es σ) h λxs h1=>∃x y it jt,xs=[x,y]/\hJ x h1 = .ok it h1/\hJ y h1 = .ok jt h1/\Q (mF it jt) h1):We Xc (aZ F (.zip es) σ) h Q:=aM (w.mono λxs h1 ⟨x,y,it,jt,e,e1,e2,q⟩=>by subst e;unfold We xY;simp only[e1,e2];exact q)
theorem LM{z:Str}(q:Q (eQ ((iX z).map AV.str)) h):We Xc (oY (.str z)) h Q:=q
theorem Gi{n:Nat}{b:Bool}{xs:List AV}(e:h.ob n=some (.lst b xs))(q:Q (eN n) h):We Xc (oY (.ref n)) h Q:=by unfold We oY hJ;simp only[e];exact q
theorem MH{P:Pg}{k f np nn:Nat}{b:aW}{args:List AV}(e:P f=some (np,nn,b))(hl:args.length=np)(w:Wt Xc (dF (run P k) b (args.map some++List.replicate (nn-np) none)) h (λ_ h1=>R .aC h1) R (λ_ _=>False) (λ_ _=>False)):We Xc (run P (k+1) f args) h R:=by
 show We Xc (match P f with
  |none=>M.bad
  |some (np,nn,b)=>M.guard (args.length=np) ((dF (run P k) b (args.map some++List.replicate (nn-np) none)).bind Ai)) h R
 rw[e];refine qD hl (aM (We.mono w λo h1 z=>?_));cases o with
 |nx σ=>exact z|ret v=>exact z|brk σ=>exact z.elim|cnt σ=>exact z.elim
end
theorem Keeps.of{P:Pg}{k i:Nat}(h:∀ns:List Int,ns.length<=63->Wp (run P k i [.ref 0]) (h0 ns) λv _=>v = .bl true):Keeps P k i:=λns hl=>by obtain⟨a,h',e,q⟩:=(h ns hl).ex;subst q;exact⟨h',e⟩
end AM
namespace AM
open PySem PySem.Spec PyProof.Rows L2
theorem yN{i j:Int}(h1:-18446744073709551616<i)(h2:i<18446744073709551616):kH i j=true:=by
 have e:(18446744073709551616:Nat)=2 ^ 64:=by decide
 simp only[kH,Bool.or_eq_true,Bool.and_eq_true,decide_eq_true_eq];exact .inl (.inl (by omega))
theorem zm{i j:Int}(h1:-18446744073709551616<j)(h2:j<18446744073709551616):kH i j=true:=by
 have e:(18446744073709551616:Nat)=2 ^ 64:=by decide
 simp only[kH,Bool.or_eq_true,Bool.and_eq_true,decide_eq_true_eq];exact .inl (.inr (by omega))
theorem bR{h:AH}{n:Nat}{b:Bool}{xs:List AV}(e:h.ob n=some (.lst b xs)):cK h (.ref n)=some xs:=by simp only[cK,e]
theorem aV{h:AH}{o:cZ}:(h.new o).ob h.nx=some o:=by simp only[AH.new,if_pos]
theorem dH{h:AH}{o:cZ}{n:Nat}(hn:n≠h.nx):(h.new o).ob n=h.ob n:=by simp only[AH.new,if_neg hn]
theorem Wy{h:AH}{o:cZ}{n:Nat}:(h.put n o).ob n=some o:=by simp only[AH.put,if_pos]
theorem Wz{h:AH}{o:cZ}{n k:Nat}(hn:k≠n):(h.put n o).ob k=h.ob k:=by simp only[AH.put,if_neg hn]
theorem nH{h:AH}{n i:Nat}{b:Bool}{xs:List AV}(e:h.ob n=some (.lst b xs)):eN n i h=some xs[i]?:=by simp only[eN,e]
theorem Lb{h:AH}{n i:Nat}{b:Bool}{xs:List AV}{v:AV}(e:h.ob n=some (.lst b xs))(hv:xs[i]?=some v):lF (eN n) i h=some (some (.tup [.int i,v])):=by simp only[lF,nH e,hv]
theorem La{h:AH}{n i:Nat}{b:Bool}{xs:List AV}(e:h.ob n=some (.lst b xs))(hv:xs[i]?=none):lF (eN n) i h=some none:=by simp only[lF,nH e,hv]
theorem wo{n:Nat}{bb:Bool}{xs:List AV}{g:AV->aA->M aA}{body:aA->M Out}{N B C:aA->AH->Prop}{R:AV->AH->Prop}{σ:aA}{h:AH}(I:Nat->aA->AH->Prop)(hn:xs.length<FU)(i0:I 0 σ h)(il:∀i σ h,I i σ h->h.ob n=some (.lst bb xs))
  (turn:∀(i:Nat) x σ h,xs[i]?=some x->I i σ h->We Xc (g (.tup [.int i,x]) σ) h λσ1 h1=>Wt Xc (body σ1) h1 (I (i+1)) R N (I (i+1)))
  (done:∀σ h,I xs.length σ h->N σ h):Wt Xc (gK (lF (eN n)) g body FU 0 σ) h N R B C:=by
 refine xR I xs.length (λi σ h hi hI=>?_) (λσ h hI=>⟨La (il _ _ _ hI) (by simp),done σ h hI⟩) FU 0 σ h (Nat.zero_le _) (by omega) i0;exact⟨_,Lb (il _ _ _ hI) (List.getElem?_eq_getElem hi),turn i _ σ h (List.getElem?_eq_getElem hi) hI⟩
theorem gk{lo:Int}{n:Nat}{g:AV->aA->M aA}{body:aA->M Out}{N B C:aA->AH->Prop}{R:AV->AH->Prop}{σ:aA}{h:AH}(I:Nat->aA->AH->Prop)(hn:n<FU)(i0:I 0 σ h)
  (turn:∀(i:Nat) σ h,i<n->I i σ h->We Xc (g (.int (lo+i)) σ) h λσ1 h1=>Wt Xc (body σ1) h1 (I (i+1)) R N (I (i+1)))
  (done:∀σ h,I n σ h->N σ h):Wt Xc (gK (jQ lo n) g body FU 0 σ) h N R B C:=by
 refine xR I n (λi σ h hi hI=>?_) (λσ h hI=>⟨by simp[jQ],done σ h hI⟩) FU 0 σ h (Nat.zero_le _) (by omega) i0;exact⟨_,by simp only[jQ,if_pos hi],turn i σ h hi hI⟩
theorem ao{j:Int}(h1:-4611686018427387904<=j)(h2:j<4611686018427387904):gO j=true:=by simp only[gO,Bool.and_eq_true,decide_eq_true_eq];omega
end AM
namespace AM
structure Kp(h h':AH):Prop where
 nx:h.nx<=h'.nx
 ob:∀n,n<h.nx->h'.ob n=h.ob n
theorem Kp.refl{h:AH}:Kp h h:=⟨Nat.le_refl _,λ_ _=>rfl⟩
theorem Kp.trans{a b c:AH}(x:Kp a b)(y:Kp b c):Kp a c:=⟨Nat.le_trans x.nx y.nx,λn hn=>(y.ob n (Nat.lt_of_lt_of_le hn x.nx)).trans (x.ob n hn)⟩
theorem Kp.new{a b:AH}{o:cZ}(x:Kp a b):Kp a (b.new o):=⟨Nat.le_succ_of_le x.nx,λn hn=>(dH (Nat.ne_of_lt (Nat.lt_of_lt_of_le hn x.nx))).trans (x.ob n hn)⟩
theorem Kp.put{a b:AH}{o:cZ}{k:Nat}(x:Kp a b)(hk:a.nx<=k):Kp a (b.put k o):=⟨x.nx,λn hn=>(Wz (Nat.ne_of_lt (Nat.lt_of_lt_of_le hn hk))).trans (x.ob n hn)⟩
theorem Mm{xs ys:List AV}{g:AV->aA->M aA}{body:aA->M Out}{N B C:aA->AH->Prop}{R:AV->AH->Prop}{σ:aA}{h:AH}(I:Nat->aA->AH->Prop)(hl:xs.length=ys.length)(hn:xs.length<FU)(i0:I 0 σ h)
  (turn:∀(i:Nat) x y σ h,xs[i]?=some x->ys[i]?=some y->I i σ h->We Xc (g (.tup [x,y]) σ) h λσ1 h1=>Wt Xc (body σ1) h1 (I (i+1)) R N (I (i+1)))
  (done:∀σ h,I xs.length σ h->N σ h):Wt Xc (gK (mF (eQ xs) (eQ ys)) g body FU 0 σ) h N R B C:=by
 refine xR I xs.length (λi σ h hi hI=>?_) (λσ h hI=>⟨by simp[mF,eQ],done σ h hI⟩) FU 0 σ h (Nat.zero_le _) (by omega) i0;have e1:=List.getElem?_eq_getElem hi;have e2:=List.getElem?_eq_getElem (show i<ys.length by omega);exact⟨_,by simp only[mF,eQ,e1,e2],turn i _ _ σ h e1 e2 hI⟩
end AM
namespace AM
open PySem PySem.Spec PyProof.Rows L2
inductive jU where
 |sum|less|times|share|rest|both|Dl|odd|up|down|below|same
def jU.nm:jU->Str
 |.sum=>"sum" |.less=>"less" |.times=>"times" |.share=>"share" |.rest=>"rest" |.both=>"both" |.Dl=>"some" |.odd=>"odd" |.up=>"up" |.down=>"down" |.below=>"below" |.same=>"same"
def OH(ws:List Int):Prop:=∀w∈ws,0<=w/\w<18446744073709551616
theorem gg{b:Int}(b0:0<b)(b1:b<18446744073709551616):jH b=true:=by
 have e:(18446744073709551616:Int)<2 ^ 1000:=by decide
 simp only[jH,Bool.and_eq_true,decide_eq_true_eq];exact⟨b0,Int.lt_trans b1 e⟩
section
variable {Xc:Nat->AH->Prop}{α:Type}{m:M α}{h:AH}{Q:α->AH->Prop}{F:Run}{σ:aA}{V1:AV->AH->Prop}{L1:List AV->AH->Prop}
theorem qj(w:Wp m h Q):We Xc (bP m) h Q:=by obtain⟨a,h1,e,q⟩:=w.ex;exact We.eq (show bP m h = .ok a h1 by unfold bP;rw[e]) q
theorem qv{imp:List (Option Nat)}{t:CT}{it:Ir}{e:Ex}(w:We Xc (aZ F it σ) h λi h1=>We Xc (bU i (lB t) (λ_=>M.ret true) (aD F e) FU 0 [] (hW imp σ)) h1 λys h2=>V1 (.ref h2.nx) (h2.new (.lst true ys))):We Xc (aD F (.mQ imp t it e) σ) h V1:=
 aM (w.mono λ_ _ z=>aM (z.mono λ_ _ y=>y))
theorem LX{imp:List (Option Nat)}{t:CT}{it:Ir}{c e:Ex}(w:We Xc (aZ F it σ) h λi h1=>We Xc (bU i (lB t) (bL F c) (aD F e) FU 0 [] (hW imp σ)) h1 λys h2=>V1 (.ref h2.nx) (h2.new (.lst true ys))):We Xc (aD F (.qV imp t it c e) σ) h V1:=
 aM (w.mono λ_ _ z=>aM (z.mono λ_ _ y=>y))
theorem qi{i:Nat}{v:AV}{Q:aA->AH->Prop}(q:Q (σ.set i (some v)) h):We Xc (lB (.nm i) v σ) h Q:=q
theorem JI{i j:Nat}{a b:AV}{Q:aA->AH->Prop}(q:Q ((σ.set i (some a)).set j (some b)) h):We Xc (lB (.tup [i,j]) (.tup [a,b]) σ) h Q:=q
theorem qW{it:cF}{g:AV->aA->M aA}{mt:aA->M Bool}{me:aA->M AV}(I:Nat->List AV->aA->AH->Prop)(n:Nat)
  (turn:∀i ys σ h,i<n->I i ys σ h->∃v,it i h=some (some v)/\Wp (g v σ) h λσ1 h1=>Wp (mt σ1) h1 λb h2=>if b=true then Wp (me σ1) h2 λy h3=>ys.length<sizeLine/\I (i+1) (ys++[y]) σ1 h3 else I (i+1) ys σ1 h2)
  (done:∀ys σ h,I n ys σ h->it n h=some none/\L1 ys h):∀(f i:Nat) (ys:List AV) (σ:aA) (h:AH),i<=n->n-i<f->I i ys σ h->We Xc (bU it g mt me f i ys σ) h L1
 |0,i,ys,σ,h,_,hf,_=>absurd hf (Nat.not_lt_zero _)
 |f+1,i,ys,σ,h,hi,hf,hI=>by
  by_cases hx:i<n
  .obtain⟨v,e,w⟩:=turn i ys σ h hx hI;have e1:bU it g mt me (f+1) i ys σ h=((bP (g v σ)).bind λσ1=>(bP (mt σ1)).bind λb=>if b=true then(bP (me σ1)).bind λy=>M.guard (ys.length<sizeLine) (bU it g mt me f (i+1) (ys++[y]) σ1) else bU it g mt me f (i+1) ys σ1) h:=by simp only[bU,e]
   unfold We;rw[e1];refine aM (qj (w.mono λσ1 h1 w1=>aM (qj (w1.mono λb h2 w2=>?_))));cases b with
   |true=>rw[if_pos rfl]at w2 ⊢;exact aM (qj (w2.mono λy h3 w3=>qD w3.1 (qW I n turn done f (i+1) _ σ1 h3 hx (by omega) w3.2)))
   |false=>rw[if_neg Bool.false_ne_true]at w2 ⊢;exact qW I n turn done f (i+1) ys σ1 h2 hx (by omega) w2
  .have:i=n:=by omega
   subst this;obtain⟨e,q⟩:=done ys σ h hI;unfold We;have e1:bU it g mt me (f+1) i ys σ h = .ok ys h:=by simp only[bU,e]
   rw[e1];exact q
variable {g:AV->aA->M aA}{mt:aA->M Bool}{me:aA->M AV}
theorem oz{h:AH}{A B:AH->Prop}(q:A h):Wp (M.ret true) h λb h2=>if b=true then A h2 else B h2:=by
 show if true=true then A h else B h
 rw[if_pos rfl];exact q
theorem Kj{xs:List AV}(I:Nat->List AV->aA->AH->Prop)(hn:xs.length<FU)(i0:I 0 [] σ h)
  (turn:∀(i:Nat) x ys σ h,xs[i]?=some x->I i ys σ h->Wp (g x σ) h λσ1 h1=>Wp (me σ1) h1 λy h3=>ys.length<sizeLine/\I (i+1) (ys++[y]) σ1 h3)
  (done:∀ys σ h,I xs.length ys σ h->L1 ys h):We Xc (bU (eQ xs) g (λ_=>M.ret true) me FU 0 [] σ) h L1:=by
 refine qW I xs.length (λi ys σ h hi hI=>?_) (λys σ h hI=>⟨by simp[eQ],done ys σ h hI⟩) FU 0 [] σ h (Nat.zero_le _) (by omega) i0;exact⟨xs[i],by simp only[eQ,List.getElem?_eq_getElem hi],(turn i _ ys σ h (List.getElem?_eq_getElem hi) hI).mono λσ1 h1 w=>oz w⟩
theorem Kh{n:Nat}{bb:Bool}{xs:List AV}(I:Nat->List AV->aA->AH->Prop)(hn:xs.length<FU)(i0:I 0 [] σ h)(il:∀i ys σ h,I i ys σ h->h.ob n=some (.lst bb xs))
  (turn:∀(i:Nat) x ys σ h,xs[i]?=some x->I i ys σ h->Wp (g x σ) h λσ1 h1=>Wp (me σ1) h1 λy h3=>ys.length<sizeLine/\I (i+1) (ys++[y]) σ1 h3)
  (done:∀ys σ h,I xs.length ys σ h->L1 ys h):We Xc (bU (eN n) g (λ_=>M.ret true) me FU 0 [] σ) h L1:=by
 refine qW I xs.length (λi ys σ h hi hI=>?_) (λys σ h hI=>⟨by rw[nH (il _ _ _ _ hI)];simp,done ys σ h hI⟩) FU 0 [] σ h (Nat.zero_le _) (by omega) i0;exact⟨_,by rw[nH (il _ _ _ _ hI),List.getElem?_eq_getElem hi],(turn i _ ys σ h (List.getElem?_eq_getElem hi) hI).mono λσ1 h1 w=>oz w⟩
variable {N:aA->AH->Prop}{R:AV->AH->Prop}{B C:aA->AH->Prop}
theorem MS{is:List Nat}{es:cT}(w:We Xc (bS F es σ) h λvs h1=>vs.length=is.length/\N (au is vs σ) h1):Wt Xc (dY F (.par is es) σ) h N R B C:=
 aM (w.mono λvs h1 z=>qD z.1 z.2)
end
theorem Mr{h:AH}{n:Nat}{b:Bool}{xs:List AV}(e:h.ob n=some (.lst b xs)):hJ (.ref n) h = .ok (eN n) h:=by simp only[hJ,e]
theorem qm{Xc:Nat->AH->Prop}{xs ys:List AV}{h:AH}{V1:AV->AH->Prop}(hz:xs.length+ys.length<=sizeLine)(q:V1 (.tup (xs++ys)) h):We Xc (Op.g .add (.tup xs) (.tup ys)) h V1:=qD hz q
theorem Gd{Xc:Nat->AH->Prop}{xs:List AV}{lo hi:Option Int}{h:AH}{V1:AV->AH->Prop}(hz:¬(HT.aP xs.length 0 lo=0/\HT.aP xs.length xs.length hi=xs.length))(q:V1 (.tup (eM xs lo hi)) h):We Xc (fF (.tup xs) lo hi) h V1:=by unfold We fF;simp only[if_neg hz];exact q
section
variable {Xc:Nat->AH->Prop}{h:AH}{F:Run}{σ:aA}{V1:AV->AH->Prop}{L1:List AV->AH->Prop}
theorem LD{aE:List (Str×AV)}{k:Str}{v:AV}(e:aE.lookup k=some v)(q:V1 v h):We Xc (pC aE (.str k)) h V1:=by unfold We pC;simp only[e];exact q
theorem KY{z:Str}(q:V1 (.str z) h):We Xc (Bi.g .str [.str z]) h V1:=q
theorem sS{i:Int}(e:i.natAbs.log2<1920)(q:V1 (.str (toString i)) h):We Xc (Bi.g .str [.int i]) h V1:=by show We Xc (rD [.int i]) h V1;unfold We rD;simp only[if_pos e];exact q
theorem Ea:∀(ts:List Str),nU (ts.map AV.str)=some ts
 |[]=>rfl|t::ts=>by rw[List.map_cons,nU,Ea ts];rfl
theorem KI{z:Str}{n:Nat}{b:Bool}{ts:List Str}(e:h.ob n=some (.lst b (ts.map AV.str)))(hj:JoinOk z ts=true)(q:V1 (.str (Txt.join z ts)) h):We Xc (oZ z (.ref n)) h V1:=by unfold We oZ;simp only[e,Ea,if_pos hj];exact q
theorem qo{z:Str}{i:Int}{c:Nat}(hz:z.length<=sizeLine)(e:bJ z.cps.toList i=some c)(q:V1 (.str ⟨#[c]⟩) h):We Xc (Op.g .ix (.str z) (.int i)) h V1:=by show We Xc (qZ (.str z) (.int i)) h V1;unfold We qZ rA;simp only[if_pos hz,e];exact q
theorem sE{v:Int}(h0:-(18446744073709551616:Int)<=v)(h1:v<=18446744073709551616):v.natAbs.log2<1920:=by
 by_cases hz:v.natAbs=0
 .rw[hz];decide
 .refine(Nat.log2_lt hz).mpr (Nat.lt_of_lt_of_le (m:=2 ^ 65) ?_ (Nat.pow_le_pow_right (by decide) (by decide)));have:(2:Nat) ^ 65=36893488147419103232:=by decide
  omega
end
section
variable {Xc:Nat->AH->Prop}{h:AH}{F:Run}{σ:aA}{V1:AV->AH->Prop}{B1:Bool->AH->Prop}{N B C:aA->AH->Prop}{R:AV->AH->Prop}
theorem JU{x y:AV}{b:Bool}(e:mW x y=none)(e2:kB h x y=some b)(q:V1 (.bl b) h):We Xc (Cp.g .eq x y) h V1:=by show We Xc (tK x y) h V1;unfold We tK;simp only[e,e2];exact q
theorem Ld{n m:Nat}{b1 b2:Bool}{xs ys:List AV}{b:Bool}(e1:h.ob n=some (.lst b1 xs))(e2:h.ob m=some (.lst b2 ys))(he:mV h 12 (.ref n) (.ref m)=some b):kB h (.ref n) (.ref m)=some b:=by
 have s1:eC h (.ref n)=some (true,xs):=by simp only[eC,e1]
 have s2:eC h (.ref m)=some (true,ys):=by simp only[eC,e2]
 simp only[kB,s1,s2,he]
theorem Lc{n m:Nat}{b1 b2:Bool}{xs:List AV}(e1:h.ob n=some (.lst b1 xs))(e2:h.ob m=some (.lst b2 [])):kB h (.ref n) (.ref m)=some (decide (xs=[])):=by
 refine Ld e1 e2 ?_;have s1:eC h (.ref n)=some (true,xs):=by simp only[eC,e1]
 have s2:eC h (.ref m)=some (true,[]):=by simp only[eC,e2]
 have hf:¬(dZ (.ref n)=true/\dZ (.ref m)=true):=λz=>by cases z.1
 simp only[mV,if_neg hf,if_neg (show¬js (.ref n) (.ref m)=true from λz=>by cases z),s1,s2];cases xs with
 |nil=>rfl|cons x xs=>rfl
end
theorem Kp.get{h h':AH}(g:Kp h h'){n:Nat}{o:Option cZ}(hn:n<h.nx)(e:h.ob n=o):h'.ob n=o:=(g.ob n hn).trans e
theorem OA{h:AH}{n:Nat}{o:cZ}:(h.put n o).nx=h.nx:=rfl
theorem NY{h:AH}{o:cZ}:(h.new o).nx=h.nx+1:=rfl
theorem Ki{Xc:Nat->AH->Prop}{n:Nat}{bb:Bool}{xs:List AV}{σ:aA}{h:AH}{L1:List AV->AH->Prop}{g:AV->aA->M aA}{mt:aA->M Bool}{me:aA->M AV}(I:Nat->List AV->aA->AH->Prop)(hn:xs.length<FU)(i0:I 0 [] σ h)(il:∀i ys σ h,I i ys σ h->h.ob n=some (.lst bb xs))
  (turn:∀(i:Nat) x ys σ h,xs[i]?=some x->I i ys σ h->Wp (g x σ) h λσ1 h1=>Wp (mt σ1) h1 λb h2=>if b=true then Wp (me σ1) h2 λy h3=>ys.length<sizeLine/\I (i+1) (ys++[y]) σ1 h3 else I (i+1) ys σ1 h2)
  (done:∀ys σ h,I xs.length ys σ h->L1 ys h):We Xc (bU (eN n) g mt me FU 0 [] σ) h L1:=by
 refine qW I xs.length (λi ys σ h hi hI=>?_) (λys σ h hI=>⟨by rw[nH (il _ _ _ _ hI)];simp,done ys σ h hI⟩) FU 0 [] σ h (Nat.zero_le _) (by omega) i0;exact⟨_,by rw[nH (il _ _ _ _ hI),List.getElem?_eq_getElem hi],turn i _ ys σ h (List.getElem?_eq_getElem hi) hI⟩
theorem ED:(1000:Nat)<sizeLine:=by decide
theorem rL{α:Type}{f:α->AV}{ws:List α}{i:Nat}{x:AV}(h:(ws.map f)[i]?=some x):∃w,ws[i]?=some w/\x=f w:=by rw[List.getElem?_map]at h;obtain⟨w,h1,h2⟩:=Option.map_eq_some_iff.mp h;exact⟨w,h1,h2.symm⟩
theorem vb{xs:List AV}{n:Nat}:eM xs none (some (n:Int))=xs.take n:=by
 unfold eM;rw[HT.Cu,HT.Ct,List.drop_zero,Nat.sub_zero];rcases Nat.le_total n xs.length with h|h
 .rw[Nat.min_eq_left h]
 .rw[Nat.min_eq_right h,List.take_length,List.take_of_length_le h]
theorem uy{xs:List AV}{n:Nat}:eM xs (some (n:Int)) none=xs.drop n:=by
 unfold eM;rw[HT.Cu,HT.Ct];rcases Nat.le_total n xs.length with h|h
 .rw[Nat.min_eq_left h,List.take_of_length_le (by rw[List.length_drop];exact Nat.le_refl _)]
 .rw[Nat.min_eq_right h,List.drop_eq_nil_of_le h,Nat.sub_self,List.drop_length];rfl
section
variable {Xc:Nat->AH->Prop}{h:AH}{F:Run}{σ:aA}{V1:AV->AH->Prop}{N B C:aA->AH->Prop}{R:AV->AH->Prop}
theorem eR{i j:Str}(hz:i.length+j.length<=sizeLine)(q:V1 (.str (i++j)) h):We Xc (Op.g .add (.str i) (.str j)) h V1:=qD hz q
theorem sR{z:Str}(hz:z.length<=sizeLine)(q:V1 (.int z.length) h):We Xc (Bi.g .len [.str z]) h V1:=by show We Xc (pA [.str z]) h V1;unfold We pA;simp only[if_pos hz];exact q
end
section
variable {Xc:Nat->AH->Prop}{h:AH}{F:Run}{σ:aA}{V1:AV->AH->Prop}{B1:Bool->AH->Prop}{N B C:aA->AH->Prop}{R:AV->AH->Prop}
theorem JS{n:Nat}{b:Bool}{bs:List Bool}(e:h.ob n=some (.lst b (bs.map AV.bl)))(q:V1 (.bl (bs.any id)) h):We Xc (Kc.any.g (.ref n)) h V1:=by unfold We Kc.g;simp only[e,Kc.gl,ej];exact q
theorem JR{n:Nat}{b:Bool}{bs:List Bool}(e:h.ob n=some (.lst b (bs.map AV.bl)))(q:V1 (.bl (bs.all id)) h):We Xc (Kc.all.g (.ref n)) h V1:=by unfold We Kc.g;simp only[e,Kc.gl,ej];exact q
end
def aB(b:Bool)(A B:Prop):Prop:=match b with
 |true=>A
 |false=>B
theorem aB.ite{b:Bool}{A B:Prop}(w:aB b A B):if b=true then A else B:=by
 cases b with
 |true=>exact w|false=>rw[if_neg Bool.false_ne_true];exact w
theorem aB.mp{b:Bool}{A B A' B':Prop}(w:aB b A B)(f:A->A')(g:B->B'):aB b A' B':=by
 cases b with
 |true=>exact f w|false=>exact g w
theorem aB.t{b:Bool}{A B:Prop}(e:b=true)(q:A):aB b A B:=by rw[e];exact q
theorem aB.f{b:Bool}{A B:Prop}(e:b=false)(q:B):aB b A B:=by rw[e];exact q
theorem aB.dt{c:Prop} [Decidable c] {A B:Prop}(e:c)(q:A):aB (decide c) A B:=aB.t (decide_eq_true e) q
theorem aB.df{c:Prop} [Decidable c] {A B:Prop}(e:¬c)(q:B):aB (decide c) A B:=aB.f (decide_eq_false e) q
theorem aB.nt{c:Prop} [Decidable c] {A B:Prop}(e:c)(q:B):aB (!decide c) A B:=aB.f (by rw[decide_eq_true e];rfl) q
theorem aB.nf{c:Prop} [Decidable c] {A B:Prop}(e:¬c)(q:A):aB (!decide c) A B:=aB.t (by rw[decide_eq_false e];rfl) q
theorem aB.dc{c:Prop} [Decidable c] {A B:Prop}(t:c->A)(f:¬c->B):aB (decide c) A B:=by
 by_cases z:c
 .exact aB.dt z (t z)
 .exact aB.df z (f z)
theorem aB.nd{c:Prop} [Decidable c] {A B:Prop}(t:¬c->A)(f:c->B):aB (!decide c) A B:=by
 by_cases z:c
 .exact aB.nt z (f z)
 .exact aB.nf z (t z)
theorem aB.by{b:Bool}{A B:Prop}(t:b=true->A)(f:b=false->B):aB b A B:=by
 cases b with
 |true=>exact t rfl|false=>exact f rfl
@[irreducible] def WC {α:Type} (Xc:Nat->AH->Prop) (m:M α) (h:AH) (Q:α->AH->Prop):Prop:=We Xc m h Q
theorem WC.of{α:Type}{Xc:Nat->AH->Prop}{m:M α}{h:AH}{Q:α->AH->Prop}(w:We Xc m h Q):WC Xc m h Q:=by unfold WC;exact w
theorem WC.we{α:Type}{Xc:Nat->AH->Prop}{m:M α}{h:AH}{Q:α->AH->Prop}(w:WC Xc m h Q):We Xc m h Q:=by unfold WC at w;exact w
@[irreducible] def WB (Xc:Nat->AH->Prop) (m:M Out) (h:AH) (N:aA->AH->Prop) (R:AV->AH->Prop) (B C:aA->AH->Prop):Prop:=Wt Xc m h N R B C
theorem WB.of{Xc:Nat->AH->Prop}{m:M Out}{h:AH}{N:aA->AH->Prop}{R:AV->AH->Prop}{B C:aA->AH->Prop}(w:Wt Xc m h N R B C):WB Xc m h N R B C:=by unfold WB;exact w
theorem WB.wt{Xc:Nat->AH->Prop}{m:M Out}{h:AH}{N:aA->AH->Prop}{R:AV->AH->Prop}{B C:aA->AH->Prop}(w:WB Xc m h N R B C):Wt Xc m h N R B C:=by unfold WB at w;exact w
def bB{α:Type}(o:Option α)(K:α->Prop):Prop:=match o with
 |some v=>K v
 |none=>False
theorem bB.of{α:Type}{o:Option α}{K:α->Prop}{v:α}(e:o=some v)(q:K v):bB o K:=by rw[e];exact q
def Cv:AV->Option Str
 |.str z=>some z
 |_=>none
def ib:AV->Option Int
 |.int i=>some i
 |_=>none
def Fs(Xc:Nat->AH->Prop)(o:Op)(x y:AV)(h:AH)(Q:AV->AH->Prop):Prop:=match o with
 |.add=>match x,y with
  |.int i,.int j=>Q (.int (i+j)) h
  |x,y=>WC Xc (Op.g .add x y) h Q
 |.sub=>match x,y with
  |.int i,.int j=>Q (.int (i-j)) h
  |x,y=>WC Xc (Op.g .sub x y) h Q
 |.mod=>match x,y with
  |.int i,.int j=>aB (decide (0<j)) (Q (.int (i%j)) h) False
  |x,y=>WC Xc (Op.g .mod x y) h Q
 |.fdiv=>match x,y with
  |.int i,.int j=>aB (jH j) (Q (.int (i / j)) h) False
  |x,y=>WC Xc (Op.g .fdiv x y) h Q
 |.mul=>match x,y with
  |.int i,.int j=>aB (kH i j) (Q (.int (i*j)) h) False
  |x,y=>WC Xc (Op.g .mul x y) h Q
 |.ix=>match x,y with
  |.tup xs,.int i=>bB (bJ xs i) λv=>Q v h
  |x,y=>WC Xc (Op.g .ix x y) h Q
 |o=>WC Xc (o.g x y) h Q
def qC(Xc:Nat->AH->Prop)(o:Cp)(x y:AV)(h:AH)(Q:AV->AH->Prop):Prop:=match o with
 |.lt=>match x,y with
  |.int i,.int j=>Q (.bl (decide (i<j))) h
  |x,y=>WC Xc (Cp.g .lt x y) h Q
 |.le=>match x,y with
  |.int i,.int j=>Q (.bl (decide (i<=j))) h
  |x,y=>WC Xc (Cp.g .le x y) h Q
 |.gt=>match x,y with
  |.int i,.int j=>Q (.bl (decide (j<i))) h
  |x,y=>WC Xc (Cp.g .gt x y) h Q
 |.ge=>match x,y with
  |.int i,.int j=>Q (.bl (decide (j<=i))) h
  |x,y=>WC Xc (Cp.g .ge x y) h Q
 |.eq=>match x,y with
  |.int i,.int j=>Q (.bl (decide (i=j))) h
  |.str i,.str j=>Q (.bl (decide (i=j))) h
  |x,y=>WC Xc (Cp.g .eq x y) h Q
 |.ne=>match x,y with
  |.int i,.int j=>Q (.bl (!decide (i=j))) h
  |.str i,.str j=>Q (.bl (!decide (i=j))) h
  |x,y=>WC Xc (Cp.g .ne x y) h Q
 |.kG=>match y with
  |.aC=>Q (.bl (cV x)) h
  |y=>WC Xc (Cp.g .kG x y) h Q
 |.isn=>match y with
  |.aC=>Q (.bl (!cV x)) h
  |y=>WC Xc (Cp.g .isn x y) h Q
 |o=>WC Xc (o.g x y) h Q
def mD(Xc:Nat->AH->Prop)(x:AV)(h:AH)(Q:Bool->AH->Prop):Prop:=match x with
 |.bl b=>Q b h
 |.int i=>Q (i != 0) h
 |x=>WC Xc (bC x) h Q
def qh(Xc:Nat->AH->Prop)(f:Bi)(xs:List AV)(h:AH)(Q:AV->AH->Prop):Prop:=match f with
 |.len=>match xs with
  |[.tup ys]=>Q (.int ys.length) h
  |xs=>WC Xc (Bi.g .len xs) h Q
 |.int=>match xs with
  |[.int i]=>Q (.int i) h
  |[.bl b]=>Q (.int (if b then 1 else 0)) h
  |xs=>WC Xc (Bi.g .int xs) h Q
 |.min=>match xs with
  |[.int i,.int j]=>Q (.int (if j<i then j else i)) h
  |xs=>WC Xc (Bi.g .min xs) h Q
 |.max=>match xs with
  |[.int i,.int j]=>Q (.int (if j > i then j else i)) h
  |xs=>WC Xc (Bi.g .max xs) h Q
 |.tuple=>match xs with
  |[.tup ys]=>Q (.tup ys) h
  |xs=>WC Xc (Bi.g .tuple xs) h Q
 |f=>WC Xc (f.g xs) h Q
def Fq(Xc:Nat->AH->Prop)(x:AV)(h:AH)(Q:AV->AH->Prop):Prop:=match x with
 |.int i=>Q (.int (-i)) h
 |x=>WC Xc (tN x) h Q
mutual
noncomputable def wE(Xc:Nat->AH->Prop)(F:Run):Ex->aA->AH->(AV->AH->Prop)->Prop
 |.var i,σ,h,Q=>bB σ[i]? λo=>bB o λv=>Q v h
 |.val v,_,h,Q=>Q v h
 |.op o a b,σ,h,Q=>wE Xc F a σ h λx h1=>wE Xc F b σ h1 λy h2=>Fs Xc o x y h2 Q
 |.cmp o a b,σ,h,Q=>wE Xc F a σ h λx h1=>wE Xc F b σ h1 λy h2=>qC Xc o x y h2 Q
 |.neg a,σ,h,Q=>wE Xc F a σ h λx h1=>Fq Xc x h1 Q
 |.not a,σ,h,Q=>wE Xc F a σ h λx h1=>mD Xc x h1 λb h2=>Q (.bl (!b)) h2
 |.and a b,σ,h,Q=>wE Xc F a σ h λx h1=>mD Xc x h1 λt h2=>aB t (wE Xc F b σ h2 Q) (Q x h2)
 |.or a b,σ,h,Q=>wE Xc F a σ h λx h1=>mD Xc x h1 λt h2=>aB t (Q x h2) (wE Xc F b σ h2 Q)
 |.ite c a b,σ,h,Q=>wT Xc F c σ h λt h1=>aB t (wE Xc F a σ h1 Q) (wE Xc F b σ h1 Q)
 |.tup es,σ,h,Q=>mC Xc F es σ h λxs h1=>aB (Nat.ble xs.length 64) (Q (.tup xs) h1) False
 |.lst es,σ,h,Q=>mC Xc F es σ h λxs h1=>aB (Nat.ble xs.length 64) (Q (.ref h1.nx) (h1.new (.lst true xs))) False
 |.call f es,σ,h,Q=>mC Xc F es σ h λxs h1=>WC Xc (F f xs) h1 Q
 |.bi f es,σ,h,Q=>mC Xc F es σ h λxs h1=>qh Xc f xs h1 Q
 |.eG t a,σ,h,Q=>wE Xc F a σ h λx h1=>bB (oQ h1 x) λs=>Q (.bl (s.sub t)) h1
 |.chain o o' a b c,σ,h,Q=>wE Xc F a σ h λx h1=>wE Xc F b σ h1 λy h2=>qC Xc o x y h2 λz h3=>bB (iN z) λt=>aB t (wE Xc F c σ h3 λu h4=>qC Xc o' y u h4 Q) (Q (.bl false) h3)
 |.app o a,σ,h,Q=>wE Xc F o σ h λx h1=>aB (nF h1 x) (wE Xc F a σ h1 λy h2=>WC Xc (lI x y) h2 Q) False
 |.tm k o a,σ,h,Q=>wE Xc F o σ h λx h1=>bB (Cv x) λz=>wE Xc F a σ h1 λy h2=>WC Xc (dB k (.str z) y) h2 Q
 |.sM ts a,σ,h,Q=>wE Xc F a σ h λx h1=>WC Xc (pB ts x) h1 Q
 |.nW neg aE a,σ,h,Q=>wE Xc F a σ h λx h1=>WC Xc (hU neg aE x) h1 Q
 |.sN aE a,σ,h,Q=>wE Xc F a σ h λx h1=>WC Xc (pC aE x) h1 Q
 |.join z a,σ,h,Q=>wE Xc F a σ h λx h1=>WC Xc (oZ z x) h1 Q
 |.up a,σ,h,Q=>wE Xc F a σ h λx h1=>WC Xc (pE x) h1 Q
 |.kc k a,σ,h,Q=>wE Xc F a σ h λx h1=>WC Xc (k.g x) h1 Q
 |.bT cs a,σ,h,Q=>wE Xc F a σ h λx h1=>WC Xc (lJ cs x) h1 Q
 |.oF cs a,σ,h,Q=>wE Xc F a σ h λx h1=>WC Xc (nA cs x) h1 Q
 |e,σ,h,Q=>WC Xc (aD F e σ) h Q
noncomputable def wT(Xc:Nat->AH->Prop)(F:Run):Ex->aA->AH->(Bool->AH->Prop)->Prop
 |.var i,σ,h,Q=>bB σ[i]? λo=>bB o λv=>mD Xc v h Q
 |.cmp o a b,σ,h,Q=>wE Xc F a σ h λx h1=>wE Xc F b σ h1 λy h2=>qC Xc o x y h2 λz h3=>bB (iN z) λt=>Q t h3
 |.not a,σ,h,Q=>wT Xc F a σ h λb h1=>Q (!b) h1
 |.and a b,σ,h,Q=>wT Xc F a σ h λt h1=>aB t (wT Xc F b σ h1 Q) (Q false h1)
 |.or a b,σ,h,Q=>wT Xc F a σ h λt h1=>aB t (Q true h1) (wT Xc F b σ h1 Q)
 |.chain o o' a b c,σ,h,Q=>wE Xc F a σ h λx h1=>wE Xc F b σ h1 λy h2=>qC Xc o x y h2 λz h3=>bB (iN z) λt=>aB t (wE Xc F c σ h3 λu h4=>qC Xc o' y u h4 λz h5=>bB (iN z) λt=>Q t h5) (Q false h3)
 |.call f es,σ,h,Q=>mC Xc F es σ h λxs h1=>WC Xc (F f xs) h1 λv h2=>mD Xc v h2 Q
 |.eG t a,σ,h,Q=>wE Xc F a σ h λx h1=>bB (oQ h1 x) λs=>Q (s.sub t) h1
 |.nW neg aE a,σ,h,Q=>wE Xc F a σ h λx h1=>WC Xc (hU neg aE x) h1 λz h3=>bB (iN z) λt=>Q t h3
 |.bT cs a,σ,h,Q=>wE Xc F a σ h λx h1=>WC Xc (lJ cs x) h1 λv h3=>mD Xc v h3 Q
 |.tm k o a,σ,h,Q=>wE Xc F o σ h λx h1=>bB (Cv x) λz=>wE Xc F a σ h1 λy h2=>WC Xc (dB k (.str z) y) h2 λv h3=>mD Xc v h3 Q
 |.kc k a,σ,h,Q=>wE Xc F a σ h λx h1=>WC Xc (k.g x) h1 λv h3=>mD Xc v h3 Q
 |e,σ,h,Q=>WC Xc (bL F e σ) h Q
noncomputable def mC(Xc:Nat->AH->Prop)(F:Run):cT->aA->AH->(List AV->AH->Prop)->Prop
 |.nil,_,h,Q=>Q [] h
 |.cons e es,σ,h,Q=>wE Xc F e σ h λx h1=>mC Xc F es σ h1 λxs h2=>Q (x::xs) h2
end
mutual
noncomputable def wA(Xc:Nat->AH->Prop)(F:Run):Tg->AV->aA->AH->(aA->AH->Prop)->Prop
 |.nm i,v,σ,h,K=>K (σ.set i (some v)) h
 |.tup n ts,v,σ,h,K=>bB (cK h v) λxs=>aB (decide (xs.length=n)) (qc Xc F ts xs σ h K) False
 |t,v,σ,h,K=>WC Xc (jC F t v σ) h K
noncomputable def qc(Xc:Nat->AH->Prop)(F:Run):mL->List AV->aA->AH->(aA->AH->Prop)->Prop
 |.nil,[],σ,h,K=>K σ h
 |.nil,_::_,_,_,_=>False
 |.cons _ _,[],_,_,_=>False
 |.cons t ts,v::vs,σ,h,K=>wA Xc F t v σ h λσ1 h1=>qc Xc F ts vs σ1 h1 K
end
mutual
noncomputable def wS(Xc:Nat->AH->Prop)(F:Run):Sx->aA->AH->(aA->AH->Prop)->(AV->AH->Prop)->(aA->AH->Prop)->(aA->AH->Prop)->Prop
 |.pass,σ,h,N,_,_,_=>N σ h
 |.brk,σ,h,_,_,B,_=>B σ h
 |.cnt,σ,h,_,_,_,C=>C σ h
 |.vM,_,h,_,R,_,_=>R .aC h
 |.expr e,σ,h,N,_,_,_=>wE Xc F e σ h λ_ h1=>N σ h1
 |.ret e,σ,h,_,R,_,_=>wE Xc F e σ h R
 |.asg t e,σ,h,N,_,_,_=>wE Xc F e σ h λv h1=>wA Xc F t v σ h1 N
 |.ite c a b,σ,h,N,R,B,C=>wT Xc F c σ h λt h1=>aB t (iH Xc F a σ h1 N R B C) (iH Xc F b σ h1 N R B C)
 |.par is es,σ,h,N,_,_,_=>mC Xc F es σ h λvs h1=>aB (decide (vs.length=is.length)) (N (au is vs σ) h1) False
 |s,σ,h,N,R,B,C=>WB Xc (dY F s σ) h N R B C
noncomputable def iH(Xc:Nat->AH->Prop)(F:Run):aW->aA->AH->(aA->AH->Prop)->(AV->AH->Prop)->(aA->AH->Prop)->(aA->AH->Prop)->Prop
 |.nil,σ,h,N,_,_,_=>N σ h
 |.cons s ss,σ,h,N,R,B,C=>wS Xc F s σ h (λσ1 h1=>iH Xc F ss σ1 h1 N R B C) R B C
end
section
variable {Xc:Nat->AH->Prop}{F:Run}
theorem bB.ex{α:Type}{o:Option α}{K:α->Prop}(w:bB o K):∃v,o=some v/\K v:=by
 cases o with
 |some v=>exact⟨v,rfl,w⟩|none=>exact w.elim
theorem aB.an{b:Bool}{A:Prop}(w:aB b A False):b=true/\A:=by
 cases b with
 |true=>exact⟨rfl,w⟩|false=>exact w.elim
theorem aB.len{c:Prop} [Decidable c] {A:Prop}(w:aB (decide c) A False):c/\A:=⟨of_decide_eq_true (aB.an w).1,(aB.an w).2⟩
theorem yt{n:Nat}(h:Nat.ble n 64=true):n<=sizeLine:=Nat.le_trans (Nat.le_of_ble_eq_true h) (by decide)
theorem JD{xs:List AV}{A:Prop}(q:A)(e:Nat.ble xs.length 64=true:=by rfl):aB (Nat.ble xs.length 64) A False:=aB.t e q
theorem JF{o:Op}{x y:AV}{h:AH}{Q:AV->AH->Prop}(w:Fs Xc o x y h Q):We Xc (o.g x y) h Q:=by
 cases o with
 |add=>cases x<;>first|exact WC.we w|(cases y<;>first|exact WC.we w|exact JQ w)
 |sub=>cases x<;>first|exact WC.we w|(cases y<;>first|exact WC.we w|exact KZ w)
 |mod=>cases x<;>first|exact WC.we w|(cases y<;>first|exact WC.we w|exact KO (aB.len w).1 (aB.len w).2)
 |fdiv=>cases x<;>first|exact WC.we w|(cases y<;>first|exact WC.we w|exact JX (aB.an w).1 (aB.an w).2)
 |mul=>cases x<;>first|exact WC.we w|(cases y<;>first|exact WC.we w|exact KP (aB.an w).1 (aB.an w).2)
 |ix=>cases x<;>first|exact WC.we w|(cases y<;>first|exact WC.we w|(obtain⟨v,e,q⟩:=bB.ex w;exact cD rfl e q))
 |_=>exact WC.we w
theorem sQ{o:Cp}{x y:AV}{h:AH}{Q:AV->AH->Prop}(w:qC Xc o x y h Q):We Xc (o.g x y) h Q:=by
 cases o with
 |lt=>cases x<;>first|exact WC.we w|(cases y<;>first|exact WC.we w|exact KN w)
 |le=>cases x<;>first|exact WC.we w|(cases y<;>first|exact WC.we w|exact KJ w)
 |gt=>cases x<;>first|exact WC.we w|(cases y<;>first|exact WC.we w|exact JZ w)
 |ge=>cases x<;>first|exact WC.we w|(cases y<;>first|exact WC.we w|exact JY w)
 |eq=>cases x<;>first|exact WC.we w|(cases y<;>first|exact WC.we w|exact JV w|exact JW w)
 |ne=>cases x<;>first|exact WC.we w|(cases y<;>first|exact WC.we w|exact KQ w|exact KR w)
 |kG=>cases y<;>first|exact WC.we w|exact KD w
 |isn=>cases y<;>first|exact WC.we w|exact KG w
 |_=>exact WC.we w
theorem oA{x:AV}{h:AH}{Q:Bool->AH->Prop}(w:mD Xc x h Q):We Xc (bC x) h Q:=by cases x<;>first|exact WC.we w|exact w
theorem JE{x:AV}{h:AH}{Q:AV->AH->Prop}(w:Fq Xc x h Q):We Xc (tN x) h Q:=by cases x<;>first|exact WC.we w|exact w
theorem JC{f:Bi}{xs:List AV}{h:AH}{Q:AV->AH->Prop}(w:qh Xc f xs h Q):We Xc (f.g xs) h Q:=by
 unfold qh at w;split at w
 .split at w
  .exact cq rfl w
  .exact WC.we w
 .split at w
  .exact w
  .exact w
  .exact WC.we w
 .split at w
  .exact w
  .exact WC.we w
 .split at w
  .exact w
  .exact WC.we w
 .split at w
  .exact Gf rfl w
  .exact WC.we w
 .exact WC.we w
theorem xE{m:M AV}{h:AH}{Q:Bool->AH->Prop}(w:We Xc m h λz h1=>bB (iN z) λt=>Q t h1):We Xc m h λz h1=>∃t,z = .bl t/\Q t h1:=w.mono λz h1 w=>by obtain⟨t,e,q⟩:=bB.ex w;cases z<;>cases e;exact⟨_,rfl,q⟩
mutual
theorem aY(e:Ex):∀{σ:aA} {h:AH} {Q:AV->AH->Prop},wE Xc F e σ h Q->We Xc (aD F e σ) h Q:=by
 intro σ h Q w;cases e with
 |var i=>obtain⟨o,e1,w⟩:=bB.ex w;obtain⟨v,e2,w⟩:=bB.ex w;subst e2;exact oE e1 w
 |val v=>exact w|op o a b=>exact ME ((aY a w).mono λx h1 w=>(aY b w).mono λy h2 w=>JF w)|cmp o a b=>exact LW ((aY a w).mono λx h1 w=>(aY b w).mono λy h2 w=>sQ w)|neg a=>exact MB ((aY a w).mono λx h1 w=>JE w)|not a=>exact MD ((aY a w).mono λx h1 w=>oA w)|and a b=>exact LU ((aY a w).mono λx h1 w=>(oA w).mono λt h2 w=>aB.ite (w.mp (aY b) id))|or a b=>exact MF ((aY a w).mono λx h1 w=>(oA w).mono λt h2 w=>aB.ite (w.mp id (aY b)))|ite c a b=>exact LZ ((nZ c w).mono λt h1 w=>aB.ite (w.mp (aY a) (aY b)))|tup es=>exact MK ((kT es w).mono λxs h1 w=>⟨yt (aB.an w).1,(aB.an w).2⟩)|lst es=>exact MA ((kT es w).mono λxs h1 w=>⟨yt (aB.an w).1,(aB.an w).2⟩)|call f es=>exact Gn ((kT es w).mono λxs h1 w=>w.we)|bi f es=>exact Gm ((kT es w).mono λxs h1 w=>JC w)|eG t a=>exact Gq ((aY a w).mono λx h1 w=>by obtain⟨s,e,w⟩:=bB.ex w;exact Ga e w)
 |chain o o' a b c=>exact Gp ((aY a w).mono λx h1 w=>(aY b w).mono λy h2 w=>xE ((sQ w).mono λz h3 w=>by obtain⟨t,e,w⟩:=bB.ex w;exact bB.of e (aB.ite (w.mp (λw=>(aY c w).mono λu h4 w=>sQ w) id))))
 |app o a=>exact LV ((aY o w).mono λx h1 w=>⟨(aB.an w).1,(aY a (aB.an w).2).mono λy h2 w=>w.we⟩)|tm k o a=>exact aM ((aY o w).mono λx h1 w=>by obtain⟨z,e,w⟩:=bB.ex w;cases x<;>cases e;exact aM ((aY a w).mono λy h2 w=>w.we))
 |sM ts a=>exact aM ((aY a w).mono λx h1 w=>w.we)|nW neg aE a=>exact aM ((aY a w).mono λx h1 w=>w.we)|sN aE a=>exact aM ((aY a w).mono λx h1 w=>w.we)|join z a=>exact aM ((aY a w).mono λx h1 w=>w.we)|up a=>exact aM ((aY a w).mono λx h1 w=>w.we)|kc k a=>exact aM ((aY a w).mono λx h1 w=>w.we)|bT cs a=>exact aM ((aY a w).mono λx h1 w=>w.we)|oF cs a=>exact aM ((aY a w).mono λx h1 w=>w.we)|_=>exact WC.we w
theorem nZ(e:Ex):∀{σ:aA} {h:AH} {Q:Bool->AH->Prop},wT Xc F e σ h Q->We Xc (bL F e σ) h Q:=by
 intro σ h Q w;cases e with
 |var i=>obtain⟨o,e1,w⟩:=bB.ex w;obtain⟨v,e2,w⟩:=bB.ex w;subst e2;exact ND (oE e1 (oA w))
 |cmp o a b=>exact MZ ((aY a w).mono λx h1 w=>(aY b w).mono λy h2 w=>xE (sQ w))|not a=>exact NB (nZ a w)|and a b=>exact MW ((nZ a w).mono λt h1 w=>aB.ite (w.mp (nZ b) id))|or a b=>exact NC ((nZ a w).mono λt h1 w=>aB.ite (w.mp id (nZ b)))|chain o o' a b c=>exact MY (Gp ((aY a w).mono λx h1 w=>(aY b w).mono λy h2 w=>xE ((sQ w).mono λz h3 w=>by obtain⟨t,e,w⟩:=bB.ex w;exact bB.of e (aB.ite (w.mp (λw=>(aY c w).mono λu h4 w=>xE (sQ w)) λw=>⟨_,rfl,w⟩)))))
 |call f es=>exact MX (Gn ((kT es w).mono λxs h1 w=>w.we.mono λv h2 w=>oA w))|eG t a=>exact NA (Gq ((aY a w).mono λx h1 w=>by obtain⟨s,e,w⟩:=bB.ex w;exact Ga e w))
 |nW neg aE a=>exact aM (aM ((aY a w).mono λx h1 w=>w.we.mono λz h3 w=>by obtain⟨t,e,q⟩:=bB.ex w;cases z<;>cases e;exact q))
 |tm k o a=>exact aM (aM ((aY o w).mono λx h1 w=>by obtain⟨z,e,w⟩:=bB.ex w;cases x<;>cases e;exact aM ((aY a w).mono λy h2 w=>w.we.mono λv h3 w=>oA w)))
 |kc k a=>exact aM (aM ((aY a w).mono λx h1 w=>w.we.mono λv h3 w=>oA w))|bT cs a=>exact aM (aM ((aY a w).mono λx h1 w=>w.we.mono λv h3 w=>oA w))|_=>exact WC.we w
theorem kT(es:cT):∀{σ:aA} {h:AH} {Q:List AV->AH->Prop},mC Xc F es σ h Q->We Xc (bS F es σ) h Q:=by
 intro σ h Q w;cases es with
 |nil=>exact w|cons e es=>exact qF ((aY e w).mono λx h1 w=>kT es w)
end
mutual
theorem nY(t:Tg):∀{v:AV} {σ:aA} {h:AH} {K:aA->AH->Prop},wA Xc F t v σ h K->We Xc (jC F t v σ) h K:=by
 intro v σ h K w;cases t with
 |nm i=>exact w|tup n ts=>obtain⟨xs,e,w⟩:=bB.ex w;exact JJ e (aB.len w).1 (Fp ts (aB.len w).2)
 |_=>exact WC.we w
theorem Fp(ts:mL):∀{vs:List AV} {σ:aA} {h:AH} {K:aA->AH->Prop},qc Xc F ts vs σ h K->We Xc (mM F ts vs σ) h K:=by
 intro vs σ h K w;cases ts with
 |nil=>
  cases vs with
  |nil=>exact w|cons=>exact w.elim
 |cons t ts=>
  cases vs with
  |nil=>exact w.elim|cons v vs=>exact JH ((nY t w).mono λσ1 h1 w=>Fp ts w)
end
mutual
theorem JG(s:Sx):∀{σ:aA} {h:AH} {N:aA->AH->Prop} {R:AV->AH->Prop} {B C:aA->AH->Prop},wS Xc F s σ h N R B C->Wt Xc (dY F s σ) h N R B C:=by
 intro σ h N R B C w;cases s with
 |pass=>exact w|brk=>exact w|cnt=>exact w|vM=>exact w|expr e=>exact MO (aY e w)|ret e=>exact MV (aY e w)|asg t e=>exact MM ((aY e w).mono λv h1 w=>nY t w)|ite c a b=>exact MR ((nZ c w).mono λt h1 w=>aB.ite (w.mp (iZ a) (iZ b)))|par is es=>exact MS ((kT es w).mono λvs h1 w=>aB.len w)|_=>exact WB.wt w
theorem iZ(ss:aW):∀{σ:aA} {h:AH} {N:aA->AH->Prop} {R:AV->AH->Prop} {B C:aA->AH->Prop},iH Xc F ss σ h N R B C->Wt Xc (dF F ss σ) h N R B C:=by
 intro σ h N R B C w;cases ss with
 |nil=>exact w|cons s ss=>
  refine MN ((JG s w).mono λo h1 w=>?_);cases o with
  |nx σ=>exact iZ ss w|ret v=>exact w|brk σ=>exact w|cnt σ=>exact w
end
end
def cg(Xc:Nat->AH->Prop)(F:Run)(e:Ex)(σ:aA)(h:AH)(K:Option Int->AH->Prop):Prop:=match e with
 |.no=>K none h
 |e=>wE Xc F e σ h λx h1=>bB (ib x) λi=>K (some i) h1
theorem Ft{Xc:Nat->AH->Prop}{F:Run}{e:Ex}{σ:aA}{h:AH}{K:Option Int->AH->Prop}(w:cg Xc F e σ h K):We Xc (iA e (aD F e σ)) h K:=by
 unfold cg at w;split at w
 .exact w
 .rename_i hn;have key:We Xc (aD F e σ) h λx h1=>∃i,x = .int i/\K (some i) h1:=(aY e w).mono λx h1 w=>by obtain⟨i,e,q⟩:=bB.ex w;cases x<;>cases e;exact⟨_,rfl,q⟩
  exact MG (λm=>by unfold iA;split;exact absurd rfl hn;rfl) key
theorem eX{Xc:Nat->AH->Prop}{F:Run}{a lo hi:Ex}{σ:aA}{h:AH}{Q:AV->AH->Prop}(w:wE Xc F a σ h λx h1=>cg Xc F lo σ h1 λl h2=>cg Xc F hi σ h2 λu h3=>WC Xc (fF x l u) h3 Q):WC Xc (aD F (.slice a lo hi) σ) h Q:=
 WC.of (MJ ((aY a w).mono λ_ _ w=>(Ft w).mono λ_ _ w=>(Ft w).mono λ_ _ w=>w.we))
theorem MI{Xc:Nat->AH->Prop}{P:Pg}{k f np nn:Nat}{b:aW}{args:List AV}{h:AH}{R:AV->AH->Prop}(e:P f=some (np,nn,b))(hl:args.length=np)(w:iH Xc (run P k) b (args.map some++List.replicate (nn-np) none) h (λ_ h1=>R .aC h1) R (λ_ _=>False) (λ_ _=>False)):We Xc (run P (k+1) f args) h R:=MH e hl (iZ b w)
section
variable {Xc:Nat->AH->Prop}{F:Run}{σ:aA}{h:AH}{Q:cF->AH->Prop}
theorem Nh{x:AV}{K:Int->Prop}(w:bB (ib x) K):∃i,x = .int i/\K i:=by obtain⟨i,e,q⟩:=bB.ex w;cases x<;>cases e;exact⟨_,rfl,q⟩
theorem Gh{a:Ex}(w:wE Xc F a σ h λx h1=>bB (ib x) λj=>gO j=true/\Q (jQ 0 j.toNat) h1):We Xc (aZ F (.rX (.cons a .nil)) σ) h Q:=
 LJ (qF ((aY a w).mono λx h1 w=>cw (by obtain⟨j,rfl,w⟩:=Nh w;exact⟨j,rfl,w⟩)))
end
def iy:Option (Option Value)->Addr->Bool
 |some (some (.ref a)),f=>a==f
 |_,_=>false
def iw:Option (Option Value)->Bool
 |some none=>true
 |_=>false
theorem Oa{o:Option (Option Value)}{f:Addr}(h:iy o f=true):o=some (some (.ref f)):=by
 unfold iy at h;split at h
 .rw[eq_of_beq h]
 .cases h
theorem Nz{o:Option (Option Value)}(h:iw o=true):o=some none:=by
 unfold iw at h;split at h
 .rfl
 .cases h
def tY(K:W.Frag)(p:Pr)(fQ:List Addr):Bool:=((p.defs.take p.oV).zip fQ).all (λx=>iy (W.nsIn K mainGlobals x.1.name) x.2)&&p.cU.all λx=>iw (W.nsIn K mainGlobals x)
theorem fM.len{K:W.Frag}{ds:List Df}{as:List Addr}{fs:List FuncData}(h:fM K ds as fs):ds.length=as.length:=by
 induction h with
 |nil=>rfl|cons _ _ ih=>rw[List.length_cons,List.length_cons,ih]
theorem fM.one{K:W.Frag}{nm qu:Str}{st:Stmt}{N ps:List Str}{f:Addr}{oc dV kV doc pm cd ct:Value}{od an:Option Addr}{sl:Array (Option Value)}{ds:List Df}{as:List Addr}{fs:List FuncData}
  (l:K.lookup f=some ⟨oc,od,.func (W.fnOf nm qu (xM st) (mS st) (iO st) dV kV doc pm an cd ct),sl⟩) (c:W.codeIn K cd qu=true) (k:W.keepIn K (.ref f)=true)
  (b:Binds K (W.fnOf nm qu (xM st) (mS st) (iO st) dV kV doc pm an cd ct) ps []) (s:sV N ps (iO st)) (t:fM K ds as fs):fM K (⟨nm,qu,st,N,ps⟩::ds) (f::as) (W.fnOf nm qu (xM st) (mS st) (iO st) dV kV doc pm an cd ct::fs):=
 .cons ⟨⟨⟨_,_,_,_,_,_,_,_,_,_,rfl,l,c⟩,k⟩,b,s⟩ t
section
variable {P:Program}{w:World}{K:W.Frag}{h:Heap}{mg:Str->Option Value}{p:Pr}{fQ:List Addr}{fds:List FuncData}{cs:List (Nat×Addr)}{G:List (Str×Int)->Addr->Prop}{f0:FuncData}
theorem Ac(X:K.In h)(N:h.Ns mainGlobals mg)(D:fM K p.defs fQ fds)(ok:tY K p fQ=true):∀(i:Nat) d,(p.defs.take p.oV)[i]?=some d->mg d.name=some (.ref (fQ.getD i 0)):=λi d hd=>by
 unfold tY at ok;rw[Bool.and_eq_true]at ok;have hi:=(List.getElem?_eq_some_iff.mp hd).1;rw[List.length_take,D.len]at hi;have ha:fQ[i]?=some (fQ.getD i 0):=by rw[List.getD_eq_getElem?_getD,List.getElem?_eq_getElem (by omega)];rfl
 have hm:(d,fQ.getD i 0)∈(p.defs.take p.oV).zip fQ:=List.mem_of_getElem? (i:=i) (by rw[List.getElem?_zip_eq_some];exact⟨hd,ha⟩);exact W.mg_of X N (Oa (List.all_eq_true.mp ok.1 _ hm))
theorem Rh(X:K.In h)(N:h.Ns mainGlobals mg)(ok:tY K p fQ=true):∀x,p.cU.contains x=true->mg x=none:=λx hx=>by unfold tY at ok;rw[Bool.and_eq_true]at ok;exact W.mg_none_of X N (Nz (List.all_eq_true.mp ok.2 x (List.contains_iff_mem.mp hx)))
end
end AM
namespace AMx
open PySem PySem.Spec PyProof.Rows L2 AM
def top(i:Nat):Stmt:=PySem.Challenge.pw_aheadmill_k10_rows_read.main.body.getD i (.Pass ⟨0,0,0,0⟩)
def cb(i j:Nat):Stmt:=(Kg (top i)).getD j (.Pass ⟨0,0,0,0⟩)
def dI:List (Str×List Str):=[("set",["box","word"]),("move",["box","box"]),("sum",["box","box","box"]),("less",["box","box","box"]),("times",["box","box","box"]),("share",["box","box","box"]),("rest",["box","box","box"]),("both",["box","box","box"]),("some",["box","box","box"]),("odd",["box","box","box"]),("up",["box","box","box"]),("down",["box","box","box"]),("below",["box","box","box"]),("same",["box","box","box"]),("load",["box","box","step"]),("store",["box","box","step"]),("jump",["box","target"]),("go",["target"]),("fault",["word"])]
def vV:List (Str×AV):=dI.map λp=>(p.1,AV.tup (p.2.map AV.str))
noncomputable abbrev Lf:Nat:=0
noncomputable abbrev Mh:Nat:=1
noncomputable abbrev Mb:Nat:=2
noncomputable abbrev Lh:Nat:=3
noncomputable abbrev Mc:Nat:=4
noncomputable abbrev Mf:Nat:=5
noncomputable abbrev Mg:Nat:=6
noncomputable abbrev Lg:Nat:=7
noncomputable abbrev Md:Nat:=8
noncomputable abbrev Me:Nat:=9
noncomputable abbrev wb:Nat:=10
noncomputable abbrev Lq:Nat:=11
noncomputable abbrev Ly:Nat:=12
noncomputable abbrev Lx:Nat:=13
noncomputable abbrev Lw:Nat:=14
noncomputable abbrev Lm:Nat:=15
noncomputable abbrev Lz:Nat:=16
noncomputable abbrev wa:Nat:=17
noncomputable abbrev Ln:Nat:=18
noncomputable abbrev Lv:Nat:=19
noncomputable abbrev Lp:Nat:=20
noncomputable abbrev Lo:Nat:=21
noncomputable abbrev Ll:Nat:=22
noncomputable abbrev Lr:Nat:=23
noncomputable abbrev Ma:Nat:=24
noncomputable abbrev Lj:Nat:=25
noncomputable abbrev Ls:Nat:=26
noncomputable abbrev Lu:Nat:=27
noncomputable abbrev Li:Nat:=28
noncomputable abbrev NU:Nat:=29
def gc:List Df:=[⟨"bare","bare",top 19,["line"],["line"]⟩,⟨"words_in","words_in",top 20,["line"],["line"]⟩,⟨"made_of","made_of",top 21,["text","signs"],["text","signs"]⟩,⟨"is_label","is_label",top 22,["word"],["word"]⟩,⟨"number_in","number_in",top 23,["figures","greatest","number"],["figures","greatest"]⟩,⟨"step_in","step_in",top 24,["word","number"],["word"]⟩,⟨"target_in","target_in",top 25,["word"],["word"]⟩,⟨"box_in","box_in",top 26,["word"],["word"]⟩,⟨"part_in","part_in",top 27,["form","word"],["form","word"]⟩,⟨"row_in","row_in",top 28,["line","words","forms","parts"],["line"]⟩,⟨"read_row","read_row",top 30,["line","row"],["line"]⟩,⟨"_law_number","_law_number",top 32,["_law_cell","_law_k"],["_law_cell","_law_k"]⟩,⟨"_law_word","_law_word",top 33,["_law_cell","_law_part"],["_law_cell","_law_part"]⟩,⟨"_law_step","_law_step",top 34,["_law_part"],["_law_part"]⟩,⟨"_law_row","_law_row",top 35,["_law_cell","_law_k","_law_most","_law_number_here","_law_x","_law_y","_law_z","_law_part","_law_kind","_law_ways"],["_law_cell","_law_k","_law_most"]⟩,⟨"_law_boxed","_law_boxed",top 36,["_law_kind","_law_k"],["_law_kind","_law_k"]⟩,⟨"_law_words","_law_words",top 37,["_law_row_here","_law_words_here","_law_k"],["_law_row_here"]⟩,⟨"_law_alike","_law_alike",top 38,["_law_found","_law_due","_law_one","_law_other"],["_law_found","_law_due"]⟩,⟨"_law_label","_law_label",top 39,["_law_number_here","_law_some","_law_small","_law_letters","_law_k","_law_at"],["_law_number_here"]⟩,⟨"_law_remark","_law_remark",top 40,["_law_number_here","_law_some","_law_signs","_law_k","_law_at"],["_law_number_here"]⟩,⟨"_law_line","_law_line",top 41,["_law_words_here","_law_number_here","_law_line_here","_law_k","_law_word_here"],["_law_words_here","_law_number_here"]⟩,⟨"_law_last_spoiled","_law_last_spoiled",top 42,["_law_words_here","_law_way","_law_number_here","_law_head","_law_last","_law_bare","_law_more"],["_law_words_here","_law_way","_law_number_here"]⟩,⟨"_law_box_spoiled","_law_box_spoiled",top 43,["_law_words_here","_law_number_here","_law_at","_law_some"],["_law_words_here","_law_number_here"]⟩,⟨"_law_numbered","_law_numbered",top 44,["_law_kind"],["_law_kind"]⟩,⟨"_law_words_spoiled","_law_words_spoiled",top 45,["_law_words_here","_law_way","_law_number_here","_law_at","_law_more"],["_law_words_here","_law_way","_law_number_here"]⟩,⟨"_law_bad_line","_law_bad_line",top 46,["_law_words_here","_law_number_here","_law_way","_law_rest"],["_law_words_here","_law_number_here"]⟩,⟨"_law_refused","_law_refused",top 47,["_law_line_here","_law_caught","error"],["_law_line_here"]⟩,⟨"_law_refused_by_any","_law_refused_by_any",top 48,["_law_line_here"],["_law_line_here"]⟩,⟨"law","law",top 49,["_law_script","_law_k","_law_cell","_law_row_here","_law_number_here","_law_words_here","_law_line_here","_law_bad"],["_law_script"]⟩,⟨"__init__","NoRow.__init__",cb 7 0,["self","line"],["self","line"]⟩]
def Hq:aW:=(.cons (.ret (.tm .st (.op .ix (.tm .pa (.var 0) (.val (.str "#"))) (.val (.int 0))) (.val (.str " ")))) .nil)
def Iw:aW:=(.cons (.ret (.qV [none] (.nm 0) (.seq (.tm .sp (.call 0 (.cons (.var 0) .nil)) (.val (.str " ")))) (.cmp .ne (.var 0) (.val (.str ""))) (.var 0))) .nil)
def Ik:aW:=(.cons (.ret (.and (.cmp .ne (.var 0) (.val (.str ""))) (.kc .all (.mQ [none,some 1] (.nm 0) (.seq (.var 0)) (.cmp .rE (.var 0) (.var 1)))))) .nil)
def Hs:aW:=(.cons (.ret (.and (.call 2 (.cons (.var 0) (.cons (.val (.str "abcdefghijklmnopqrstuvwxyz")) .nil))) (.cmp .le (.bi .len (.cons (.var 0) .nil)) (.val (.int 8))))) .nil)
def Il:aW:=(.cons (.ite (.or (.not (.call 2 (.cons (.var 0) (.cons (.val (.str "0123456789")) .nil)))) (.cmp .gt (.bi .len (.cons (.var 0) .nil)) (.bi .len (.cons (.bi .str (.cons (.var 1) .nil)) .nil))))
 (.cons (.ret (.val .aC)) .nil)
 .nil) (.cons (.ite (.and (.cmp .ne (.var 0) (.val (.str "0"))) (.tm .sw (.var 0) (.val (.str "0"))))
 (.cons (.ret (.val .aC)) .nil)
 .nil) (.cons (.asg (.nm 2) (.bi .int (.cons (.var 0) .nil))) (.cons (.ret (.ite (.cmp .le (.var 2) (.var 1)) (.var 2) (.val .aC))) .nil))))
def Iq:aW:=(.cons (.ite (.not (.tm .sw (.var 0) (.val (.str "-"))))
 (.cons (.ret (.call 4 (.cons (.var 0) (.cons (.val (.int 999)) .nil)))) .nil)
 .nil) (.cons (.asg (.nm 1) (.call 4 (.cons (.slice (.var 0) (.val (.int 1)) .no) (.cons (.val (.int 999)) .nil)))) (.cons (.ret (.ite (.or (.cmp .kG (.var 1) (.val .aC)) (.cmp .eq (.var 1) (.val (.int 0)))) (.val .aC) (.neg (.var 1)))) .nil)))
def Iu:aW:=(.cons (.ret (.ite (.call 3 (.cons (.var 0) .nil)) (.var 0) (.call 4 (.cons (.var 0) (.cons (.val (.int 400)) .nil))))) .nil)
def Hr:aW:=(.cons (.ret (.ite (.cmp .rE (.var 0) (.val (.tup [.str "a",.str "b",.str "c",.str "d",.str "e",.str "f",.str "g",.str "h"]))) (.sM ["a","b","c","d","e","f","g","h"] (.var 0)) (.val .aC))) .nil)
def Im:aW:=(.cons (.ite (.cmp .eq (.var 0) (.val (.str "box")))
 (.cons (.ret (.call 7 (.cons (.var 1) .nil))) .nil)
 .nil) (.cons (.ite (.cmp .eq (.var 0) (.val (.str "step")))
 (.cons (.ret (.call 5 (.cons (.var 1) .nil))) .nil)
 .nil) (.cons (.ite (.cmp .eq (.var 0) (.val (.str "target")))
 (.cons (.ret (.call 6 (.cons (.var 1) .nil))) .nil)
 .nil) (.cons (.ret (.call 4 (.cons (.var 1) (.cons (.val (.int 18446744073709551615)) .nil)))) .nil))))
def Ip:aW:=(.cons (.asg (.nm 1) (.call 1 (.cons (.var 0) .nil))) (.cons (.ite (.or (.cmp .eq (.var 1) (.lst .nil)) (.nW true vV (.op .ix (.var 1) (.val (.int 0)))))
 (.cons (.ret (.val .aC)) .nil)
 .nil) (.cons (.asg (.nm 2) (.sN vV (.op .ix (.var 1) (.val (.int 0))))) (.cons (.ite (.cmp .ne (.bi .len (.cons (.var 1) .nil)) (.op .add (.bi .len (.cons (.var 2) .nil)) (.val (.int 1))))
 (.cons (.ret (.val .aC)) .nil)
 .nil) (.cons (.asg (.nm 3) (.mQ [none,none] (.tup [0,1]) (.zip (.cons (.var 2) (.cons (.slice (.var 1) (.val (.int 1)) .no) .nil))) (.call 8 (.cons (.var 0) (.cons (.var 1) .nil))))) (.cons (.ite (.kc .any (.mQ [none] (.nm 0) (.seq (.var 3)) (.cmp .kG (.var 0) (.val .aC))))
 (.cons (.ret (.val .aC)) .nil)
 .nil) (.cons (.ret (.op .add (.tup (.cons (.op .ix (.var 1) (.val (.int 0))) .nil)) (.bi .tuple (.cons (.var 3) .nil)))) .nil)))))))
def Io:aW:=(.cons (.asg (.nm 1) (.call 9 (.cons (.var 0) .nil))) (.cons (.ite (.cmp .kG (.var 1) (.val .aC))
 (.cons (.ai 6 (.val (.int 0))) .nil)
 .nil) (.cons (.ret (.var 1)) .nil)))
def Hz:aW:=(.cons (.ret (.op .mod (.op .mul (.op .add (.op .add (.op .mod (.var 0) (.op .pow (.val (.int 10)) (.val (.int 20)))) (.op .mul (.var 1) (.var 1))) (.val (.int 1))) (.op .add (.val (.int 48271)) (.op .mul (.val (.int 2)) (.var 1)))) (.val (.int 2147483647)))) .nil)
def Ii:aW:=(.cons (.ite (.cmp .eq (.op .mod (.var 1) (.val (.int 3))) (.val (.int 0)))
 (.cons (.ret (.op .mod (.op .fdiv (.var 1) (.val (.int 3))) (.val (.int 12)))) .nil)
 .nil) (.cons (.ite (.cmp .eq (.op .mod (.var 1) (.val (.int 3))) (.val (.int 1)))
 (.cons (.ret (.op .sub (.op .sub (.op .pow (.val (.int 2)) (.val (.int 64))) (.val (.int 1))) (.op .mod (.op .fdiv (.var 1) (.val (.int 3))) (.val (.int 12))))) .nil)
 .nil) (.cons (.ret (.op .mod (.var 0) (.op .pow (.val (.int 2)) (.val (.int 64))))) .nil)))
def Ih:aW:=(.cons (.ite (.cmp .eq (.op .mod (.var 0) (.val (.int 3))) (.val (.int 0)))
 (.cons (.ret (.op .ix (.lst (.cons (.val (.int 0)) (.cons (.neg (.val (.int 1))) (.cons (.val (.int 1)) (.cons (.neg (.val (.int 999))) (.cons (.val (.int 999)) (.cons (.val (.int 10)) (.cons (.neg (.val (.int 10))) (.cons (.val (.int 100)) .nil))))))))) (.op .mod (.op .fdiv (.var 0) (.val (.int 3))) (.val (.int 8))))) .nil)
 .nil) (.cons (.ret (.op .sub (.op .mod (.var 0) (.val (.int 1999))) (.val (.int 999)))) .nil))
def Ig:aW:=(.cons (.asg (.nm 3) (.call 11 (.cons (.var 0) (.cons (.var 1) .nil)))) (.cons (.par [4,5,6] (.cons (.op .mod (.op .fdiv (.var 3) (.val (.int 20))) (.val (.int 8))) (.cons (.op .mod (.op .fdiv (.var 3) (.val (.int 160))) (.val (.int 8))) (.cons (.op .mod (.op .fdiv (.var 3) (.val (.int 1280))) (.val (.int 8))) .nil)))) (.cons (.asg (.nm 7) (.op .fdiv (.var 3) (.val (.int 10240)))) (.cons (.asg (.nm 8) (.op .mod (.var 3) (.val (.int 20)))) (.cons (.asg (.nm 9) (.lst (.cons (.val (.str "sum")) (.cons (.val (.str "less")) (.cons (.val (.str "times")) (.cons (.val (.str "share")) (.cons (.val (.str "rest")) (.cons (.val (.str "both")) (.cons (.val (.str "some")) (.cons (.val (.str "odd")) (.cons (.val (.str "up")) (.cons (.val (.str "down")) (.cons (.val (.str "below")) (.cons (.val (.str "same")) .nil)))))))))))))) (.cons (.ite (.cmp .lt (.var 8) (.val (.int 9)))
 (.cons (.ret (.tup (.cons (.op .ix (.var 9) (.op .mod (.var 7) (.val (.int 12)))) (.cons (.var 4) (.cons (.var 5) (.cons (.var 6) .nil)))))) .nil)
 .nil) (.cons (.ite (.cmp .lt (.var 8) (.val (.int 11)))
 (.cons (.ret (.tup (.cons (.val (.str "set")) (.cons (.var 4) (.cons (.call 12 (.cons (.var 0) (.cons (.var 7) .nil))) .nil))))) .nil)
 .nil) (.cons (.ite (.cmp .eq (.var 8) (.val (.int 11)))
 (.cons (.ret (.tup (.cons (.val (.str "move")) (.cons (.var 4) (.cons (.var 5) .nil))))) .nil)
 .nil) (.cons (.ite (.cmp .lt (.var 8) (.val (.int 15)))
 (.cons (.ret (.tup (.cons (.op .ix (.lst (.cons (.val (.str "load")) (.cons (.val (.str "store")) .nil))) (.op .mod (.var 8) (.val (.int 2)))) (.cons (.var 4) (.cons (.var 5) (.cons (.call 13 (.cons (.var 7) .nil)) .nil)))))) .nil)
 .nil) (.cons (.ite (.cmp .lt (.var 8) (.val (.int 17)))
 (.cons (.ret (.tup (.cons (.val (.str "jump")) (.cons (.var 4) (.cons (.op .mod (.var 7) (.op .add (.var 2) (.val (.int 1)))) .nil))))) .nil)
 .nil) (.cons (.ite (.cmp .lt (.var 8) (.val (.int 19)))
 (.cons (.ret (.tup (.cons (.val (.str "go")) (.cons (.op .mod (.var 7) (.op .add (.var 2) (.val (.int 1)))) .nil)))) .nil)
 .nil) (.cons (.ret (.tup (.cons (.val (.str "fault")) (.cons (.call 12 (.cons (.var 0) (.cons (.var 7) .nil))) .nil)))) .nil))))))))))))
def Hv:aW:=(.cons (.ite (.or (.cmp .eq (.var 0) (.val (.str "set"))) (.cmp .eq (.var 0) (.val (.str "jump"))))
 (.cons (.ret (.cmp .eq (.var 1) (.val (.int 1)))) .nil)
 .nil) (.cons (.ite (.or (.cmp .eq (.var 0) (.val (.str "load"))) (.cmp .eq (.var 0) (.val (.str "store"))))
 (.cons (.ret (.cmp .lt (.var 1) (.val (.int 3)))) .nil)
 .nil) (.cons (.ret (.and (.cmp .ne (.var 0) (.val (.str "go"))) (.cmp .ne (.var 0) (.val (.str "fault"))))) .nil)))
def Ij:aW:=(.cons (.asg (.nm 1) (.lst (.cons (.op .ix (.var 0) (.val (.int 0))) .nil))) (.cons (.kE (.nm 2) (.vN (.cons (.val (.int 1)) (.cons (.bi .len (.cons (.var 0) .nil)) .nil)))
 (.cons (.ite (.call 15 (.cons (.op .ix (.var 0) (.val (.int 0))) (.cons (.var 2) .nil)))
 (.cons (.expr (.app (.var 1) (.op .ix (.val (.str "abcdefgh")) (.op .ix (.var 0) (.var 2))))) .nil)
 (.cons (.expr (.app (.var 1) (.bi .str (.cons (.op .ix (.var 0) (.var 2)) .nil)))) .nil)) .nil)) (.cons (.ret (.var 1)) .nil)))
def Ht:aW:=(.cons (.ite (.or (.not (.eG .tup (.var 0))) (.cmp .ne (.bi .len (.cons (.var 0) .nil)) (.bi .len (.cons (.var 1) .nil))))
 (.cons (.ret (.val (.bl false))) .nil)
 .nil) (.cons (.kE (.tup 2 (.cons (.nm 2) (.cons (.nm 3) .nil))) (.zip (.cons (.var 0) (.cons (.var 1) .nil)))
 (.cons (.ite (.or (.eG .bl (.var 2)) (.cmp .ne (.eG .str (.var 2)) (.eG .str (.var 3))))
 (.cons (.ret (.val (.bl false))) .nil)
 .nil) (.cons (.ite (.or (.and (.not (.eG .str (.var 2))) (.not (.eG .int (.var 2)))) (.cmp .ne (.var 2) (.var 3)))
 (.cons (.ret (.val (.bl false))) .nil)
 .nil) .nil))) (.cons (.ret (.val (.bl true))) .nil)))
def Hw:aW:=(.cons (.asg (.nm 1) (.lst (.cons (.val (.str "a")) (.cons (.val (.str "h")) (.cons (.val (.str "set")) (.cons (.val (.str "go")) (.cons (.val (.str "jump")) (.cons (.val (.str "fault")) (.cons (.val (.str "load")) (.cons (.val (.str "sum")) .nil)))))))))) (.cons (.ite (.cmp .eq (.op .mod (.var 0) (.val (.int 3))) (.val (.int 0)))
 (.cons (.ret (.op .ix (.var 1) (.op .mod (.op .fdiv (.var 0) (.val (.int 3))) (.val (.int 8))))) .nil)
 .nil) (.cons (.asg (.nm 2) (.val (.str "abcdefghijklmnopqrstuvwxyz"))) (.cons (.asg (.nm 3) (.val (.str ""))) (.cons (.kE (.nm 4) (.rX (.cons (.op .add (.val (.int 1)) (.op .mod (.op .fdiv (.var 0) (.val (.int 3))) (.val (.int 8)))) .nil))
 (.cons (.asg (.nm 5) (.op .add (.op .fdiv (.var 0) (.val (.int 24))) (.op .mul (.op .fdiv (.var 0) (.op .add (.var 4) (.val (.int 25)))) (.var 4)))) (.cons (.asg (.nm 3) (.op .add (.var 3) (.op .ix (.var 2) (.op .mod (.var 5) (.val (.int 26)))))) .nil))) (.cons (.ret (.var 3)) .nil))))))
def Ie:aW:=(.cons (.asg (.nm 1) (.val (.str " !#$&'()*+,-./0123456789:;<=>?@ABCXYZ[]^_abcxyz{|}~"))) (.cons (.asg (.nm 2) (.val (.str "#"))) (.cons (.kE (.nm 3) (.rX (.cons (.op .mod (.var 0) (.val (.int 12))) .nil))
 (.cons (.asg (.nm 4) (.op .add (.op .fdiv (.var 0) (.val (.int 12))) (.op .mul (.op .fdiv (.var 0) (.op .add (.var 3) (.val (.int 13)))) (.var 3)))) (.cons (.asg (.nm 2) (.op .add (.var 2) (.op .ix (.var 1) (.op .mod (.var 4) (.bi .len (.cons (.var 1) .nil)))))) .nil))) (.cons (.ret (.var 2)) .nil))))
def Hy:aW:=(.cons (.asg (.nm 2) (.op .mul (.val (.str " ")) (.op .mod (.var 1) (.val (.int 3))))) (.cons (.kE (.tup 2 (.cons (.nm 3) (.cons (.nm 4) .nil))) (.enum (.var 0))
 (.cons (.ite (.cmp .gt (.var 3) (.val (.int 0)))
 (.cons (.asg (.nm 2) (.op .add (.var 2) (.op .mul (.val (.str " ")) (.op .add (.val (.int 1)) (.op .mod (.op .fdiv (.var 1) (.op .add (.var 3) (.val (.int 3)))) (.val (.int 3))))))) .nil)
 .nil) (.cons (.asg (.nm 2) (.op .add (.var 2) (.var 4))) .nil))) (.cons (.asg (.nm 2) (.op .add (.var 2) (.op .mul (.val (.str " ")) (.op .mod (.op .fdiv (.var 1) (.val (.int 9))) (.val (.int 3)))))) (.cons (.ite (.cmp .eq (.op .mod (.op .fdiv (.var 1) (.val (.int 27))) (.val (.int 3))) (.val (.int 0)))
 (.cons (.asg (.nm 2) (.op .add (.var 2) (.call 19 (.cons (.op .fdiv (.var 1) (.val (.int 81))) .nil)))) .nil)
 .nil) (.cons (.ret (.var 2)) .nil)))))
def Hx:aW:=(.cons (.asg (.nm 3) (.slice (.var 0) .no (.neg (.val (.int 1))))) (.cons (.asg (.nm 4) (.op .ix (.var 0) (.neg (.val (.int 1))))) (.cons (.asg (.nm 5) (.tm .ls (.var 4) (.val (.str "-")))) (.cons (.ite (.cmp .eq (.var 1) (.val (.int 0)))
 (.cons (.ret (.op .add (.var 3) (.lst (.cons (.op .add (.op .add (.slice (.var 4) .no (.op .sub (.bi .len (.cons (.var 4) .nil)) (.bi .len (.cons (.var 5) .nil)))) (.val (.str "0"))) (.var 5)) .nil)))) .nil)
 .nil) (.cons (.ite (.and (.cmp .eq (.var 1) (.val (.int 1))) (.or (.cmp .eq (.op .ix (.var 0) (.val (.int 0))) (.val (.str "load"))) (.cmp .eq (.op .ix (.var 0) (.val (.int 0))) (.val (.str "store")))))
 (.cons (.ret (.op .add (.var 3) (.lst (.cons (.op .ix (.lst (.cons (.val (.str "-0")) (.cons (.val (.str "--5")) (.cons (.val (.str "-00")) (.cons (.val (.str "- 5")) .nil))))) (.op .mod (.var 2) (.val (.int 4)))) .nil)))) .nil)
 .nil) (.cons (.ite (.cmp .eq (.var 1) (.val (.int 1)))
 (.cons (.ret (.op .add (.var 3) (.lst (.cons (.op .add (.val (.str "-")) (.var 4)) .nil)))) .nil)
 .nil) (.cons (.ite (.cmp .eq (.var 1) (.val (.int 2)))
 (.cons (.ret (.op .add (.var 3) (.lst (.cons (.op .add (.val (.str "+")) (.var 4)) .nil)))) .nil)
 .nil) (.cons (.ite (.cmp .eq (.var 1) (.val (.int 3)))
 (.cons (.asg (.nm 6) (.lst (.cons (.val (.str "x1")) (.cons (.val (.str "X")) (.cons (.val (.str "_")) (.cons (.val (.str ".")) (.cons (.val (.str "abcdefghi")) (.cons (.val (.str "1x")) (.cons (.val (.str "\"")) (.cons (.val (.str "_1")) .nil)))))))))) (.cons (.ret (.op .add (.var 3) (.lst (.cons (.op .add (.var 4) (.op .ix (.var 6) (.op .mod (.var 2) (.val (.int 8))))) .nil)))) .nil))
 .nil) (.cons (.ite (.or (.cmp .eq (.op .ix (.var 0) (.val (.int 0))) (.val (.str "load"))) (.cmp .eq (.op .ix (.var 0) (.val (.int 0))) (.val (.str "store"))))
 (.cons (.ret (.op .add (.var 3) (.lst (.cons (.op .add (.op .ix (.lst (.cons (.val (.str "")) (.cons (.val (.str "-")) .nil))) (.op .mod (.var 2) (.val (.int 2)))) (.bi .str (.cons (.op .add (.val (.int 1000)) (.op .mod (.op .fdiv (.var 2) (.val (.int 2))) (.val (.int 9000)))) .nil))) .nil)))) .nil)
 .nil) (.cons (.ite (.or (.cmp .eq (.op .ix (.var 0) (.val (.int 0))) (.val (.str "jump"))) (.cmp .eq (.op .ix (.var 0) (.val (.int 0))) (.val (.str "go"))))
 (.cons (.ret (.op .add (.var 3) (.lst (.cons (.bi .str (.cons (.op .add (.val (.int 401)) (.op .mod (.var 2) (.val (.int 9000)))) .nil)) .nil)))) .nil)
 .nil) (.cons (.ret (.op .add (.var 3) (.lst (.cons (.bi .str (.cons (.op .add (.op .pow (.val (.int 2)) (.val (.int 64))) (.op .mul (.op .mul (.var 2) (.var 2)) (.var 2))) .nil)) .nil)))) .nil)))))))))))
def sj:aW:=(.cons (.ite (.not (.call 15 (.cons (.op .ix (.var 0) (.val (.int 0))) (.cons (.val (.int 1)) .nil))))
 (.cons (.ret (.lst (.cons (.val (.str "sum")) (.cons (.val (.str "a")) (.cons (.val (.str "b")) (.cons (.val (.str "i")) .nil)))))) .nil)
 .nil) (.cons (.asg (.nm 2) (.val (.int 1))) (.cons (.ite (.and (.cmp .eq (.op .mod (.var 1) (.val (.int 2))) (.val (.int 1))) (.call 15 (.cons (.op .ix (.var 0) (.val (.int 0))) (.cons (.val (.int 2)) .nil))))
 (.cons (.asg (.nm 2) (.val (.int 2))) .nil)
 .nil) (.cons (.asg (.nm 3) (.lst (.cons (.val (.str "i")) (.cons (.val (.str "z")) (.cons (.val (.str "A")) (.cons (.val (.str "H")) (.cons (.val (.str "1")) (.cons (.val (.str "aa")) (.cons (.val (.str "ab")) (.cons (.val (.str ":")) .nil)))))))))) (.cons (.ret (.op .add (.op .add (.slice (.var 0) .no (.var 2)) (.lst (.cons (.op .ix (.var 3) (.op .mod (.op .fdiv (.var 1) (.val (.int 2))) (.val (.int 8)))) .nil))) (.slice (.var 0) (.op .add (.var 2) (.val (.int 1))) .no))) .nil)))))
def Ia:aW:=(.cons (.ite (.or (.cmp .eq (.var 0) (.val (.str "set"))) (.or (.cmp .eq (.var 0) (.val (.str "fault"))) (.or (.cmp .eq (.var 0) (.val (.str "load"))) (.cmp .eq (.var 0) (.val (.str "store"))))))
 (.cons (.ret (.val (.bl true))) .nil)
 .nil) (.cons (.ret (.or (.cmp .eq (.var 0) (.val (.str "jump"))) (.cmp .eq (.var 0) (.val (.str "go"))))) .nil))
def sk:aW:=(.cons (.ite (.and (.cmp .lt (.var 1) (.val (.int 5))) (.call 23 (.cons (.op .ix (.var 0) (.val (.int 0))) .nil)))
 (.cons (.ret (.call 21 (.cons (.var 0) (.cons (.var 1) (.cons (.var 2) .nil))))) .nil)
 .nil) (.cons (.asg (.nm 3) (.op .mod (.var 2) (.bi .len (.cons (.var 0) .nil)))) (.cons (.ite (.cmp .eq (.var 1) (.val (.int 5)))
 (.cons (.ret (.op .add (.slice (.var 0) .no (.var 3)) (.slice (.var 0) (.op .add (.var 3) (.val (.int 1))) .no))) .nil)
 .nil) (.cons (.ite (.cmp .eq (.var 1) (.val (.int 6)))
 (.cons (.asg (.nm 4) (.lst (.cons (.val (.str "a")) (.cons (.val (.str "0")) (.cons (.val (.str "go")) (.cons (.val (.str "7")) (.cons (.val (.str ":")) (.cons (.val (.str "b")) .nil)))))))) (.cons (.ret (.op .add (.op .add (.slice (.var 0) .no (.op .add (.var 3) (.val (.int 1)))) (.lst (.cons (.op .ix (.var 4) (.op .mod (.op .fdiv (.var 2) (.val (.int 8))) (.val (.int 6)))) .nil))) (.slice (.var 0) (.op .add (.var 3) (.val (.int 1))) .no))) .nil))
 .nil) (.cons (.ite (.cmp .eq (.var 1) (.val (.int 7)))
 (.cons (.ret (.op .add (.lst (.cons (.up (.op .ix (.var 0) (.val (.int 0)))) .nil)) (.slice (.var 0) (.val (.int 1)) .no))) .nil)
 .nil) (.cons (.ite (.cmp .eq (.var 1) (.val (.int 8)))
 (.cons (.ret (.op .add (.lst (.cons (.op .add (.op .ix (.var 0) (.val (.int 0))) (.op .ix (.lst (.cons (.val (.str "s")) (.cons (.val (.str "o")) (.cons (.val (.str "1")) (.cons (.val (.str ":")) .nil))))) (.op .mod (.var 2) (.val (.int 4))))) .nil)) (.slice (.var 0) (.val (.int 1)) .no))) .nil)
 .nil) (.cons (.ite (.cmp .eq (.var 1) (.val (.int 9)))
 (.cons (.ret (.op .add (.lst (.cons (.slice (.op .ix (.var 0) (.val (.int 0))) .no (.neg (.val (.int 1)))) .nil)) (.slice (.var 0) (.val (.int 1)) .no))) .nil)
 .nil) (.cons (.ret (.call 22 (.cons (.var 0) (.cons (.var 2) .nil)))) .nil))))))))
def Hu:aW:=(.cons (.asg (.nm 2) (.op .mod (.var 1) (.val (.int 16)))) (.cons (.asg (.nm 3) (.op .fdiv (.var 1) (.val (.int 16)))) (.cons (.ite (.cmp .lt (.var 2) (.val (.int 11)))
 (.cons (.ret (.call 20 (.cons (.call 24 (.cons (.var 0) (.cons (.var 2) (.cons (.var 3) .nil)))) (.cons (.op .fdiv (.var 3) (.val (.int 7))) .nil)))) .nil)
 .nil) (.cons (.ite (.cmp .eq (.var 2) (.val (.int 11)))
 (.cons (.ret (.join "," (.var 0))) .nil)
 .nil) (.cons (.ite (.cmp .eq (.var 2) (.val (.int 12)))
 (.cons (.ret (.call 20 (.cons (.lst (.cons (.op .add (.call 18 (.cons (.var 3) .nil)) (.val (.str ":"))) .nil)) (.cons (.var 3) .nil)))) .nil)
 .nil) (.cons (.ite (.cmp .eq (.var 2) (.val (.int 13)))
 (.cons (.ret (.call 20 (.cons (.op .add (.lst (.cons (.op .add (.call 18 (.cons (.var 3) .nil)) (.val (.str ":"))) .nil)) (.var 0)) (.cons (.var 3) .nil)))) .nil)
 .nil) (.cons (.ite (.cmp .eq (.var 2) (.val (.int 14)))
 (.cons (.ret (.call 20 (.cons (.lst .nil) (.cons (.var 3) .nil)))) .nil)
 .nil) (.cons (.ret (.op .add (.val (.str "#")) (.call 20 (.cons (.var 0) (.cons (.var 3) .nil))))) .nil))))))))
def Ib:aW:=(.cons (.asg (.nm 1) (.val .aC)) (.cons (.vZ (some none) (.call 10 (.cons (.var 0) .nil))
 (.cons [(6,true)] (some 2) (.cons (.asg (.nm 1) (.var 2)) .nil) .nil)) (.cons (.ite (.or (.cmp .kG (.var 1) (.val .aC)) (.or (.not (.bT [(6,true)] (.var 1))) (.not (.bT [(6,true)] (.var 1)))))
 (.cons (.ret (.val (.bl false))) .nil)
 .nil) (.cons (.ite (.or (.not (.eG .int (.oF [6] (.var 1)))) (.or (.eG .bl (.oF [6] (.var 1))) (.cmp .ne (.oF [6] (.var 1)) (.val (.int 0)))))
 (.cons (.ret (.val (.bl false))) .nil)
 .nil) (.cons (.ite (.or (.bT [(6,false)] (.var 1)) (.or (.bT [(6,false)] (.var 1)) (.bT [(6,false)] (.var 1))))
 (.cons (.ret (.val (.bl false))) .nil)
 .nil) (.cons (.ite (.or (.bT [(6,false)] (.var 1)) (.bT [(6,false)] (.var 1)))
 (.cons (.ret (.val (.bl false))) .nil)
 .nil) (.cons (.ret (.and (.not (.bT [(6,false)] (.var 1))) (.not (.bT [(6,false)] (.var 1))))) .nil)))))))
def Ic:aW:=(.cons (.vZ (some none) (.call 10 (.cons (.var 0) .nil))
 (.cons [(6,true)] none (.cons (.ret (.val (.bl true))) .nil) .nil)) (.cons (.ret (.val (.bl false))) .nil))
def xB:aW:=(.cons (.kE (.tup 2 (.cons (.nm 1) (.cons (.nm 2) .nil))) (.enum (.op .add (.lst (.cons (.val (.int 0)) .nil)) (.slice (.var 0) .no (.val (.int 30)))))
 (.cons (.asg (.nm 3) (.call 14 (.cons (.var 2) (.cons (.var 1) (.cons (.val (.int 400)) .nil))))) (.cons (.asg (.nm 4) (.call 11 (.cons (.op .fdiv (.var 2) (.val (.int 7))) (.cons (.op .add (.var 1) (.val (.int 100))) .nil)))) (.cons (.ite (.and (.or (.cmp .eq (.op .ix (.var 3) (.val (.int 0))) (.val (.str "jump"))) (.cmp .eq (.op .ix (.var 3) (.val (.int 0))) (.val (.str "go")))) (.cmp .eq (.op .mod (.var 4) (.val (.int 2))) (.val (.int 0))))
 (.cons (.asg (.nm 3) (.op .add (.slice (.var 3) .no (.neg (.val (.int 1)))) (.tup (.cons (.call 18 (.cons (.op .fdiv (.var 4) (.val (.int 2))) .nil)) .nil)))) .nil)
 .nil) (.cons (.asg (.nm 5) (.call 16 (.cons (.var 3) .nil))) (.cons (.asg (.nm 6) (.call 20 (.cons (.var 5) (.cons (.op .fdiv (.var 4) (.val (.int 2))) .nil)))) (.cons (.ite (.not (.call 17 (.cons (.call 10 (.cons (.var 6) .nil)) (.cons (.var 3) .nil))))
 (.cons (.ret (.val (.bl false))) .nil)
 .nil) (.cons (.asg (.nm 7) (.call 25 (.cons (.var 5) (.cons (.call 11 (.cons (.var 2) (.cons (.op .add (.var 1) (.val (.int 200))) .nil))) .nil)))) (.cons (.ite (.or (.not (.call 26 (.cons (.var 7) .nil))) (.not (.call 27 (.cons (.var 7) .nil))))
 (.cons (.ret (.val (.bl false))) .nil)
 .nil) (.cons (.ite (.not (.call 17 (.cons (.call 10 (.cons (.var 6) .nil)) (.cons (.var 3) .nil))))
 (.cons (.ret (.val (.bl false))) .nil)
 .nil) .nil)))))))))) (.cons (.ret (.val (.bl true))) .nil))
def Ho:aW:=(.cons (.asg .bad (.var 1)) .nil)
def iq:List (Nat×Nat×aW):=[(1,1,Hq),(1,1,Iw),(2,2,Ik),(1,1,Hs),(2,3,Il),(1,2,Iq),(1,1,Iu),(1,1,Hr),(2,2,Im),(1,4,Ip),(1,2,Io),(2,2,Hz),(2,2,Ii),(1,1,Ih),(3,10,Ig),(2,2,Hv),(1,3,Ij),(2,4,Ht),(1,6,Hw),(1,5,Ie),(2,5,Hy),(3,7,Hx),(2,4,sj),(1,1,Ia),(3,5,sk),(2,4,Hu),(1,3,Ib),(1,1,Ic),(1,8,xB),(2,2,Ho)]
noncomputable abbrev pg:Pg:=λi=>iq[i]?
end AMx
open AM
namespace AMx
open PySem PySem.Spec PyProof.Rows L2 AM
abbrev tl(z:PySem.Str):List Nat:=z.cps.toList
abbrev aG(l:List Nat):PySem.Str:=⟨l.toArray⟩
theorem fJ{l:List Nat}:tl (aG l)=l:=rfl
theorem eT{z:PySem.Str}:aG (tl z)=z:=by cases z;simp[aG,tl]
theorem aQ{z:PySem.Str}:z.length=(tl z).length:=by simp[PySem.Str.length,tl]
theorem nk{x y:PySem.Str}(h:tl x=tl y):x=y:=by rw[<- eT (z:=x),<- eT (z:=y),h]
theorem nq{z:PySem.Str}{c i:Nat}:Builtin.Str.subAt z (aG [c]) i=decide ((tl z)[i]?=some c):=by
 unfold Builtin.Str.subAt;have e:(aG [c]).length=1:=rfl;rw[e];have:z.cps.extract i (i+1)=match (tl z)[i]? with
  |some d=>#[d]
  |none=>#[]:=by
  apply Array.ext';rw[Array.toList_extract,List.extract_eq_drop_take'];show((tl z).take (i+1)).drop i=_;cases h:(tl z)[i]? with
  |none=>have:=List.getElem?_eq_none_iff.mp h;rw[List.drop_of_length_le (by rw[List.length_take];omega)]
  |some d=>have hi:=(List.getElem?_eq_some_iff.mp h).1;rw[List.take_add_one,h,List.drop_append,List.length_take,Nat.min_eq_left (by omega),List.drop_of_length_le (by rw[List.length_take];omega),Nat.sub_self];rfl
 rw[this];cases h:(tl z)[i]? with
 |none=>simp|some d=>
  show(#[d]==#[c])=decide (some d=some c);by_cases e:d=c
  .subst e;simp
  .rw[decide_eq_false (λz=>e (Option.some.inj z))];simp[e]
def NZ(c:Nat)(l:List Nat):List Nat:=(List.range l.length).filter λi=>decide (l[i]?=some c)
theorem wk{α β:Type}(f:α->β->β):∀(l:List α) (b:β),(forIn (m:=Id) l b λa b=>pure (ForInStep.yield (f a b)))=pure (l.foldl (λb a=>f a b) b)
 |[],b=>rfl|a::l,b=>by rw[List.forIn_cons];exact wk f l (f a b)
def nK(z:PySem.Str)(c lim:Nat)(i:Nat)(st:Array Nat×Nat):Array Nat×Nat:=
 if(decide (st.1.size<lim)&&decide (st.2<=i)&&decide (i+1<=z.length)&&decide ((tl z)[i]?=some c))=true then(st.1.push i,i+1) else st
def iR(z:PySem.Str)(c k:Nat):List Nat:=(List.range k).filter λi=>decide ((tl z)[i]?=some c)
theorem zz{z:PySem.Str}{c lim:Nat}:∀k,((List.range k).foldl (λst i=>nK z c lim i st) (#[],0)).1.toList=(iR z c k).take lim/\((List.range k).foldl (λst i=>nK z c lim i st) (#[],0)).2<=k
 |0=>by simp[iR]
 |k+1=>by
  obtain⟨h1,h2⟩:=zz (z:=z) (c:=c) (lim:=lim) k;rw[List.range_succ,List.foldl_append,List.foldl_cons,List.foldl_nil];generalize (List.range k).foldl (λst i=>nK z c lim i st) (#[],0)=st at h1 h2;have hs:st.1.size=min lim (iR z c k).length:=by rw[<- Array.length_toList,h1,List.length_take]
  have eh:iR z c (k+1)=iR z c k++if(tl z)[k]?=some c then[k] else[]:=by
   unfold iR;rw[List.range_succ,List.filter_append];by_cases e:(tl z)[k]?=some c
   .rw[if_pos e,List.filter_cons,decide_eq_true e,if_pos rfl,List.filter_nil]
   .rw[if_neg e,List.filter_cons,decide_eq_false e,if_neg Bool.false_ne_true,List.filter_nil]
  unfold nK;by_cases e:(tl z)[k]?=some c
  .have hk:k+1<=z.length:=by rw[aQ];exact(List.getElem?_eq_some_iff.mp e).1
   rw[eh,if_pos e,decide_eq_true h2,decide_eq_true hk,decide_eq_true e];by_cases hl:st.1.size<lim
   .rw[decide_eq_true hl,if_pos (show(true&&true&&true&&true)=true from rfl)];refine⟨?_,Nat.le_refl _⟩;rw[Array.toList_push,h1,List.take_of_length_le (by omega),List.take_of_length_le (by rw[List.length_append];simp;omega)]
   .rw[decide_eq_false hl,if_neg (by simp)];refine⟨?_,by omega⟩;rw[h1,List.take_append_of_le_length (by omega)]
  .rw[eh,if_neg e,decide_eq_false e,if_neg (by simp),List.append_nil];exact⟨h1,by omega⟩
theorem jv{z:PySem.Str}{c lim:Nat}:Builtin.Str.occurrences z (aG [c]) 0 z.length lim=(iR z c (z.length+1)).take lim:=by
 have:=(zz (z:=z) (c:=c) (lim:=lim) (z.length+1)).1;rw[<- this];unfold Builtin.Str.occurrences;dsimp only;rw[Std.Legacy.Range.forIn_eq_forIn_range'];have e:(⟨0,z.length+1,1,by decide⟩:Std.Legacy.Range).size=z.length+1:=by simp[Std.Legacy.Range.size]
 rw[e];have e2:∀(f:Nat->Array Nat×Nat->Id (ForInStep (Array Nat×Nat))),(∀i st,f i st=pure (ForInStep.yield (nK z c lim i st)))->forIn (m:=Id) (List.range' 0 (z.length+1) 1) (#[],0) f=pure ((List.range (z.length+1)).foldl (λst i=>nK z c lim i st) (#[],0)):=λf hf=>by rw[show f=λi st=>pure (ForInStep.yield (nK z c lim i st)) from funext λi=>funext λst=>hf i st,wk,List.range_eq_range']
 rw[e2 _ λi st=>?_]
 .rfl
 .unfold nK;rw[nq];show(if _ then pure (ForInStep.yield (st.1.push i,i+1)) else pure (ForInStep.yield (st.1,st.2)))=pure (ForInStep.yield (if _ then _ else _));split
  .rename_i hc;exact congrArg (λx=>(pure (ForInStep.yield x):Id _)) (if_pos hc).symm
  .rename_i hc;exact congrArg (λx=>(pure (ForInStep.yield x):Id _)) (if_neg hc).symm
def bE(c:Nat):List Nat->List (List Nat)
 |[]=>[[]]
 |x::l=>if x=c then[]::bE c l else match bE c l with
  |[]=>[[x]]
  |w::ws=>(x::w)::ws
theorem mq{c:Nat}:∀l,bE c l≠[]
 |[]=>by simp[bE]
 |x::l=>by
  unfold bE;split
  .simp
  .split<;>simp
theorem mv{c:Nat}:∀{l:List Nat},c∉l->bE c l=[l]
 |[],_=>rfl|x::l,h=>by unfold bE;rw[if_neg (λe=>h (by rw[e];exact List.mem_cons_self ..)),mv (λe=>h (List.mem_cons_of_mem _ e))]
theorem Dn{c:Nat}{m:List Nat}:∀{l:List Nat},c∉l->bE c (l++c::m)=l::bE c m
 |[],_=>by rw[List.nil_append,bE,if_pos rfl]
 |x::l,h=>by rw[List.cons_append,bE,if_neg (λe=>h (by rw[e];exact List.mem_cons_self ..)),Dn (λe=>h (List.mem_cons_of_mem _ e))]
def ja(c:Nat):List (List Nat)->List Nat
 |[]=>[]
 |[w]=>w
 |w::u::ws=>w++c::ja c (u::ws)
theorem FJ{c:Nat}:∀{ws:List (List Nat)},ws≠[]->(∀w∈ws,c∉w)->bE c (ja c ws)=ws
 |[],h,_=>absurd rfl h
 |[w],_,h=>mv (h w (List.mem_cons_self ..))
 |w::u::ws,_,h=>by rw[ja,Dn (h w (List.mem_cons_self ..)),FJ (by simp) λv hv=>h v (List.mem_cons_of_mem _ hv)]
def cX(c:Nat):List Nat->List Nat
 |[]=>[]
 |x::l=>(if x=c then[0] else[])++(cX c l).map (·+1)
theorem Nf{c x:Nat}{l:List Nat}:∀k,(List.range (k+1)).filter (λi=>decide ((x::l)[i]?=some c))=(if x=c then[0] else[])++((List.range k).filter λi=>decide (l[i]?=some c)).map (·+1):=by
 intro k;rw[List.range_succ_eq_map,List.filter_cons,List.filter_map];have e:((λi=>decide ((x::l)[i]?=some c)) ∘ Nat.succ)=λi=>decide (l[i]?=some c):=by
  funext i
  show decide ((x::l)[i+1]?=some c)=_;rw[List.getElem?_cons_succ]
 rw[e];by_cases h:x=c
 .rw[if_pos h,if_pos (by simp[h])];rfl
 .rw[if_neg h,if_neg (by simp[h])];rfl
theorem gz{c:Nat}:∀{l:List Nat} {k:Nat},l.length<=k->(List.range k).filter (λi=>decide (l[i]?=some c))=cX c l
 |[],k,_=>by simp[cX]
 |x::l,0,h=>by simp at h
 |x::l,k+1,h=>by rw[Nf,gz (by simpa using h)];rfl
def uB(l:List Nat)(p:Nat×Nat):List Nat:=(l.take p.2).drop p.1
def jy(l cuts:List Nat):List (List Nat):=((0::cuts.map (·+1)).zip (cuts++[l.length])).map (uB l)
theorem Gx{xs ys:List Nat}{x:Nat}{l:List Nat}:((xs.map (·+1)).zip (ys.map (·+1))).map (uB (x::l))=(xs.zip ys).map (uB l):=by rw[List.zip_map,List.map_map];congr 1
theorem Am{c:Nat}:∀{l:List Nat},jy l (cX c l)=bE c l
 |[]=>rfl|x::l=>by
  have ih:=Am (c:=c) (l:=l);unfold cX bE;by_cases h:x=c
  .rw[if_pos h,if_pos h,<- ih];show((0::([0]++(cX c l).map (·+1)).map (·+1)).zip (([0]++(cX c l).map (·+1))++[l.length+1])).map (uB (x::l))=_;have e1:([0]++(cX c l).map (·+1)).map (·+1)=(0::(cX c l).map (·+1)).map (·+1):=rfl;have e2:([0]++(cX c l).map (·+1))++[l.length+1]=0::(cX c l++[l.length]).map (·+1):=by simp
   rw[e1,e2,List.zip_cons_cons,List.map_cons,Gx];rfl
  .rw[if_neg h,if_neg h,<- ih];show((0::([]++(cX c l).map (·+1)).map (·+1)).zip (([]++(cX c l).map (·+1))++[l.length+1])).map (uB (x::l))=_;rw[List.nil_append];have e2:(cX c l).map (·+1)++[l.length+1]=(cX c l++[l.length]).map (·+1):=by simp
   rw[e2];unfold jy;cases hp:cX c l++[l.length] with
   |nil=>simp at hp|cons s ss=>rw[List.map_cons,List.zip_cons_cons,List.map_cons,Gx,List.zip_cons_cons,List.map_cons];rfl
theorem pZ{z:PySem.Str}{i j:Nat}:Builtin.Str.strSub z i j=aG (((tl z).take j).drop i):=by apply nk;show(z.cps.extract i j).toList=_;rw[Array.toList_extract,List.extract_eq_drop_take']
theorem Dr{z:PySem.Str}{c:Nat}(hc:c<256):Txt.split z (aG [c])=(bE c (tl z)).map aG:=by
 unfold Txt.split;have hk:Builtin.Str.strKind (aG [c])=1:=by unfold Builtin.Str.strKind;rw[if_pos (by simp[hc])]
 have hk2:¬Builtin.Str.strKind z<1:=by
  unfold Builtin.Str.strKind;split
  .decide
  .split<;>decide
 have ho:Builtin.Str.occurrences z (aG [c]) 0 z.length (z.length+1)=cX c (tl z):=by rw[jv];have e:iR z c (z.length+1)=cX c (tl z):=gz (by rw[aQ];omega);rw[List.take_of_length_le,e];unfold iR;exact Nat.le_trans (List.length_filter_le ..) (by simp)
 rw[hk,ho];have e1:(aG [c]).length=1:=rfl;rw[e1,decide_eq_false hk2,Bool.or_false,aQ];by_cases h0:(tl z).length<1
 .rw[decide_eq_true h0,if_pos rfl];have:tl z=[]:=List.eq_nil_of_length_eq_zero (by omega);rw[this];show[z]=[aG []];rw[<- this,eT]
 .rw[decide_eq_false h0,if_neg Bool.false_ne_true];have hp:Builtin.Str.partsBetween z (cX c (tl z)) 1=(bE c (tl z)).map aG:=by rw[<- Am];unfold Builtin.Str.partsBetween jy;dsimp only;rw[List.map_map,aQ];refine congrFun (congrArg List.map (funext λp=>?_)) _;exact pZ
  by_cases he:(cX c (tl z)).isEmpty=true
  .rw[if_pos he,<- hp];have e:cX c (tl z)=[]:=List.isEmpty_iff.mp he;rw[e];show[z]=[Builtin.Str.strSub z 0 z.length];rw[pZ,aQ,List.take_length,List.drop_zero,eT]
  .rw[if_neg he,hp]
theorem As{c:Nat}:∀{l:List Nat},(cX c l).take 1=if c∈l then[(l.takeWhile λx=>x != c).length] else[]
 |[]=>by simp[cX]
 |x::l=>by
  have ih:=As (c:=c) (l:=l);unfold cX;by_cases h:x=c
  .rw[if_pos h,h,if_pos (List.mem_cons_self ..)];simp
  .rw[if_neg h,List.nil_append,<- List.map_take,ih];by_cases hm:c∈l
   .rw[if_pos hm,if_pos (List.mem_cons_of_mem _ hm),List.takeWhile_cons];simp[h]
   .rw[if_neg hm,if_neg (λe=>by
     rcases List.mem_cons.mp e with e|e
     .exact h e.symm
     .exact hm e)]
    rfl
theorem zy{z:PySem.Str}{c:Nat}:Builtin.Str.occurrences z (aG [c]) 0 z.length 1=if c∈tl z then[((tl z).takeWhile λx=>x != c).length] else[]:=by rw[jv,<- As];have e:iR z c (z.length+1)=cX c (tl z):=gz (by rw[aQ];omega);rw[e]
theorem Fe{c:Nat}:∀{l:List Nat},c∉l->l.takeWhile (λx=>x != c)=l
 |[],_=>rfl|x::l,h=>by rw[List.takeWhile_cons,Fe (λe=>h (List.mem_cons_of_mem _ e))];have:x≠c:=λe=>h (by rw[e];exact List.mem_cons_self ..);simp[this]
theorem IQ{c:Nat}{m:List Nat}:∀{l:List Nat},c∉l->(l++c::m).takeWhile (λx=>x != c)=l
 |[],_=>by simp
 |x::l,h=>by rw[List.cons_append,List.takeWhile_cons,IQ (λe=>h (List.mem_cons_of_mem _ e))];have:x≠c:=λe=>h (by rw[e];exact List.mem_cons_self ..);simp[this]
theorem Ek{c:Nat}:∀{l:List Nat},l.take (l.takeWhile λx=>x != c).length=l.takeWhile λx=>x != c
 |[]=>rfl|x::l=>by
  rw[List.takeWhile_cons];by_cases h:x=c
  .simp[h]
  .have:(x != c)=true:=by simp[h]
   rw[if_pos this,List.length_cons,List.take_succ_cons,Ek]
theorem Ug{z:PySem.Str}{c:Nat}:∃a b,pR z (aG [c])=[aG ((tl z).takeWhile λx=>x != c),a,b]:=by
 unfold pR;rw[zy];by_cases h:c∈tl z
 .rw[if_pos h];refine⟨aG [c],Builtin.Str.strSub z (((tl z).takeWhile λx=>x != c).length+(aG [c]).length) z.length,?_⟩;show[Builtin.Str.strSub z 0 _,_,_]=_;rw[pZ,Ek,List.drop_zero]
 .rw[if_neg h,Fe h,eT];exact⟨Str.empty,Str.empty,rfl⟩
theorem in1{b:PySem.Str}{c:Nat}:yC (aG [c]) b=decide (c∈tl b):=by
 unfold yC;rw[zy];by_cases h:c∈tl b
 .rw[if_pos h,decide_eq_true h];rfl
 .rw[if_neg h,decide_eq_false h];rfl
theorem FT{z:PySem.Str}{c:Nat}:Txt.startswith z (aG [c])=decide ((tl z).head?=some c):=by
 unfold Txt.startswith;rw[nq,aQ (z:=z),<- List.head?_eq_getElem?,show(aG [c]).length=1 from rfl];cases h:tl z with
 |nil=>simp|cons x l=>simp
theorem Kz{z:PySem.Str}{c:Nat}:Txt.endswith z (aG [c])=decide ((tl z).getLast?=some c):=by
 unfold Txt.endswith;rw[nq,aQ (z:=z),List.getLast?_eq_getElem?,show(aG [c]).length=1 from rfl];cases h:tl z with
 |nil=>simp|cons x l=>simp
def gE(c:Nat)(l:List Nat):List Nat:=((l.dropWhile λx=>x==c).reverse.dropWhile λx=>x==c).reverse
theorem tF{p:Nat->Bool}:∀{l:List Nat},l.drop (l.takeWhile p).length=l.dropWhile p
 |[]=>rfl|x::l=>by
  rw[List.takeWhile_cons,List.dropWhile_cons];by_cases h:p x=true
  .rw[if_pos h,if_pos h,List.length_cons,List.drop_succ_cons,tF]
  .rw[if_neg h,if_neg h];rfl
theorem GC{z:PySem.Str}{c:Nat}:Txt.stripChars z (aG [c])=aG (gE c (tl z)):=by
 have hg:(aG [c]).cps.contains=λx=>x==c:=by
  funext x
  show Array.contains #[c] x=(x==c);by_cases e:x=c
  .subst e;simp
  .have e':¬c=x:=λh=>e h.symm;simp[e,e']
 have e:stripped (λx=>x==c) true true z=aG (gE c (tl z)):=by
  unfold stripped stripHi stripLo;rw[if_pos rfl,if_pos rfl,pZ,aQ];show aG (((tl z).take ((tl z).length-(List.takeWhile (λx=>x==c) (List.drop (List.takeWhile (λx=>x==c) (tl z)).length (tl z)).reverse).length)).drop (List.takeWhile (λx=>x==c) (tl z)).length)=_;congr 1
  rw[tF];unfold gE;generalize hk:(List.takeWhile (λx=>x==c) (tl z)).length=k;have hd:(tl z).drop k=(tl z).dropWhile λx=>x==c:=by rw[<- hk,tF]
  generalize hm:((tl z).dropWhile λx=>x==c)=m at hd;rw[List.drop_take,hd];have hl:(tl z).length-k=m.length:=by rw[<- hd,List.length_drop]
  rw[<- tF (l:=m.reverse),List.reverse_drop,List.reverse_reverse,List.length_reverse];congr 1
  omega
 unfold Txt.stripChars Txt.stripBy;rw[hg];split
 .rename_i h;rw[<- e];unfold stripSame at h;rw[Bool.and_eq_true,beq_iff_eq,beq_iff_eq]at h;unfold stripped;rw[h.2,h.1,pZ,List.drop_zero,aQ,List.take_length,eT]
 .exact e
theorem Ar{l:List Nat}:∀{n a:Nat},a+n<=l.length->((List.range n).map λk=>a+k).filterMap (λi=>l[i]?)=(l.drop a).take n
 |0,a,_=>by simp
 |n+1,a,h=>by rw[List.range_succ,List.map_append,List.filterMap_append,Ar (by omega),List.take_add_one,List.getElem?_drop];obtain⟨x,hx⟩:∃x,l[a+n]?=some x:=⟨_,List.getElem?_eq_getElem (by omega)⟩;simp[hx]
def qQ(n:Nat)(d:Int):Option Int->Int
 |none=>d
 |some i=>max 0 (min (if i<0 then i+(n:Int) else i) n)
theorem EG{lo hi:Option Int}{a b n:Nat}(ha:qQ n 0 lo=(a:Int))(hb:qQ n n hi=(b:Int))(h:a<=b):Builtin.Str.strSliceIndices lo hi 1 n=(List.range (b-a)).map λk=>a+k:=by
 have e:Builtin.Str.strSliceIndices lo hi 1 n=sliceRange (qQ n 0 lo) (qQ n n hi) 1:=by cases lo<;>cases hi<;>rfl
 rw[e,ha,hb];unfold sliceRange;dsimp only;rw[if_pos (by decide)];have ec:(if(a:Int)<b then((b:Int)-a+1-1) / 1 else 0).toNat=b-a:=by split<;>omega
 rw[ec];refine List.map_congr_left λk _=>?_;omega
theorem mf{z:PySem.Str}{lo hi:Option Int}{a b:Nat}(ha:qQ z.length 0 lo=(a:Int))(hb:qQ z.length z.length hi=(b:Int))(h:a<=b)(hl:b<=z.length):Txt.slice z lo hi=aG (((tl z).drop a).take (b-a)):=by
 unfold Txt.slice;rw[EG ha hb h];have e:((List.range (b-a)).map λk=>a+k).filterMap (λi=>z.cps[i]?)=((tl z).drop a).take (b-a):=by rw[<- Ar (l:=tl z) (by rw[<- aQ];omega)];rw[show(λi=>z.cps[i]?)=λi=>(tl z)[i]? from funext λi=>(Array.getElem?_toList).symm]
 rw[e];split
 .rename_i hc;simp only[List.length_map,List.length_range,Bool.and_eq_true,beq_iff_eq]at hc;have h1:=hc.2;have h0:a=0:=by omega
  rw[h0,List.drop_zero,Nat.sub_zero,List.take_of_length_le (by rw[<- aQ];omega),eT]
 .rfl
theorem EM{z:PySem.Str}(h:1<=z.length):Txt.slice z (some 1) none=aG ((tl z).drop 1):=by rw[mf (a:=1) (b:=z.length) (by show max (0:Int) (min (if(1:Int)<0 then _ else 1) _)=_;rw[if_neg (by decide)];omega) rfl h (Nat.le_refl _),List.take_of_length_le (by rw[List.length_drop,<- aQ];omega)]
theorem EO{z:PySem.Str}(h:1<=z.length):Txt.slice z none (some (-1))=aG ((tl z).take (z.length-1)):=by rw[mf (a:=0) (b:=z.length-1) rfl (by show max (0:Int) (min (if(-1:Int)<0 then -1+(z.length:Int) else -1) _)=_;rw[if_pos (by decide)];omega) (Nat.zero_le _) (by omega),List.drop_zero,Nat.sub_zero]
theorem Qq{c:Nat}{n:Int}(h:0<=n):Txt.mul (aG [c]) n=aG (List.replicate n.toNat c):=by
 unfold Txt.mul;have hf:∀(k:Nat) (acc:Array Nat),(List.replicate k #[c]).foldl (λx1 x2=>x1++x2) acc=acc++(List.replicate k c).toArray:=λk=>by
  induction k with
  |zero=>intro acc;simp|succ k ih=>intro acc;rw[List.replicate_succ,List.foldl_cons,ih,List.replicate_succ];apply Array.ext';simp
 by_cases h1:n<1
 .rw[if_pos h1];have:n.toNat=0:=by omega
  rw[this];rfl
 .rw[if_neg h1];by_cases h2:n=1
  .subst h2;rfl
  .have:(n==1||(aG [c]).length==0)=false:=by rw[show((aG [c]).length==0)=false from rfl,Bool.or_false];simpa using h2
   rw[this,if_neg Bool.false_ne_true];show(⟨_⟩:PySem.Str)=⟨_⟩;rw[hf];simp
def dg(m:Nat):List Nat:=(Nat.toDigits 10 m).map Char.toNat
theorem dU{m:Nat}:tl (PySem.Str.ofString (toString (m:Int)))=dg m:=W.KIN.signs_num m
theorem iP{m:Nat}:dg m≠[]:=λh=>Nat.toDigits_ne_nil (List.map_eq_nil_iff.mp h)
theorem gd{m:Nat}:NumText.AllDigits (dg m):=λc hc=>by obtain⟨d,hd,rfl⟩:=List.mem_map.mp hc;have:=Nat.isDigit_of_mem_toDigits (by decide) (by decide) hd;unfold Char.isDigit at this;rw[Bool.and_eq_true,decide_eq_true_eq,decide_eq_true_eq]at this;obtain⟨h1,h2⟩:=this;exact⟨h1,h2⟩
theorem mT{m k:Nat}(hk:0<k):(dg m).length<=k↔m<10 ^ k:=by unfold dg;rw[List.length_map];exact Nat.length_toDigits_le_iff (by decide) hk
theorem NT{m:Nat}(h:m<18446744073709551616):intText? (PySem.Str.ofString (toString (m:Int)))=some (m:Int):=by have hl:(dg m).length<=20:=(mT (by decide)).mpr (Nat.lt_of_lt_of_le h (by decide));have:=intText_digits (x:=PySem.Str.ofString (toString (m:Int))) (by rw[show(PySem.Str.ofString (toString (m:Int))).cps.toList=dg m from dU];exact gd) (by rw[show(PySem.Str.ofString (toString (m:Int))).cps.toList=dg m from dU];exact iP) (by rw[aQ,dU];omega);rw[this,show(PySem.Str.ofString (toString (m:Int))).cps.toList=dg m from dU];rw[show NumText.digitsVal (dg m)=m from W.KIN.val_back m]
theorem gf:∀{m:Nat},(dg m).head?=some 48->m=0
 |m,h=>by
  induction m using Nat.strongRecOn with
  |_ m ih=>
   by_cases hm:m<10
   .unfold dg at h;rw[Nat.toDigits_of_lt_base hm]at h;have:m=0\/m=1\/m=2\/m=3\/m=4\/m=5\/m=6\/m=7\/m=8\/m=9:=by omega
    rcases this with rfl|rfl|rfl|rfl|rfl|rfl|rfl|rfl|rfl|rfl
    .rfl
    all_goals exact absurd h (by decide)
   .have e:dg m=dg (m / 10)++[((m%10).digitChar).toNat]:=by unfold dg;rw[Nat.toDigits_of_base_le (by decide) (by omega),List.map_append];rfl
    rw[e,List.head?_append]at h;cases hd:dg (m / 10) with
    |nil=>exact absurd hd iP|cons x l=>rw[hd]at h;have:=ih (m / 10) (by omega) (by rw[hd];exact h);omega
theorem vg:dg 0=[48]:=by decide
theorem pP{a b:Nat}(h:dg a=dg b):a=b:=by have h1:=W.KIN.val_back a;have h2:=W.KIN.val_back b;have h:(Nat.toDigits 10 a).map Char.toNat=(Nat.toDigits 10 b).map Char.toNat:=h;rw[<- h1,<- h2,h]
theorem EC{z:PySem.Str}:(iX z).map AV.str=(tl z).map λc=>AV.str (aG [c]):=by unfold iX;rw[List.map_map];rfl
section
variable {Xc:Nat->AH->Prop}{F:AM.Run}{σ:aA}{h:AH}{V1:AV->AH->Prop}{B1:Bool->AH->Prop}
theorem Ge{z:PySem.Str}{c:Nat}(q:V1 (.bl (decide ((tl z).head?=some c))) h):We Xc (dB .sw (.str z) (.str (aG [c]))) h V1:=by unfold We dB;simp only[FT];exact q
theorem OG{z:PySem.Str}{c:Nat}(q:V1 (.bl (decide ((tl z).getLast?=some c))) h):We Xc (dB .ew (.str z) (.str (aG [c]))) h V1:=by unfold We dB;simp only[Kz];exact q
theorem KW{z:PySem.Str}{c:Nat}(hz:z.length<=sizeLine)(q:V1 (.str (aG (gE c (tl z)))) h):We Xc (dB .st (.str z) (.str (aG [c]))) h V1:=by unfold We dB;simp only[if_pos hz,GC];exact q
theorem mn{c:Nat}:∀{l:List Nat},(bE c l).length<=l.length+1
 |[]=>Nat.le_refl _
 |x::l=>by
  have ih:=mn (c:=c) (l:=l);unfold bE;split
  .simpa using ih
  .split
   .simp
   .rename_i w ws e;rw[e]at ih;simp at ih ⊢;omega
theorem Ui{z:PySem.Str}{c:Nat}(hc:c<256):(Builtin.Str.partsBetween z (Builtin.Str.occurrences z (aG [c]) 0 z.length (z.length+1)) (aG [c]).length).length<=z.length+2:=by
 unfold Builtin.Str.partsBetween;dsimp only;rw[List.length_map,List.length_zip,List.length_cons,List.length_map,jv];have:(iR z c (z.length+1)).length<=z.length+1:=by unfold iR;exact Nat.le_trans (List.length_filter_le ..) (by simp)
 rw[List.length_take];omega
theorem KU{z:PySem.Str}{c:Nat}(hc:c<256)(hz:z.length+2<=sizeLine)(q:V1 (.ref h.nx) (h.new (.lst true ((bE c (tl z)).map λw=>.str (aG w))))):We Xc (dB .sp (.str z) (.str (aG [c]))) h V1:=by
 have ok:vQ z (aG [c])=true:=by
  unfold vQ;rw[show(aG [c]).length=1 from rfl];have h1:=Ui (z:=z) hc;rw[show(aG [c]).length=1 from rfl]at h1;have h2:(Txt.split z (aG [c])).length<=sizeLine:=by rw[Dr hc,List.length_map];have:=mn (c:=c) (l:=tl z);rw[<- aQ]at this;omega
  rw[decide_eq_true (show z.length<=sizeLine by omega),decide_eq_true h2,decide_eq_true (Nat.le_trans h1 hz)];rfl
 unfold We dB;simp only[if_pos ok,Dr hc];rw[List.map_map];exact q
theorem KS{z:PySem.Str}{c:Nat}(hz:z.length<=sizeLine)(q:∀a b,V1 (.tup [.str (aG ((tl z).takeWhile λx=>x != c)),.str a,.str b]) h):We Xc (dB .pa (.str z) (.str (aG [c]))) h V1:=by obtain⟨a,b,e⟩:=Ug (z:=z) (c:=c);unfold We dB;simp only[if_pos (show((aG [c]).length==0)=false/\z.length<=sizeLine from⟨rfl,hz⟩),e];exact q a b
theorem KA{c:Nat}{b:PySem.Str}(q:V1 (.bl (decide (c∈tl b))) h):We Xc (Cp.g .rE (.str (aG [c])) (.str b)) h V1:=by
 show We Xc (AM.mY false (.str (aG [c])) (.str b)) h V1;unfold We mY oW ij;first
  |simp only[dctOf,cK,Bool.false_eq_true,if_false,in1]|simp only[cK,Bool.false_eq_true,if_false,in1]
 exact q
theorem qr{z:PySem.Str}{lo hi:Option Int}(hz:z.length<=sizeLine)(q:V1 (.str (Txt.slice z lo hi)) h):We Xc (fF (.str z) lo hi) h V1:=by unfold We fF;simp only[if_pos hz];exact q
theorem qp{c:Nat}{n:Int}(h0:0<=n)(h1:n<=1000)(q:V1 (.str (aG (List.replicate n.toNat c))) h):We Xc (Op.g .mul (.str (aG [c])) (.int n)) h V1:=by
 have e:=Qq (c:=c) h0;have hl:(Txt.mul (aG [c]) n).length<=sizeLine:=by rw[e,aQ,fJ,List.length_replicate];have:=ED;omega
 show We Xc (AM.rB (.str (aG [c])) (.int n)) h V1;have ok:(aG [c]).length<=1000/\0<=n/\n<=1000/\(Txt.mul (aG [c]) n).length<=sizeLine:=⟨show 1<=1000 by decide,h0,h1,hl⟩;unfold We rB;dsimp only;rw[if_pos ok,e];exact q
theorem LA{ts:List PySem.Str}{u:PySem.Str}{i:Nat}(e:ts.idxOf? u=some i)(q:V1 (.int (i:Int)) h):We Xc (pB ts (.str u)) h V1:=by unfold We pB;simp only[e];exact q
theorem LB{neg:Bool}{aE:List (PySem.Str×AV)}{k:PySem.Str}{v:AV}(e:aE.lookup k=some v)(q:V1 (.bl (!neg)) h):We Xc (hU neg aE (.str k)) h V1:=by unfold We hU;simp only[e];exact q
theorem LC{neg:Bool}{aE:List (PySem.Str×AV)}{k:PySem.Str}(e:aE.lookup k=none)(q:V1 (.bl neg) h):We Xc (hU neg aE (.str k)) h V1:=by unfold We hU;simp only[e];exact q
theorem KC{m:Nat}{z:PySem.Str}(e:tl z=dg m)(hm:m<10 ^ 20)(q:V1 (.int (m:Int)) h):We Xc (Bi.g .int [.str z]) h V1:=by
 have hl:(dg m).length<=20:=(mT (by decide)).mpr hm;have hz:z.length<=640:=by rw[aQ,e];omega
 have hv:intText? z=some (m:Int):=by rw[intText_digits (x:=z) (by rw[show z.cps.toList=dg m from e];exact gd) (by rw[show z.cps.toList=dg m from e];exact iP) (by rw[aQ,e];omega),show z.cps.toList=dg m from e,show NumText.digitsVal (dg m)=m from W.KIN.val_back m]
 show We Xc (AM.tL [.str z]) h V1;unfold We tL;simp only[if_pos hz,hv];exact q
end
def fB(l:List Nat):List Nat:=gE 32 (l.takeWhile λx=>x != 35)
def gG(l:List Nat):List (List Nat):=(bE 32 (fB l)).filter λw=>decide (w≠[])
theorem GD{c:Nat}{l:List Nat}:(gE c l).length<=l.length:=by unfold gE;rw[List.length_reverse];refine Nat.le_trans (List.dropWhile_sublist _).length_le ?_;rw[List.length_reverse];exact(List.dropWhile_sublist _).length_le
theorem so{l:List Nat}:(fB l).length<=l.length:=Nat.le_trans GD (List.takeWhile_sublist _).length_le
theorem mk_eq{l m:List Nat}:(aG l=aG m)↔l=m:=⟨λh=>by have:=congrArg tl h;exact this,λh=>by rw[h]⟩
def wf(l:List Nat):List (List Nat):=(bE 32 l).filter λw=>decide (w≠[])
theorem LN{l:List Nat}:gG l=wf (fB l):=rfl
theorem mw{c:Nat}{l:List Nat}:bE c (c::l)=[]::bE c l:=by rw[bE,if_pos rfl]
theorem Dq{c x:Nat}{l w:List Nat}{ws:List (List Nat)}(h:¬x=c)(e:bE c l=w::ws):bE c (x::l)=(x::w)::ws:=by rw[bE,if_neg h,e]
theorem Dp{c:Nat}{m:List Nat}:∀{l:List Nat},bE c (l++c::m)=bE c l++bE c m
 |[]=>mw
 |x::l=>by
  have ih:=Dp (c:=c) (m:=m) (l:=l);rw[List.cons_append];by_cases h:x=c
  .subst h;rw[mw,mw,ih,List.cons_append]
  .cases hs:bE c l with
   |nil=>exact absurd hs (mq _)|cons w ws=>rw[hs]at ih;rw[Dq h hs,Dq h ih];rfl
theorem ck{l m:List Nat}:wf (l++32::m)=wf l++wf m:=by unfold wf;rw[Dp,List.filter_append]
theorem Fy:wf []=[]:=rfl
theorem oB{l:List Nat}:∀n,wf (List.replicate n 32++l)=wf l
 |0=>rfl|n+1=>by rw[List.replicate_succ,List.cons_append,show 32::(List.replicate n 32++l)=[]++32::(List.replicate n 32++l) from rfl,ck,oB n];rfl
theorem Fw{l:List Nat}:∀n,wf (l++List.replicate n 32)=wf l
 |0=>by simp
 |n+1=>by have:=oB (l:=[]) n;rw[List.append_nil]at this;rw[List.replicate_succ,ck,this,Fy,List.append_nil]
theorem qk{w:List Nat}(hw:32∉w)(h0:w≠[]):wf w=[w]:=by unfold wf;rw[mv hw,List.filter_cons,if_pos (by simpa using h0)];rfl
theorem OF{l w:List Nat}{n:Nat}(hw:32∉w)(h0:w≠[]):wf (l++List.replicate (n+1) 32++w)=wf l++[w]:=by rw[List.replicate_succ,List.append_assoc,List.cons_append,ck,oB,qk hw h0]
theorem JO:∀{l:List Nat},wf l=[]->∀c∈l,c=32
 |[],_,c,hc=>by cases hc
 |x::l,h,c,hc=>by
  by_cases hx:x=32
  .subst hx;have e:wf (32::l)=wf l:=oB (l:=l) 1;rw[e]at h;rcases List.mem_cons.mp hc with hc|hc
   .exact hc
   .exact JO h c hc
  .unfold wf bE at h;rw[if_neg hx]at h;cases hs:bE 32 l with
   |nil=>exact absurd hs (mq _)|cons w ws=>rw[hs]at h;simp at h
theorem Dy{c:Nat}{l:List Nat}:∃n m,l=List.replicate n c++gE c l++List.replicate m c:=by
 have rep:∀k:List Nat,∃n,k.takeWhile (λx=>x==c)=List.replicate n c:=λk=>⟨_,List.eq_replicate_iff.mpr ⟨rfl,λb hb=>by have:=List.all_takeWhile (p:=λx=>x==c) (l:=k);have:=List.all_eq_true.mp this b hb;simpa using this⟩⟩
 obtain⟨n,hn⟩:=rep l;obtain⟨m,hm⟩:=rep (l.dropWhile λx=>x==c).reverse;refine⟨n,m,?_⟩;have e1:=List.takeWhile_append_dropWhile (p:=λx=>x==c) (l:=l);have e2:=List.takeWhile_append_dropWhile (p:=λx=>x==c) (l:=(l.dropWhile λx=>x==c).reverse);rw[hn]at e1;rw[hm]at e2;have e3:=congrArg List.reverse e2;rw[List.reverse_reverse,List.reverse_append,List.reverse_replicate]at e3;unfold gE;rw[List.append_assoc,e3,e1]
theorem JP{l:List Nat}:wf (gE 32 l)=wf l:=by
 obtain⟨n,m,e⟩:=Dy (c:=32) (l:=l);have:wf (List.replicate n 32++gE 32 l++List.replicate m 32)=wf (gE 32 l):=by rw[Fw,oB]
 rw[<- this,<- e]
theorem OD{c x:Nat}{l:List Nat}(h:x∈gE c l):x∈l:=by obtain⟨n,m,e⟩:=Dy (c:=c) (l:=l);rw[e];exact List.mem_append_left _ (List.mem_append_right _ h)
theorem OC{c:Nat}{l:List Nat}(h:∀x∈l,x=c):gE c l=[]:=by have:l=List.replicate l.length c:=List.eq_replicate_iff.mpr ⟨rfl,h⟩;rw[this];unfold gE;rw[List.dropWhile_replicate];simp
section
variable {Xc:Nat->AH->Prop}{k:Nat}{h:AH}{R:AV->AH->Prop}
theorem bZ{f np nn:Nat}{b:aW}{args:List AV}(e:pg f=some (np,nn,b))(hl:args.length=np)(w:iH Xc (run pg k) b (args.map some++List.replicate (nn-np) none) h (λ_ h1=>R .aC h1) R (λ_ _=>False) (λ_ _=>False)):WC Xc (run pg (k+1) f args) h R:=WC.of (MI e hl w)
theorem LL{F:AM.Run}{σ:aA}{i:Nat}{z:PySem.Str}{Q:cF->AH->Prop}(e:σ[i]?=some (some (.str z)))(q:Q (eQ ((iX z).map AV.str)) h):We Xc (aZ F (.seq (.var i)) σ) h Q:=qs (oE e (LM q))
theorem oP:10000<=sizeLine:=by decide
theorem Iz{z:PySem.Str}(hz:z.length<=9990)(q:R (.str (aG (fB (tl z)))) h):WC Xc (run pg (k+1) Lf [.str z]) h R:=by have big:=oP;refine bZ rfl rfl (WC.of (KS (c:=35) (by omega) λa b=>WC.of (KW (c:=32) ?_ q)));rw[aQ,fJ];have:((tl z).takeWhile λx=>x != 35).length<=(tl z).length:=(List.takeWhile_sublist _).length_le;rw[<- aQ]at this;omega
theorem LO{z:PySem.Str}(hz:z.length<=9000)(q:∀h' n,Kp h h'->n<h'.nx->h'.ob n=some (.lst true ((gG (tl z)).map λw=>.str (aG w)))->R (.ref n) h'):WC Xc (run pg (k+2) Mh [.str z]) h R:=by
 have big:=oP;have bl:=so (l:=tl z);rw[<- aQ]at bl;have hl:(aG (fB (tl z))).length<=9000:=by rw[aQ,fJ];omega
 have sl:=mn (c:=32) (l:=fB (tl z));refine bZ rfl rfl (WC.of (LX (qs (aY _ (Iz (by omega) (WC.of (KU (c:=32) (by decide) (by omega) (Gi aV ?_))))))));rw[fJ];have kp:Kp h (h.new (.lst true ((bE 32 (fB (tl z))).map λw=>.str (aG w)))):=Kp.refl.new;have ol:(h.new (.lst true ((bE 32 (fB (tl z))).map λw=>.str (aG w)))).ob h.nx=some (.lst true ((bE 32 (fB (tl z))).map λw=>.str (aG w))):=aV;generalize h.new (.lst true ((bE 32 (fB (tl z))).map λw=>.str (aG w)))=h1 at *;refine Ki (bb:=true) (xs:=(bE 32 (fB (tl z))).map λw=>.str (aG w)) (λi ys σ h2=>h2=h1/\ys=(((bE 32 (fB (tl z))).take i).filter λw=>decide (w≠[])).map (λw=>AV.str (aG w))/\∃v,σ=[v]) (by rw[List.length_map,jT];omega) ⟨rfl,by simp,_,rfl⟩ (λi ys σ h2 z=>by rw[z.1];exact ol) ?_ ?_
 .rintro i y ys σ h2 hy ⟨rfl,rfl,v,rfl⟩
  obtain⟨w,hw,rfl⟩:=rL hy;have e:(bE 32 (fB (tl z))).take (i+1)=(bE 32 (fB (tl z))).take i++[w]:=by rw[List.take_add_one,hw];rfl
  refine qi (nZ _ (aB.ite (aB.nd (λhc=>aY _ ⟨?_,rfl,?_,_,rfl⟩) λhc=>⟨rfl,?_,_,rfl⟩)))
  .rw[List.length_map];have:=List.length_filter_le (λw=>decide (w≠[])) ((bE 32 (fB (tl z))).take i);rw[List.length_take]at this;omega
  .have hn:w≠[]:=λe=>hc (by rw[e];rfl);rw[e,List.filter_append,List.map_append];simp[hn]
  .have hn:w=[]:=mk_eq.mp hc;rw[e,List.filter_append,hn];simp
 .rintro ys σ h2 ⟨rfl,rfl,v,rfl⟩
  rw[List.length_map,List.take_length];exact q _ _ kp.new (Nat.lt_succ_self _) aV
theorem zj{z s:PySem.Str}(hz:z.length<=9000)(q:∀h',Kp h h'->R (.bl (decide (tl z≠[]/\∀c∈tl z,c∈tl s))) h'):WC Xc (run pg (k+1) Mb [.str z,.str s]) h R:=by
 have big:=oP;have e0:(z=("":PySem.Str))↔tl z=[]:=⟨λe=>by rw[e];rfl,λe=>by rw[<- eT (z:=z),e];rfl⟩;refine bZ rfl rfl (aB.nd (λhc=>?_) λhc=>?_)
 .have hn:tl z≠[]:=λe=>hc (e0.mpr e);refine WC.of (qv (LL rfl ?_));rw[EC];refine Kj (λi ys σ h2=>h2=h/\ys=((tl z).take i).map (λc=>AV.bl (decide (c∈tl s)))/\∃v,σ=[v,some (.str s)]) (by rw[List.length_map,<- aQ,jT];omega) ⟨rfl,rfl,_,rfl⟩ ?_ ?_
  .rintro i y ys σ h2 hy ⟨rfl,rfl,v,rfl⟩
   obtain⟨c,hcc,rfl⟩:=rL hy;have e:(tl z).take (i+1)=(tl z).take i++[c]:=by rw[List.take_add_one,hcc];rfl
   refine qi (aY _ (WC.of (KA ⟨by rw[List.length_map,List.length_take,<- aQ];omega,rfl,?_,_,rfl⟩)));rw[e,List.map_append];rfl
  .rintro ys σ h2 ⟨rfl,rfl,v,rfl⟩
   rw[List.length_map,List.take_length];refine WC.of (JR (bs:=(tl z).map λc=>decide (c∈tl s)) (by rw[aV,List.map_map];rfl) ?_);have:=q _ (Kp.refl.new (o:=.lst true ((tl z).map λc=>AV.bl (decide (c∈tl s)))));rw[show((tl z).map λc=>decide (c∈tl s)).all id=decide (tl z≠[]/\∀c∈tl z,c∈tl s) from ?_]
   .exact this
   .rw[Bool.eq_iff_iff,List.all_eq_true,decide_eq_true_eq];constructor
    .intro hh;exact⟨hn,λc hc=>of_decide_eq_true (hh _ (List.mem_map.mpr ⟨c,hc,rfl⟩))⟩
    .rintro ⟨_,hh⟩ b hb
     obtain⟨c,hc,rfl⟩:=List.mem_map.mp hb;exact decide_eq_true (hh c hc)
 .have:=q h Kp.refl;rw[decide_eq_false (λz=>z.1 (e0.mp hc))]at this;show R (.bl (!decide (z=("":PySem.Str)))) h;rw[decide_eq_true hc];exact this
end
theorem HZ{m:Nat}(h:0<m):tl (PySem.Str.ofString (toString (-(m:Int))))=45::dg m:=by
 obtain⟨k,rfl⟩:∃k,m=k+1:=⟨m-1,by omega⟩;have e:toString (-((k+1:Nat):Int))="-"++toString (k+1):=rfl;rw[e];have h2:tl (PySem.Str.ofString (toString (k+1)))=dg (k+1):=dU (m:=k+1);rw[<- h2];have s:∀x:String,tl (PySem.Str.ofString x)=x.toList.map Char.toNat:=λx=>by rw[PySem.Str.ofString_eq_toList]
 rw[s,s,String.toList_append];rfl
theorem yc{c:Nat}:c∈tl ("0123456789":PySem.Str)↔48<=c/\c<=57:=by rw[show tl ("0123456789":PySem.Str)=List.range' 48 10 from by decide +kernel,List.mem_range'_1];omega
theorem ik{c:Nat}:c∈tl ("abcdefghijklmnopqrstuvwxyz":PySem.Str)↔97<=c/\c<=122:=by rw[show tl ("abcdefghijklmnopqrstuvwxyz":PySem.Str)=List.range' 97 26 from by decide +kernel,List.mem_range'_1];omega
theorem Ku{m g:Nat}(h:m<=g):(dg m).length<=(dg g).length:=by have h0:0<(dg g).length:=List.length_pos_iff.mpr iP;exact(mT h0).mpr (Nat.lt_of_le_of_lt h ((mT h0).mp (Nat.le_refl _)))
theorem jG{m c:Nat}(h:c∈dg m):48<=c/\c<=57:=gd c h
theorem tE{m:Nat}(h:m<18446744073709551616):(dg m).length<=20:=(mT (by decide)).mpr (Nat.lt_of_lt_of_le h (by decide))
theorem vi:∀{c:Nat},48<=c->c<=57->dg (c-48)=[c]:=by
 intro c h1 h2;have:c=48\/c=49\/c=50\/c=51\/c=52\/c=53\/c=54\/c=55\/c=56\/c=57:=by omega
 rcases this with rfl|rfl|rfl|rfl|rfl|rfl|rfl|rfl|rfl|rfl<;>decide
theorem Kv{m c:Nat}(hm:0<m)(h1:48<=c)(h2:c<=57):dg (m*10+(c-48))=dg m++[c]:=by
 unfold dg;rw[Nat.toDigits_of_base_le (by decide) (by omega),List.map_append,show(m*10+(c-48)) / 10=m by omega,show(m*10+(c-48))%10=c-48 by omega];congr 1
 have:=vi h1 h2;unfold dg at this;rw[Nat.toDigits_of_lt_base (by omega)]at this;exact this
theorem canon:∀(n:Nat) (l:List Nat),l.length=n->l≠[]->(∀c∈l,48<=c/\c<=57)->(l=[48]\/l.head?≠some 48)->∃m,l=dg m
 |0,l,e,h,_,_=>absurd (List.eq_nil_of_length_eq_zero e) h
 |n+1,l,e,h,a,c=>by
  obtain⟨k,x,rfl⟩:∃k x,l=k++[x]:=⟨l.dropLast,l.getLast h,(List.dropLast_concat_getLast h).symm⟩;have hx:=a x (by simp);by_cases hk:k=[]
  .subst hk;exact⟨x-48,(vi hx.1 hx.2).symm⟩
  .have hh:k.head?≠some 48:=by
    rcases c with c|c
    .have:=congrArg List.length c;simp at this;exact absurd this hk
    .cases k with
     |nil=>exact absurd rfl hk|cons y k=>exact c
   obtain⟨m,rfl⟩:=canon n k (by simpa using e) hk (λy hy=>a y (List.mem_append_left _ hy)) (.inr hh);have hm:0<m:=Nat.pos_of_ne_zero λz=>hh (by rw[z];rfl);exact⟨m*10+(x-48),(Kv hm hx.1 hx.2).symm⟩
def fP(l:List Nat)(g:Nat)(v:AV):Prop:=(∃m,m<=g/\l=dg m/\v = .int m)\/((∀m,m<=g->l≠dg m)/\v = .aC)
def fO(l:List Nat):Prop:=l≠[]/\(∀c∈l,97<=c/\c<=122)/\l.length<=8
def cB(s:Int):List Nat:=if 0<=s then dg s.toNat else 45::dg s.natAbs
def fA(l:List Nat)(v:AV):Prop:=(∃s:Int,-999<=s/\s<=999/\l=cB s/\v = .int s)\/((∀s:Int,-999<=s->s<=999->l≠cB s)/\v = .aC)
def gX(l:List Nat)(v:AV):Prop:=(fO l/\v = .str (aG l))\/(¬fO l/\fP l 400 v)
def oG(l:List Nat)(v:AV):Prop:=(∃x:Nat,x<8/\l=[97+x]/\v = .int x)\/((∀x:Nat,x<8->l≠[97+x])/\v = .aC)
def mH(f:PySem.Str)(l:List Nat)(v:AV):Prop:=if f="box" then oG l v else if f="step" then fA l v else if f="target" then gX l v else fP l 18446744073709551615 v
theorem sO{s:Int}:tl (PySem.Str.ofString (toString s))=cB s:=by
 unfold cB;by_cases h:0<=s
 .obtain⟨m,rfl⟩:=Int.eq_ofNat_of_zero_le h;rw[if_pos h];exact dU
 .rw[if_neg h];have:=HZ (m:=s.natAbs) (by omega);rwa [show -((s.natAbs:Nat):Int)=s by omega]at this
section
variable {Xc:Nat->AH->Prop}{k:Nat}{h:AH}{R:AV->AH->Prop}
theorem Oe{z:PySem.Str}(hz:z.length<=9000)(q:∀h' b,Kp h h'->(b=true↔fO (tl z))->R (.bl b) h'):WC Xc (run pg (k+2) Lh [.str z]) h R:=by
 have big:=oP;have e:(tl z≠[]/\∀c∈tl z,c∈tl ("abcdefghijklmnopqrstuvwxyz":PySem.Str))↔tl z≠[]/\∀c∈tl z,97<=c/\c<=122:=and_congr_right λ_=>⟨λh c hc=>ik.mp (h c hc),λh c hc=>ik.mpr (h c hc)⟩;refine bZ rfl rfl (zj hz λh1 k1=>aB.dc (λhc=>WC.of (sR (by omega) ?_)) λhc=>?_)
 .refine q _ _ k1 ⟨λz8=>?_,λlb=>decide_eq_true ?_⟩
  .have:=of_decide_eq_true z8;exact⟨(e.mp hc).1,(e.mp hc).2,by rw[<- aQ];omega⟩
  .have:=lb.2.2;rw[<- aQ]at this;omega
 .exact q _ _ k1 ⟨λz=>absurd (of_decide_eq_true z) hc,λlb=>absurd (e.mpr ⟨lb.1,lb.2.1⟩) hc⟩
theorem yR{z:PySem.Str}{g:Nat}(hz:z.length<=9000)(hg:g<18446744073709551616)(q:∀h' v,Kp h h'->fP (tl z) g v->R v h'):WC Xc (run pg (k+2) Mc [.str z,.int g]) h R:=by
 have big:=oP;have lg:tl (PySem.Str.ofString (toString (g:Int)))=dg g:=dU;have l2:(PySem.Str.ofString (toString (g:Int))).length<=20:=by rw[aQ,lg];exact tE hg
 have no:∀h',Kp h h'->(∀m,m<=g->tl z≠dg m)->R .aC h':=λh' k1 n=>q h' _ k1 (.inr ⟨n,rfl⟩);refine bZ rfl rfl (zj hz λh1 k1=>aB.nd (λhc=>?_) λhc=>?_)
 .refine no _ k1 λm hm e=>hc ⟨by rw[e];exact iP,λc h'=>yc.mpr (jG (e▸h'))⟩
 .obtain⟨h0,ha⟩:=hc;refine WC.of (sR (by omega) (WC.of (sS (sE (by omega) (by omega)) (WC.of (sR (z:=PySem.Str.ofString (toString (g:Int))) (by omega) (aB.dc (λhd=>?_) λhd=>?_))))))
  .refine no _ k1 λm hm e=>?_;have:=Ku hm;rw[<- e,<- lg,<- aQ,<- aQ]at this;omega
  .have fin:(tl z=[48]\/(tl z).head?≠some 48)->WC Xc (Bi.g .int [.str z]) h1 λv h2=>iH Xc (run pg (k+1)) (.cons (.ret (.ite (.cmp .le (.var 2) (.var 1)) (.var 2) (.val .aC))) .nil) [some (.str z),some (.int g),some v] h2 (λ_ h1=>R .aC h1) R (λ_ _=>False) (λ_ _=>False):=λhh=>by
    obtain⟨m,hm⟩:=canon _ _ rfl h0 (λc hc=>yc.mp (ha c hc)) hh;have ml:(dg m).length<=20:=by rw[<- hm,<- aQ];omega
    refine WC.of (KC hm ((mT (by decide)).mp ml) (aB.dc (λhc=>q _ _ k1 (.inl ⟨m,by omega,hm,rfl⟩)) λhc=>no _ k1 λm' hm' e=>?_));have:=pP (hm.symm.trans e);omega
   refine aB.nd (λhe=>WC.of (Ge (c:=48) (aB.dc (λhf=>no _ k1 λm hm e=>?_) λhf=>fin (.inr hf)))) λhe=>fin (.inl (by rw[he];rfl));rw[e]at hf;have:=gf hf;subst this;exact he (nk (by rw[e,vg];rfl))
theorem kA{m:Nat}:(dg m).head?≠some 45:=λe=>by have:=jG (m:=m) (List.mem_of_head? e);omega
theorem FV{z:PySem.Str}(hz:z.length<=9000)(q:∀h' v,Kp h h'->fA (tl z) v->R v h'):WC Xc (run pg (k+3) Mf [.str z]) h R:=by
 have big:=oP;refine bZ rfl rfl (WC.of (Ge (c:=45) (aB.nd (λhc=>yR (g:=999) hz (by decide) λh1 v k1 r=>q _ _ k1 ?_) λhc=>?_)))
 .rcases r with⟨m,hm,e,ev⟩|⟨n,ev⟩
  .refine .inl ⟨m,by omega,by omega,?_,ev⟩;unfold cB;rw[if_pos (by omega),Int.toNat_natCast,e]
  .refine .inr ⟨λs h0 h1 e=>?_,ev⟩;unfold cB at e;by_cases hs:0<=s
   .rw[if_pos hs]at e;exact n s.toNat (by omega) e
   .rw[if_neg hs]at e;exact hc (by rw[e];rfl)
 .obtain⟨l,hl⟩:∃l,tl z=45::l:=by
   cases ht:tl z with
   |nil=>rw[ht]at hc;cases hc|cons c l=>rw[ht]at hc;cases hc;exact⟨l,rfl⟩
  have z1:1<=z.length:=by rw[aQ,hl];simp
  have e1:Txt.slice z (some 1) none=aG l:=by rw[EM z1,hl];rfl
  refine eX (WC.of (qr (by omega) ?_));rw[e1];have zl:(aG l).length<=9000:=by rw[aQ,fJ];rw[aQ,hl,List.length_cons]at hz;omega
  refine yR (g:=999) zl (by decide) λh1 v k1 r=>?_;rcases r with⟨m,hm,e,rfl⟩|⟨n,rfl⟩
  .rw[fJ]at e;refine aB.dc (λhd=>q _ _ k1 (.inr ⟨λs h0 h1 e2=>?_,rfl⟩)) λhd=>q _ _ k1 (.inl ⟨-(m:Int),by omega,by omega,?_,rfl⟩)
   .rw[hl]at e2;unfold cB at e2;by_cases hs:0<=s
    .rw[if_pos hs]at e2;exact kA (by rw[<- e2];rfl)
    .rw[if_neg hs,List.cons.injEq]at e2;have:=pP (e.symm.trans e2.2);omega
   .unfold cB;rw[if_neg (by omega),hl,e,show(-(m:Int)).natAbs=m by omega]
  .refine q _ _ k1 (.inr ⟨λs h0 h1 e2=>?_,rfl⟩);rw[hl]at e2;unfold cB at e2;by_cases hs:0<=s
   .rw[if_pos hs]at e2;exact kA (by rw[<- e2];rfl)
   .rw[if_neg hs,List.cons.injEq]at e2;exact n s.natAbs (by omega) e2.2
theorem HR{z:PySem.Str}(hz:z.length<=9000)(q:∀h' v,Kp h h'->gX (tl z) v->R v h'):WC Xc (run pg (k+3) Mg [.str z]) h R:=by
 refine bZ rfl rfl (Oe hz λh1 b k1 hb=>aB.by (λe=>?_) λe=>yR (g:=400) hz (by decide) λh2 v k2 r=>q _ _ (k1.trans k2) (.inr ⟨λlb=>?_,r⟩))
 .refine q _ _ k1 (.inl ⟨hb.mp e,?_⟩);rw[eT]
 .rw[hb.mpr lb]at e;cases e
theorem yb{z:PySem.Str}:∀{ts:List PySem.Str},z∉ts->pH (.str z) (ts.map AV.str)=false
 |[],_=>rfl|t::ts,hn=>by rw[List.mem_cons,not_or]at hn;unfold pH;rw[List.map_cons,List.any_cons,show xO (.str t) (.str z)=decide (t=z) from rfl,decide_eq_false (λe=>hn.1 e.symm)];exact yb hn.2
theorem Jc{z:PySem.Str}(q:∀v,oG (tl z) v->R v h):WC Xc (run pg (k+1) Lg [.str z]) h R:=by
 refine bZ rfl rfl ?_;by_cases hb:∃x:Nat,x<8/\tl z=[97+x]
 .obtain⟨x,hx,e⟩:=hb;obtain rfl:z=aG [97+x]:=nk e;have qq:=q _ (.inl ⟨x,hx,e,rfl⟩);have:x=0\/x=1\/x=2\/x=3\/x=4\/x=5\/x=6\/x=7:=by omega
  rcases this with rfl|rfl|rfl|rfl|rfl|rfl|rfl|rfl<;>exact WC.of (Fz (xs:=[.str "a",.str "b",.str "c",.str "d",.str "e",.str "f",.str "g",.str "h"]) rfl rfl (WC.of (LA rfl qq)))
 .have nb:∀x:Nat,x<8->tl z≠[97+x]:=λx hx e=>hb ⟨x,hx,e⟩;have qq:=q _ (.inr ⟨nb,rfl⟩);refine WC.of (Fz (xs:=[.str "a",.str "b",.str "c",.str "d",.str "e",.str "f",.str "g",.str "h"]) rfl rfl ?_);refine aB.f (yb (ts:=["a","b","c","d","e","f","g","h"]) λhm=>?_) qq;simp only[List.mem_cons,List.not_mem_nil,or_false]at hm;rcases hm with e|e|e|e|e|e|e|e
  .exact nb 0 (by decide) (by rw[e];rfl)
  .exact nb 1 (by decide) (by rw[e];rfl)
  .exact nb 2 (by decide) (by rw[e];rfl)
  .exact nb 3 (by decide) (by rw[e];rfl)
  .exact nb 4 (by decide) (by rw[e];rfl)
  .exact nb 5 (by decide) (by rw[e];rfl)
  .exact nb 6 (by decide) (by rw[e];rfl)
  .exact nb 7 (by decide) (by rw[e];rfl)
theorem Uh{f z:PySem.Str}(hz:z.length<=9000)(q:∀h' v,Kp h h'->mH f (tl z) v->R v h'):WC Xc (run pg (k+4) Md [.str f,.str z]) h R:=by unfold mH at q;refine bZ rfl rfl (aB.dc (λh1=>Jc λv r=>q _ _ Kp.refl (by rw[if_pos h1];exact r)) λh1=>aB.dc (λh2=>FV hz λh' v k1 r=>q _ _ k1 (by rw[if_neg h1,if_pos h2];exact r)) λh2=>aB.dc (λh3=>HR hz λh' v k1 r=>q _ _ k1 (by rw[if_neg h1,if_neg h2,if_pos h3];exact r)) λh3=>yR (g:=18446744073709551615) hz (by decide) λh' v k1 r=>q _ _ k1 (by rw[if_neg h1,if_neg h2,if_neg h3];exact r))
end
def gU:List PySem.Str->List (List Nat)->List AV->Prop
 |[],[],[]=>True
 |f::fs,w::ws,v::vs=>mH f w v/\gU fs ws vs
 |_,_,_=>False
theorem gU.snoc{f:PySem.Str}{w:List Nat}{v:AV}(p:mH f w v):∀{fs:List PySem.Str} {ws:List (List Nat)} {vs:List AV},gU fs ws vs->gU (fs++[f]) (ws++[w]) (vs++[v])
 |[],[],[],_=>⟨p,trivial⟩
 |_::_,_::_,_::_,h=>⟨h.1,gU.snoc p h.2⟩
 |[],[],_::_,h=>h.elim
 |[],_::_,_,h=>h.elim
 |_::_,[],_,h=>h.elim
 |_::_,_::_,[],h=>h.elim
def kZ(ws:List (List Nat))(v:AV):Prop:=match ws with
 |[]=>v = .aC
 |w::r=>match dI.lookup (aG w) with
  |none=>v = .aC
  |some fs=>if r.length=fs.length then∃vs,gU fs r vs/\v=(if vs.any cV=true then .aC else .tup (.str (aG w)::vs)) else v = .aC
theorem oq{k:PySem.Str}:vV.lookup k=(dI.lookup k).map λts=>AV.tup (ts.map AV.str):=by
 unfold vV;generalize dI=l;induction l with
 |nil=>rfl|cons p l ih=>
  rw[List.map_cons,List.lookup_cons,List.lookup_cons];cases hb:(k==p.1) with
  |true=>rfl|false=>exact ih
theorem Mn{k:PySem.Str}{fs:List PySem.Str}(h:dI.lookup k=some fs):fs.length<=3:=by
 have all:dI.all (λp=>decide (p.2.length<=3))=true:=by decide +kernel
 exact of_decide_eq_true (List.all_eq_true.mp all _ (rH h))
theorem Kk{Xc:Nat->AH->Prop}{σ:aA}{h:AH}{L1:List AV->AH->Prop}{n:Nat}{bb:Bool}{xs ys:List AV}{g:AV->aA->M aA}{me:aA->M AV}(I:Nat->List AV->aA->AH->Prop)(hl:xs.length=ys.length)(hn:xs.length<FU)(i0:I 0 [] σ h)(il:∀i zs σ h,I i zs σ h->h.ob n=some (.lst bb ys))
  (turn:∀(i:Nat) x y zs σ h,xs[i]?=some x->ys[i]?=some y->I i zs σ h->Wp (g (.tup [x,y]) σ) h λσ1 h1=>Wp (me σ1) h1 λz h3=>zs.length<sizeLine/\I (i+1) (zs++[z]) σ1 h3)
  (done:∀zs σ h,I xs.length zs σ h->L1 zs h):We Xc (bU (mF (eQ xs) (eN n)) g (λ_=>M.ret true) me FU 0 [] σ) h L1:=by
 refine qW I xs.length (λi zs σ h hi hI=>?_) (λzs σ h hI=>⟨by simp[mF,eQ,nH (il _ _ _ _ hI)],done zs σ h hI⟩) FU 0 [] σ h (Nat.zero_le _) (by omega) i0;have e1:=List.getElem?_eq_getElem hi;have e2:=List.getElem?_eq_getElem (show i<ys.length by omega);exact⟨_,by simp only[mF,eQ,e1,nH (il _ _ _ _ hI),e2],(turn i _ _ zs σ h e1 e2 hI).mono λσ1 h1 w=>oz w⟩
theorem jW{x:AV}{xs:List AV}:bJ (x::xs) 0=some x:=by rw[show(0:Int)=((0:Nat):Int) from rfl,L2.xA];rfl
theorem az{c:Nat}:∀{l w:List Nat},w∈bE c l->w.length<=l.length
 |[],w,h=>by rw[List.mem_singleton.mp h];exact Nat.le_refl _
 |x::l,w,h=>by
  unfold bE at h;split at h
  .rcases List.mem_cons.mp h with rfl|h
   .exact Nat.zero_le _
   .exact Nat.le_succ_of_le (az h)
  .split at h
   .rename_i e;exact absurd e (mq _)
   .rename_i u us e;rcases List.mem_cons.mp h with rfl|h
    .have:=az (c:=c) (l:=l) (w:=u) (by rw[e];exact .head _);simp only[List.length_cons];omega
    .exact Nat.le_succ_of_le (az (by rw[e];exact .tail _ h))
theorem LP{l w:List Nat}(h:w∈gG l):w.length<=l.length:=Nat.le_trans (az (List.mem_filter.mp h |>.1)) so
section
variable {Xc:Nat->AH->Prop}{k:Nat}{h:AH}{R:AV->AH->Prop}
theorem DV{z:PySem.Str}(hz:z.length<=9000)(q:∀h' v,Kp h h'->kZ (gG (tl z)) v->R v h'):WC Xc (run pg (k+5) Me [.str z]) h R:=by
 have big:=oP;refine bZ rfl rfl (LO hz λh1 n k1 hn ob=>?_);have k2:Kp h (h1.new (.lst true [])):=k1.new;have ob2:(h1.new (.lst true [])).ob n=some (.lst true ((gG (tl z)).map λw=>AV.str (aG w))):=(dH (Nat.ne_of_lt hn)).trans ob;have hn2:n<(h1.new (.lst true [])).nx:=Nat.lt_succ_of_lt hn;refine WC.of (JU rfl (Lc ob2 aV) ?_);generalize h1.new (.lst true [])=h2 at k2 ob2 hn2 ⊢;clear ob hn k1;have wl:∀w∈gG (tl z),(aG w).length<=9000:=λw hw=>by rw[aQ,fJ];have:=LP hw;rw[<- aQ]at this;omega
 revert q
 generalize gG (tl z)=ws at ob2 wl ⊢;intro q;cases ws with
 |nil=>exact q _ _ k2 rfl|cons w r=>
  unfold kZ at q;dsimp only at q;refine WC.of (cD (bR ob2) jW ?_);cases hf:dI.lookup (aG w) with
  |none=>refine WC.of (LC (by rw[oq,hf];rfl) (q _ _ k2 ?_));rw[hf]
  |some fs=>
   have fl:=Mn hf;rw[hf]at q;dsimp only at q;refine WC.of (LB (by rw[oq,hf];rfl) (WC.of (cD (bR ob2) jW (WC.of (LD (by rw[oq,hf];rfl) (WC.of (cq (bR ob2) ?_)))))));by_cases hl:r.length=fs.length
   case neg=>exact aB.nf (by simp;omega) (q _ _ k2 (by rw[if_neg hl]))
   refine aB.nt (by simp[hl]) (WC.of (qv (Gj (kT _ (eX (WC.of (wG ob2 ?_)))))));have k3:Kp h (h2.new (.lst true (eM ((w::r).map λw=>AV.str (aG w)) (some 1) none))):=k2.new;have ob3:=(dH (o:=.lst true (eM ((w::r).map λw=>AV.str (aG w)) (some 1) none)) (Nat.ne_of_lt hn2)).trans ob2;have ob4:(h2.new (.lst true (eM ((w::r).map λw=>AV.str (aG w)) (some 1) none))).ob h2.nx=some (.lst true (r.map λw=>AV.str (aG w))):=by rw[aV,show(some 1:Option Int)=some ((1:Nat):Int) from rfl,uy];rfl
   have hn3:n<(h2.new (.lst true (eM ((w::r).map λw=>AV.str (aG w)) (some 1) none))).nx:=Nat.lt_succ_of_lt hn2;have hn4:h2.nx<(h2.new (.lst true (eM ((w::r).map λw=>AV.str (aG w)) (some 1) none))).nx:=Nat.lt_succ_self _;generalize h2.nx=m at ob4 hn4 ⊢;generalize h2.new (.lst true (eM ((w::r).map λw=>AV.str (aG w)) (some 1) none))=h3 at k3 ob3 ob4 hn3 hn4 ⊢;refine⟨_,_,_,_,rfl,rfl,Mr ob4,?_⟩;refine Kk (n:=m) (xs:=fs.map AV.str) (ys:=r.map λw=>AV.str (aG w)) (λi zs σ h'=>Kp h3 h'/\zs.length=min i fs.length/\gU (fs.take i) (r.take i) zs/\∃a b,σ=[a,b]) (by simp[hl]) (by rw[List.length_map,jT];omega) ⟨Kp.refl,by simp,trivial,_,_,rfl⟩ (λi zs σ h' y=>y.1.get hn4 ob4) ?_ ?_
   .rintro i x y zs σ h' e1 e2 ⟨kp,zl,pr,a,b,rfl⟩
    obtain⟨f,hf1,rfl⟩:=rL e1;obtain⟨u,hu,rfl⟩:=rL e2;have hi:=(List.getElem?_eq_some_iff.mp hf1).1;refine JI (aY _ (Uh (wl u (.tail _ (List.mem_of_getElem? hu))) λh5 v k5 pv=>⟨by omega,kp.trans k5,by rw[List.length_append,zl,List.length_singleton];omega,?_,_,_,rfl⟩));rw[List.take_add_one,List.take_add_one,hf1,hu];exact gU.snoc pv pr
   .rintro zs σ h5 ⟨kp,zl,pr,a,b,rfl⟩
    rw[List.length_map,Nat.min_self]at zl;rw[List.length_map,List.take_length,<- hl,List.take_length]at pr;have k6:Kp h3 (h5.new (.lst true zs)):=kp.new;have ob6:(h5.new (.lst true zs)).ob h5.nx=some (.lst true zs):=aV;have hn6:h5.nx<(h5.new (.lst true zs)).nx:=Nat.lt_succ_self _;generalize h5.nx=j at ob6 hn6 ⊢;generalize h5.new (.lst true zs)=h6 at k6 ob6 hn6 ⊢;refine WC.of (qv (qs (oE rfl (Gi ob6 ?_))));refine Kh (bb:=true) (xs:=zs) (λi ys σ h'=>h'=h6/\ys=(zs.take i).map (λv=>AV.bl (cV v))/\∃a,σ=[a]) (by rw[jT];omega) ⟨rfl,rfl,_,rfl⟩ (λi zs σ h' y=>by rw[y.1];exact ob6) ?_ ?_
    .rintro i x ys σ h' hx ⟨rfl,rfl,a,rfl⟩
     refine qi (aY _ ⟨by rw[List.length_map,List.length_take];omega,rfl,?_,_,rfl⟩);rw[List.take_add_one,hx,List.map_append];rfl
    .rintro ys σ h' ⟨rfl,rfl,a,rfl⟩
     rw[List.take_length];have ka:Kp h' (h'.new (.lst true (zs.map λv=>AV.bl (cV v)))):=Kp.refl.new;refine WC.of (JS (bs:=zs.map cV) (by rw[aV,List.map_map];rfl) ?_);rw[show(zs.map cV).any id=zs.any cV from by rw[List.any_map];rfl];have qq:=q _ _ (k3.trans (k6.trans ka)) (by rw[if_pos hl];exact⟨zs,pr,rfl⟩);refine aB.by (λhb=>by rw[if_pos hb]at qq;exact qq) λhb=>?_;rw[if_neg (by rw[hb];exact Bool.false_ne_true)]at qq;exact WC.of (cD (bR ((k6.trans ka).get hn3 ob3)) jW (WC.of (Gf (bR (ka.get hn6 ob6)) (WC.of (qm (by simp only[List.length_cons,List.length_nil];omega) qq)))))
end
structure Wd where
 t:PySem.Str
 f:PySem.Str
 v:AV
inductive TT where
 |num (m:Nat)
 |gL (l:PySem.Str)
inductive Rk where
 |way (w:jU) (x y z:Nat)|set (x m:Nat)|move (x y:Nat)|ls (st:Bool) (x y:Nat) (s:Int)|dR (x:Nat) (t:TT)|go (t:TT)|fault (m:Nat)
abbrev nS(m:Int):PySem.Str:=PySem.Str.ofString (toString m)
def wB(x:Nat):Wd:=⟨aG [97+x],"box",.int x⟩
def wW(m:Nat):Wd:=⟨nS m,"word",.int m⟩
def wF(s:Int):Wd:=⟨nS s,"step",.int s⟩
def gR:TT->Wd
 |.num m=>⟨nS m,"target",.int m⟩
 |.gL l=>⟨l,"target",.str l⟩
def TT.ok:TT->Prop
 |.num m=>m<=400
 |.gL l=>fO (tl l)
def tS(b:Bool):PySem.Str:=if b then "store" else "load"
def Rk.nm:Rk->PySem.Str
 |.way w _ _ _=>w.nm | .set _ _=>"set" |.move _ _=>"move" |.ls b _ _ _=>tS b | .dR _ _=>"jump" |.go _=>"go" |.fault _=>"fault"
def Rk.ps:Rk->List Wd
 |.way _ x y z=>[wB x,wB y,wB z] | .set x m=>[wB x,wW m] | .move x y=>[wB x,wB y] | .ls _ x y s=>[wB x,wB y,wF s] | .dR x t=>[wB x,gR t] | .go t=>[gR t] | .fault m=>[wW m]
def Rk.ok:Rk->Prop
 |.way _ x y z=>x<8/\y<8/\z<8 | .set x m=>x<8/\m<18446744073709551616 | .move x y=>x<8/\y<8 | .ls _ x y s=>x<8/\y<8/\-999<=s/\s<=999 | .dR x t=>x<8/\t.ok | .go t=>t.ok | .fault m=>m<18446744073709551616
def Rk.av(r:Rk):AV:=.tup (.str r.nm::r.ps.map (·.v))
def Rk.tx(r:Rk):List PySem.Str:=r.nm::r.ps.map (·.t)
inductive jV:Wd->Prop
 |box {x:Nat} (h:x<8):jV (wB x)
 |word {m:Nat} (h:m<18446744073709551616):jV (wW m)
 |step {s:Int} (h:-999<=s) (h':s<=999):jV (wF s)
 |vX {t:TT} (h:t.ok):jV (gR t)
theorem Rk.jw{r:Rk}(h:r.ok):∀p∈r.ps,jV p:=by
 cases r<;>intro p hp<;>simp only[Rk.ps,List.mem_cons,List.not_mem_nil,or_false]at hp
 .rcases hp with rfl|rfl|rfl
  .exact .box h.1
  .exact .box h.2.1
  .exact .box h.2.2
 .rcases hp with rfl|rfl
  .exact .box h.1
  .exact .word h.2
 .rcases hp with rfl|rfl
  .exact .box h.1
  .exact .box h.2
 .rcases hp with rfl|rfl|rfl
  .exact .box h.1
  .exact .box h.2.1
  .exact .step h.2.2.1 h.2.2.2
 .rcases hp with rfl|rfl
  .exact .box h.1
  .exact .vX h.2
 .subst hp;exact .vX h
 .subst hp;exact .word h
theorem tI(r:Rk):dI.lookup r.nm=some (r.ps.map (·.f)):=by
 cases r with
 |way w x y z=>cases w<;>rfl|ls b x y s=>cases b<;>rfl|dR x t=>cases t<;>rfl|go t=>cases t<;>rfl|_=>rfl
theorem fP.is{m g:Nat}{v:AV}(h:fP (dg m) g v)(hm:m<=g):v = .int m:=by
 rcases h with⟨m',_,e,rfl⟩|⟨n,_⟩
 .rw[pP e]
 .exact absurd rfl (n m hm)
theorem fP.no{l:List Nat}{g:Nat}{v:AV}(h:fP l g v)(hl:∀m,m<=g->l≠dg m):v = .aC:=by
 rcases h with⟨m',h1,e,rfl⟩|⟨n,e⟩
 .exact absurd e (hl m' h1)
 .exact e
theorem Cz{a b:Int}(h:cB a=cB b):a=b:=by
 unfold cB at h;by_cases ha:0<=a<;>by_cases hb:0<=b
 .rw[if_pos ha,if_pos hb]at h;have:=pP h;omega
 .rw[if_pos ha,if_neg hb]at h;exact absurd (show(dg a.toNat).head?=some 45 by rw[h];rfl) kA
 .rw[if_neg ha,if_pos hb]at h;exact absurd (show(dg b.toNat).head?=some 45 by rw[<- h];rfl) kA
 .rw[if_neg ha,if_neg hb,List.cons.injEq]at h;have:=pP h.2;omega
theorem fA.is{s:Int}{v:AV}(h:fA (cB s) v)(h0:-999<=s)(h1:s<=999):v = .int s:=by
 rcases h with⟨s',_,_,e,rfl⟩|⟨n,_⟩
 .rw[Cz e]
 .exact absurd rfl (n s h0 h1)
theorem fA.no{l:List Nat}{v:AV}(h:fA l v)(hl:∀s:Int,-999<=s->s<=999->l≠cB s):v = .aC:=by
 rcases h with⟨s',h1,h2,e,rfl⟩|⟨n,e⟩
 .exact absurd e (hl s' h1 h2)
 .exact e
theorem vj{m:Nat}:¬fO (dg m):=λh=>by
 cases hd:dg m with
 |nil=>exact iP hd|cons c l=>have h1:=h.2.1 c (by rw[hd];exact .head _);have h2:=jG (m:=m) (c:=c) (by rw[hd];exact .head _);omega
theorem oG.is{x:Nat}{v:AV}(h:oG [97+x] v)(hx:x<8):v = .int x:=by
 rcases h with⟨y,_,e,rfl⟩|⟨n,_⟩
 .simp at e;rw[e]
 .exact absurd rfl (n x hx)
theorem mH.is{p:Wd}{v:AV}(hp:jV p)(h:mH p.f (tl p.t) v):v=p.v:=by
 cases hp with
 |box hx=>exact oG.is (show oG _ v from h) hx|word hm=>have h:fP (tl (nS _)) 18446744073709551615 v:=h;rw[dU]at h;exact h.is (by omega)
 |step h0 h1=>have h:fA (tl (nS _)) v:=h;rw[sO]at h;exact h.is h0 h1
 |@vX t ht=>
  cases t with
  |num m=>
   have h:gX (tl (nS m)) v:=h;rw[dU]at h;rcases h with⟨lb,_⟩|⟨_,h⟩
   .exact absurd lb vj
   .exact h.is ht
  |gL l=>
   have h:gX (tl l) v:=h;rcases h with⟨_,h⟩|⟨n,_⟩
   .rw[h,eT];rfl
   .exact absurd ht n
theorem gU.is:∀{ps:List Wd} {vs:List AV},(∀p∈ps,jV p)->gU (ps.map (·.f)) (ps.map λp=>tl p.t) vs->vs=ps.map (·.v)
 |[],[],_,_=>rfl|[],_::_,_,h=>h.elim
 |_::_,[],_,h=>h.elim
 |p::ps,v::vs,o,h=>by rw[mH.is (o p (.head _)) h.1,gU.is (λp hp=>o p (.tail _ hp)) h.2];rfl
theorem JN{p:Wd}(h:jV p):cV p.v=false:=by
 cases h with
 |@vX t ht=>cases t<;>rfl|_=>rfl
theorem Hg{ps:List Wd}(h:∀p∈ps,jV p):(ps.map (·.v)).any cV=false:=by rw[List.any_map,List.any_eq_false];exact λp hp=>by rw[show(cV ∘ λx=>x.v) p=cV p.v from rfl,JN (h p hp)];exact Bool.false_ne_true
theorem Mv{r:Rk}{v:AV}(h:r.ok)(hr:kZ (r.tx.map tl) v):v=r.av:=by unfold kZ Rk.tx at hr;simp only[List.map_cons]at hr;rw[eT,tI]at hr;dsimp only at hr;rw[if_pos (by simp)]at hr;obtain⟨vs,hp,rfl⟩:=hr;rw[List.map_map]at hp;have:=gU.is (Rk.jw h) hp;subst this;rw[Hg (Rk.jw h),if_neg Bool.false_ne_true];rfl
def gw(w:List Nat):Prop:=w≠[]/\32∉w/\35∉w
theorem pG{m:Nat}:gw (dg m):=⟨iP,λh=>by have:=jG h;omega,λh=>by have:=jG h;omega⟩
theorem xy{s:Int}:gw (cB s):=by
 unfold cB;split
 .exact pG
 .refine⟨List.cons_ne_nil _ _,λh=>?_,λh=>?_⟩<;>rcases List.mem_cons.mp h with h|h<;>first|cases h|(have:=jG h;omega)
theorem xx{l:List Nat}(h:fO l):gw l:=⟨h.1,λe=>by have:=h.2.1 _ e;omega,λe=>by have:=h.2.1 _ e;omega⟩
theorem JM{p:Wd}(h:jV p):gw (tl p.t)/\p.t.length<=20:=by
 cases h with
 |@box x hx=>refine⟨⟨List.cons_ne_nil _ _,λe=>?_,λe=>?_⟩,show(1:Nat)<=20 by decide⟩<;>(have:=List.mem_singleton.mp e;omega)
 |@word m hm=>
  refine⟨?_,?_⟩
  .show gw (tl (nS m));rw[dU];exact pG
  .show(nS m).length<=20;rw[aQ,dU];exact tE hm
 |@step s h0 h1=>
  refine⟨?_,?_⟩
  .show gw (tl (nS s));rw[sO];exact xy
  .show(nS s).length<=20;rw[aQ,sO];unfold cB;have:∀m,m<=999->(dg m).length<=3:=λm hm=>(mT (by decide)).mpr (by omega);split
   .have:=this s.toNat (by omega);omega
   .have:=this s.natAbs (by omega);rw[List.length_cons];omega
 |@vX t ht=>
  cases t with
  |num m=>
   have hm:m<=400:=ht;refine⟨?_,?_⟩
   .show gw (tl (nS m));rw[dU];exact pG
   .show(nS m).length<=20;rw[aQ,dU];exact tE (by omega)
  |gL l=>have hl:fO (tl l):=ht;refine⟨xx hl,?_⟩;have:=hl.2.2;show l.length<=20;rw[aQ];omega
theorem yG{P:PySem.Str->Bool}(h:dI.all (λp=>P p.1)=true)(r:Rk):P r.nm=true:=List.all_eq_true.mp h _ (rH (tI r))
theorem tW(r:Rk):gw (tl r.nm)/\r.nm.length<=20:=by have h:=yG (P:=λz=>decide (tl z≠[]) && !(tl z).contains 32 && !(tl z).contains 35&&decide (z.length<=20)) (by decide +kernel) r;simp only[Bool.and_eq_true,decide_eq_true_eq,Bool.not_eq_true',List.contains_eq_mem,decide_eq_false_iff_not]at h;exact⟨⟨h.1.1.1,h.1.1.2,h.1.2⟩,h.2⟩
theorem qA{r:Rk}(h:r.ok){t:PySem.Str}(ht:t∈r.tx):gw (tl t)/\t.length<=20:=by
 rcases List.mem_cons.mp ht with rfl|ht
 .exact tW r
 .obtain⟨p,hp,rfl⟩:=List.mem_map.mp ht;exact JM (Rk.jw h p hp)
def gT(ws:List (List Nat)):Prop:=∀v,kZ ws v->v = .aC
def dX(f:PySem.Str)(l:List Nat):Prop:=∀v,mH f l v->v = .aC
theorem dy:gT []:=λ_ h=>h
theorem xC{w:List Nat}{r:List (List Nat)}(h:dI.lookup (aG w)=none):gT (w::r):=λv hr=>by unfold kZ at hr;dsimp only at hr;rw[h]at hr;exact hr
theorem dw{w:List Nat}{r:List (List Nat)}{fs:List PySem.Str}(h:dI.lookup (aG w)=some fs)(hl:r.length≠fs.length):gT (w::r):=λv hr=>by unfold kZ at hr;dsimp only at hr;rw[h]at hr;dsimp only at hr;rw[if_neg hl]at hr;exact hr
theorem Al{f:PySem.Str}{l:List Nat}(h:dX f l):∀{fs:List PySem.Str} {ws:List (List Nat)} {vs:List AV} (i:Nat),fs[i]?=some f->ws[i]?=some l->gU fs ws vs->vs.any cV=true
 |[],_,_,i,e,_,_=>by simp at e
 |_::_,[],_,i,_,e,_=>by simp at e
 |_::_,_::_,[],i,_,_,p=>p.elim
 |f'::fs,w::ws,v::vs,0,e1,e2,p=>by cases e1;cases e2;rw[h v p.1];rfl
 |f'::fs,w::ws,v::vs,i+1,e1,e2,p=>by rw[List.any_cons,Al h i (by simpa using e1) (by simpa using e2) p.2,Bool.or_true]
theorem sm{w l:List Nat}{r:List (List Nat)}{f:PySem.Str}{fs:List PySem.Str}(h:dI.lookup (aG w)=some fs)(i:Nat)(e1:fs[i]?=some f)(e2:r[i]?=some l)(n:dX f l):gT (w::r):=λv hr=>by
 unfold kZ at hr;dsimp only at hr;rw[h]at hr;dsimp only at hr;by_cases hl:r.length=fs.length
 .rw[if_pos hl]at hr;obtain⟨vs,p,rfl⟩:=hr;rw[if_pos (Al n i e1 e2 p)]
 .rw[if_neg hl]at hr;exact hr
theorem yQ{l:List Nat}{g c:Nat}{v:AV}(h:c∈l)(hc:¬(48<=c/\c<=57))(r:fP l g v):v = .aC:=r.no λm _ e=>hc (jG (e▸h))
theorem vh{m:Nat}{l:List Nat}(h:dg m=48::l):l=[]:=by have:=gf (m:=m) (by rw[h];rfl);subst this;rw[vg,List.cons.injEq]at h;exact h.2.symm
theorem zx{l:List Nat}{g:Nat}{v:AV}(h:l≠[])(r:fP (48::l) g v):v = .aC:=r.no λm _ e=>h (vh e.symm)
theorem Cy{s:Int}{c:Nat}{t:List Nat}(h:cB s=c::t):(c=45\/(48<=c/\c<=57))/\(∀x∈t,48<=x/\x<=57):=by
 unfold cB at h;split at h
 .exact⟨.inr (jG (m:=s.toNat) (by rw[h];exact .head _)),λx hx=>jG (m:=s.toNat) (by rw[h];exact .tail _ hx)⟩
 .rw[List.cons.injEq]at h;exact⟨.inl h.1.symm,λx hx=>jG (m:=s.natAbs) (by rw[h.2];exact hx)⟩
theorem GA{c:Nat}{t:List Nat}{v:AV}(h:¬(c=45\/(48<=c/\c<=57)))(r:fA (c::t) v):v = .aC:=r.no λs _ _ e=>h (Cy e.symm).1
theorem Dw{c x:Nat}{t:List Nat}{v:AV}(hx:x∈t)(h:¬(48<=x/\x<=57))(r:fA (c::t) v):v = .aC:=r.no λs _ _ e=>h ((Cy e.symm).2 x hx)
theorem FY{l:List Nat}{v:AV}(h:l≠[])(r:fA (48::l) v):v = .aC:=r.no λs _ _ e=>by
 unfold cB at e;split at e
 .exact h (vh e.symm)
 .cases e
theorem nh{l:List Nat}{v:AV}(r:fA (45::48::l) v):v = .aC:=r.no λs _ _ e=>by
 unfold cB at e;split at e
 .exact kA (by rw[<- e];rfl)
 .rename_i hs;rw[List.cons.injEq]at e;have:=gf (m:=s.natAbs) (by rw[<- e.2];rfl);omega
theorem FZ{s:Int}{v:AV}(h:s < -999\/999<s)(r:fA (cB s) v):v = .aC:=r.no λs' h0 h1 e=>by have:=Cz e;omega
theorem bj{l:List Nat}{c d:Nat}{v:AV}(h:c∈l)(hc:¬(48<=c/\c<=57))(hd:d∈l)(hdd:¬(97<=d/\d<=122))(r:gX l v):v = .aC:=by
 rcases r with⟨lb,_⟩|⟨_,r⟩
 .exact absurd (lb.2.1 d hd) hdd
 .exact yQ h hc r
theorem HX{l:List Nat}{d:Nat}{v:AV}(hd:d∈l)(hdd:¬(97<=d/\d<=122))(n:fP l 400 v->v = .aC)(r:gX l v):v = .aC:=by
 rcases r with⟨lb,_⟩|⟨_,r⟩
 .exact absurd (lb.2.1 d hd) hdd
 .exact n r
theorem HW{l:List Nat}{c:Nat}{v:AV}(h:c∈l)(hc:¬(48<=c/\c<=57))(hl:8<l.length)(r:gX l v):v = .aC:=by
 rcases r with⟨lb,_⟩|⟨_,r⟩
 .have:=lb.2.2;omega
 .exact yQ h hc r
theorem er{l:List Nat}(h:¬ ∃x:Nat,x<8/\l=[97+x]):dX "box" l:=λv r=>by
 rcases(show oG l v from r)with⟨x,hx,e,_⟩|⟨_,e⟩
 .exact absurd ⟨x,hx,e⟩ h
 .exact e
def tT:Wd->Prop:=λp=>(∃m,m<18446744073709551616/\p=wW m)\/(∃s,-999<=s/\s<=999/\p=wF s)\/∃t:TT,t.ok/\p=gR t
theorem Qb{m:Nat}:∃c,c∈dg m:=by
 cases hd:dg m with
 |nil=>exact absurd hd iP|cons c l=>exact⟨c,.head _⟩
theorem Qc{l:List Nat}(h:fO l):∃c,c∈l/\¬(48<=c/\c<=57):=by
 cases hd:l with
 |nil=>exact absurd hd h.1|cons c k=>exact⟨c,.head _,λz=>by have:=h.2.1 c (by rw[hd];exact .head _);omega⟩
theorem zw{p:Wd} {c:Nat} (h:tT p) (hc:¬(48<=c/\c<=57)) (hl:¬(97<=c/\c<=122)) (hs:c=45->p.f≠"step"):dX p.f (c::tl p.t):=λv r=>by
 rcases h with⟨m,_,rfl⟩|⟨s,_,_,rfl⟩|⟨t,ht,rfl⟩
 .exact yQ (.head _) hc (show fP _ 18446744073709551615 v from r)
 .exact GA (λz=>z.elim (λe=>hs e rfl) hc) (show fA _ v from r)
 .have r:gX (c::tl (gR t).t) v:=by cases t<;>exact r
  exact bj (.head _) hc (.head _) hl r
def fW(l:List Nat):List Nat:=match l with
 |45::t=>45::48::t
 |l=>48::l
theorem tQ{c:Nat}{l:List Nat}(h:c≠45):fW (c::l)=48::c::l:=by
 unfold fW;split
 .rename_i e;cases e;exact absurd rfl h
 .rfl
theorem Qx{p:Wd}(h:tT p):dX p.f (fW (tl p.t)):=λv r=>by
 rcases h with⟨m,_,rfl⟩|⟨s,_,_,rfl⟩|⟨t,ht,rfl⟩
 .have r:fP (fW (tl (nS m))) 18446744073709551615 v:=r;rw[dU]at r;cases hd:dg m with
  |nil=>exact absurd hd iP|cons c l=>rw[hd,tQ (λe=>kA (m:=m) (by rw[hd,e];rfl))]at r;exact zx (List.cons_ne_nil _ _) r
 .have r:fA (fW (tl (nS s))) v:=r;rw[sO]at r;unfold cB at r;split at r
  .cases hd:dg s.toNat with
   |nil=>exact absurd hd iP|cons c l=>rw[hd,tQ (λe=>kA (m:=s.toNat) (by rw[hd,e];rfl))]at r;exact FY (List.cons_ne_nil _ _) r
  .exact nh r
 .cases t with
  |num m=>
   have r:gX (fW (tl (nS m))) v:=r;rw[dU]at r;cases hd:dg m with
   |nil=>exact absurd hd iP|cons c l=>rw[hd,tQ (λe=>kA (m:=m) (by rw[hd,e];rfl))]at r;exact HX (.head _) (by decide) (zx (List.cons_ne_nil _ _)) r
  |gL l=>
   have ht:fO (tl l):=ht;have r:gX (fW (tl l)) v:=r;obtain⟨c,hc,nc⟩:=Qc ht;cases hd:tl l with
   |nil=>exact absurd hd ht.1|cons d k=>have:=ht.2.1 d (by rw[hd];exact .head _);rw[hd,tQ (by omega)]at r;exact bj (d:=48) (.tail _ (hd▸hc)) nc (.head _) (by decide) r
theorem Qw{p:Wd}{u:List Nat}{c:Nat}(h:tT p)(hc:c∈u)(nc:¬(48<=c/\c<=57))(hl:(∃d∈u,¬(97<=d/\d<=122))\/8<=u.length):dX p.f (tl p.t++u):=λv r=>by
 rcases h with⟨m,_,rfl⟩|⟨s,_,_,rfl⟩|⟨t,ht,rfl⟩
 .exact yQ (List.mem_append_right _ hc) nc (show fP _ 18446744073709551615 v from r)
 .have r:fA (tl (nS s)++u) v:=r;rw[sO]at r;cases hd:cB s with
  |nil=>exact absurd hd xy.1|cons x t=>rw[hd]at r;exact Dw (List.mem_append_right _ hc) nc r
 .cases t with
  |num m=>have r:gX (tl (nS m)++u) v:=r;rw[dU]at r;obtain⟨d,hd⟩:=Qb (m:=m);have:=jG hd;exact bj (List.mem_append_right _ hc) nc (List.mem_append_left _ hd) (by omega) r
  |gL l=>
   have ht:fO (tl l):=ht;have r:gX (tl l++u) v:=r;rcases hl with⟨d,hd,nd⟩|hl
   .exact bj (List.mem_append_right _ hc) nc (List.mem_append_right _ hd) nd r
   .refine HW (List.mem_append_right _ hc) nc ?_ r;have:0<(tl l).length:=List.length_pos_iff.mpr ht.1;rw[List.length_append];omega
theorem Qv{m:Nat}(h:18446744073709551616<=m):dX "word" (dg m):=λv r=>(show fP _ 18446744073709551615 v from r).no λm' hm e=>by have:=pP e;omega
theorem Qu{m:Nat}(h:400<m):dX "target" (dg m):=λv r=>by
 rcases(show gX _ v from r)with⟨lb,_⟩|⟨_,r⟩
 .exact absurd lb vj
 .exact r.no λm' hm e=>by have:=pP e;omega
theorem zv{s:Int}(h:s < -999\/999<s):dX "step" (cB s):=λv r=>FZ h (show fA _ v from r)
section
variable {Xc:Nat->AH->Prop}{k:Nat}{h:AH}{R:AV->AH->Prop}
theorem lh{z:PySem.Str}(hz:z.length<=9000)(q:∀h' v,Kp h h'->kZ (gG (tl z)) v->(cV v=true->Xc 70 h')/\(cV v=false->R v h')):WC Xc (run pg (k+6) wb [.str z]) h R:=
 bZ rfl rfl (DV hz λh1 v k1 r=>aB.by (λe=>WB.of (MU (Gr ⟨0,rfl,(q h1 v k1 r).1 e⟩))) λe=>(q h1 v k1 r).2 e)
theorem ju{c i:Int}(h0:0<=i)(h1:i<1000)(q:∀z,0<=z->z<2147483647->R (.int z) h):WC Xc (run pg (k+1) Lq [.int c,.int i]) h R:=
 bZ rfl rfl (WC.of (cu rfl (aB.t (yN (by omega) (by omega)) (aB.t (zm (by omega) (by omega)) (q _ (Int.emod_nonneg _ (by decide)) (Int.emod_lt_of_pos _ (by decide)))))))
theorem Gk{c p:Int}(q:∀w:Nat,w<18446744073709551616->R (.int w) h):WC Xc (run pg (k+1) Ly [.int c,.int p]) h R:=by
 have qq:∀w:Int,0<=w->w<18446744073709551616->R (.int w) h:=λw h0 h1=>by have:=q w.toNat (by omega);rwa [Int.toNat_of_nonneg h0]at this
 refine bZ rfl rfl (aB.dc (λhc=>?_) λhc=>aB.dc (λhd=>?_) λhd=>?_)
 .exact qq _ (by omega) (by omega)
 .exact WC.of (cu rfl (qq _ (by show 0<=(2:Int) ^ 64-1-_;omega) (by show(2:Int) ^ 64-1-_<_;omega)))
 .exact WC.of (cu rfl (qq _ (Int.emod_nonneg _ (by decide)) (Int.emod_lt_of_pos _ (by decide))))
theorem Hi{i:Int}(h0:0<=i)(h1:i<8):∃s,(-999<=s/\s<=999)/\bJ ([.int 0,.int (-1),.int 1,.int (-999),.int 999,.int 10,.int (-10),.int 100]:List AV) i=some (.int s):=by
 have:i=0\/i=1\/i=2\/i=3\/i=4\/i=5\/i=6\/i=7:=by omega
 rcases this with rfl|rfl|rfl|rfl|rfl|rfl|rfl|rfl<;>exact⟨_,by decide,rfl⟩
theorem FW{p:Int}(q:∀s h',Kp h h'->-999<=s->s<=999->R (.int s) h'):WC Xc (run pg (k+1) Lx [.int p]) h R:=by
 refine bZ rfl rfl (aB.dc (λhc=>?_) λhc=>?_)
 .obtain⟨s,hs,e⟩:=Hi (i:=p / 3%8) (by omega) (by omega);exact WC.of (cD (bR aV) e (q s _ Kp.refl.new hs.1 hs.2))
 .exact q _ _ Kp.refl (by omega) (by omega)
theorem JL{i:Int}(h0:0<=i)(h1:i<12):∃w:jU,bJ ([.str "sum",.str "less",.str "times",.str "share",.str "rest",.str "both",.str "some",.str "odd",.str "up",.str "down",.str "below",.str "same"]:List AV) i=some (.str w.nm):=by
 have:i=0\/i=1\/i=2\/i=3\/i=4\/i=5\/i=6\/i=7\/i=8\/i=9\/i=10\/i=11:=by omega
 rcases this with rfl|rfl|rfl|rfl|rfl|rfl|rfl|rfl|rfl|rfl|rfl|rfl
 .exact⟨.sum,rfl⟩
 .exact⟨.less,rfl⟩
 .exact⟨.times,rfl⟩
 .exact⟨.share,rfl⟩
 .exact⟨.rest,rfl⟩
 .exact⟨.both,rfl⟩
 .exact⟨.Dl,rfl⟩
 .exact⟨.odd,rfl⟩
 .exact⟨.up,rfl⟩
 .exact⟨.down,rfl⟩
 .exact⟨.below,rfl⟩
 .exact⟨.same,rfl⟩
theorem mJ{a b:AV}(e:a=b)(q:R a h):R b h:=e▸q
theorem lP{x b:Int}(h0:0<=x)(h1:x<b):∃m:Nat,x=m/\(m:Int)<b:=⟨x.toNat,by omega,by omega⟩
theorem DW{c i:Int}(h0:0<=i)(h1:i<1000)(q:∀(r:Rk) h',Kp h h'->r.ok->(∀l,r ≠ .go (.gL l))->(∀x l,r ≠ .dR x (.gL l))->R r.av h'):WC Xc (run pg (k+2) Lw [.int c,.int i,.int 400]) h R:=by
 refine bZ rfl rfl (ju h0 h1 λz z0 z1=>?_);obtain⟨x,ex,hx⟩:=lP (x:=z / 20%8) (b:=8) (by omega) (by omega);obtain⟨y,ey,hy⟩:=lP (x:=z / 160%8) (b:=8) (by omega) (by omega);obtain⟨u,eu,hu⟩:=lP (x:=z / 1280%8) (b:=8) (by omega) (by omega);have kp:∀{o:cZ},Kp h (h.new o):=Kp.refl.new;refine aB.dc (λ_=>?_) λ_=>aB.dc (λ_=>Gk λm hm=>?_) λ_=>aB.dc (λ_=>?_) λ_=>aB.dc (λ_=>?_) λ_=>aB.dc (λ_=>?_) λ_=>aB.dc (λ_=>?_) λ_=>Gk λm hm=>?_
 .obtain⟨w,e⟩:=JL (i:=z / 10240%12) (by omega) (by omega);have e2:Rk.av (.way w x y u) = .tup [.str w.nm,.int (z / 20%8),.int (z / 160%8),.int (z / 1280%8)]:=by rw[ex,ey,eu];rfl
  exact WC.of (cD (bR aV) e (mJ e2 (q (.way w x y u) _ kp ⟨by omega,by omega,by omega⟩ (λ_ z=>by cases z) λ_ _ z=>by cases z)))
 .have e2:Rk.av (.set x m) = .tup [.str "set",.int (z / 20%8),.int m]:=by rw[ex];rfl
  exact mJ e2 (q (.set x m) _ kp ⟨by omega,hm⟩ (λ_ z=>by cases z) λ_ _ z=>by cases z)
 .have e2:Rk.av (.move x y) = .tup [.str "move",.int (z / 20%8),.int (z / 160%8)]:=by rw[ex,ey];rfl
  exact mJ e2 (q (.move x y) _ kp ⟨by omega,by omega⟩ (λ_ z=>by cases z) λ_ _ z=>by cases z)
 .obtain⟨b,e⟩:∃b:Bool,bJ [AV.str "load",AV.str "store"] (z%20%2)=some (.str (tS b)):=by
   have:z%20%2=0\/z%20%2=1:=by omega
   rcases this with e|e
   .exact⟨false,by rw[e];rfl⟩
   .exact⟨true,by rw[e];rfl⟩
  refine WC.of (cD (bR aV) e (FW λs h2 k2 s0 s1=>?_));have e2:Rk.av (.ls b x y s) = .tup [.str (tS b),.int (z / 20%8),.int (z / 160%8),.int s]:=by rw[ex,ey];rfl
  exact mJ e2 (q (.ls b x y s) _ (kp.new.trans k2) ⟨by omega,by omega,s0,s1⟩ (λ_ z=>by cases z) λ_ _ z=>by cases z)
 .obtain⟨m,em,hm⟩:=lP (x:=z / 10240%401) (b:=401) (by omega) (by omega);have e2:Rk.av (.dR x (.num m)) = .tup [.str "jump",.int (z / 20%8),.int (z / 10240%(400+1))]:=by rw[ex,show(400+1:Int)=401 from rfl,em];rfl
  exact mJ e2 (q (.dR x (.num m)) _ kp ⟨by omega,show m<=400 by omega⟩ (λ_ z=>by cases z) λ_ _ z=>by cases z)
 .obtain⟨m,em,hm⟩:=lP (x:=z / 10240%401) (b:=401) (by omega) (by omega);have e2:Rk.av (.go (.num m)) = .tup [.str "go",.int (z / 10240%(400+1))]:=by rw[show(400+1:Int)=401 from rfl,em];rfl
  exact mJ e2 (q (.go (.num m)) _ kp (show m<=400 by omega) (λ_ z=>by cases z) λ_ _ z=>by cases z)
 .exact q (.fault m) _ kp hm (λ_ z=>by cases z) λ_ _ z=>by cases z
end
theorem zq(w:jU):¬(w.nm=("set":PySem.Str)):=by cases w<;>decide
theorem jn(w:jU):¬(w.nm=("jump":PySem.Str)):=by cases w<;>decide
theorem zp(w:jU):¬(w.nm=("load":PySem.Str)):=by cases w<;>decide
theorem zr(w:jU):¬(w.nm=("store":PySem.Str)):=by cases w<;>decide
theorem jm(w:jU):¬(w.nm=("go":PySem.Str)):=by cases w<;>decide
theorem zo(w:jU):¬(w.nm=("fault":PySem.Str)):=by cases w<;>decide
def tB:Rk->Int->Bool
 |.way _ _ _ _,_=>true | .set _ _,i=>decide (i=1) | .move _ _,_=>true | .ls _ _ _ _,i=>decide (i<3) | .dR _ _,i=>decide (i=1) | .go _,_=>false | .fault _,_=>false
theorem tq{r:Rk}{i:Nat}{p:Wd}(ok:r.ok)(h:r.ps[i]?=some p):(tB r (1+i)=true/\∃x,x<8/\p=wB x)\/(tB r (1+i)=false/\((∃s:Int,s.natAbs.log2<1920/\p.t=nS s/\p.v = .int s)\/p.v = .str p.t)):=by
 have lg:∀m:Nat,m<18446744073709551616->(m:Int).natAbs.log2<1920:=λm hm=>sE (by omega) (by omega);cases r with
 |way w x y z=>
  obtain⟨h1,h2,h3⟩:=ok;rcases i with _|_|_|i
  .cases h;exact .inl ⟨rfl,x,h1,rfl⟩
  .cases h;exact .inl ⟨rfl,y,h2,rfl⟩
  .cases h;exact .inl ⟨rfl,z,h3,rfl⟩
  .simp[Rk.ps]at h
 |set x m=>
  obtain⟨h1,h2⟩:=ok;rcases i with _|_|i
  .cases h;exact .inl ⟨rfl,x,h1,rfl⟩
  .cases h;exact .inr ⟨rfl,.inl ⟨m,lg m h2,rfl,rfl⟩⟩
  .simp[Rk.ps]at h
 |move x y=>
  obtain⟨h1,h2⟩:=ok;rcases i with _|_|i
  .cases h;exact .inl ⟨rfl,x,h1,rfl⟩
  .cases h;exact .inl ⟨rfl,y,h2,rfl⟩
  .simp[Rk.ps]at h
 |ls b x y s=>
  obtain⟨h1,h2,h3,h4⟩:=ok;rcases i with _|_|_|i
  .cases h;exact .inl ⟨rfl,x,h1,rfl⟩
  .cases h;exact .inl ⟨rfl,y,h2,rfl⟩
  .cases h;exact .inr ⟨rfl,.inl ⟨s,sE (by omega) (by omega),rfl,rfl⟩⟩
  .simp[Rk.ps]at h
 |dR x t=>
  obtain⟨h1,h2⟩:=ok;rcases i with _|_|i
  .cases h;exact .inl ⟨rfl,x,h1,rfl⟩
  .cases h;refine .inr ⟨rfl,?_⟩;cases t with
   |num m=>exact .inl ⟨m,lg m (Nat.lt_of_le_of_lt h2 (by decide)),rfl,rfl⟩|gL l=>exact .inr rfl
  .simp[Rk.ps]at h
 |go t=>
  rcases i with _|i
  .cases h;refine .inr ⟨rfl,?_⟩;cases t with
   |num m=>exact .inl ⟨m,lg m (Nat.lt_of_le_of_lt ok (by decide)),rfl,rfl⟩|gL l=>exact .inr rfl
  .simp[Rk.ps]at h
 |fault m=>
  rcases i with _|i
  .cases h;exact .inr ⟨rfl,.inl ⟨m,lg m ok,rfl,rfl⟩⟩
  .simp[Rk.ps]at h
theorem kJ(r:Rk):1<=r.ps.length/\r.ps.length<=3:=by cases r<;>simp[Rk.ps]
theorem Hk{x:Nat}(h:x<8):bJ ("abcdefgh":PySem.Str).cps.toList (x:Int)=some (97+x):=by
 have:x=0\/x=1\/x=2\/x=3\/x=4\/x=5\/x=6\/x=7:=by omega
 rcases this with rfl|rfl|rfl|rfl|rfl|rfl|rfl|rfl<;>rfl
theorem du{a:AV}{xs:List AV}{i:Nat}{v:AV}(h:xs[i]?=some v):bJ (a::xs) (1+i:Int)=some v:=by rw[show(1+i:Int)=((i+1:Nat):Int) by omega];exact L2.xA (by simpa using h)
theorem iu{h:AH}{n:Nat}{b:Bool}{xs:List AV}(e:h.ob n=some (.lst b xs)):nF h (.ref n)=true:=by simp only[nF,e]
section
variable {Xc:Nat->AH->Prop}{k:Nat}{h:AH}{R:AV->AH->Prop}
theorem fc{r:Rk}{i:Int}(q:R (.bl (tB r i)) h):WC Xc (run pg (k+1) Lm [.str r.nm,.int i]) h R:=by
 refine bZ rfl rfl ?_;cases r with
 |way w x y z=>exact aB.df (zq w) (aB.df (jn w) (aB.df (zp w) (aB.df (zr w) (aB.nf (jm w) (mJ (by show AV.bl true=AV.bl (!decide (w.nm=_));rw[decide_eq_false (zo w)];rfl) q)))))|ls b x y s=>cases b<;>exact q|_=>exact q
theorem LH{F:AM.Run}{σ:aA}{i:Nat}{xs:List AV}{Q:cF->AH->Prop}(e:σ[i]?=some (some (.tup xs)))(ok:xs.length<1000000)(q:Q (jQ 1 (xs.length-1)) h):We Xc (aZ F (.vN (.cons (.val (.int 1)) (.cons (.bi .len (.cons (.var i) .nil)) .nil))) σ) h Q:=by
 refine LK (qF (Gr (qF (Gm (qF (oE e (cw (cq rfl (cw ⟨1,xs.length,rfl,?_,?_⟩)))))))))
 .rw[Bool.and_eq_true];exact⟨ao (by decide) (by decide),ao (by omega) (by omega)⟩
 .rw[show((xs.length:Int)-1).toNat=xs.length-1 by omega];exact q
theorem LS{r:Rk}(ok:r.ok)(q:∀h' n,Kp h h'->n<h'.nx->h'.ob n=some (.lst true (r.tx.map AV.str))->R (.ref n) h'):WC Xc (run pg (k+2) Lz [r.av]) h R:=by
 have pl:=kJ r;have sz:sizeLine=16777216:=sizeLine_eq;refine bZ rfl rfl (bB.of jW ?_);unfold mC;refine JD (xs:=[AV.str r.nm]) ?_;refine WB.of ?_;with_reducible refine sT (LH (xs:=AV.str r.nm::r.ps.map (·.v)) rfl ?_ ?_)
 .simp;omega
 .have el:(AV.str r.nm::r.ps.map (·.v)).length-1=r.ps.length:=by simp
  rw[el];refine gk (λi σ h'=>Kp h h'/\h.nx<h'.nx/\h'.ob h.nx=some (.lst true ((r.nm::(r.ps.take i).map (·.t)).map AV.str))/\∃a,σ=[some r.av,some (.ref h.nx),a]) (by rw[jT];omega) ⟨Kp.refl.new,Nat.lt_succ_self _,aV,_,rfl⟩ ?_ ?_
  .rintro i σ h' hi ⟨kp,hx,ob,a,rfl⟩
   obtain⟨p,hp⟩:∃p,r.ps[i]?=some p:=⟨_,List.getElem?_eq_getElem hi⟩;have e:(r.ps.take (i+1)).map (·.t)=(r.ps.take i).map (·.t)++[p.t]:=by rw[List.take_add_one,hp];simp
   have fin:∀{h2:AH},h2=h'->WC Xc (lI (.ref h.nx) (.str p.t)) h2 λ_ h3=>Kp h h3/\h.nx<h3.nx/\h3.ob h.nx=some (.lst true ((r.nm::(r.ps.take (i+1)).map (·.t)).map AV.str))/\∃b,[some r.av,some (.ref h.nx),some (.int (1+i))]=[some r.av,some (.ref h.nx),b]:=λ{h2} e2=>by subst e2;refine WC.of (JT ob (by simp;omega) ⟨kp.put (Nat.le_refl _),hx,?_,_,rfl⟩);rw[Wy,e];simp
   refine nY _ (iZ _ (bB.of jW (fc ?_)));have hv:(r.ps.map (·.v))[i]?=some p.v:=by rw[List.getElem?_map,hp];rfl
   rcases tq ok hp with⟨eb,x,hx8,rfl⟩|⟨eb,ht⟩
   .exact aB.t eb (aB.t (iu ob) (bB.of (du hv) (WC.of (qo (by decide) (Hk hx8) (fin rfl)))))
   .rcases ht with⟨s,hs,et,ev⟩|ev
    .rw[ev]at hv;rw[et]at fin;exact aB.f eb (aB.t (iu ob) (bB.of (du hv) (WC.of (sS hs (fin rfl)))))
    .rw[ev]at hv;exact aB.f eb (aB.t (iu ob) (bB.of (du hv) (WC.of (KY (fin rfl)))))
  .rintro σ h' ⟨kp,hx,ob,a,rfl⟩
   refine q _ _ kp hx ?_;rw[ob,List.take_length];rfl
end
theorem cY{x y:PySem.Str}:tl (x++y)=tl x++tl y:=Array.toList_append
section
variable {Xc:Nat->AH->Prop}{k:Nat}{h:AH}{R:AV->AH->Prop}
theorem Hf{xs:List AV}(hp:∀v∈xs,(∃z,v = .str z)\/∃i,v = .int i)(hl:xs.length<=9)(q:R (.bl true) h):WC Xc (run pg (k+1) wa [.tup xs,.tup xs]) h R:=by
 refine bZ rfl rfl (aB.nt rfl (WB.of ?_));with_reducible refine sT (Gj (qF (oE rfl (qF (oE rfl (cw ?_))))))
 refine⟨_,_,_,_,rfl,rfl,rfl,?_⟩;refine Mm (λi σ h'=>h'=h/\∃a b,σ=[some (.tup xs),some (.tup xs),a,b]) rfl (by rw[jT];omega) ⟨rfl,_,_,rfl⟩ ?_ ?_
 .rintro i x y σ h' hx hy ⟨rfl,a,b,rfl⟩
  obtain rfl:x=y:=Option.some.inj (hx.symm.trans hy);refine nY _ (iZ _ ?_);rcases hp x (List.mem_of_getElem? hx)with⟨z,rfl⟩|⟨j,rfl⟩
  .exact WC.of (Gb (b:=true) rfl (aB.nt rfl ⟨rfl,_,_,rfl⟩))
  .exact WC.of (Gb (b:=true) rfl (aB.nt rfl ⟨rfl,_,_,rfl⟩))
 .rintro σ h' ⟨rfl,a,b,rfl⟩
  exact q
def sG:PySem.Str:=" !#$&'()*+,-./0123456789:;<=>?@ABCXYZ[]^_abcxyz{|}~"
theorem ax:sG.length=51:=by decide +kernel
theorem FH{i:Int}(h0:0<=i)(h1:i<51):∃c,bJ sG.cps.toList i=some c:=by
 obtain⟨n,rfl⟩:=Int.eq_ofNat_of_zero_le h0;have hn:n<(tl sG).length:=by rw[<- aQ,ax];omega
 exact⟨_,xA (List.getElem?_eq_getElem hn)⟩
theorem DR{n:Int}(h0:0<=n)(h1:n<2147483647)(q:∀z m,tl z=35::m->z.length<=12->R (.str z) h):WC Xc (run pg (k+1) Lv [.int n]) h R:=by
 have e:sizeLine=16777216:=sizeLine_eq;refine bZ rfl rfl (WB.of ?_);with_reducible refine sT (Gh ?_)
 refine⟨ao (by omega) (by omega),?_⟩;refine gk (λi σ h'=>h'=h/\∃z m a b,σ=[some (.int n),some (.str sG),some (.str z),a,b]/\tl z=35::m/\z.length<=i+1) (by rw[jT];omega) ⟨rfl,_,[],_,_,rfl,by decide +kernel,by decide +kernel⟩ ?_ ?_
 .rintro i σ h' hi ⟨rfl,z,m,a,b,rfl,ez,hz⟩
  have h2:0<=n / (0+(i:Int)+13):=Int.ediv_nonneg h0 (by omega);have h3:n / (0+(i:Int)+13)<=n:=Int.ediv_le_self _ h0;obtain⟨c,ec⟩:=FH (i:=(n / 12+n / (0+(i:Int)+13)*(0+(i:Int)))%((51:Nat):Int)) (Int.emod_nonneg _ (by decide)) (Int.emod_lt_of_pos _ (by decide));refine nY _ (iZ _ (aB.t (gg (by omega) (by omega)) (aB.t (yN (by omega) (by omega)) (WC.of (sR (z:=sG) (by rw[ax];omega) ?_)))));rw[ax];refine WC.of (qo (z:=sG) (by rw[ax];omega) ec (WC.of (eR (by show z.length+1<=_;omega) ⟨rfl,_,m++[c],_,_,rfl,by rw[cY,ez];rfl,?_⟩)));rw[aQ,cY,List.length_append,<- aQ];show z.length+1<=_;omega
 .rintro σ h' ⟨rfl,z,m,a,b,rfl,ez,hz⟩
  exact q z m ez (by omega)
end
theorem cv{l m:List Nat}(h:35∉l)(hm:m=[]\/∃k,m=35::k):gG (l++m)=wf l:=by
 rw[LN];unfold fB;have e:(l++m).takeWhile (λx=>x != 35)=l:=by
  have hl:∀a∈l,(λx=>x != 35) a=true:=λa ha=>by have:a≠35:=λz=>h (z▸ha);simpa using this
  rw[List.takeWhile_append_of_pos hl];rcases hm with rfl|⟨k,rfl⟩<;>simp
 rw[e,JP]
def rK(i:Nat)(ws:List (List Nat))(l:List Nat):Prop:=wf l=ws/\35∉l/\(i=0->∀c∈l,c=32)
theorem yv{n:Nat}:rK 0 [] (List.replicate n 32):=by
 refine⟨?_,λh=>?_,λ_ c hc=>List.eq_of_mem_replicate hc⟩
 .have:=oB (l:=[]) n;rwa [List.append_nil]at this
 .have:=List.eq_of_mem_replicate h;omega
theorem Pl{i:Nat}{ws:List (List Nat)}{l t:List Nat}{g:Nat}(h:rK i ws l)(ht:35∉t):rK (i+1) (ws++wf t) (l++List.replicate (g+1) 32++t):=by
 refine⟨?_,λhm=>?_,λz=>by omega⟩
 .rw[List.replicate_succ,List.append_assoc,List.cons_append,ck,oB,h.1]
 .rcases List.mem_append.mp hm with hm|hm
  .rcases List.mem_append.mp hm with hm|hm
   .exact h.2.1 hm
   .have:=List.eq_of_mem_replicate hm;omega
  .exact ht hm
theorem Pk{ws:List (List Nat)}{l t:List Nat}(h:rK 0 ws l)(ht:35∉t):rK 1 (ws++wf t) (l++t):=by have hl:l=List.replicate l.length 32:=List.eq_replicate_iff.mpr ⟨rfl,h.2.2 rfl⟩;refine⟨?_,λhm=>(List.mem_append.mp hm).elim h.2.1 ht,λz=>by omega⟩;have e:=yv (n:=l.length);rw[<- hl]at e;have:ws=[]:=h.1.symm.trans e.1;rw[this,hl,oB];rfl
section
variable {Xc:Nat->AH->Prop}{k:Nat}{h:AH}{R:AV->AH->Prop}
noncomputable abbrev hG(ts:List PySem.Str):List (List Nat):=(ts.map λt=>wf (tl t)).flatten
theorem Mi{ts:List PySem.Str}{i:Nat}{t:PySem.Str}(h:ts[i]?=some t):hG (ts.take (i+1))=hG (ts.take i)++wf (tl t):=by unfold hG;rw[List.take_add_one,h];simp
theorem fZ{x y:PySem.Str}:(x++y).length=x.length+y.length:=by rw[aQ,cY,List.length_append,<- aQ,<- aQ]
theorem rG{nw:Nat}{b:Bool}{n:Int}{ts:List PySem.Str}(ob:h.ob nw=some (.lst b (ts.map AV.str)))(hl:ts.length<=6)(hw:∀t∈ts,35∉tl t/\t.length<=64)(h0:0<=n)(h1:n<2147483647)
  (q:∀z,gG (tl z)=hG ts->z.length<=1000->R (.str z) h):WC Xc (run pg (k+2) Lp [.ref nw,.int n]) h R:=by
 have e:sizeLine=16777216:=sizeLine_eq;refine bZ rfl rfl (WC.of (qp (c:=32) (by omega) (by omega) (WB.of ?_)));with_reducible refine sT (Gg (oE rfl ?_))
 refine⟨_,_,_,rfl,ob,?_⟩;refine wo (xs:=ts.map AV.str) (λi σ h'=>h'=h/\∃z a b,σ=[some (.ref nw),some (.int n),some (.str z),a,b]/\rK i (hG (ts.take i)) (tl z)/\z.length<=2+67*i) (by rw[List.length_map,jT];omega) ⟨rfl,_,_,_,rfl,yv,?_⟩ (λi σ h' y=>by rw[y.1];exact ob) ?_ ?_
 .rw[aQ,fJ,List.length_replicate];omega
 .rintro i x σ h' hx ⟨rfl,z,a,b,rfl,hc,hz⟩
  obtain⟨t,ht,rfl⟩:=rL hx;have hi:i<ts.length:=(List.getElem?_eq_some_iff.mp ht).1;obtain⟨wt,lt⟩:=hw t (List.mem_of_getElem? ht);have et:=Mi ht;refine nY _ (iZ _ (aB.dc (λhk=>aB.t (gg (by omega) (by omega)) ?_) λhk=>?_))
  .have hg:0<=n / ((i:Int)+3)%3:=by omega
   have hg2:n / ((i:Int)+3)%3<3:=by omega
   show WC Xc (Op.g .mul _ (.int (1+n / ((i:Int)+3)%3))) _ _;generalize n / ((i:Int)+3)%3=g at hg hg2 ⊢;obtain⟨g,rfl⟩:=Int.eq_ofNat_of_zero_le hg;refine WC.of (qp (c:=32) (by omega) (by omega) ?_);have eg:(1+(g:Int)).toNat=g+1:=by omega
   rw[eg];have lg:(aG (List.replicate (g+1) 32)).length=g+1:=by rw[aQ,fJ,List.length_replicate]
   refine WC.of (eR (by omega) (WC.of (eR (by rw[fZ];omega) ⟨rfl,_,_,_,rfl,?_,?_⟩)))
   .rw[et,cY,cY];exact Pl hc wt
   .rw[fZ,fZ];omega
  .have:i=0:=by omega
   subst this;refine WC.of (eR (by omega) ⟨rfl,_,_,_,rfl,?_,?_⟩)
   .rw[et,cY];exact Pk hc wt
   .rw[fZ];omega
 .rintro σ h' ⟨rfl,z,a,b,rfl,hc,hz⟩
  rw[List.length_map]at hc hz;rw[List.take_length]at hc;have hg:0<=n / 9%3:=by omega
  have hg2:n / 9%3<3:=by omega
  show WC Xc (Op.g .mul _ (.int (n / 9%3))) _ _;generalize n / 9%3=g at hg hg2 ⊢;obtain⟨g,rfl⟩:=Int.eq_ofNat_of_zero_le hg;refine WC.of (qp (c:=32) (by omega) (by omega) ?_);have lg:(aG (List.replicate g 32)).length=g:=by rw[aQ,fJ,List.length_replicate]
  rw[Int.toNat_natCast];have hc2:wf (tl (z++aG (List.replicate g 32)))=hG ts:=by rw[cY,fJ,Fw];exact hc.1
  have hc3:35∉tl (z++aG (List.replicate g 32)):=by
   rw[cY,fJ];intro hm;rcases List.mem_append.mp hm with hm|hm
   .exact hc.2.1 hm
   .have:=List.eq_of_mem_replicate hm;omega
  have lz:(z++aG (List.replicate g 32)).length<=500:=by rw[fZ];omega
  refine WC.of (eR (by omega) (aB.dc (λhr=>DR (by omega) (by omega) λy m ey ly=>WC.of (eR (by omega) (q _ ?_ ?_))) λhr=>q _ ?_ (by omega)))
  .rw[cY (y:=y),ey,cv hc3 (.inr ⟨m,rfl⟩),hc2]
  .rw[fZ (y:=y)];omega
  .have:=cv (m:=[]) hc3 (.inl rfl);rw[List.append_nil]at this;rw[this,hc2]
end
theorem Pt{z:PySem.Str}{c:Nat}:Txt.lstripChars z (aG [c])=aG ((tl z).dropWhile λx=>x==c):=by
 have hg:(aG [c]).cps.contains=λx=>x==c:=by
  funext x
  show Array.contains #[c] x=(x==c);by_cases e:x=c
  .subst e;simp
  .have e':¬c=x:=λh=>e h.symm;simp[e,e']
 have e:stripped (λx=>x==c) true false z=aG ((tl z).dropWhile λx=>x==c):=by unfold stripped stripHi stripLo;rw[if_pos rfl,if_neg Bool.false_ne_true,pZ,aQ,List.take_length];show aG ((tl z).drop (List.takeWhile (λx=>x==c) (tl z)).length)=_;rw[tF]
 unfold Txt.lstripChars Txt.stripBy;rw[hg];split
 .rename_i h;rw[<- e];unfold stripSame at h;rw[Bool.and_eq_true,beq_iff_eq,beq_iff_eq]at h;unfold stripped;rw[h.2,h.1,pZ,List.drop_zero,aQ,List.take_length,eT]
 .exact e
section
variable {Xc:Nat->AH->Prop}{k:Nat}{h:AH}{R:AV->AH->Prop}
theorem KL{z:PySem.Str}{c:Nat}{V1:AV->AH->Prop}(hz:z.length<=sizeLine)(q:V1 (.str (aG ((tl z).dropWhile λx=>x==c))) h):We Xc (dB .ls (.str z) (.str (aG [c]))) h V1:=by unfold We dB;simp only[if_pos hz,Pt];exact q
theorem Oy{i:Int}(h0:0<=i)(h1:i<8):∃z:PySem.Str,fO (tl z)/\bJ ([.str "a",.str "h",.str "set",.str "go",.str "jump",.str "fault",.str "load",.str "sum"]:List AV) i=some (.str z):=by
 have:i=0\/i=1\/i=2\/i=3\/i=4\/i=5\/i=6\/i=7:=by omega
 rcases this with rfl|rfl|rfl|rfl|rfl|rfl|rfl|rfl<;>exact⟨_,by unfold fO;decide +kernel,rfl⟩
def sD:PySem.Str:="abcdefghijklmnopqrstuvwxyz"
theorem Dg:sD.length=26:=by decide +kernel
theorem ES{i:Int}(h0:0<=i)(h1:i<26):∃c,(97<=c/\c<=122)/\bJ sD.cps.toList i=some c:=by
 obtain⟨n,rfl⟩:=Int.eq_ofNat_of_zero_le h0;have hn:n<(tl sD).length:=by rw[<- aQ,Dg];omega
 exact⟨_,ik.mp (show _∈tl sD from List.getElem_mem hn),xA (List.getElem?_eq_getElem hn)⟩
theorem yH{n:Int}(h0:0<=n)(h1:n<2147483647)(q:∀z h',Kp h h'->fO (tl z)->R (.str z) h'):WC Xc (run pg (k+1) Ln [.int n]) h R:=by
 have e:sizeLine=16777216:=sizeLine_eq;refine bZ rfl rfl (aB.dc (λhc=>?_) λhc=>WB.of ?_)
 .obtain⟨z,hz,e2⟩:=Oy (i:=n / 3%8) (by omega) (by omega);exact WC.of (cD (bR aV) e2 (q z _ Kp.refl.new hz))
 .with_reducible refine sT (Gh ?_)
  refine⟨ao (by omega) (by omega),?_⟩;generalize eh:h.new _=h2;have kp:Kp h h2:=eh▸Kp.refl.new;refine gk (λi σ h'=>h'=h2/\∃z x a b,σ=[some (.int n),x,some (.str sD),some (.str z),a,b]/\z.length=i/\∀c∈tl z,97<=c/\c<=122) (by rw[jT];omega) ⟨rfl,_,_,_,_,rfl,rfl,λc hc=>by cases hc⟩ ?_ ?_
  .rintro i σ h' hi ⟨rfl,z,x,a,b,rfl,ez,hz⟩
   have h2:0<=n / (0+(i:Int)+25):=Int.ediv_nonneg h0 (by omega);have h3:n / (0+(i:Int)+25)<=n:=Int.ediv_le_self _ h0;obtain⟨c,hc,ec⟩:=ES (i:=(n / 24+n / (0+(i:Int)+25)*(0+(i:Int)))%26) (Int.emod_nonneg _ (by decide)) (Int.emod_lt_of_pos _ (by decide));refine nY _ (iZ _ (aB.t (gg (by omega) (by omega)) (aB.t (yN (by omega) (by omega)) (WC.of (qo (z:=sD) (by rw[Dg];omega) ec (WC.of (eR (by show z.length+1<=_;omega) ⟨rfl,_,_,_,_,rfl,?_,?_⟩)))))))
   .rw[fZ,ez];rfl
   .rw[cY];intro d hd;rcases List.mem_append.mp hd with hd|hd
    .exact hz d hd
    .rw[List.mem_singleton.mp hd];exact hc
  .rintro σ h' ⟨rfl,z,x,a,b,rfl,ez,hz⟩
   refine q z _ kp ⟨λe0=>?_,hz,?_⟩
   .rw[aQ,e0]at ez;have:(0:Nat)=(1+n / 3%8).toNat:=ez;omega
   .rw[<- aQ];omega
end
structure eL(ts:List PySem.Str):Prop where
 len:ts.length<=6
 wd:∀t∈ts,35∉tl t/\t.length<=64
 bad:gT (hG ts)
theorem qY:∀{ts:List PySem.Str},(∀t∈ts,gw (tl t))->hG ts=ts.map tl
 |[],_=>rfl|t::ts,h=>by show wf (tl t)++hG ts=_;rw[qk (h t (.head _)).2.1 (h t (.head _)).1,qY λt ht=>h t (.tail _ ht)];rfl
theorem eL.gw{ts:List PySem.Str}(hl:ts.length<=6)(h:∀t∈ts,gw (tl t)/\t.length<=64)(b:gT (ts.map tl)):eL ts:=⟨hl,λt ht=>⟨(h t ht).1.2.2,(h t ht).2⟩,by rw[qY λt ht=>(h t ht).1];exact b⟩
theorem jS{r:Rk}(ok:r.ok):∀t∈r.tx,gw (tl t)/\t.length<=64:=λt ht=>⟨(qA ok ht).1,by have:=(qA ok ht).2;omega⟩
theorem Du{r:Rk}(ok:r.ok){i:Nat}{p:Wd}{x:PySem.Str}(hp:r.ps[i]?=some p)(hx:gw (tl x))(lx:x.length<=64)(n:dX p.f (tl x)):eL (r.nm::(r.ps.map (·.t)).set i x):=by
 have hi:=(List.getElem?_eq_some_iff.mp hp).1;refine .gw (by have:=kJ r;simp;omega) (λt ht=>?_) ?_
 .rcases List.mem_cons.mp ht with rfl|ht
  .exact⟨(tW r).1,by have:=(tW r).2;omega⟩
  .rcases List.mem_or_eq_of_mem_set ht with ht|rfl
   .exact jS ok t (.tail _ ht)
   .exact⟨hx,lx⟩
 .rw[List.map_cons];refine sm (by rw[eT];exact tI r) i (f:=p.f) (l:=tl x) ?_ ?_ n
  .rw[List.getElem?_map,hp];rfl
  .rw[List.getElem?_map,List.getElem?_set_self (by simpa using hi)];rfl
def Rk.lst:Rk->Option Wd
 |.set _ m=>some (wW m) | .ls _ _ _ s=>some (wF s) | .dR _ t=>some (gR t) | .go t=>some (gR t) | .fault m=>some (wW m)|_=>none
def Rk.pre(r:Rk):List PySem.Str:=r.tx.dropLast
theorem cj(t:TT):(gR t).f="target":=by cases t<;>rfl
theorem jL{r:Rk}{p:Wd}(ok:r.ok)(h:r.lst=some p):tT p/\r.ps[r.ps.length-1]?=some p/\r.tx=r.pre++[p.t]/\(∀x,r.pre++[x]=r.nm::(r.ps.map (·.t)).set (r.ps.length-1) x)/\eM (r.tx.map AV.str) none (some (-1))=r.pre.map AV.str/\bJ (r.tx.map AV.str) (-1)=some (.str p.t)/\r.pre.length<=3:=by
 cases r with
 |way _ _ _ _=>cases h|move _ _=>cases h|set x m=>cases h;exact⟨.inl ⟨m,ok.2,rfl⟩,rfl,rfl,λ_=>rfl,rfl,rfl,by simp[Rk.pre,Rk.tx,Rk.ps]⟩|ls b x y s=>cases h;exact⟨.inr (.inl ⟨s,ok.2.2.1,ok.2.2.2,rfl⟩),rfl,rfl,λ_=>rfl,rfl,rfl,by simp[Rk.pre,Rk.tx,Rk.ps]⟩|dR x t=>cases h;exact⟨.inr (.inr ⟨t,ok.2,rfl⟩),rfl,rfl,λ_=>rfl,rfl,rfl,by simp[Rk.pre,Rk.tx,Rk.ps]⟩|go t=>cases h;exact⟨.inr (.inr ⟨t,ok,rfl⟩),rfl,rfl,λ_=>rfl,rfl,rfl,by simp[Rk.pre,Rk.tx,Rk.ps]⟩|fault m=>cases h;exact⟨.inl ⟨m,ok,rfl⟩,rfl,rfl,λ_=>rfl,rfl,rfl,by simp[Rk.pre,Rk.tx,Rk.ps]⟩
theorem Pq{r:Rk}{p:Wd}(h:r.lst=some p):(p.f="step"/\(r.nm="load"\/r.nm="store"))\/(p.f="target"/\(r.nm="jump"\/r.nm="go"))\/(p.f="word"/\(r.nm="set"\/r.nm="fault")):=by
 cases r with
 |way _ _ _ _=>cases h|move _ _=>cases h|set x m=>cases h;exact .inr (.inr ⟨rfl,.inl rfl⟩)|ls b x y s=>cases h;exact .inl ⟨rfl,by cases b;exact .inl rfl;exact .inr rfl⟩|dR x t=>cases h;exact .inr (.inl ⟨cj t,.inl rfl⟩)|go t=>cases h;exact .inr (.inl ⟨cj t,.inr rfl⟩)|fault m=>cases h;exact .inr (.inr ⟨rfl,.inr rfl⟩)
theorem Ds{r:Rk}{p:Wd}{x:PySem.Str}(ok:r.ok)(h:r.lst=some p)(hx:gw (tl x))(lx:x.length<=64)(n:dX p.f (tl x)):eL (r.pre++[x]):=by obtain⟨_,h1,_,h2,_⟩:=jL ok h;rw[h2];exact Du ok h1 hx lx n
theorem Ja{m:Nat}(h:m<2 ^ 1000):(m:Int).natAbs.log2<1920:=by
 rw[Int.natAbs_natCast];by_cases h0:m=0
 .subst h0;decide
 .exact(Nat.log2_lt h0).mpr (Nat.lt_of_lt_of_le h (Nat.pow_le_pow_right (by decide) (by decide)))
theorem yA{c:Nat}{l:List Nat}(h:gw l)(h1:c≠32)(h2:c≠35):gw (c::l):=⟨List.cons_ne_nil _ _,λe=>(List.mem_cons.mp e).elim (λz=>h1 z.symm) h.2.1,λe=>(List.mem_cons.mp e).elim (λz=>h2 z.symm) h.2.2⟩
theorem xw{l u:List Nat}(h:gw l)(h1:32∉u)(h2:35∉u):gw (l++u):=⟨λe=>h.1 (List.append_eq_nil_iff.mp e).1,λe=>(List.mem_append.mp e).elim h.2.1 h1,λe=>(List.mem_append.mp e).elim h.2.2 h2⟩
theorem Mw{l:List Nat}(h:gw l):gw (fW l):=by
 unfold fW;split
 .rename_i t;refine⟨List.cons_ne_nil _ _,λe=>?_,λe=>?_⟩
  .rcases List.mem_cons.mp e with e|e
   .cases e
   .rcases List.mem_cons.mp e with e|e
    .cases e
    .exact h.2.1 (.tail _ e)
  .rcases List.mem_cons.mp e with e|e
   .cases e
   .rcases List.mem_cons.mp e with e|e
    .cases e
    .exact h.2.2 (.tail _ e)
 .exact yA h (by decide) (by decide)
theorem Nq{l:List Nat}:(fW l).length=l.length+1:=by unfold fW;split<;>simp
theorem Np{p:Wd}(h:tT p):(tl p.t).take ((tl p.t).length-((tl p.t).dropWhile λx=>x==45).length)++48::((tl p.t).dropWhile λx=>x==45)=fW (tl p.t):=by
 have key:∀{c:Nat} {l:List Nat},c≠45->(c::l).take ((c::l).length-((c::l).dropWhile λx=>x==45).length)++48::((c::l).dropWhile λx=>x==45)=fW (c::l):=λ{c l} hc=>by rw[List.dropWhile_cons,if_neg (by simpa using hc),tQ hc,Nat.sub_self];rfl
 have num:∀m,(dg m).take ((dg m).length-((dg m).dropWhile λx=>x==45).length)++48::((dg m).dropWhile λx=>x==45)=fW (dg m):=λm=>by
  cases hd:dg m with
  |nil=>exact absurd hd iP|cons c l=>exact key λe=>kA (m:=m) (by rw[hd,e];rfl)
 rcases h with⟨m,_,rfl⟩|⟨s,_,_,rfl⟩|⟨t,ht,rfl⟩
 .rw[show tl (wW m).t=dg m from dU];exact num m
 .rw[show tl (wF s).t=cB s from sO];unfold cB;split
  .exact num _
  .have e:(45::dg s.natAbs).dropWhile (λx=>x==45)=dg s.natAbs:=by
    rw[List.dropWhile_cons,if_pos (by decide)];cases hd:dg s.natAbs with
    |nil=>rfl|cons c l=>rw[List.dropWhile_cons,if_neg (by simpa using λe=>kA (m:=s.natAbs) (by rw[hd,e];rfl))]
   rw[e,List.length_cons,Nat.add_sub_cancel_left];rfl
 .cases t with
  |num m=>rw[show tl (gR (.num m)).t=dg m from dU];exact num m
  |gL l=>
   have ht:fO (tl l):=ht;rw[show tl (gR (.gL l)).t=tl l from rfl];cases hd:tl l with
   |nil=>exact absurd hd ht.1|cons c k=>
    have:=ht.2.1 c (by rw[hd];exact .head _);have hc:c≠45:=by omega
    exact key hc
theorem ER{z:PySem.Str}{n:Nat}(h:n<=z.length):Txt.slice z none (some (n:Int))=aG ((tl z).take n):=by rw[mf (a:=0) (b:=n) rfl (by show max (0:Int) (min (if((n:Int))<0 then _ else(n:Int)) _)=_;rw[if_neg (by omega)];omega) (Nat.zero_le _) h,List.drop_zero,Nat.sub_zero]
theorem Po{n:Int}(h0:0<=n)(h1:n<4):∃z:PySem.Str,(z="- 5"\/(gw (tl z)/\z.length<=64/\dX "step" (tl z)))/\bJ ([.str "-0",.str "--5",.str "-00",.str "- 5"]:List AV) n=some (.str z):=by
 have:n=0\/n=1\/n=2\/n=3:=by omega
 rcases this with rfl|rfl|rfl|rfl
 .exact⟨"-0",.inr ⟨by unfold gw;decide +kernel,by decide +kernel,λv r=>nh (l:=[]) r⟩,rfl⟩
 .exact⟨"--5",.inr ⟨by unfold gw;decide +kernel,by decide +kernel,λv r=>Dw (c:=45) (x:=45) (t:=[45,53]) (by decide) (by decide) r⟩,rfl⟩
 .exact⟨"-00",.inr ⟨by unfold gw;decide +kernel,by decide +kernel,λv r=>nh (l:=[48]) r⟩,rfl⟩
 .exact⟨_,.inl rfl,rfl⟩
theorem Qf{n:Int}(h0:0<=n)(h1:n<8):∃z:PySem.Str,(z.length<=9/\32∉tl z/\35∉tl z/\∃c∈tl z,¬(48<=c/\c<=57)/\((∃d∈tl z,¬(97<=d/\d<=122))\/8<=(tl z).length))/\bJ ([.str "x1",.str "X",.str "_",.str ".",.str "abcdefghi",.str "1x",.str "\"",.str "_1"]:List AV) n=some (.str z):=by
 have:n=0\/n=1\/n=2\/n=3\/n=4\/n=5\/n=6\/n=7:=by omega
 rcases this with rfl|rfl|rfl|rfl|rfl|rfl|rfl|rfl<;>exact⟨_,by decide +kernel,rfl⟩
section
variable {Xc:Nat->AH->Prop}{k:Nat}{h:AH}{R:AV->AH->Prop}
theorem Kd{h':AH}{hd:Nat}{pre:List PySem.Str}{x:PySem.Str}(kp:Kp h h')(hn:hd<h'.nx)(o:h'.ob hd=some (.lst true (pre.map AV.str)))(s:eL (pre++[x]))
  (q:∀h' m ts,Kp h h'->m<h'.nx->h'.ob m=some (.lst true (ts.map AV.str))->eL ts->R (.ref m) h'):WC Xc (Op.g .add (.ref hd) (.ref h'.nx)) (h'.new (.lst true [.str x])) R:=by
 have hl:=s.len;rw[List.length_append]at hl;refine WC.of (ql ((dH (Nat.ne_of_lt hn)).trans o) aV (Nat.le_trans (m:=10) ?_ (by decide)) (q _ _ (pre++[x]) kp.new.new (Nat.lt_succ_self _) ?_ s))
 .rw[List.length_map];show _+1<=_;have:pre.length+1<=6:=hl;omega
 .rw[aV,List.map_append];rfl
end
theorem OE{A B:Prop}(q:A):aB true A B:=q
theorem cf{A B:Prop}(q:B):aB false A B:=q
theorem FQ{r:Rk} {p:Wd} (ok:r.ok) (h:r.lst=some p) (hf:p.f="step"):eL (r.pre++[("- 5":PySem.Str)]):=by
 cases r with
 |ls b x y s=>
  have e0:hG ((Rk.ls b x y s).pre++[("- 5":PySem.Str)])=[tl (tS b),tl (wB x).t,tl (wB y).t]++[[45],[53]]:=by
   have h1:hG ((Rk.ls b x y s).pre++[("- 5":PySem.Str)])=hG [tS b,(wB x).t,(wB y).t]++(wf (tl ("- 5":PySem.Str))++[]):=by show(List.map _ _).flatten=_;simp[hG,Rk.pre,Rk.tx,Rk.ps,Rk.nm]
   rw[h1,qY λt ht=>?_]
   .rfl
   .exact(jS ok t (by
     simp only[Rk.tx,Rk.ps,Rk.nm,List.map_cons,List.map_nil];simp only[List.mem_cons,List.not_mem_nil,or_false]at ht ⊢;rcases ht with h|h|h
     .exact .inl h
     .exact .inr (.inl h)
     .exact .inr (.inr (.inl h)))).1
  refine⟨by simp[Rk.pre,Rk.tx,Rk.ps],λt ht=>?_,?_⟩
  .rcases List.mem_append.mp ht with ht|ht
   .have:=jS ok t (List.dropLast_subset _ ht);exact⟨this.1.2.2,this.2⟩
   .rw[List.mem_singleton.mp ht];decide +kernel
  .rw[e0];exact dw (by rw[eT];exact tI (.ls b x y s)) (by show(4:Nat)≠3;decide)
 |set x m=>cases h;exact absurd (show("word":PySem.Str)="step" from hf) (by decide)|fault m=>cases h;exact absurd (show("word":PySem.Str)="step" from hf) (by decide)|dR x t=>cases h;rw[cj]at hf;exact absurd hf (by decide)|go t=>cases h;rw[cj]at hf;exact absurd hf (by decide)|way _ _ _ _=>cases h|move _ _=>cases h
section
variable {Xc:Nat->AH->Prop}{k:Nat}{h:AH}{R:AV->AH->Prop}
theorem Pb{nw:Nat}{r:Rk}{p:Wd}{way n:Int}(ok:r.ok)(hr:r.lst=some p)(hn:nw<h.nx)(ob:h.ob nw=some (.lst true (r.tx.map AV.str)))(w0:0<=way)(w5:way<5)(h0:0<=n)(h1:n<2147483647)
  (q:∀h' m ts,Kp h h'->m<h'.nx->h'.ob m=some (.lst true (ts.map AV.str))->eL ts->R (.ref m) h'):WC Xc (run pg (k+1) Lo [.ref nw,.int way,.int n]) h R:=by
 have e:sizeLine=16777216:=sizeLine_eq;obtain⟨lw,lp,ltx,zi,lcut,lat,ll⟩:=jL ok hr;have lf:=Pq hr;have pt:=jS ok p.t (by rw[ltx];exact List.mem_append_right _ (.head _));have lpt:p.t.length<=20:=(qA ok (t:=p.t) (by rw[ltx];exact List.mem_append_right _ (.head _))).2;have hat:bJ (r.tx.map AV.str) 0=some (.str r.nm):=jW;refine bZ rfl rfl (eX (WC.of (wG ob ?_)));rw[lcut];have o1:(h.new (.lst true (r.pre.map AV.str))).ob nw=some (.lst true (r.tx.map AV.str)):=(dH (Nat.ne_of_lt hn)).trans ob;have o2:(h.new (.lst true (r.pre.map AV.str))).ob h.nx=some (.lst true (r.pre.map AV.str)):=aV;have kp:Kp h (h.new (.lst true (r.pre.map AV.str))):=Kp.refl.new;have n2:h.nx<(h.new (.lst true (r.pre.map AV.str))).nx:=Nat.lt_succ_self _;generalize h.new (.lst true (r.pre.map AV.str))=h2 at o1 o2 kp n2 ⊢;have fin:∀{h':AH} {x:PySem.Str},Kp h2 h'->eL (r.pre++[x])->WC Xc (Op.g .add (.ref h.nx) (.ref h'.nx)) (h'.new (.lst true [.str x])) R:=λ{h' x} kp' s=>Kd (kp.trans kp') (Nat.lt_of_lt_of_le n2 kp'.nx) ((kp'.ob _ n2).trans o2) s q;have fin2:∀{h':AH} {x:PySem.Str},Kp h2 h'->gw (tl x)->x.length<=64->dX p.f (tl x)->WC Xc (Op.g .add (.ref h.nx) (.ref h'.nx)) (h'.new (.lst true [.str x])) R:=λ{h' x} kp' g l nw=>fin kp' (Ds ok hr g l nw);refine WC.of (cD (bR o1) lat (WC.of (KL (c:=45) (by omega) (aB.dc (λy0=>?_) λy0=>?_))))
 .have lb:((tl p.t).dropWhile λx=>x==45).length<=p.t.length:=by rw[aQ];exact(List.dropWhile_sublist _).length_le
  have lm:∀{l:List Nat},(aG l).length=l.length:=λ{l}=>by rw[aQ,fJ]
  refine eX (WC.of (sR (by omega) (WC.of (sR (by rw[lm];omega) (WC.of (qr (by omega) ?_))))));rw[lm (l:=(tl p.t).dropWhile λx=>x==45),show(p.t.length:Int)-(((tl p.t).dropWhile λx=>x==45).length:Int)=((p.t.length-((tl p.t).dropWhile λx=>x==45).length:Nat):Int) by omega,ER (by omega)];have l1:(aG ((tl p.t).take (p.t.length-((tl p.t).dropWhile λx=>x==45).length))).length<=20:=by rw[lm,List.length_take];omega
  have l0:("0":PySem.Str).length=1:=rfl;have et:tl (aG ((tl p.t).take (p.t.length-((tl p.t).dropWhile λx=>x==45).length))++("0":PySem.Str)++aG ((tl p.t).dropWhile λx=>x==45))=fW (tl p.t):=by rw[cY,cY,fJ,fJ,List.append_assoc,aQ];exact Np lw
  refine WC.of (eR (by omega) (WC.of (eR (by rw[fZ,lm (l:=(tl p.t).dropWhile λx=>x==45)];omega) (fin2 Kp.refl ?_ ?_ ?_))))
  .rw[et];exact Mw pt.1
  .rw[aQ,et,Nq,<- aQ];omega
  .rw[et];exact Qx lw
 have isS:(r.nm=("load":PySem.Str)\/r.nm=("store":PySem.Str))->p.f="step":=λhh=>by
  rcases lf with⟨f,_⟩|⟨_,g⟩|⟨_,g⟩
  .exact f
  all_goals rcases hh with hh|hh<;>rcases g with g|g<;>(rw[hh]at g;exact absurd g (by decide))
 have isT:(r.nm=("jump":PySem.Str)\/r.nm=("go":PySem.Str))->p.f="target":=λhh=>by
  rcases lf with⟨_,g⟩|⟨f,_⟩|⟨_,g⟩
  rotate_left
  .exact f
  all_goals rcases hh with hh|hh<;>rcases g with g|g<;>(rw[hh]at g;exact absurd g (by decide))
 have b1:(r.nm=("load":PySem.Str)\/r.nm=("store":PySem.Str))->∃z:PySem.Str,eL (r.pre++[z])/\bJ ([.str "-0",.str "--5",.str "-00",.str "- 5"]:List AV) (n%4)=some (.str z):=λhh=>by
  obtain⟨z,hz,e4⟩:=Po (n:=n%4) (by omega) (by omega);refine⟨z,?_,e4⟩;rcases hz with rfl|⟨g,l,nn⟩
  .exact FQ ok hr (isS hh)
  .exact Ds ok hr g l (by rw[isS hh];exact nn)
 have rest:¬(way=1)->iH Xc (run pg k) (.cons (.ite (.cmp .eq (.var 1) (.val (.int 2)))
  (.cons (.ret (.op .add (.var 3) (.lst (.cons (.op .add (.val (.str "+")) (.var 4)) .nil)))) .nil)
  .nil) (.cons (.ite (.cmp .eq (.var 1) (.val (.int 3)))
  (.cons (.asg (.nm 6) (.lst (.cons (.val (.str "x1")) (.cons (.val (.str "X")) (.cons (.val (.str "_")) (.cons (.val (.str ".")) (.cons (.val (.str "abcdefghi")) (.cons (.val (.str "1x")) (.cons (.val (.str "\"")) (.cons (.val (.str "_1")) .nil)))))))))) (.cons (.ret (.op .add (.var 3) (.lst (.cons (.op .add (.var 4) (.op .ix (.var 6) (.op .mod (.var 2) (.val (.int 8))))) .nil)))) .nil))
  .nil) (.cons (.ite (.or (.cmp .eq (.op .ix (.var 0) (.val (.int 0))) (.val (.str "load"))) (.cmp .eq (.op .ix (.var 0) (.val (.int 0))) (.val (.str "store"))))
  (.cons (.ret (.op .add (.var 3) (.lst (.cons (.op .add (.op .ix (.lst (.cons (.val (.str "")) (.cons (.val (.str "-")) .nil))) (.op .mod (.var 2) (.val (.int 2)))) (.bi .str (.cons (.op .add (.val (.int 1000)) (.op .mod (.op .fdiv (.var 2) (.val (.int 2))) (.val (.int 9000)))) .nil))) .nil)))) .nil)
  .nil) (.cons (.ite (.or (.cmp .eq (.op .ix (.var 0) (.val (.int 0))) (.val (.str "jump"))) (.cmp .eq (.op .ix (.var 0) (.val (.int 0))) (.val (.str "go"))))
  (.cons (.ret (.op .add (.var 3) (.lst (.cons (.bi .str (.cons (.op .add (.val (.int 401)) (.op .mod (.var 2) (.val (.int 9000)))) .nil)) .nil)))) .nil)
  .nil) (.cons (.ret (.op .add (.var 3) (.lst (.cons (.bi .str (.cons (.op .add (.op .pow (.val (.int 2)) (.val (.int 64))) (.op .mul (.op .mul (.var 2) (.var 2)) (.var 2))) .nil)) .nil)))) .nil))))) [some (.ref nw),some (.int way),some (.int n),some (.ref h.nx),some (.str p.t),some (.str (aG ((tl p.t).dropWhile λx=>x==45))),none] h2 (λ_ h1=>R .aC h1) R (λ_ _=>False) (λ_ _=>False):=λy1=>by
  refine aB.dc (λy2=>WC.of (eR (by show 1+p.t.length<=_;omega) (fin2 Kp.refl ?_ ?_ ?_))) λy2=>aB.dc (λy3=>?_) λy3=>?_
  .rw[cY];exact yA pt.1 (by decide) (by decide)
  .rw[fZ];show 1+p.t.length<=_;omega
  .rw[cY];exact zw (c:=43) lw (by decide) (by decide) λz=>by cases z
  .obtain⟨z,⟨z9,z32,z35,c,hc,nc,hl⟩,e8⟩:=Qf (n:=n%8) (by omega) (by omega);refine WC.of (cD (bR aV) e8 (WC.of (eR (by omega) (fin2 Kp.refl.new ?_ ?_ ?_))))
   .rw[cY];exact xw pt.1 z32 z35
   .rw[fZ];omega
   .rw[cY];exact Qw lw hc nc hl
  .have bs:(r.nm=("load":PySem.Str)\/r.nm=("store":PySem.Str))->∃y:PySem.Str,y.length<=1/\(y.length+(nS (1000+n / 2%9000)).length<=64/\gw (tl (y++nS (1000+n / 2%9000)))/\dX p.f (tl (y++nS (1000+n / 2%9000))))/\bJ ([.str "",.str "-"]:List AV) (n%2)=some (.str y):=λhh=>by
    obtain⟨m,em,hm⟩:=lP (x:=1000+n / 2%9000) (b:=10000) (by omega) (by omega);have t0:tl (nS (m:Int))=dg m:=dU;have tn:(nS (m:Int)).length<=20:=by rw[aQ,t0];exact tE (by omega)
    rw[em,isS hh];have h2:n%2=0\/n%2=1:=by omega
    rcases h2 with h2|h2
    .refine⟨"",by decide,⟨by show 0+_<=_;omega,?_⟩,by rw[h2];rfl⟩;rw[cY,show tl ("":PySem.Str)=[] from rfl,List.nil_append,t0];refine⟨pG,?_⟩;have:=zv (s:=(m:Int)) (.inr (by omega));unfold cB at this;rwa [if_pos (by omega),Int.toNat_natCast]at this
    .refine⟨"-",by decide,⟨by show 1+_<=_;omega,?_⟩,by rw[h2];rfl⟩;rw[cY,show tl ("-":PySem.Str)=[45] from rfl,t0];refine⟨yA pG (by decide) (by decide),?_⟩;have:=zv (s:=-(m:Int)) (.inl (by omega));unfold cB at this;rwa [if_neg (by omega),show(-(m:Int)).natAbs=m by omega]at this
   have lT:(r.nm=("jump":PySem.Str)\/r.nm=("go":PySem.Str))->WC Xc (Bi.g .str [.int (401+n%9000)]) h2 λz h3=>WC Xc (Op.g .add (.ref h.nx) (.ref h3.nx)) (h3.new (.lst true [z])) R:=λhh=>by
    obtain⟨m,em,hm⟩:=lP (x:=401+n%9000) (b:=10000) (by omega) (by omega);rw[em];have t0:tl (nS (m:Int))=dg m:=dU;refine WC.of (sS (sE (by omega) (by omega)) (fin2 Kp.refl ?_ ?_ ?_))
    .show gw (tl (nS m));rw[t0];exact pG
    .show(nS m).length<=_;rw[aQ,t0];have:=tE (m:=m) (by omega);omega
    .show dX _ (tl (nS m));rw[t0,isT hh];exact Qu (by omega)
   refine WC.of (cD (bR o1) hat (aB.dc (λz1=>?_) λz1=>?_))
   .obtain⟨y,y1,⟨yl,yg,yn⟩,ey⟩:=bs (.inl z1);exact WC.of (cD (bR aV) ey (WC.of (sS (sE (by omega) (by omega)) (WC.of (eR (i:=y) (j:=nS (1000+n / 2%9000)) (Nat.le_trans yl (by omega)) (fin2 Kp.refl.new yg (by rw[fZ];exact yl) yn))))))
   refine WC.of (cD (bR o1) hat (aB.dc (λz2=>?_) λz2=>?_))
   .obtain⟨y,y1,⟨yl,yg,yn⟩,ey⟩:=bs (.inr z2);exact WC.of (cD (bR aV) ey (WC.of (sS (sE (by omega) (by omega)) (WC.of (eR (i:=y) (j:=nS (1000+n / 2%9000)) (Nat.le_trans yl (by omega)) (fin2 Kp.refl.new yg (by rw[fZ];exact yl) yn))))))
   try (with_reducible refine cf ?_)
   refine WC.of (cD (bR o1) hat (aB.dc (λz3=>?_) λz3=>?_))
   .exact lT (.inl z3)
   refine WC.of (cD (bR o1) hat (aB.dc (λz4=>?_) λz4=>?_))
   .exact lT (.inr z4)
   try (with_reducible refine cf ?_)
   have hf:p.f="word":=by
    rcases lf with⟨_,g|g⟩|⟨_,g|g⟩|⟨g,_⟩
    .exact absurd g z1
    .exact absurd g z2
    .exact absurd g z3
    .exact absurd g z4
    .exact g
   obtain⟨m,em,hm⟩:=lP h0 h1;subst em;have m3:m*m*m<2147483647*2147483647*2147483647:=Nat.mul_lt_mul'' (Nat.mul_lt_mul'' (by omega) (by omega)) (by omega);refine WC.of (cu rfl (aB.t (yN (by omega) (by omega)) (aB.t (zm (by omega) (by omega)) ?_)));have em:((2:Int) ^ 64+(m:Int)*m*m)=((18446744073709551616+m*m*m:Nat):Int):=by rw[Int.natCast_add,Int.natCast_mul,Int.natCast_mul];rfl
   show WC Xc (Bi.g .str [.int ((2:Int) ^ 64+(m:Int)*m*m)]) h2 _;rw[em];have t0:∀x:Nat,tl (nS (x:Int))=dg x:=λx=>dU;refine WC.of (sS (Ja ?_) (fin2 Kp.refl ?_ ?_ ?_))
   .exact Nat.lt_of_lt_of_le (m:=2 ^ 100) (by omega) (Nat.pow_le_pow_right (by decide) (by decide))
   .show gw (tl (nS _));rw[t0];exact pG
   .show(nS _).length<=_;rw[aQ,t0];exact(mT (by decide)).mpr (Nat.lt_of_lt_of_le (m:=2 ^ 100) (by omega) (by decide))
   .show dX _ (tl (nS _));rw[t0,hf];exact Qv (by omega)
 refine aB.dc (λy1=>?_) λy1=>?_;rotate_left
 .try (with_reducible refine cf ?_)
  exact aB.df y1 (rest y1)
 refine WC.of (cD (bR o1) hat (aB.dc (λz1=>?_) λz1=>?_))
 .obtain⟨z,sp,e4⟩:=b1 (.inl z1);exact WC.of (cD (bR aV) e4 (fin Kp.refl.new sp))
 refine WC.of (cD (bR o1) hat (aB.dc (λz2=>?_) λz2=>?_))
 .obtain⟨z,sp,e4⟩:=b1 (.inr z2);exact WC.of (cD (bR aV) e4 (fin Kp.refl.new sp))
 try (with_reducible refine cf ?_)
 refine aB.dt y1 (WC.of (eR (by show 1+p.t.length<=_;omega) (fin2 Kp.refl ?_ ?_ ?_)))
 .rw[cY];exact yA pt.1 (by decide) (by decide)
 .rw[fZ];show 1+p.t.length<=_;omega
 .rw[cY];refine zw (c:=45) lw (by decide) (by decide) λ_ hf=>?_;rcases lf with⟨_,g|g⟩|⟨f,_⟩|⟨f,_⟩
  .exact z1 g
  .exact z2 g
  .rw[f]at hf;exact absurd hf (by decide)
  .rw[f]at hf;exact absurd hf (by decide)
end
theorem Mo{k:PySem.Str}{fs:List PySem.Str}(h:dI.lookup k=some fs):1<=fs.length:=by
 have all:dI.all (λp=>decide (1<=p.2.length))=true:=by decide +kernel
 exact of_decide_eq_true (List.all_eq_true.mp all _ (rH h))
theorem dz{w:List Nat}:gT [w]:=by
 cases hl:dI.lookup (aG w) with
 |none=>exact xC hl|some fs=>exact dw hl (by have:=Mo hl;show 0≠fs.length;omega)
theorem Jd{x:Nat}(h:x<8):dI.lookup (aG [97+x])=none:=by
 have:x=0\/x=1\/x=2\/x=3\/x=4\/x=5\/x=6\/x=7:=by omega
 rcases this with rfl|rfl|rfl|rfl|rfl|rfl|rfl|rfl<;>rfl
theorem Vz{r:Rk}(ok:r.ok):(∃p,r.ps=[p])\/∃x ps,x<8/\r.ps=wB x::ps:=by
 cases r with
 |way w x y z=>exact .inr ⟨x,_,ok.1,rfl⟩|set x m=>exact .inr ⟨x,_,ok.1,rfl⟩|move x y=>exact .inr ⟨x,_,ok.1,rfl⟩|ls b x y s=>exact .inr ⟨x,_,ok.1,rfl⟩|dR x t=>exact .inr ⟨x,_,ok.1,rfl⟩|go t=>exact .inl ⟨_,rfl⟩|fault m=>exact .inl ⟨_,rfl⟩
theorem my{r:Rk}{ts:List PySem.Str}(ok:r.ok)(hl:ts.length<=6)(hs:∀t∈ts,t∈r.tx\/(gw (tl t)/\t.length<=64))(b:gT (ts.map tl)):eL ts:=
 .gw hl (λt ht=>(hs t ht).elim (λh=>jS ok t h) id) b
theorem Dt{r:Rk}{us:List PySem.Str}(ok:r.ok)(hl:us.length<=5)(hs:∀t∈us,t∈r.tx\/(gw (tl t)/\t.length<=64))(n:us.length≠r.ps.length):eL (r.nm::us):=by
 refine my ok (by simpa using hl) (λt ht=>?_) ?_
 .rcases List.mem_cons.mp ht with rfl|ht
  .exact .inl (.head _)
  .exact hs t ht
 .rw[List.map_cons];exact dw (by rw[eT];exact tI r) (by simpa using n)
theorem FO{r:Rk}{x:PySem.Str}(ok:r.ok)(hx:gw (tl x))(lx:x.length<=64)(b:dI.lookup x=none):eL (x::r.tx.drop 1):=by
 have pl:=kJ r;refine my ok ?_ (λt ht=>?_) ?_
 .simp[Rk.tx];omega
 .rcases List.mem_cons.mp ht with rfl|ht
  .exact .inr ⟨hx,lx⟩
  .exact .inl (List.mem_of_mem_drop ht)
 .rw[List.map_cons];exact xC (by rw[eT];exact b)
theorem FL{r:Rk}{a:Nat}(ok:r.ok)(ha:a<r.tx.length):eL (r.tx.take a++r.tx.drop (a+1)):=by
 have pl:=kJ r;have mm:∀{t a b},t∈r.tx.take a++r.tx.drop b->t∈r.tx:=λh=>(List.mem_append.mp h).elim List.mem_of_mem_take List.mem_of_mem_drop;cases a with
 |zero=>
  refine my ok (by simp[Rk.tx];omega) (λt ht=>.inl (mm ht)) ?_;show gT ((r.ps.map (·.t)).map tl);rcases Vz ok with⟨p,e⟩|⟨x,ps,hx,e⟩
  .rw[e];exact dz
  .rw[e];exact xC (Jd hx)
 |succ a=>
  have ha:a<r.ps.length:=by simpa[Rk.tx]using ha
  have e:r.tx.take (a+1)++r.tx.drop (a+2)=r.nm::((r.ps.map (·.t)).take a++(r.ps.map (·.t)).drop (a+1)):=rfl;rw[e];refine Dt ok ?_ (λt ht=>.inl ?_) ?_
  .simp;omega
  .exact .tail _ ((List.mem_append.mp ht).elim List.mem_of_mem_take List.mem_of_mem_drop)
  .simp;omega
theorem FP{r:Rk}{a:Nat}{x:PySem.Str}(ok:r.ok)(ha:a<r.tx.length)(hx:gw (tl x)/\x.length<=64):eL (r.tx.take (a+1)++[x]++r.tx.drop (a+1)):=by
 have pl:=kJ r;have ha:a<=r.ps.length:=by simp[Rk.tx]at ha;omega
 have e:r.tx.take (a+1)++[x]++r.tx.drop (a+1)=r.nm::((r.ps.map (·.t)).take a++[x]++(r.ps.map (·.t)).drop a):=rfl;rw[e];refine Dt ok ?_ (λt ht=>?_) ?_
 .simp;omega
 .rcases List.mem_append.mp ht with ht|ht
  .rcases List.mem_append.mp ht with ht|ht
   .exact .inl (.tail _ (List.mem_of_mem_take ht))
   .rw[List.mem_singleton.mp ht];exact .inr hx
  .exact .inl (.tail _ (List.mem_of_mem_drop ht))
 .simp;omega
theorem FK{r:Rk}{i:Nat}{p:Wd}{x:PySem.Str}(ok:r.ok)(hp:r.ps[i]?=some p)(hx:gw (tl x))(lx:x.length<=64)(n:dX p.f (tl x)):eL (r.tx.take (i+1)++[x]++r.tx.drop (i+2)):=by
 have hi:=(List.getElem?_eq_some_iff.mp hp).1;have e:r.tx.take (i+1)++[x]++r.tx.drop (i+2)=r.nm::(r.ps.map (·.t)).set i x:=by rw[List.set_eq_take_append_cons_drop,if_pos (by simpa using hi)];show r.nm::((r.ps.map (·.t)).take i++[x]++(r.ps.map (·.t)).drop (i+1))=_;rw[List.append_assoc];rfl
 rw[e];exact Du ok hp hx lx n
theorem Jg{n:Int}(h0:0<=n)(h1:n<8):∃z:PySem.Str,(gw (tl z)/\z.length<=64/\dX "box" (tl z))/\bJ ([.str "i",.str "z",.str "A",.str "H",.str "1",.str "aa",.str "ab",.str ":"]:List AV) n=some (.str z):=by
 have one:∀c:Nat,¬(97<=c/\c<=104)->dX "box" [c]:=λc hc=>er λ⟨x,hx,e⟩=>hc (by rw[List.cons.injEq]at e;omega);have mB:∀c d:Nat,dX "box" [c,d]:=λc d=>er λ⟨x,hx,e⟩=>by cases e
 have:n=0\/n=1\/n=2\/n=3\/n=4\/n=5\/n=6\/n=7:=by omega
 rcases this with rfl|rfl|rfl|rfl|rfl|rfl|rfl|rfl
 .exact⟨"i",⟨by unfold gw;decide +kernel,by decide,one 105 (by decide)⟩,rfl⟩
 .exact⟨"z",⟨by unfold gw;decide +kernel,by decide,one 122 (by decide)⟩,rfl⟩
 .exact⟨"A",⟨by unfold gw;decide +kernel,by decide,one 65 (by decide)⟩,rfl⟩
 .exact⟨"H",⟨by unfold gw;decide +kernel,by decide,one 72 (by decide)⟩,rfl⟩
 .exact⟨"1",⟨by unfold gw;decide +kernel,by decide,one 49 (by decide)⟩,rfl⟩
 .exact⟨"aa",⟨by unfold gw;decide +kernel,by decide,mB 97 97⟩,rfl⟩
 .exact⟨"ab",⟨by unfold gw;decide +kernel,by decide,mB 97 98⟩,rfl⟩
 .exact⟨":",⟨by unfold gw;decide +kernel,by decide,one 58 (by decide)⟩,rfl⟩
theorem Nn{n:Int}(h0:0<=n)(h1:n<6):∃z:PySem.Str,(gw (tl z)/\z.length<=64)/\bJ ([.str "a",.str "0",.str "go",.str "7",.str ":",.str "b"]:List AV) n=some (.str z):=by
 have:n=0\/n=1\/n=2\/n=3\/n=4\/n=5:=by omega
 rcases this with rfl|rfl|rfl|rfl|rfl|rfl<;>exact⟨_,by unfold gw;decide +kernel,rfl⟩
def gy(z:PySem.Str):Bool:=decide (tl z≠[]) && !(tl z).contains 32 && !(tl z).contains 35&&decide (z.length<=64)
theorem xv{z:PySem.Str}(h:gy z=true):gw (tl z)/\z.length<=64:=by unfold gy at h;simp only[Bool.and_eq_true,decide_eq_true_eq,Bool.not_eq_true',List.contains_eq_mem,decide_eq_false_iff_not]at h;exact⟨⟨h.1.1.1,h.1.1.2,h.1.2⟩,h.2⟩
def jD(z:PySem.Str):Bool:=(dI.lookup z).isNone&&gy z
theorem dv{r:Rk}{z:PySem.Str}(ok:r.ok)(h:jD z=true):eL (z::r.tx.drop 1):=by unfold jD at h;rw[Bool.and_eq_true]at h;exact FO ok (xv h.2).1 (xv h.2).2 (Option.isNone_iff_eq_none.mp h.1)
theorem Kx(r:Rk){n:Int}(h0:0<=n)(h1:n<4):∃z:PySem.Str,(z.length<=1/\jD (r.nm++z)=true)/\bJ ([.str "s",.str "o",.str "1",.str ":"]:List AV) n=some (.str z):=by
 have k:=yG (P:=λm=>jD (m++"s")&&jD (m++"o")&&jD (m++"1")&&jD (m++":")) (by decide +kernel) r;simp only[Bool.and_eq_true]at k;have:n=0\/n=1\/n=2\/n=3:=by omega
 rcases this with rfl|rfl|rfl|rfl
 .exact⟨"s",⟨by decide,k.1.1.1⟩,rfl⟩
 .exact⟨"o",⟨by decide,k.1.1.2⟩,rfl⟩
 .exact⟨"1",⟨by decide,k.1.2⟩,rfl⟩
 .exact⟨":",⟨by decide,k.2⟩,rfl⟩
theorem uz(r:Rk):jD (aG ((tl r.nm).take (r.nm.length-1)))=true/\1<=r.nm.length:=by have k:=yG (P:=λm=>jD (aG ((tl m).take (m.length-1)))&&decide (1<=m.length)) (by decide +kernel) r;simp only[Bool.and_eq_true,decide_eq_true_eq]at k;exact k
theorem Fg(r:Rk):jD (Txt.upper r.nm)=true/\Builtin.Str.tooLong (Txt.upper r.nm).length=false:=by have k:=yG (P:=λm=>jD (Txt.upper m) && !Builtin.Str.tooLong (Txt.upper m).length) (by decide +kernel) r;simp only[Bool.and_eq_true,Bool.not_eq_true']at k;exact k
def jR:aW->aW
 |.cons _ r=>r
 |.nil=>.nil
section
variable {Xc:Nat->AH->Prop}{k:Nat}{h:AH}{R:AV->AH->Prop}
theorem lD{a b:Nat}{xs ys:List PySem.Str}(o1:h.ob a=some (.lst true (xs.map AV.str)))(o2:h.ob b=some (.lst true (ys.map AV.str)))(s:xs.length+ys.length<=20)(q:R (.ref h.nx) (h.new (.lst true ((xs++ys).map AV.str)))):WC Xc (Op.g .add (.ref a) (.ref b)) h R:=by refine WC.of (ql o1 o2 (Nat.le_trans (m:=20) (by simpa using s) (by decide)) ?_);rw[<- List.map_append];exact q
theorem lu{a:Nat}{xs:List PySem.Str}{n:Nat}{j:Int}(e:j=n)(o:h.ob a=some (.lst true (xs.map AV.str)))(q:R (.ref h.nx) (h.new (.lst true ((xs.take n).map AV.str)))):WC Xc (fF (.ref a) none (some j)) h R:=by subst e;refine WC.of (wG o ?_);rw[vb,<- List.map_take];exact q
theorem sC{a:Nat}{xs:List PySem.Str}{n:Nat}{j:Int}(e:j=n)(o:h.ob a=some (.lst true (xs.map AV.str)))(q:R (.ref h.nx) (h.new (.lst true ((xs.drop n).map AV.str)))):WC Xc (fF (.ref a) (some j) none) h R:=by subst e;refine WC.of (wG o ?_);rw[uy,<- List.map_drop];exact q
theorem Rf{r:Rk}(q:R (.bl r.lst.isSome) h):WC Xc (run pg (k+1) Lr [.str r.nm]) h R:=by
 refine bZ rfl rfl ?_;cases r with
 |way w x y z=>exact aB.df (zq w) (aB.df (zo w) (aB.df (zp w) (aB.df (zr w) (aB.df (jn w) (mJ (by show AV.bl false=AV.bl (decide (w.nm=_));rw[decide_eq_false (jm w)]) q)))))|ls b x y s=>cases b<;>exact q|_=>exact q
variable {nw:Nat}{r:Rk}{n:Int}(ok:r.ok)(hn:nw<h.nx)(ob:h.ob nw=some (.lst true (r.tx.map AV.str)))(h0:0<=n)(h1:n<2147483647)
 (q:∀h' m ts,Kp h h'->m<h'.nx->h'.ob m=some (.lst true (ts.map AV.str))->eL ts->R (.ref m) h')
include ok hn ob h0 h1 q
theorem Je:WC Xc (run pg (k+2) Ll [.ref nw,.int n]) h R:=by
 have hat:bJ (r.tx.map AV.str) 0=some (.str r.nm):=jW;have pl:=kJ r;have fin:∀(i:Nat) (p:Wd),r.ps[i]?=some p->p.f="box"->iH Xc (run pg (k+1)) (jR (jR (jR sj))) [some (.ref nw),some (.int n),some (.int ((i+1:Nat):Int)),none] h (λ_ h1=>R .aC h1) R (λ_ _=>False) (λ_ _=>False):=λi p hp hf=>by
  have hi:=(List.getElem?_eq_some_iff.mp hp).1;obtain⟨x,⟨gx,lx,nx⟩,e8⟩:=Jg (n:=n / 2%8) (by omega) (by omega);refine eX (lu (n:=i+1) rfl ((dH (Nat.ne_of_lt hn)).trans ob) ?_);refine WC.of (cD (bR ((dH (Nat.ne_of_lt (Nat.lt_succ_self _))).trans aV)) e8 ?_);refine lD (xs:=r.tx.take (i+1)) (ys:=[x]) ((dH (Nat.ne_of_lt (Nat.lt_succ_self _))).trans aV) aV ?_ ?_
  .simp[Rk.tx];omega
  refine eX (sC (n:=i+2) (by omega) (xs:=r.tx) ((Kp.ob (Kp.refl.new.new.new.new) _ hn).trans ob) ?_);refine lD (xs:=r.tx.take (i+1)++[x]) (ys:=r.tx.drop (i+2)) ((dH (Nat.ne_of_lt (Nat.lt_succ_self _))).trans aV) aV ?_ ?_
  .simp[Rk.tx];omega
  exact q _ _ _ Kp.refl.new.new.new.new.new.new (Nat.lt_succ_self _) aV (FK ok hp gx lx (by rw[hf];exact nx))
 refine bZ rfl rfl (WC.of (cD (bR ob) hat (fc ?_)));cases eb:tB r 1 with
 |false=>
  refine q _ _ ["sum","a","b","i"] Kp.refl.new (Nat.lt_succ_self _) aV (.gw (by decide) ?_ ?_)
  .intro t ht;simp only[List.mem_cons,List.not_mem_nil,or_false]at ht;rcases ht with rfl|rfl|rfl|rfl<;>(unfold gw;decide +kernel)
  .exact sm (w:=tl ("sum":PySem.Str)) (fs:=["box","box","box"]) (l:=[105]) rfl 2 rfl rfl (er λ⟨x,hx,e⟩=>by rw[List.cons.injEq]at e;omega)
 |true=>
  have p0:∃p:Wd,r.ps[0]?=some p/\p.f=("box":PySem.Str):=by
   obtain⟨p,hp⟩:∃p,r.ps[0]?=some p:=⟨_,List.getElem?_eq_getElem (by omega)⟩;refine⟨p,hp,?_⟩;rcases tq ok hp with⟨_,x,_,rfl⟩|⟨e,_⟩
   .rfl
   .rw[show(1+((0:Nat):Int))=1 from rfl,eb]at e;cases e
  obtain⟨p,hp,hf⟩:=p0;refine aB.dc (λo=>WC.of (cD (bR ob) hat (fc ?_))) λo=>?_
  .cases e2:tB r 2 with
   |false=>exact fin 0 p hp hf|true=>
    have p1:∃p:Wd,r.ps[1]?=some p/\p.f=("box":PySem.Str):=by
     cases r with
     |way w x y z=>exact⟨_,rfl,rfl⟩|move x y=>exact⟨_,rfl,rfl⟩|ls b x y s=>exact⟨_,rfl,rfl⟩|set x m=>cases e2|dR x t=>cases e2|go t=>cases e2|fault m=>cases e2
    obtain⟨p',hp',hf'⟩:=p1;exact fin 1 p' hp' hf'
  .exact fin 0 p hp hf
theorem LR{way:Int}(w0:0<=way)(w1:way<11):WC Xc (run pg (k+3) Ma [.ref nw,.int way,.int n]) h R:=by
 have hat:bJ (r.tx.map AV.str) 0=some (.str r.nm):=jW;have pl:=kJ r;have tl4:r.tx.length=r.ps.length+1:=by simp[Rk.tx]
 have rest:iH Xc (run pg (k+2)) (jR sk) [some (.ref nw),some (.int way),some (.int n),none,none] h (λ_ h1=>R .aC h1) R (λ_ _=>False) (λ_ _=>False):=by
  refine WC.of (cq (bR ob) ?_);rw[List.length_map];refine aB.dt (by omega) ?_;obtain⟨a,ea,ha⟩:=lP (x:=n%(r.tx.length:Int)) (b:=r.tx.length) (Int.emod_nonneg _ (by omega)) (Int.emod_lt_of_pos _ (by omega));have ha:a<r.tx.length:=by omega
  rw[ea];refine aB.dc (λ_=>?_) λ_=>aB.dc (λ_=>?_) λ_=>aB.dc (λ_=>?_) λ_=>aB.dc (λ_=>?_) λ_=>aB.dc (λ_=>?_) λ_=>?_
  .refine eX (lu (n:=a) rfl ob ?_);refine eX (sC (n:=a+1) rfl (xs:=r.tx) ((dH (Nat.ne_of_lt hn)).trans ob) ?_);refine lD (xs:=r.tx.take a) (ys:=r.tx.drop (a+1)) ((dH (Nat.ne_of_lt (Nat.lt_succ_self _))).trans aV) aV ?_ ?_
   .simp;omega
   exact q _ _ _ Kp.refl.new.new.new (Nat.lt_succ_self _) aV (FL ok ha)
  .obtain⟨x,hx,e6⟩:=Nn (n:=n / 8%6) (by omega) (by omega);refine eX (lu (n:=a+1) rfl ((dH (Nat.ne_of_lt hn)).trans ob) ?_);refine WC.of (cD (bR ((dH (Nat.ne_of_lt (Nat.lt_succ_self _))).trans aV)) e6 ?_);refine lD (xs:=r.tx.take (a+1)) (ys:=[x]) ((dH (Nat.ne_of_lt (Nat.lt_succ_self _))).trans aV) aV ?_ ?_
   .simp;omega
   refine eX (sC (n:=a+1) rfl (xs:=r.tx) ((Kp.ob (Kp.refl.new.new.new.new) _ hn).trans ob) ?_);refine lD (xs:=r.tx.take (a+1)++[x]) (ys:=r.tx.drop (a+1)) ((dH (Nat.ne_of_lt (Nat.lt_succ_self _))).trans aV) aV ?_ ?_
   .simp;omega
   exact q _ _ _ Kp.refl.new.new.new.new.new.new (Nat.lt_succ_self _) aV (FP ok ha hx)
  .refine WC.of (cD (bR ob) hat (WC.of (LF (Fg r).2 ?_)));refine eX (sC (n:=1) rfl (xs:=r.tx) ((dH (Nat.ne_of_lt hn)).trans ob) ?_);refine lD (xs:=[Txt.upper r.nm]) (ys:=r.tx.drop 1) ((dH (Nat.ne_of_lt (Nat.lt_succ_self _))).trans aV) aV ?_ ?_
   .simp;omega
   exact q _ _ _ Kp.refl.new.new.new (Nat.lt_succ_self _) aV (dv ok (Fg r).1)
  .obtain⟨x,⟨lx,bx⟩,e4⟩:=Kx r (n:=n%4) (by omega) (by omega);have ln:=(tW r).2;refine WC.of (cD (bR ob) hat (WC.of (cD (bR aV) e4 (WC.of (eR (Nat.le_trans (m:=64) (by omega) (by decide)) ?_)))));refine eX (sC (n:=1) rfl (xs:=r.tx) ((Kp.ob (Kp.refl.new.new) _ hn).trans ob) ?_);refine lD (xs:=[r.nm++x]) (ys:=r.tx.drop 1) ((dH (Nat.ne_of_lt (Nat.lt_succ_self _))).trans aV) aV ?_ ?_
   .simp;omega
   exact q _ _ _ Kp.refl.new.new.new.new (Nat.lt_succ_self _) aV (dv ok bx)
  .have ln:=(tW r).2;refine eX (WC.of (cD (bR ob) hat (WC.of (qr (Nat.le_trans (m:=64) (by omega) (by decide)) ?_))));rw[EO (uz r).2];refine eX (sC (n:=1) rfl (xs:=r.tx) ((dH (Nat.ne_of_lt hn)).trans ob) ?_);refine lD (xs:=[aG ((tl r.nm).take (r.nm.length-1))]) (ys:=r.tx.drop 1) ((dH (Nat.ne_of_lt (Nat.lt_succ_self _))).trans aV) aV ?_ ?_
   .simp;omega
   exact q _ _ _ Kp.refl.new.new.new (Nat.lt_succ_self _) aV (dv ok (uz r).1)
  .exact Je ok hn ob h0 h1 q
 refine bZ rfl rfl (aB.dc (λw5=>WC.of (cD (bR ob) hat (Rf ?_))) λw5=>?_)
 .cases hr:r.lst with
  |none=>exact rest|some p=>exact Pb ok hr hn ob w0 w5 h0 h1 q
 .exact rest
end
theorem nr{L:Nat}:∀{ts:List PySem.Str},(∀t∈ts,t.length<=L)->(ts.map (·.length)).sum<=ts.length*L
 |[],_=>by simp
 |t::ts,h=>by have h1:=nr (L:=L) (ts:=ts) λt ht=>h t (.tail _ ht);have h2:=h t (.head _);rw[List.map_cons,List.sum_cons,List.length_cons,Nat.succ_mul];omega
theorem Oo{z:PySem.Str}{ts:List PySem.Str}{L M:Nat}(h:∀t∈ts,t.length<=L)(hl:ts.length<=M)(hm:M*(L+1)<=1048576)(hz:z.length<=16):JoinOk z ts=true:=by refine joinOk_of_weight ?_ hz;have h1:=nr h;have h2:ts.length*(L+1)<=M*(L+1):=Nat.mul_le_mul_right _ hl;rw[Nat.mul_succ]at h2;omega
theorem ym{z:PySem.Str}{ts:List PySem.Str}:Txt.join z ts=PySem.Str.join z ts:=StrLaws.glued_eq_join ..
theorem jb{c:Nat}{x:Nat}:∀{ts:List PySem.Str},x∈tl (PySem.Str.join (aG [c]) ts)->x=c\/∃t∈ts,x∈tl t
 |[],h=>by cases h
 |[t],h=>.inr ⟨t,.head _,h⟩
 |t::u::l,h=>by
  have h:x∈tl (t++aG [c]++PySem.Str.join (aG [c]) (u::l)):=h;rw[cY,cY,fJ]at h;rcases List.mem_append.mp h with h|h
  .rcases List.mem_append.mp h with h|h
   .exact .inr ⟨t,.head _,h⟩
   .exact .inl (List.mem_singleton.mp h)
  .rcases jb h with h|⟨y,hy,h⟩
   .exact .inl h
   .exact .inr ⟨y,.tail _ hy,h⟩
theorem LQ{z:PySem.Str}(h32:32∉tl z)(h35:35∉tl z):gT (gG (tl z)):=by
 have e:=cv (m:=[]) h35 (.inl rfl);rw[List.append_nil]at e;rw[e];cases hz:tl z with
 |nil=>exact dy|cons c l=>rw[<- hz,qk h32 (by rw[hz];exact List.cons_ne_nil _ _)];exact dz
theorem yq{l:PySem.Str}(h:fO (tl l)):(35∉tl (l++":")/\(l++":").length<=64)/\gw (tl (l++":"))/\dI.lookup (l++":")=none:=by
 have g:gw (tl (l++":")):=by rw[cY];exact xw (xx h) (by decide) (by decide)
 have:=h.2.2;refine⟨⟨g.2.2,?_⟩,g,?_⟩
 .rw[fZ,aQ];show _+1<=_;omega
 .cases hl:dI.lookup (l++":") with
  |none=>rfl|some fs=>
   have all:dI.all (λp=>!(tl p.1).contains 58)=true:=by decide +kernel
   have:=List.all_eq_true.mp all _ (rH hl);simp only[Bool.not_eq_true',List.contains_eq_mem,decide_eq_false_iff_not]at this;exact absurd (by rw[cY];exact List.mem_append_right _ (by decide)) this
section
variable {Xc:Nat->AH->Prop}{k:Nat}{h:AH}{R:AV->AH->Prop}
theorem Iy{nw:Nat}{r:Rk}{n:Int}(ok:r.ok)(hn:nw<h.nx)(ob:h.ob nw=some (.lst true (r.tx.map AV.str)))(h0:0<=n)(h1:n<2147483647)
  (q:∀h' z,Kp h h'->z.length<=1010->gT (gG (tl z))->R (.str z) h'):WC Xc (run pg (k+4) Lj [.ref nw,.int n]) h R:=by
 have pl:=kJ r;have tl4:r.tx.length=r.ps.length+1:=by simp[Rk.tx]
 refine bZ rfl rfl (aB.dc (λw=>?_) λw=>aB.dc (λw=>?_) λw=>aB.dc (λw=>?_) λw=>aB.dc (λw=>?_) λw=>aB.dc (λw=>?_) λw=>?_)
 .refine LR (n:=n / 16) ok hn ob (by omega) (by omega) (λh' m ts kp hm om sp=>?_) (by omega) w;exact rG om sp.len sp.wd (by omega) (by omega) λz ez lz=>q _ z kp (by omega) (by rw[ez];exact sp.bad)
 .refine WC.of (KI ob (Oo (L:=20) (M:=4) (λt ht=>(qA ok ht).2) (by omega) (by decide) (by decide)) (q _ _ Kp.refl ?_ ?_))
  .rw[ym];refine Nat.le_trans (StrLaws.join_length_le "," r.tx) ?_;have:=nr (L:=20) (ts:=r.tx) λt ht=>(qA ok ht).2;have h4:r.tx.length<=4:=by omega
   have e1:((",":PySem.Str).length)=1:=rfl;rw[e1];omega
  .rw[ym];refine LQ (λhm=>?_) λhm=>?_
   .rcases jb (c:=44) hm with e|⟨t,ht,hm⟩
    .cases e
    .exact(qA ok ht).1.2.1 hm
   .rcases jb (c:=44) hm with e|⟨t,ht,hm⟩
    .cases e
    .exact(qA ok ht).1.2.2 hm
 .refine yH (n:=n / 16) (by omega) (by omega) λl h' kp lb=>?_;obtain⟨hw,g,bl⟩:=yq lb;have l8:=lb.2.2;rw[<- aQ]at l8;refine WC.of (eR (Nat.le_trans (m:=64) (by show _+1<=_;omega) (by decide)) ?_);refine rG (ts:=[l++":"]) aV (by simp) (λt ht=>by rw[List.mem_singleton.mp ht];exact hw) (by omega) (by omega) λz ez lz=>q _ z kp.new (by omega) ?_;rw[ez,qY λt ht=>by rw[List.mem_singleton.mp ht];exact g];exact dz
 .refine yH (n:=n / 16) (by omega) (by omega) λl h' kp lb=>?_;obtain⟨hw,g,bl⟩:=yq lb;have l8:=lb.2.2;rw[<- aQ]at l8;refine WC.of (eR (Nat.le_trans (m:=64) (by show _+1<=_;omega) (by decide)) ?_);refine lD (xs:=[l++":"]) (ys:=r.tx) aV ((kp.new.ob _ hn).trans ob) (by simp;omega) ?_;have all:∀t∈[l++":"]++r.tx,gw (tl t)/\t.length<=64:=λt ht=>by
   rcases List.mem_append.mp ht with ht|ht
   .rw[List.mem_singleton.mp ht];exact⟨g,hw.2⟩
   .exact jS ok t ht
  refine rG (ts:=[l++":"]++r.tx) aV (by simp;omega) (λt ht=>⟨(all t ht).1.2.2,(all t ht).2⟩) (by omega) (by omega) λz ez lz=>q _ z kp.new.new (by omega) ?_;rw[ez,qY λt ht=>(all t ht).1];exact xC (by rw[eT];exact bl)
 .exact rG (ts:=[]) aV (by decide) (λt ht=>by cases ht) (by omega) (by omega) λz ez lz=>q _ z Kp.refl.new (by omega) (by rw[ez];exact dy)
 .refine rG ob (by omega) (λt ht=>⟨(jS ok t ht).1.2.2,(jS ok t ht).2⟩) (by omega) (by omega) λz ez lz=>WC.of (eR (Nat.le_trans (m:=1001) (by show 1+_<=_;omega) (by decide)) (q _ _ Kp.refl ?_ ?_))
  .rw[fZ];show 1+_<=_;omega
  .rw[cY];have e:=cv (l:=[]) (m:=35::tl z) (by simp) (.inr ⟨_,rfl⟩);rw[show tl ("#":PySem.Str)++tl z=[]++35::tl z from rfl,e,Fy];exact dy
theorem DP{z:PySem.Str}(hz:z.length<=1010)(b:gT (gG (tl z)))(q:∀h',Kp h h'->R (.bl true) h'):WC Xc (run pg (k+7) Ls [.str z]) h R:=by
 refine bZ rfl rfl (WB.of ?_);with_reducible refine Gu (Fv (kT _ ?_))
 refine WC.we (lh (by omega) λh' v kp rr=>⟨λ_=>?_,λe=>?_⟩)
 .refine Gs rfl (MP (iZ _ ?_));have o:(h'.new (.xo 70)).ob h'.nx=some (.xo 70):=aV;have kq:Kp h (h'.new (.xo 70)):=kp.new;generalize h'.new (.xo 70)=h2 at o kq ⊢;have x1:∀{cs:List (Nat×Bool)} {b:Bool} {V1:AV->AH->Prop},cs.lookup 6=some b->V1 (.bl b) h2->WC Xc (lJ cs (.ref h'.nx)) h2 V1:=λl q=>WC.of (KH o l q);have x2:∀{V1:AV->AH->Prop},V1 (.int 0) h2->WC Xc (nA [6] (.ref h'.nx)) h2 V1:=λq=>WC.of (LG o rfl q);exact x1 rfl (x1 rfl (x2 (x2 (x2 (x1 rfl (x1 rfl (x1 rfl (x1 rfl (x1 rfl (x1 rfl (x1 rfl (q _ kq))))))))))))
 .rw[b v rr]at e;cases e
theorem DO{z:PySem.Str}(hz:z.length<=1010)(b:gT (gG (tl z)))(q:∀h',Kp h h'->R (.bl true) h'):WC Xc (run pg (k+7) Lu [.str z]) h R:=by
 refine bZ rfl rfl (WB.of ?_);with_reducible refine Gu (Fv (kT _ ?_))
 refine WC.we (lh (by omega) λh' v kp rr=>⟨λ_=>?_,λe=>?_⟩)
 .exact Gs rfl (MQ (iZ _ (q _ kp.new)))
 .rw[b v rr]at e;cases e
end
def wj:aW->aW
 |.cons (.kE _ _ b) _=>b
 |_=>.nil
theorem Od{r:Rk} (h:r.nm=("jump":PySem.Str)):∃x t,r = .dR x t:=by
 cases r with
 |dR x t=>exact⟨x,t,rfl⟩|way w x y z=>exact absurd h (jn w)|ls b x y s=>
  cases b
  .exact absurd (show("load":PySem.Str)="jump" from h) (by decide)
  .exact absurd (show("store":PySem.Str)="jump" from h) (by decide)
 |set x m=>exact absurd (show("set":PySem.Str)="jump" from h) (by decide)|move x y=>exact absurd (show("move":PySem.Str)="jump" from h) (by decide)|go t=>exact absurd (show("go":PySem.Str)="jump" from h) (by decide)|fault m=>exact absurd (show("fault":PySem.Str)="jump" from h) (by decide)
theorem Oc{r:Rk} (h:r.nm=("go":PySem.Str)):∃t,r = .go t:=by
 cases r with
 |go t=>exact⟨t,rfl⟩|way w x y z=>exact absurd h (jm w)|ls b x y s=>
  cases b
  .exact absurd (show("load":PySem.Str)="go" from h) (by decide)
  .exact absurd (show("store":PySem.Str)="go" from h) (by decide)
 |set x m=>exact absurd (show("set":PySem.Str)="go" from h) (by decide)|move x y=>exact absurd (show("move":PySem.Str)="go" from h) (by decide)|dR x t=>exact absurd (show("jump":PySem.Str)="go" from h) (by decide)|fault m=>exact absurd (show("fault":PySem.Str)="go" from h) (by decide)
theorem Hn{r:Rk}:∀v∈(AV.str r.nm::r.ps.map (·.v)),(∃z,v = .str z)\/∃i,v = .int i:=by
 have wt:∀t:TT,(∃z,(gR t).v = .str z)\/∃i,(gR t).v = .int i:=λt=>by
  cases t
  .exact .inr ⟨_,rfl⟩
  .exact .inl ⟨_,rfl⟩
 have all:∀p∈r.ps,(∃z,p.v = .str z)\/∃i,p.v = .int i:=λp hp=>by
  cases r with
  |dR x t=>
   simp only[Rk.ps,List.mem_cons,List.not_mem_nil,or_false]at hp;rcases hp with rfl|rfl
   .exact .inr ⟨_,rfl⟩
   .exact wt t
  |go t=>simp only[Rk.ps,List.mem_cons,List.not_mem_nil,or_false]at hp;subst hp;exact wt t
  |_=>
   simp only[Rk.ps,List.mem_cons,List.not_mem_nil,or_false]at hp;first
    | (rcases hp with rfl|rfl|rfl<;>exact .inr ⟨_,rfl⟩)
    | (rcases hp with rfl|rfl<;>exact .inr ⟨_,rfl⟩)
    | (subst hp;exact .inr ⟨_,rfl⟩)
 intro v hv;rcases List.mem_cons.mp hv with rfl|hv
 .exact .inl ⟨_,rfl⟩
 .obtain⟨p,hp,rfl⟩:=List.mem_map.mp hv;exact all p hp
section
variable {Xc:Nat->AH->Prop}{h:AH}
theorem xu{r:Rk}{y:PySem.Str}{R:AV->AH->Prop}(ok:r.ok)(ey:gG (tl y)=r.tx.map tl)(ly:y.length<=1000)(q:∀h',Kp h h'->R (.bl true) h'):WC Xc (run pg 11 wb [.str y]) h λv h1=>WC Xc (run pg 11 wa [v,r.av]) h1 R:=by have pl:=kJ r;refine lh (k:=5) (by omega) λh4 v k4 rr=>?_;rw[ey]at rr;have ev:=Mv ok rr;subst ev;exact⟨λe=>(by cases e),λ_=>Hf (k:=10) Hn (by simp;omega) (q _ k4)⟩
theorem IM{r:Rk}{c z:Int}{i:Nat}{a b d:Option AV}{N B C:aA->AH->Prop}{R:AV->AH->Prop}(ok:r.ok)(hi:i<100)(z0:0<=z)(z1:z<2147483647)(q:∀h' a b d,Kp h h'->N [some (.ref 0),some (.int i),some (.int c),some r.av,some (.int z),a,b,d] h'):iH Xc (run pg 11) (jR (jR (jR (wj xB)))) [some (.ref 0),some (.int i),some (.int c),some r.av,some (.int z),a,b,d] h N R B C:=by
 have pl:=kJ r;have tl4:r.tx.length=r.ps.length+1:=by simp[Rk.tx]
 refine LS (k:=9) ok λh3 nw k3 hnw obw=>?_;refine rG (k:=9) obw (by omega) (λt ht=>⟨(jS ok t ht).1.2.2,(jS ok t ht).2⟩) (by omega) (by omega) λy ey ly=>?_;rw[qY λt ht=>(jS ok t ht).1]at ey;refine xu ok ey ly λh4 k4=>?_;refine ju (k:=10) (by omega) (by omega) λz' z0' z1'=>?_;refine Iy (k:=7) ok (Nat.lt_of_lt_of_le hnw k4.nx) ((k4.ob _ hnw).trans obw) z0' z1' λh5 zb k5 lb bb=>?_;refine DP (k:=4) lb bb λh6 k6=>?_;refine DO (k:=4) lb bb λh7 k7=>?_;refine xu ok ey ly λh8 k8=>?_;exact q _ _ _ _ (((((k3.trans k4).trans k5).trans k6).trans k7).trans k8)
end
theorem keeps:Keeps pg 12 Li:=by
 refine Keeps.of λns hl=>WC.we (bZ rfl rfl (WB.of ?_));have e0:(h0 ns).ob 0=some (.lst false (ns.map AV.int)):=rfl;with_reducible refine sT (Gg (aY _ ?_))
 refine eX (WC.of (wG (b:=false) (xs:=ns.map AV.int) ((dH (show 0≠1 by decide)).trans e0) ?_));have ec:eM (ns.map AV.int) none (some 30)=(ns.take 30).map AV.int:=by rw[show(30:Int)=((30:Nat):Int) from rfl,vb,List.map_take]
 rw[ec];have ll:(ns.take 30).length<=30:=by rw[List.length_take];omega
 refine WC.of (ql (xs:=[.int 0]) (ys:=(ns.take 30).map AV.int) ((dH (Nat.ne_of_lt (Nat.lt_succ_self _))).trans aV) aV (Nat.le_trans (m:=31) (by rw[List.length_map];show 1+_<=_;omega) (by decide)) ?_);refine⟨_,_,_,rfl,aV,?_⟩;rw[show[AV.int 0]++(ns.take 30).map AV.int=(0::ns.take 30).map AV.int from rfl];generalize eh:AH.new _ (.lst true ((0::ns.take 30).map AV.int))=h1;generalize en:AH.nx _=n1;have o1:h1.ob n1=some (.lst true ((0::ns.take 30).map AV.int)):=by rw[<- eh,<- en];exact aV
 have hn1:n1<h1.nx:=by rw[<- eh,<- en];exact Nat.lt_succ_self _
 clear eh en;refine wo (xs:=(0::ns.take 30).map AV.int) (λi σ h'=>Kp h1 h'/\∃a b c d e f g,σ=[some (.ref 0),a,b,c,d,e,f,g]) (by rw[List.length_map,jT,List.length_cons];omega) ⟨Kp.refl,_,_,_,_,_,_,_,rfl⟩ (λi σ h' y=>(y.1.ob _ hn1).trans o1) ?_ ?_
 .rintro i x σ h' hx ⟨kp,a,b,c,d,e,f,g,rfl⟩
  obtain⟨cell,hc,rfl⟩:=rL hx;have hi:i<100:=by have:=(List.getElem?_eq_some_iff.mp hc).1;rw[List.length_cons]at this;omega
  refine nY _ (iZ _ (DW (k:=9) (by omega) (by omega) λr h2 k2 ok ng nj=>?_));refine ju (k:=10) (by omega) (by omega) λz z0 z1=>?_;have fin:∀{r':Rk} {h3:AH},Kp h2 h3->r'.ok->iH (λ_ _=>False) (run pg 11) (jR (jR (jR (wj xB)))) [some (.ref 0),some (.int i),some (.int cell),some r'.av,some (.int z),e,f,g] h3 (λσ h'=>Kp h1 h'/\∃a b c d e f g,σ=[some (.ref 0),a,b,c,d,e,f,g]) (λv _=>v = .bl true) (λσ1 h1=>iH (λ_ _=>False) (run pg 11) (jR xB) σ1 h1 (λ_ h1=>AV.aC = .bl true) (λv _=>v = .bl true) (λ_ _=>False) (λ_ _=>False)) (λσ h'=>Kp h1 h'/\∃a b c d e f g,σ=[some (.ref 0),a,b,c,d,e,f,g]):=λ{r' h3} k3 ok'=>IM ok' hi z0 z1 λh9 a b d k9=>⟨((kp.trans k2).trans k3).trans k9,_,_,_,_,_,_,_,rfl⟩;refine bB.of jW (aB.dc (λe1=>?_) λe1=>bB.of jW (aB.dc (λe2=>?_) λe2=>?_))
  .obtain⟨x,t,rfl⟩:=Od e1;refine aB.dc (λe3=>?_) λe3=>?_
   .refine eX (WC.of (Gd (xs:=[.str "jump",.int x,(gR t).v]) (by show¬(HT.aP 3 0 none=0/\HT.aP 3 3 (some (-1))=3);decide) (yH (k:=10) (by omega) (by omega) λl h3 k3 lb=>?_)));exact WC.of (qm (Nat.le_trans (m:=3) (by first|(show 2+1<=3;decide)|(show 1+1<=3;decide)) (by decide)) (fin (r':=.dR x (.gL l)) k3 ⟨ok.1,lb⟩))
   .exact fin (r':=.dR x t) Kp.refl ok
  .obtain⟨t,rfl⟩:=Oc e2;refine aB.dc (λe3=>?_) λe3=>?_
   .refine eX (WC.of (Gd (xs:=[.str "go",(gR t).v]) (by show¬(HT.aP 2 0 none=0/\HT.aP 2 2 (some (-1))=2);decide) (yH (k:=10) (by omega) (by omega) λl h3 k3 lb=>?_)));exact WC.of (qm (Nat.le_trans (m:=3) (by first|(show 2+1<=3;decide)|(show 1+1<=3;decide)) (by decide)) (fin (r':=.go (.gL l)) k3 lb))
   .exact fin (r':=.go t) Kp.refl ok
  .exact fin Kp.refl ok
 .rintro σ h' ⟨kp,a,b,c,d,e,f,g,rfl⟩
  rfl
def pr:Pr:=⟨gc,29,[("LETTERS",.str "abcdefghijklmnopqrstuvwxyz"),("FIGURES",.str "0123456789"),("BOXES",.tup [.str "a",.str "b",.str "c",.str "d",.str "e",.str "f",.str "g",.str "h"]),("LONGEST_LABEL",.int 8),("GREATEST_WORD",.int 18446744073709551615),("GREATEST_STEP",.int 999),("GREATEST_TARGET",.int 400)],["len","int","tuple","str","any","all","isinstance","bool","range","enumerate","zip"],[],[("NoRow",[(6,true)]),("MillError",[(6,true)])],[("NoLabel",[(6,false)]),("Twice",[(6,false)]),("Halted",[(6,false)]),("Busy",[(6,false)]),("NoTicket",[(6,false)]),("NoPlace",[(6,false)]),("Nought",[(6,false)]),("ValueError",[(6,true)]),("MillError",[(6,true)])],[("FORMS",vV)],[("BOXES",["a","b","c","d","e","f","g","h"])],[("NoRow",6,29)]⟩
def fQ:List Addr:=[173,178,183,190,197,204,211,218,225,230,237,244,251,258,265,272,279,286,293,300,307,314,321,328,335,342,349,356,363,101]
theorem Nv:pr.ir=pg:=by
 have e:pr.defs.map pr.bodyOf=iq:=by kernel_rfl
 funext i
 show(pr.defs[i]?).map pr.bodyOf=iq[i]?;rw[<- e,List.getElem?_map]
def cs:List (Nat×Addr):=[(0,24),(1,37),(2,49),(3,61),(4,73),(5,85),(6,104),(7,123),(8,142)]
theorem rJ{α:Type}{x:Str}{v:α}(h:([]:List (Str×α)).lookup x=some v):False:=by cases h
theorem eA{α:Type}{x k:Str}{v u:α}{r:List (Str×α)}(h:((k,u)::r).lookup x=some v):(x=k/\v=u)\/r.lookup x=some v:=by
 rw[List.lookup_cons]at h;split at h
 .rename_i q;exact .inl ⟨eq_of_beq q,(Option.some.inj h).symm⟩
 .exact .inr h
theorem jK{α:Type}{x:Nat}{v:α}(h:([]:List (Nat×α)).lookup x=some v):False:=by cases h
theorem jJ{α:Type}{x k:Nat}{v u:α}{r:List (Nat×α)}(h:((k,u)::r).lookup x=some v):(x=k/\v=u)\/r.lookup x=some v:=by
 rw[List.lookup_cons]at h;split at h
 .rename_i q;exact .inl ⟨eq_of_beq q,(Option.some.inj h).symm⟩
 .exact .inr h
theorem NX{α:Type}{x:Str×Nat}{v:α}(h:([]:List ((Str×Nat)×α)).lookup x=some v):False:=by cases h
theorem NW{α:Type}{x y:Str}{m n:Nat}{v u:α}{r:List ((Str×Nat)×α)}(h:(((y,m),u)::r).lookup (x,n)=some v):(x=y/\n=m/\v=u)\/r.lookup (x,n)=some v:=by
 rw[List.lookup_cons]at h;split at h
 .rename_i q;have q:=eq_of_beq q;cases q;exact .inl ⟨rfl,rfl,(Option.some.inj h).symm⟩
 .exact .inr h
theorem all_mk{l:W.OpenLaw} {w:World} {K:W.Frag} {h:Heap} {mg:Str->Option Value} {fa:Addr} (X:K.In h) (G:h.Ns mainGlobals mg) (hfa:mg "law"=some (.ref fa)) {fds:List FuncData} (D:fM K gc fQ fds) (lb:∀v,bindArgs (fds.getD 28 default) ⟨[v],[]⟩=pure [(("_law_script":Str),v)]) (oN:tY K pr fQ=true)
  {t_LETTERS:Tok}
  {t_FIGURES:Tok}
  {g_BOXES:Addr} {t0_BOXES t1_BOXES t2_BOXES t3_BOXES t4_BOXES t5_BOXES t6_BOXES t7_BOXES:Tok} {nn_BOXES:Nat} {ss_BOXES:Array (Option Value)}
  {t_LONGEST_LABEL:Tok}
  {t_GREATEST_WORD:Tok}
  {t_GREATEST_STEP:Tok}
  {t_GREATEST_TARGET:Tok}
  {g_FORMS:Addr} {o_FORMS:Obj}
  (xc_0:W.nsIn K mainGlobals "MillError"=some (some (.ref 24)))
  (xc_1:W.nsIn K mainGlobals "Nought"=some (some (.ref 37)))
  (xc_2:W.nsIn K mainGlobals "NoPlace"=some (some (.ref 49)))
  (xc_3:W.nsIn K mainGlobals "NoTicket"=some (some (.ref 61)))
  (xc_4:W.nsIn K mainGlobals "Busy"=some (some (.ref 73)))
  (xc_5:W.nsIn K mainGlobals "Halted"=some (some (.ref 85)))
  (xc_6:W.nsIn K mainGlobals "NoRow"=some (some (.ref 104)))
  (xc_7:W.nsIn K mainGlobals "Twice"=some (some (.ref 123)))
  (xc_8:W.nsIn K mainGlobals "NoLabel"=some (some (.ref 142)))
  (x_LETTERS:W.nsIn K mainGlobals "LETTERS"=some (some (.str "abcdefghijklmnopqrstuvwxyz" t_LETTERS)))
  (x_FIGURES:W.nsIn K mainGlobals "FIGURES"=some (some (.str "0123456789" t_FIGURES)))
  (x_BOXES:W.nsIn K mainGlobals "BOXES"=some (some (.ref g_BOXES)))
  (l_BOXES:K.lookup g_BOXES=some ⟨.type "tuple",none,.seq #[Value.str "a" t0_BOXES,Value.str "b" t1_BOXES,Value.str "c" t2_BOXES,Value.str "d" t3_BOXES,Value.str "e" t4_BOXES,Value.str "f" t5_BOXES,Value.str "g" t6_BOXES,Value.str "h" t7_BOXES] nn_BOXES,ss_BOXES⟩)
  (x_LONGEST_LABEL:W.nsIn K mainGlobals "LONGEST_LABEL"=some (some (.int 8 t_LONGEST_LABEL)))
  (x_GREATEST_WORD:W.nsIn K mainGlobals "GREATEST_WORD"=some (some (.int 18446744073709551615 t_GREATEST_WORD)))
  (x_GREATEST_STEP:W.nsIn K mainGlobals "GREATEST_STEP"=some (some (.int 999 t_GREATEST_STEP)))
  (x_GREATEST_TARGET:W.nsIn K mainGlobals "GREATEST_TARGET"=some (some (.int 400 t_GREATEST_TARGET)))
  (x_FORMS:W.nsIn K mainGlobals "FORMS"=some (some (.ref g_FORMS)))
  (l_FORMS:K.lookup g_FORMS=some o_FORMS)
  (e_FORMS:PyProof.Rows.KTD.tabLook aj (λ_=>some o_FORMS) g_FORMS (rW o_FORMS)=true)
  (q_FORMS:PyProof.Rows.KTD.hashesOf (λ_=>some o_FORMS) g_FORMS=(rW o_FORMS).map λp=>(PySem.strKind l.prog w).hash p.1)
  (t_FORMS:wC K (rW o_FORMS) dI=true)
  (sm_FORMS:(g_FORMS==sysModules)=false)
  (cl_0:L2.clsIn K 24=true)
  (cl_6:L2.clsIn K 104=true)
  (xi_6:L2.sU K 104 101 [.type "ValueError",.type "Exception",.type "BaseException",.type "object"] "ValueError.__new__"=true)
  (xf_6:W.qG K 104=true)
  (xa_6:W.gS K 104 "line"=true)
  (mr_6_6:(L2.mroOf K 104).contains (.ref 104)=true)
  (mr_6_0:(L2.mroOf K 104).contains (.ref 24)=true)
  (ko_6_8:W.kitOne K (.ref 104) (.ref 142)=some false)
  (ko_6_7:W.kitOne K (.ref 104) (.ref 123)=some false)
  (ko_6_5:W.kitOne K (.ref 104) (.ref 85)=some false)
  (ko_6_4:W.kitOne K (.ref 104) (.ref 73)=some false)
  (ko_6_3:W.kitOne K (.ref 104) (.ref 61)=some false)
  (ko_6_2:W.kitOne K (.ref 104) (.ref 49)=some false)
  (ko_6_1:W.kitOne K (.ref 104) (.ref 37)=some false)
  (z_ValueError:W.nsIn K mainGlobals "ValueError"=some none)
  (ko_6_ValueError:W.kitOne K (.ref 104) (.type "ValueError")=some true)
  (ko_6_0:W.kitOne K (.ref 104) (.ref 24)=some true) :
  ∃fd:FuncData,(∀(s:Shared) (v:Value),BindsTo s fd ⟨[v],[]⟩ [("_law_script",v)])/\∀base:Heap,K.In base->base.Ns mainGlobals mg->dW l.prog w K mg base (cN l.prog w) (2*12+2) fa fd ["_law_script"] (ay K):=by
 have e:=hfa.symm.trans (Ac X G D oN 28 _ rfl);cases e;have O:dk l.prog w pr ⟨K,λaE a=>False,λi=>cs.lookup i⟩ mg (λi=>fQ.getD i 0) (λi=>fds.getD i default):=by
  refine⟨λi d hd=>?_,λi d hd=>?_,λx v hx=>?_,λx hx=>?_,λaE a ht=>?_,λx aE hx=>?_,λx ts hx=>?_,λx c hx=>?_,λx cs hx=>?_,λy cs hx=>?_,λx c i hx=>?_⟩
  .exact fM.get D i d hd
  .exact Ac X G D oN i d hd
  .rcases eA hx with⟨rfl,rfl⟩|hx
   .exact⟨_,.str "abcdefghijklmnopqrstuvwxyz",W.mg_of X G x_LETTERS,⟨_,rfl⟩,λ_ _=>.str _⟩
   rcases eA hx with⟨rfl,rfl⟩|hx
   .exact⟨_,.str "0123456789",W.mg_of X G x_FIGURES,⟨_,rfl⟩,λ_ _=>.str _⟩
   rcases eA hx with⟨rfl,rfl⟩|hx
   .exact⟨_,.ref g_BOXES,W.mg_of X G x_BOXES,rfl,λ_ _=>.tup (ys:=[.str "a",.str "b",.str "c",.str "d",.str "e",.str "f",.str "g",.str "h"]) (.inr ⟨_,_,_,l_BOXES,rfl,rfl,(by decide:8<=sizeLine),(.cons ⟨_,rfl⟩ (.cons ⟨_,rfl⟩ (.cons ⟨_,rfl⟩ (.cons ⟨_,rfl⟩ (.cons ⟨_,rfl⟩ (.cons ⟨_,rfl⟩ (.cons ⟨_,rfl⟩ (.cons ⟨_,rfl⟩ .nil))))))))⟩) (.cons (.str _) (.cons (.str _) (.cons (.str _) (.cons (.str _) (.cons (.str _) (.cons (.str _) (.cons (.str _) (.cons (.str _) .nil))))))))⟩
   rcases eA hx with⟨rfl,rfl⟩|hx
   .exact⟨_,.int 8,W.mg_of X G x_LONGEST_LABEL,⟨_,rfl⟩,λ_ _=>.int _⟩
   rcases eA hx with⟨rfl,rfl⟩|hx
   .exact⟨_,.int 18446744073709551615,W.mg_of X G x_GREATEST_WORD,⟨_,rfl⟩,λ_ _=>.int _⟩
   rcases eA hx with⟨rfl,rfl⟩|hx
   .exact⟨_,.int 999,W.mg_of X G x_GREATEST_STEP,⟨_,rfl⟩,λ_ _=>.int _⟩
   rcases eA hx with⟨rfl,rfl⟩|hx
   .exact⟨_,.int 400,W.mg_of X G x_GREATEST_TARGET,⟨_,rfl⟩,λ_ _=>.int _⟩
   exact(rJ hx).elim
  .exact Rh X G oN x hx
  .exact ht.elim
  .rcases eA hx with⟨rfl,rfl⟩|hx
   .exact AM.HU (W.mg_of X G x_FORMS) l_FORMS e_FORMS (by decide +kernel) q_FORMS t_FORMS sm_FORMS
   exact(rJ hx).elim
  .rcases eA hx with⟨rfl,rfl⟩|hx
   .exact⟨g_BOXES,_,_,_,W.mg_of X G x_BOXES,l_BOXES,rfl,rfl,rfl,(by decide:8<=sizeLine),(.cons ⟨_,rfl⟩ (.cons ⟨_,rfl⟩ (.cons ⟨_,rfl⟩ (.cons ⟨_,rfl⟩ (.cons ⟨_,rfl⟩ (.cons ⟨_,rfl⟩ (.cons ⟨_,rfl⟩ (.cons ⟨_,rfl⟩ .nil))))))))⟩
   exact(rJ hx).elim
  .exact(rJ hx).elim
  .rcases eA hx with⟨rfl,rfl⟩|hx
   .refine⟨104,W.mg_of X G xc_6,cl_6,λc b hc=>?_⟩;rcases jJ hc with⟨rfl,rfl⟩|hc
    .exact⟨104,rfl,cl_6,mr_6_6⟩
    exact(jK hc).elim
   rcases eA hx with⟨rfl,rfl⟩|hx
   .refine⟨24,W.mg_of X G xc_0,cl_0,λc b hc=>?_⟩;rcases jJ hc with⟨rfl,rfl⟩|hc
    .exact⟨104,rfl,cl_6,mr_6_0⟩
    exact(jK hc).elim
   exact(rJ hx).elim
  .rcases eA hx with⟨rfl,rfl⟩|hx
   .refine⟨.ref 142,.ref 142,λu h=>h,rfl,.inl (W.mg_of X G xc_8),λk b hk=>?_⟩;rcases jJ hk with⟨rfl,rfl⟩|hk
    .exact⟨104,rfl,xf_6,ko_6_8⟩
    exact(jK hk).elim
   rcases eA hx with⟨rfl,rfl⟩|hx
   .refine⟨.ref 123,.ref 123,λu h=>h,rfl,.inl (W.mg_of X G xc_7),λk b hk=>?_⟩;rcases jJ hk with⟨rfl,rfl⟩|hk
    .exact⟨104,rfl,xf_6,ko_6_7⟩
    exact(jK hk).elim
   rcases eA hx with⟨rfl,rfl⟩|hx
   .refine⟨.ref 85,.ref 85,λu h=>h,rfl,.inl (W.mg_of X G xc_5),λk b hk=>?_⟩;rcases jJ hk with⟨rfl,rfl⟩|hk
    .exact⟨104,rfl,xf_6,ko_6_5⟩
    exact(jK hk).elim
   rcases eA hx with⟨rfl,rfl⟩|hx
   .refine⟨.ref 73,.ref 73,λu h=>h,rfl,.inl (W.mg_of X G xc_4),λk b hk=>?_⟩;rcases jJ hk with⟨rfl,rfl⟩|hk
    .exact⟨104,rfl,xf_6,ko_6_4⟩
    exact(jK hk).elim
   rcases eA hx with⟨rfl,rfl⟩|hx
   .refine⟨.ref 61,.ref 61,λu h=>h,rfl,.inl (W.mg_of X G xc_3),λk b hk=>?_⟩;rcases jJ hk with⟨rfl,rfl⟩|hk
    .exact⟨104,rfl,xf_6,ko_6_3⟩
    exact(jK hk).elim
   rcases eA hx with⟨rfl,rfl⟩|hx
   .refine⟨.ref 49,.ref 49,λu h=>h,rfl,.inl (W.mg_of X G xc_2),λk b hk=>?_⟩;rcases jJ hk with⟨rfl,rfl⟩|hk
    .exact⟨104,rfl,xf_6,ko_6_2⟩
    exact(jK hk).elim
   rcases eA hx with⟨rfl,rfl⟩|hx
   .refine⟨.ref 37,.ref 37,λu h=>h,rfl,.inl (W.mg_of X G xc_1),λk b hk=>?_⟩;rcases jJ hk with⟨rfl,rfl⟩|hk
    .exact⟨104,rfl,xf_6,ko_6_1⟩
    exact(jK hk).elim
   rcases eA hx with⟨rfl,rfl⟩|hx
   .refine⟨.ty "ValueError",.type "ValueError",λu h=>h,rfl,.inr ⟨W.mg_none_of X G z_ValueError,PyProof.Rows.Boot.«ValueError»⟩,λk b hk=>?_⟩;rcases jJ hk with⟨rfl,rfl⟩|hk
    .exact⟨104,rfl,xf_6,ko_6_ValueError⟩
    exact(jK hk).elim
   rcases eA hx with⟨rfl,rfl⟩|hx
   .refine⟨.ref 24,.ref 24,λu h=>h,rfl,.inl (W.mg_of X G xc_0),λk b hk=>?_⟩;rcases jJ hk with⟨rfl,rfl⟩|hk
    .exact⟨104,rfl,xf_6,ko_6_0⟩
    exact(jK hk).elim
   exact(rJ hx).elim
  .rcases List.mem_cons.mp hx with e|hx
   .cases e;exact⟨_,104,_,_,_,_,rfl,by kernel_rfl,W.mg_of X G xc_6,rfl,by decide,xi_6,PySem.F.excBase_ValueError,xa_6⟩
   cases hx
 have hk:Keeps pr.ir 12 28:=by rw[Nv];exact keeps
 exact⟨_,λs v=>.of_eq (lb v),λbase _ _=>Pd (T:=⟨K,λaE a=>False,λi=>cs.lookup i⟩) O (i:=28) rfl hk⟩
end AMx
open PySem PySem.W PyProof.Rows
namespace PySem.W.Fast
def uI:List Stmt->Nat->Stmt|a::_,0=>a|_::l,n+1=>uI l n | [],_=>.Pass (.mk 0 0 0 0)
def jN:Stmt->List Stmt | .FunctionDef _ _ b _ _ _ _ _ _ _=>b | .ClassDef _ _ _ b _ _ _ _ _ _ _=>b|_=>[]
def nQ:Stmt->Arguments | .FunctionDef _ p _ _ _ _ _ _ _ _=>p|_=>default
def nR:Stmt->Scope | .FunctionDef _ _ _ _ _ _ s _ _ _=>s | .ClassDef _ _ _ _ _ _ s _ _ _ _=>s|_=>default
def qf(o:Obj):BT:=.node o .nil .nil
def qb(s:String)(x:Data):Obj:=⟨.type s,.none,x,#[]⟩
def qd(P:Params)(n:Str)(i:Nat)(v:Value):DictEntry:=⟨PySem.PyData.keyHash P n,.str n i,v⟩
def qS(n:Nat):Stmt:=uI PySem.Challenge.pw_aheadmill_k10_rows_read.main.body n
def qe:List Obj->List Obj|x::_::l=>x::qe l|l=>l
def qg:List Obj->List Obj|_::y::l=>y::qg l|_=>[]
def qB:Nat->List Obj->BT|0,_=>.nil|_+1,[]=>.nil|n+1,x::l=>.node x (qB n (qe l)) (qB n (qg l))
def aH:String:=PySem.W.SL.s2766695959194262286x5
def ky:String:=PySem.W.SL.s5856160107412720595x4
def CS:String:=PySem.W.SL.s658472552662922059x5
def pX:String:=PySem.W.SL.s14018661285674007319x4
def CU:String:=PySem.W.SL.s7097527257260152453x26
def eB:String:=PySem.W.SL.s6070975301684473832x10
def By:String:=PySem.W.SL.s11030030927630378310x26
def CV:String:=PySem.W.SL.s10062305145149207511x16
def jP:String:=PySem.W.SL.s17162191345867700912x4
def kR:String:=PySem.W.SL.s5946037652744460706x9
def kO:String:=PySem.W.SL.s4278001404047624695x13
def kP:String:=PySem.W.SL.s2742458400755230247x6
def kQ:String:=PySem.W.SL.s4209523147560561109x18
def CN:String:=PySem.W.SL.s14755015743595814543x17
def CO:String:=PySem.W.SL.s10220274742760427390x26
def CP:String:=PySem.W.SL.s4290257624100764138x5
def CQ:String:=PySem.W.SL.s4860613602091757760x24
def af:String:=PySem.W.SL.s7174869446012820540x8
def kL:Stmt:=uI (jN (qS 7)) 0
def zY:Stmt:=uI (jN (qS 8)) 0
def zZ:Stmt:=uI (jN (qS 9)) 0
def Yq:Str:=.ofString "<module>"
def pT:Str:=.ofString "/claim/cut.py"
def Zp:Str:=.ofString "__main__"
def iE:Str:=.ofString "__name__"
def dC:Str:=.ofString "aheadmill.errors"
def km:Str:=.ofString "__doc__"
def AW:Str:=.ofString "__package__"
def BG:Str:=.ofString "__loader__"
def BH:Str:=.ofString "__spec__"
def BJ:Str:=.ofString "__annotations__"
def Yr:Str:=.ofString "__builtins__"
def Ys:Str:=.ofString "__file__"
def Yz:Str:=.ofString "__cached__"
def bK:Str:=.ofString "MillError"
def zK:Str:=.ofString "__module__"
def Bk:Str:=.ofString "__qualname__"
def zL:Str:=.ofString "__firstlineno__"
def pV:Str:=.ofString "__static_attributes__"
def Bl:Str:=.ofString "__weakref__"
def zM:Str:=.ofString "Nought"
def zN:Str:=.ofString "NoPlace"
def zO:Str:=.ofString "NoTicket"
def zP:Str:=.ofString "Busy"
def zQ:Str:=.ofString "Halted"
def zR:Str:=.ofString "NoRow"
def iD:Str:=.ofString "__init__"
def kh:Str:=.ofString "self"
def nO:Str:=.ofString "line"
def ki:Str:=.ofString "NoRow.__init__"
def zS:Str:=.ofString "Twice"
def kj:Str:=.ofString "Twice.__init__"
def iV:Str:=.ofString "aheadmill.lines"
def zT:Str:=.ofString "NoLabel"
def Zq:Str:=.ofString "LETTERS"
def Zr:Str:=.ofString "abcdefghijklmnopqrstuvwxyz"
def Zs:Str:=.ofString "FIGURES"
def Zt:Str:=.ofString "0123456789"
def Zu:Str:=.ofString "BOXES"
def Zv:Str:=.ofString "LONGEST_LABEL"
def Zw:Str:=.ofString "GREATEST_WORD"
def Zx:Str:=.ofString "GREATEST_STEP"
def Zy:Str:=.ofString "GREATEST_TARGET"
def kl:Str:=.ofString "NoLabel.__init__"
def Zz:Str:=.ofString "a"
def AA:Str:=.ofString "b"
def AB:Str:=.ofString "c"
def AD:Str:=.ofString "d"
def AE:Str:=.ofString "e"
def AF:Str:=.ofString "f"
def AG:Str:=.ofString "g"
def AI:Str:=.ofString "h"
def AJ:Str:=.ofString "FORMS"
def AK:Str:=.ofString "set"
def AL:Str:=.ofString "move"
def AN:Str:=.ofString "sum"
def AO:Str:=.ofString "less"
def AQ:Str:=.ofString "times"
def AR:Str:=.ofString "share"
def AS:Str:=.ofString "rest"
def AU:Str:=.ofString "both"
def AX:Str:=.ofString "some"
def AY:Str:=.ofString "odd"
def AZ:Str:=.ofString "up"
def BA:Str:=.ofString "down"
def BB:Str:=.ofString "below"
def BC:Str:=.ofString "same"
def BD:Str:=.ofString "load"
def BE:Str:=.ofString "store"
def BF:Str:=.ofString "jump"
def Bm:Str:=.ofString "go"
def Bo:Str:=.ofString "fault"
def bD:Str:=.ofString "box"
def pW:Str:=.ofString "word"
def Bp:Str:=.ofString "step"
def Bq:Str:=.ofString "target"
def dS:Str:=.ofString "law_aheadmill_k10_rows_read"
def uZ:Str:=.ofString "bare"
def zU:Str:=.ofString "words_in"
def zV:Str:=.ofString "made_of"
def vA:Str:=.ofString "is_label"
def vB:Str:=.ofString "number_in"
def vC:Str:=.ofString "step_in"
def vD:Str:=.ofString "target_in"
def vE:Str:=.ofString "box_in"
def vF:Str:=.ofString "part_in"
def zW:Str:=.ofString "row_in"
def vG:Str:=.ofString "read_row"
def vH:Str:=.ofString "_law_number"
def vI:Str:=.ofString "_law_word"
def BI:Str:=.ofString "figures"
def BK:Str:=.ofString "greatest"
def Br:Str:=.ofString "number"
def BL:Str:=.ofString "form"
def BM:Str:=.ofString "row"
def BN:Str:=.ofString "aheadmill.texts"
def zX:Str:=.ofString "_law_cell"
def nP:Str:=.ofString "_law_k"
def kn:Str:=.ofString "_law_part"
def vJ:Str:=.ofString "_law_step"
def vK:Str:=.ofString "_law_row"
def uL:Str:=.ofString "_law_boxed"
def uM:Str:=.ofString "_law_words"
def uN:Str:=.ofString "_law_alike"
def uO:Str:=.ofString "_law_label"
def uP:Str:=.ofString "_law_remark"
def uQ:Str:=.ofString "_law_line"
def uR:Str:=.ofString "_law_last_spoiled"
def uS:Str:=.ofString "_law_box_spoiled"
def uT:Str:=.ofString "_law_numbered"
def uU:Str:=.ofString "_law_words_spoiled"
def Yt:Str:=.ofString "_law_most"
def lV:Str:=.ofString "_law_number_here"
def Yu:Str:=.ofString "_law_x"
def Yv:Str:=.ofString "_law_y"
def Yw:Str:=.ofString "_law_z"
def ke:Str:=.ofString "_law_kind"
def Yx:Str:=.ofString "_law_ways"
def Bh:Str:=.ofString "_law_row_here"
def pU:Str:=.ofString "_law_words_here"
def Yy:Str:=.ofString "_law_found"
def Za:Str:=.ofString "_law_due"
def Zb:Str:=.ofString "_law_one"
def Zc:Str:=.ofString "_law_other"
def kf:Str:=.ofString "_law_some"
def Zd:Str:=.ofString "_law_small"
def Ze:Str:=.ofString "_law_letters"
def zI:Str:=.ofString "_law_at"
def Zf:Str:=.ofString "_law_signs"
def zJ:Str:=.ofString "_law_line_here"
def Zg:Str:=.ofString "_law_word_here"
def kg:Str:=.ofString "_law_way"
def Zh:Str:=.ofString "_law_head"
def Zi:Str:=.ofString "_law_last"
def Zj:Str:=.ofString "_law_bare"
def Bj:Str:=.ofString "_law_more"
def uV:Str:=.ofString "_law_bad_line"
def uW:Str:=.ofString "_law_refused"
def uX:Str:=.ofString "_law_refused_by_any"
def uY:Str:=.ofString "law"
def Zk:Str:=.ofString "_law_rest"
def Zl:Str:=.ofString "_law_caught"
def Zm:Str:=.ofString "error"
def Zn:Str:=.ofString "_law_script"
def Zo:Str:=.ofString "_law_bad"
variable (P:Params)
def tw12399883821529004935:Params->W.Frag:=λ_=>[]
theorem te12399883821529004935:tw12399883821529004935=tw12399883821529004935:=rfl
def tw3229925119823364514:Program:={ PySem.Challenge.rw_aheadmill_k10_rows_read.row.toRowW.1 with main:={ PySem.Challenge.rw_aheadmill_k10_rows_read.row.toRowW.1.main with body:=[(qS 1),(qS 2),(qS 3),(qS 4),(qS 5),(qS 6),(qS 7),(qS 8),(qS 9),(qS 11),(qS 12),(qS 13),(qS 14),(qS 15),(qS 16),(qS 17),(qS 18),(qS 19),(qS 20),(qS 21),(qS 22),(qS 23),(qS 24),(qS 25),(qS 26),(qS 27),(qS 28),(qS 30),(qS 32),(qS 33),(qS 34),(qS 35),(qS 36),(qS 37),(qS 38),(qS 39),(qS 40),(qS 41),(qS 42),(qS 43),(qS 44),(qS 45),(qS 46),(qS 47),(qS 48),(qS 49)] } }
theorem te3229925119823364514:tw3229925119823364514=tw3229925119823364514:=rfl
def qE(P:Params):List DictEntry:=[(qd P km 166 .none),(qd P AW 167 .none),(qd P BG 168 (.builtin CU)),(qd P BH 169 .none),(qd P BJ 170 (.ref 6)),(qd P Yr 171 (.ref 4)),(qd P Ys 173 (.str pT 172)),(qd P Yz 174 .none),(qd P bK 206 (.ref 24)),(qd P zM 222 (.ref 37)),(qd P zN 238 (.ref 49)),(qd P zO 254 (.ref 61)),(qd P zP 270 (.ref 73)),(qd P zQ 286 (.ref 85)),(qd P zR 311 (.ref 104)),(qd P zS 336 (.ref 123)),(qd P zT 361 (.ref 142)),(qd P Zq 365 (.str Zr 364)),(qd P Zs 367 (.str Zt 366)),(qd P Zu 376 (.ref 145)),(qd P Zv 378 (.int 8 377)),(qd P Zw 380 (.int 18446744073709551615 379)),(qd P Zx 382 (.int 999 381)),(qd P Zy 384 (.int 400 383)),(qd P AJ 473 (.ref 146)),(qd P uZ 480 (.ref 173)),(qd P zU 486 (.ref 178)),(qd P zV 492 (.ref 183)),(qd P vA 499 (.ref 190)),(qd P vB 508 (.ref 197)),(qd P vC 516 (.ref 204)),(qd P vD 523 (.ref 211)),(qd P vE 530 (.ref 218)),(qd P vF 538 (.ref 225)),(qd P zW 544 (.ref 230)),(qd P vG 554 (.ref 237)),(qd P vH 564 (.ref 244)),(qd P vI 572 (.ref 251)),(qd P vJ 579 (.ref 258)),(qd P vK 595 (.ref 265)),(qd P uL 603 (.ref 272)),(qd P uM 612 (.ref 279)),(qd P uN 622 (.ref 286)),(qd P uO 634 (.ref 293)),(qd P uP 645 (.ref 300)),(qd P uQ 656 (.ref 307)),(qd P uR 669 (.ref 314)),(qd P uS 679 (.ref 321)),(qd P uT 686 (.ref 328)),(qd P uU 697 (.ref 335)),(qd P uV 707 (.ref 342)),(qd P uW 716 (.ref 349)),(qd P uX 723 (.ref 356)),(qd P uY 737 (.ref 363))]
def qM(P:Params)(e:DictEntry)(n m:Nat):Obj:=qb pX (.dict (e::(qE P).take n).toArray m)
def qJ:List (Nat×Nat)->List Value | []=>[] | (a,b)::l=>.int a 0 :: .int 0 0 :: .ref b::qJ l
def qK:List Value:=qJ [(2,20),(4,33),(6,45),(8,57),(10,69),(12,81),(14,93),(18,112),(22,131),(35,172),(37,177),(39,182),(41,189),(43,196),(50,203),(55,210),(57,217),(59,224),(67,229),(79,236),(85,243),(87,250),(93,257),(97,264),(116,271),(122,278),(130,285),(139,292),(149,299),(156,306),(166,313),(186,320),(194,327),(198,334),(214,341),(228,348),(243,355),(249,362)]
def qI(n:Nat):Obj:=.mk .none .none (.fields (qK.take n).toArray) #[]
def bW(a0:Str)(a1:Nat)(a2:Str)(a3:Int)(a4:Int)(a5:Nat)(a6:Int)(a7:Nat):Obj:=qb ky (.fields #[(.str a0 a1),(.str a2 (a1+1)),(.str pT (a1+2)),(.int a3 0),(.int a4 0),(.int 0 0),(.int 0 0),(.int 3 0),(.ref a5),(.bool .true),(.int 181 0),(.ref (a5+1)),.none,(.ref (a5+2)),(.ref (a5+3)),(.ref (a5+4)),(.int a6 0),(.int a3 0),(.str pT a7)])
def bX(a0:Str)(a1:Stmt):Obj:=(.mk .none .none (.func (.mk a0 a0 (nQ a1) (.stmts (jN a1)) (nR a1) 0 [] .none .none .none .none .none .none .none 0)) #[])
def bY(a0:Str)(a1:Stmt)(a2:Str)(a3:Nat)(a4:Nat):Obj:=qb af (.func (.mk a0 a0 (nQ a1) (.stmts (jN a1)) (nR a1) 3 [] .none .none .none (.str a2 a3) .none (.ref a4) .none 0))
def eU(a0:Str)(a1:Nat)(a2:Str)(a3:Str):Obj:=qb aH (.seq #[(.str a0 a1),(.str a2 (a1+1)),(.str a3 (a1+2))] 0)
def iW(a0:Str)(a1:Nat)(a2:Str):Obj:=qb aH (.seq #[(.str a0 a1),(.str a2 (a1+1))] 0)
def kM(a0:Str)(a1:Nat)(a2:Int)(a3:Nat)(a4:Int):Obj:=qb ky (.fields #[(.str a0 a1),(.str a0 (a1+1)),(.str pT (a1+2)),(.int a2 0),(.int 0 0),(.int 0 0),(.int 0 0),(.int 0 0),(.ref a3),(.bool .false),(.int 181 0),(.ref (a3+1)),.none,.none,.none,.none,(.int a4 0),(.int a2 0),(.str pT (a1+4))])
def kN(a0:Nat)(a1:Nat)(a2:Str)(a3:Nat):Obj:=(.mk (.type CS) .none .plain #[(.some (.ref a0)),(.some (.ref 3)),(.some (.ref a1)),.none,(.some (.str a2 a3)),.none,(.some (.ref 0))])
def lW:Obj:=qb By (.fields #[(.builtin CV),(.type jP)])
def lX(a0:Nat):Obj:=qb CP (.fields #[(.ref a0),(.ref a0),(.ref a0)])
def lY(a0:Nat):Obj:=qb By (.fields #[(.builtin CQ),(.ref a0)])
def nT(a0:Str)(a1:Nat)(a2:Nat)(a3:Nat)(a4:Nat):Obj:=(.mk (.type jP) .none (.cls (.mk a0 [(.ref 24)] [(.ref a1),(.ref 24),(.type eB),(.type kR),(.type kO),(.type kP)] a2 a0 .true [] [] .false .none .false)) #[(.some (.ref a3)),.none,(.some (.str a0 a4)),(.some (.str a0 (a4+8))),(.some (.builtin kQ)),(.some (.bool .true))])
def rV(P:Params)(a0:Nat)(a1:Str)(a2:Int)(a3:Nat):Obj:=qb pX (.dict #[(qd P zK a0 (.str dC 187)),(qd P Bk (a0+2) (.str a1 (a0+1))),(qd P zL (a0+4) (.int a2 (a0+3))),(qd P pV (a0+5) (.ref a3))] 4)
def vL(P:Params)(a0:Nat)(a1:Int)(a2:Nat):Obj:=qb pX (.dict #[(qd P zK a0 (.str dC 187)),(qd P zL (a0+4) (.int a1 (a0+3))),(qd P pV (a0+5) (.ref a2)),(qd P km (a0+6) .none)] 2)
def ae(P:Params)(a0:Nat)(a1:Int)(a2:Str)(a3:Nat)(a4:Nat)(a5:Str)(a6:Nat)(a7:Nat):Obj:=qb pX (.dict #[(qd P zK a0 (.str dC 187)),(qd P zL (a0+4) (.int a1 (a0+3))),(qd P a2 a3 (.ref a4)),(qd P a5 (a3+2) (.ref a6)),(qd P km (a3+3) .none)] a7)
def ku(P:Params)(a0:Nat)(a1:Str)(a2:Int)(a3:Nat):Obj:=qb pX (.dict #[(qd P zK a0 (.str dC 187)),(qd P Bk (a0+2) (.str a1 (a0+1))),(qd P zL (a0+4) (.int a2 (a0+3))),(qd P iD (a0+12) (.ref a3)),(qd P pV (a0+14) (.ref (a3+1)))] 5)
def kv(a0:Int)(a1:Nat):Obj:=(.mk .none .none (.fields #[(.int a0 0),(.int 4 0),(.ref a1)]) #[])
def kx(a0:Str)(a1:Nat)(a2:Int)(a3:Int)(a4:Nat)(a5:Int):Obj:=qb ky (.fields #[(.str a0 a1),(.str a0 (a1+1)),(.str pT (a1+2)),(.int a2 0),(.int a3 0),(.int 0 0),(.int 0 0),(.int 3 0),(.ref a4),(.bool .true),(.int 181 0),(.ref (a4+1)),.none,.none,.none,(.ref (a4+2)),(.int a5 0),(.int a2 0),(.str pT (a1+4))])
def eJ(P:Params):List Obj:=[boot_o_0 P,boot_o_1 P,boot_o_2 P,boot_o_3 P,boot_o_4 P,boot_o_5 P,boot_o_6 P,boot_o_7 P,boot_o_8 P,boot_o_9 P,boot_o_10 P,qb aH (.seq #[] 0),qI 0,kM Yq 182 1 11 185,kN 13 3 Zp 164]
def fG(P:Params):List Obj:=((eJ P).set 3 (qM P (qd P iE 165 (.str dC 187)) 9 10)).set 12 (qI 3)++[qb aH (.seq #[(.type eB)] 0),lW,rV P 196 bK 2 22,qb aH (.seq #[] 0),(.mk .none .none (.fields #[]) #[]),kM bK 191 2 18 194,kN 20 17 dC 187,qb aH (.seq #[] 0),ae P 196 2 pV 201 22 Bl 25 3,(.mk (.type jP) .none (.cls (.mk bK [(.type eB)] [(.ref 24),(.type eB),(.type kR),(.type kO),(.type kP)] 23 bK .true [] [] .false .none .false)) #[(.some (.ref 15)),.none,(.some (.str bK 189)),(.some (.str bK 197)),(.some (.builtin kQ)),(.some (.bool .true))]),qb CN (.fields #[(.str Bl 202),(.ref 24),(.builtin CO),.none]),lX 24,lY 24]
def gC(P:Params):List Obj:=(((fG P).set 3 (qM P (qd P iE 165 (.str dC 187)) 10 11)).set 12 (qI 6)).set 24 ((.mk (.type jP) .none (.cls (.mk bK [(.type eB)] [(.ref 24),(.type eB),(.type kR),(.type kO),(.type kP)] 23 bK .true [] [(.ref 37)] .false .none .false)) #[(.some (.ref 15)),.none,(.some (.str bK 189)),(.some (.str bK 197)),(.some (.builtin kQ)),(.some (.bool .true))]))++[qb aH (.seq #[(.ref 24)] 0),lW,rV P 214 zM 4 35,qb aH (.seq #[] 0),(.mk .none .none (.fields #[]) #[]),kM zM 209 4 31 212,kN 33 30 dC 187,qb aH (.seq #[] 0),vL P 214 4 35,nT zM 37 36 28 207,lX 37,lY 37]
def gN(P:Params):List Obj:=(((gC P).set 3 (qM P (qd P iE 165 (.str dC 187)) 11 12)).set 12 (qI 9)).set 24 ((.mk (.type jP) .none (.cls (.mk bK [(.type eB)] [(.ref 24),(.type eB),(.type kR),(.type kO),(.type kP)] 23 bK .true [] [(.ref 37),(.ref 49)] .false .none .false)) #[(.some (.ref 15)),.none,(.some (.str bK 189)),(.some (.str bK 197)),(.some (.builtin kQ)),(.some (.bool .true))]))++[qb aH (.seq #[(.ref 24)] 0),lW,rV P 230 zN 6 47,qb aH (.seq #[] 0),(.mk .none .none (.fields #[]) #[]),kM zN 225 6 43 228,kN 45 42 dC 187,qb aH (.seq #[] 0),vL P 230 6 47,nT zN 49 48 40 223,lX 49,lY 49]
def iB(P:Params):List Obj:=(((gN P).set 3 (qM P (qd P iE 165 (.str dC 187)) 12 13)).set 12 (qI 12)).set 24 ((.mk (.type jP) .none (.cls (.mk bK [(.type eB)] [(.ref 24),(.type eB),(.type kR),(.type kO),(.type kP)] 23 bK .true [] [(.ref 37),(.ref 49),(.ref 61)] .false .none .false)) #[(.some (.ref 15)),.none,(.some (.str bK 189)),(.some (.str bK 197)),(.some (.builtin kQ)),(.some (.bool .true))]))++[qb aH (.seq #[(.ref 24)] 0),lW,rV P 246 zO 8 59,qb aH (.seq #[] 0),(.mk .none .none (.fields #[]) #[]),kM zO 241 8 55 244,kN 57 54 dC 187,qb aH (.seq #[] 0),vL P 246 8 59,nT zO 61 60 52 239,lX 61,lY 61]
def iU(P:Params):List Obj:=(((iB P).set 3 (qM P (qd P iE 165 (.str dC 187)) 13 14)).set 12 (qI 15)).set 24 ((.mk (.type jP) .none (.cls (.mk bK [(.type eB)] [(.ref 24),(.type eB),(.type kR),(.type kO),(.type kP)] 23 bK .true [] [(.ref 37),(.ref 49),(.ref 61),(.ref 73)] .false .none .false)) #[(.some (.ref 15)),.none,(.some (.str bK 189)),(.some (.str bK 197)),(.some (.builtin kQ)),(.some (.bool .true))]))++[qb aH (.seq #[(.ref 24)] 0),lW,rV P 262 zP 10 71,qb aH (.seq #[] 0),(.mk .none .none (.fields #[]) #[]),kM zP 257 10 67 260,kN 69 66 dC 187,qb aH (.seq #[] 0),vL P 262 10 71,nT zP 73 72 64 255,lX 73,lY 73]
def jM(P:Params):List Obj:=(((iU P).set 3 (qM P (qd P iE 165 (.str dC 187)) 14 15)).set 12 (qI 18)).set 24 ((.mk (.type jP) .none (.cls (.mk bK [(.type eB)] [(.ref 24),(.type eB),(.type kR),(.type kO),(.type kP)] 23 bK .true [] [(.ref 37),(.ref 49),(.ref 61),(.ref 73),(.ref 85)] .false .none .false)) #[(.some (.ref 15)),.none,(.some (.str bK 189)),(.some (.str bK 197)),(.some (.builtin kQ)),(.some (.bool .true))]))++[qb aH (.seq #[(.ref 24)] 0),lW,rV P 278 zQ 12 83,qb aH (.seq #[] 0),(.mk .none .none (.fields #[]) #[]),kM zQ 273 12 79 276,kN 81 78 dC 187,qb aH (.seq #[] 0),vL P 278 12 83,nT zQ 85 84 76 271,lX 85,lY 85]
def kK(P:Params):List Obj:=(((jM P).set 3 (qM P (qd P iE 165 (.str dC 187)) 15 16)).set 12 (qI 21)).set 24 ((.mk (.type jP) .none (.cls (.mk bK [(.type eB)] [(.ref 24),(.type eB),(.type kR),(.type kO),(.type kP)] 23 bK .true [] [(.ref 37),(.ref 49),(.ref 61),(.ref 73),(.ref 85),(.ref 104)] .false .none .false)) #[(.some (.ref 15)),.none,(.some (.str bK 189)),(.some (.str bK 197)),(.some (.builtin kQ)),(.some (.bool .true))]))++[qb aH (.seq #[(.ref 24)] 0),lW,ku P 294 zR 14 101,qb aH (.seq #[] 0),kv 16 100,kM zR 289 14 91 292,kN 93 90 dC 187,qb aH (.seq #[] 0),(.mk .none .none (.fields #[]) #[]),iW kh 302 nO,qb aH (.seq #[] 0),(.mk .none .none (.func (.mk iD ki (nQ kL) (.stmts (jN kL)) (nR kL) 0 [] .none .none .none .none .none .none .none 0)) #[]),bW iD 299 ki 16 2 95 304 305,qb af (.func (.mk iD ki (nQ kL) (.stmts (jN kL)) (nR kL) 3 [] .none .none .none (.str dC 187) .none (.ref 100) .none 0)),qb aH (.seq #[(.str nO 307)] 0),ae P 294 14 iD 306 101 pV 102 2,nT zR 104 103 88 287,lX 104,lY 104]
def lS(P:Params):List Obj:=(((kK P).set 3 (qM P (qd P iE 165 (.str dC 187)) 16 17)).set 12 (qI 24)).set 24 ((.mk (.type jP) .none (.cls (.mk bK [(.type eB)] [(.ref 24),(.type eB),(.type kR),(.type kO),(.type kP)] 23 bK .true [] [(.ref 37),(.ref 49),(.ref 61),(.ref 73),(.ref 85),(.ref 104),(.ref 123)] .false .none .false)) #[(.some (.ref 15)),.none,(.some (.str bK 189)),(.some (.str bK 197)),(.some (.builtin kQ)),(.some (.bool .true))]))++[qb aH (.seq #[(.ref 24)] 0),lW,ku P 319 zS 18 120,qb aH (.seq #[] 0),kv 20 119,kM zS 314 18 110 317,kN 112 109 dC 187,qb aH (.seq #[] 0),(.mk .none .none (.fields #[]) #[]),iW kh 327 nO,qb aH (.seq #[] 0),(.mk .none .none (.func (.mk iD kj (nQ zY) (.stmts (jN zY)) (nR kL) 0 [] .none .none .none .none .none .none .none 0)) #[]),bW iD 324 kj 20 2 114 329 330,qb af (.func (.mk iD kj (nQ zY) (.stmts (jN zY)) (nR kL) 3 [] .none .none .none (.str dC 187) .none (.ref 119) .none 0)),qb aH (.seq #[(.str nO 332)] 0),ae P 319 18 iD 331 120 pV 121 2,nT zS 123 122 107 312,lX 123,lY 123]
def nM(P:Params):List Obj:=(((lS P).set 3 (qM P (qd P iE 165 (.str iV 362)) 24 25)).set 12 (qI 27)).set 24 ((.mk (.type jP) .none (.cls (.mk bK [(.type eB)] [(.ref 24),(.type eB),(.type kR),(.type kO),(.type kP)] 23 bK .true [] [(.ref 37),(.ref 49),(.ref 61),(.ref 73),(.ref 85),(.ref 104),(.ref 123),(.ref 142)] .false .none .false)) #[(.some (.ref 15)),.none,(.some (.str bK 189)),(.some (.str bK 197)),(.some (.builtin kQ)),(.some (.bool .true))]))++[qb aH (.seq #[(.ref 24)] 0),lW,ku P 344 zT 22 139,qb aH (.seq #[] 0),kv 24 138,kM zT 339 22 129 342,kN 131 128 dC 187,qb aH (.seq #[] 0),(.mk .none .none (.fields #[]) #[]),iW kh 352 nO,qb aH (.seq #[] 0),(.mk .none .none (.func (.mk iD kl (nQ zZ) (.stmts (jN zZ)) (nR kL) 0 [] .none .none .none .none .none .none .none 0)) #[]),bW iD 349 kl 24 2 133 354 355,qb af (.func (.mk iD kl (nQ zZ) (.stmts (jN zZ)) (nR kL) 3 [] .none .none .none (.str dC 187) .none (.ref 138) .none 0)),qb aH (.seq #[(.str nO 357)] 0),ae P 344 22 iD 356 139 pV 140 2,nT zT 142 141 126 337,lX 142,lY 142,qb aH (.seq #[(.str Zz 368),(.str AA 369),(.str AB 370),(.str AD 371),(.str AE 372),(.str AF 373),(.str AG 374),(.str AI 375)] 0)]
def pS(P:Params):List Obj:=(nM P).set 3 (qM P (qd P iE 165 (.str iV 362)) 25 26)++[qb pX (.dict #[(qd P AK 385 (.ref 147)),(qd P AL 389 (.ref 148)),(qd P AN 393 (.ref 149)),(qd P AO 398 (.ref 150)),(qd P AQ 403 (.ref 151)),(qd P AR 408 (.ref 152)),(qd P AS 413 (.ref 153)),(qd P AU 418 (.ref 154)),(qd P AX 423 (.ref 155)),(qd P AY 428 (.ref 156)),(qd P AZ 433 (.ref 157)),(qd P BA 438 (.ref 158)),(qd P BB 443 (.ref 159)),(qd P BC 448 (.ref 160)),(qd P BD 453 (.ref 161)),(qd P BE 458 (.ref 162)),(qd P BF 463 (.ref 163)),(qd P Bm 467 (.ref 165)),(qd P Bo 469 (.ref 166))] 19),iW bD 386 pW,iW bD 390 bD,eU bD 394 bD bD,eU bD 399 bD bD,eU bD 404 bD bD,eU bD 409 bD bD,eU bD 414 bD bD,eU bD 419 bD bD,eU bD 424 bD bD,eU bD 429 bD bD,eU bD 434 bD bD,eU bD 439 bD bD,eU bD 444 bD bD,eU bD 449 bD bD,eU bD 454 bD Bp,eU bD 459 bD Bp,iW bD 464 Bq,qb pX (.dict #[(qd P Bm 467 (.ref 165)),(qd P Bo 469 (.ref 166))] 2),qb aH (.seq #[(.str Bq 468)] 0),qb aH (.seq #[(.str pW 470)] 0)]
def rS(P:Params):List Obj:=((pS P).set 3 (qM P (qd P iE 165 (.str dS 555)) 38 39)).set 12 (qI 66)++[qb aH (.seq #[] 0),(.mk .none .none (.fields #[]) #[]),qb aH (.seq #[(.str nO 477)] 0),qb aH (.seq #[] 0),bX uZ (qS 19),bW uZ 474 uZ 35 1 167 478 479,bY uZ (qS 19) iV 362 172,qb aH (.seq #[] 0),(.mk .none .none (.fields #[]) #[]),bX zU (qS 20),kx zU 481 37 1 174 484,bY zU (qS 20) iV 362 177,qb aH (.seq #[] 0),(.mk .none .none (.fields #[]) #[]),bX zV (qS 21),kx zV 487 39 2 179 490,bY zV (qS 21) iV 362 182,qb aH (.seq #[] 0),(.mk .none .none (.fields #[]) #[]),qb aH (.seq #[(.str pW 496)] 0),qb aH (.seq #[] 0),bX vA (qS 22),bW vA 493 vA 41 1 184 497 498,bY vA (qS 22) iV 362 189,qb aH (.seq #[] 0),(.mk .none .none (.fields #[]) #[]),eU BI 503 BK Br,qb aH (.seq #[] 0),bX vB (qS 23),bW vB 500 vB 43 2 191 506 507,bY vB (qS 23) iV 362 196,qb aH (.seq #[] 0),(.mk .none .none (.fields #[]) #[]),iW pW 512 Br,qb aH (.seq #[] 0),bX vC (qS 24),bW vC 509 vC 50 1 198 514 515,bY vC (qS 24) iV 362 203,qb aH (.seq #[] 0),(.mk .none .none (.fields #[]) #[]),qb aH (.seq #[(.str pW 520)] 0),qb aH (.seq #[] 0),bX vD (qS 25),bW vD 517 vD 55 1 205 521 522,bY vD (qS 25) iV 362 210,qb aH (.seq #[] 0),(.mk .none .none (.fields #[]) #[]),qb aH (.seq #[(.str pW 527)] 0),qb aH (.seq #[] 0),bX vE (qS 26),bW vE 524 vE 57 1 212 528 529,bY vE (qS 26) iV 362 217,qb aH (.seq #[] 0),(.mk .none .none (.fields #[]) #[]),iW BL 534 pW,qb aH (.seq #[] 0),bX vF (qS 27),bW vF 531 vF 59 2 219 536 537,bY vF (qS 27) iV 362 224,qb aH (.seq #[] 0),(.mk .none .none (.fields #[]) #[]),bX zW (qS 28),kx zW 539 67 1 226 542,bY zW (qS 28) iV 362 229,qb aH (.seq #[] 0),(.mk .none .none (.fields #[]) #[]),iW nO 550 BM,qb aH (.seq #[] 0),bX vG (qS 30),bW vG 547 vG 79 1 231 552 553,bY vG (qS 30) BN 545 236,qb aH (.seq #[] 0),(.mk .none .none (.fields #[]) #[]),iW zX 560 nP,qb aH (.seq #[] 0),bX vH (qS 32),bW vH 557 vH 85 2 238 562 563,bY vH (qS 32) dS 555 243,qb aH (.seq #[] 0),(.mk .none .none (.fields #[]) #[]),iW zX 568 kn,qb aH (.seq #[] 0),bX vI (qS 33),bW vI 565 vI 87 2 245 570 571,bY vI (qS 33) dS 555 250]
def uH(P:Params):List Obj:=((rS P).set 3 (qM P (qd P iE 165 (.str dS 555)) 50 51)).set 12 (qI 102)++[qb aH (.seq #[] 0),(.mk .none .none (.fields #[]) #[]),qb aH (.seq #[(.str kn 576)] 0),qb aH (.seq #[] 0),bX vJ (qS 34),bW vJ 573 vJ 93 1 252 577 578,bY vJ (qS 34) dS 555 257,qb aH (.seq #[] 0),(.mk .none .none (.fields #[]) #[]),qb aH (.seq #[(.str zX 583),(.str nP 584),(.str Yt 585),(.str lV 586),(.str Yu 587),(.str Yv 588),(.str Yw 589),(.str kn 590),(.str ke 591),(.str Yx 592)] 0),qb aH (.seq #[] 0),bX vK (qS 35),bW vK 580 vK 97 3 259 593 594,bY vK (qS 35) dS 555 264,qb aH (.seq #[] 0),(.mk .none .none (.fields #[]) #[]),iW ke 599 nP,qb aH (.seq #[] 0),bX uL (qS 36),bW uL 596 uL 116 2 266 601 602,bY uL (qS 36) dS 555 271,qb aH (.seq #[] 0),(.mk .none .none (.fields #[]) #[]),eU Bh 607 pU nP,qb aH (.seq #[] 0),bX uM (qS 37),bW uM 604 uM 122 1 273 610 611,bY uM (qS 37) dS 555 278,qb aH (.seq #[] 0),(.mk .none .none (.fields #[]) #[]),qb aH (.seq #[(.str Yy 616),(.str Za 617),(.str Zb 618),(.str Zc 619)] 0),qb aH (.seq #[] 0),bX uN (qS 38),bW uN 613 uN 130 2 280 620 621,bY uN (qS 38) dS 555 285,qb aH (.seq #[] 0),(.mk .none .none (.fields #[]) #[]),qb aH (.seq #[(.str lV 626),(.str kf 627),(.str Zd 628),(.str Ze 629),(.str nP 630),(.str zI 631)] 0),qb aH (.seq #[] 0),bX uO (qS 39),bW uO 623 uO 139 1 287 632 633,bY uO (qS 39) dS 555 292,qb aH (.seq #[] 0),(.mk .none .none (.fields #[]) #[]),qb aH (.seq #[(.str lV 638),(.str kf 639),(.str Zf 640),(.str nP 641),(.str zI 642)] 0),qb aH (.seq #[] 0),bX uP (qS 40),bW uP 635 uP 149 1 294 643 644,bY uP (qS 40) dS 555 299,qb aH (.seq #[] 0),(.mk .none .none (.fields #[]) #[]),qb aH (.seq #[(.str pU 649),(.str lV 650),(.str zJ 651),(.str nP 652),(.str Zg 653)] 0),qb aH (.seq #[] 0),bX uQ (qS 41),bW uQ 646 uQ 156 2 301 654 655,bY uQ (qS 41) dS 555 306,qb aH (.seq #[] 0),(.mk .none .none (.fields #[]) #[]),qb aH (.seq #[(.str pU 660),(.str kg 661),(.str lV 662),(.str Zh 663),(.str Zi 664),(.str Zj 665),(.str Bj 666)] 0),qb aH (.seq #[] 0),bX uR (qS 42),bW uR 657 uR 166 3 308 667 668,bY uR (qS 42) dS 555 313,qb aH (.seq #[] 0),(.mk .none .none (.fields #[]) #[]),qb aH (.seq #[(.str pU 673),(.str lV 674),(.str zI 675),(.str kf 676)] 0),qb aH (.seq #[] 0),bX uS (qS 43),bW uS 670 uS 186 2 315 677 678,bY uS (qS 43) dS 555 320,qb aH (.seq #[] 0),(.mk .none .none (.fields #[]) #[]),qb aH (.seq #[(.str ke 683)] 0),qb aH (.seq #[] 0),bX uT (qS 44),bW uT 680 uT 194 1 322 684 685,bY uT (qS 44) dS 555 327,qb aH (.seq #[] 0),(.mk .none .none (.fields #[]) #[]),qb aH (.seq #[(.str pU 690),(.str kg 691),(.str lV 692),(.str zI 693),(.str Bj 694)] 0),qb aH (.seq #[] 0),bX uU (qS 45),bW uU 687 uU 198 3 329 695 696,bY uU (qS 45) dS 555 334]
def yZ(P:Params):List Obj:=((uH P).set 3 (qM P (qd P iE 165 (.str dS 555)) 54 55)).set 12 (qI 114)++[qb aH (.seq #[] 0),(.mk .none .none (.fields #[]) #[]),qb aH (.seq #[(.str pU 701),(.str lV 702),(.str kg 703),(.str Zk 704)] 0),qb aH (.seq #[] 0),bX uV (qS 46),bW uV 698 uV 214 2 336 705 706,bY uV (qS 46) dS 555 341,qb aH (.seq #[] 0),(.mk .none .none (.fields #[]) #[]),eU zJ 711 Zl Zm,qb aH (.seq #[] 0),bX uW (qS 47),bW uW 708 uW 228 1 343 714 715,bY uW (qS 47) dS 555 348,qb aH (.seq #[] 0),(.mk .none .none (.fields #[]) #[]),qb aH (.seq #[(.str zJ 720)] 0),qb aH (.seq #[] 0),bX uX (qS 48),bW uX 717 uX 243 1 350 721 722,bY uX (qS 48) dS 555 355,qb aH (.seq #[] 0),(.mk .none .none (.fields #[]) #[]),qb aH (.seq #[(.str Zn 727),(.str nP 728),(.str zX 729),(.str Bh 730),(.str lV 731),(.str pU 732),(.str zJ 733),(.str Zo 734)] 0),qb aH (.seq #[] 0),bX uY (qS 49),bW uY 724 uY 249 1 357 735 736,bY uY (qS 49) dS 555 362]
def tw5340347442260415343:Params->Heap:=λP=>Subtype.val (p:=λt=>t=(.mk (eJ P).toArray (.mk [] [] [] 0 [] [] .false #[] [] 0 .false .false .false 0 [2000,10,10] .false 0 .true [] [] 0 .false))) ⟨_,by dsimp only[eJ,List.set,List.cons_append,List.nil_append]⟩
theorem te5340347442260415343:tw5340347442260415343=tw5340347442260415343:=rfl
def tw10120784293017408637:Params->BT:=λP=>Subtype.val (p:=λt=>t=qB 12 (eJ P)) ⟨_,by dsimp only[eJ,List.set,List.cons_append,List.nil_append,qB,qe,qg]⟩
theorem te10120784293017408637:tw10120784293017408637=tw10120784293017408637:=rfl
def tw6083503301738716998:List Stmt:=[(qS 0),(qS 1)]
theorem te6083503301738716998:tw6083503301738716998=tw6083503301738716998:=rfl
def tw3167813246028814728:Params->BT:=λP=>Subtype.val (p:=λt=>t=qB 12 (fG P)) ⟨_,by dsimp only[fG,eJ,List.set,List.cons_append,List.nil_append,qB,qe,qg]⟩
theorem te3167813246028814728:tw3167813246028814728=tw3167813246028814728:=rfl
def tw2986784535282729975:List Stmt:=[(qS 2)]
theorem te2986784535282729975:tw2986784535282729975=tw2986784535282729975:=rfl
def tw11739625327537345414:Params->BT:=λP=>Subtype.val (p:=λt=>t=qB 12 (gC P)) ⟨_,by dsimp only[gC,fG,eJ,List.set,List.cons_append,List.nil_append,qB,qe,qg]⟩
theorem te11739625327537345414:tw11739625327537345414=tw11739625327537345414:=rfl
def tw348508147869483828:List Stmt:=[(qS 3)]
theorem te348508147869483828:tw348508147869483828=tw348508147869483828:=rfl
def tw8523185773075291468:Params->BT:=λP=>Subtype.val (p:=λt=>t=qB 12 (gN P)) ⟨_,by dsimp only[gN,gC,fG,eJ,List.set,List.cons_append,List.nil_append,qB,qe,qg]⟩
theorem te8523185773075291468:tw8523185773075291468=tw8523185773075291468:=rfl
def tw16124034802067343534:List Stmt:=[(qS 4)]
theorem te16124034802067343534:tw16124034802067343534=tw16124034802067343534:=rfl
def tw1527833049903806383:Params->BT:=λP=>Subtype.val (p:=λt=>t=qB 12 (iB P)) ⟨_,by dsimp only[iB,gN,gC,fG,eJ,List.set,List.cons_append,List.nil_append,qB,qe,qg]⟩
theorem te1527833049903806383:tw1527833049903806383=tw1527833049903806383:=rfl
def tw4200950046411451354:List Stmt:=[(qS 5)]
theorem te4200950046411451354:tw4200950046411451354=tw4200950046411451354:=rfl
def tw15914130748987809379:Params->BT:=λP=>Subtype.val (p:=λt=>t=qB 12 (iU P)) ⟨_,by dsimp only[iU,iB,gN,gC,fG,eJ,List.set,List.cons_append,List.nil_append,qB,qe,qg]⟩
theorem te15914130748987809379:tw15914130748987809379=tw15914130748987809379:=rfl
def tw17606643058879258461:List Stmt:=[(qS 6)]
theorem te17606643058879258461:tw17606643058879258461=tw17606643058879258461:=rfl
def tw73813278127129505:Params->BT:=λP=>Subtype.val (p:=λt=>t=qB 12 (jM P)) ⟨_,by dsimp only[jM,iU,iB,gN,gC,fG,eJ,List.set,List.cons_append,List.nil_append,qB,qe,qg]⟩
theorem te73813278127129505:tw73813278127129505=tw73813278127129505:=rfl
def tw12835545881867479564:List Stmt:=[(qS 7)]
theorem te12835545881867479564:tw12835545881867479564=tw12835545881867479564:=rfl
def tw5032589417028213142:Params->BT:=λP=>Subtype.val (p:=λt=>t=qB 12 (kK P)) ⟨_,by dsimp only[kK,jM,iU,iB,gN,gC,fG,eJ,List.set,List.cons_append,List.nil_append,qB,qe,qg]⟩
theorem te5032589417028213142:tw5032589417028213142=tw5032589417028213142:=rfl
def tw4116955600732246034:List Stmt:=[(qS 8)]
theorem te4116955600732246034:tw4116955600732246034=tw4116955600732246034:=rfl
def tw851593040807099378:Params->BT:=λP=>Subtype.val (p:=λt=>t=qB 12 (lS P)) ⟨_,by dsimp only[lS,kK,jM,iU,iB,gN,gC,fG,eJ,List.set,List.cons_append,List.nil_append,qB,qe,qg]⟩
theorem te851593040807099378:tw851593040807099378=tw851593040807099378:=rfl
def tw17869777902413556176:List Stmt:=[(qS 9),(qS 10),(qS 11),(qS 12),(qS 13),(qS 14),(qS 15),(qS 16),(qS 17)]
theorem te17869777902413556176:tw17869777902413556176=tw17869777902413556176:=rfl
def tw12506725494440241771:Params->BT:=λP=>Subtype.val (p:=λt=>t=qB 12 (nM P)) ⟨_,by dsimp only[nM,lS,kK,jM,iU,iB,gN,gC,fG,eJ,List.set,List.cons_append,List.nil_append,qB,qe,qg]⟩
theorem te12506725494440241771:tw12506725494440241771=tw12506725494440241771:=rfl
def tw4929817857521099628:List Stmt:=[(qS 18)]
theorem te4929817857521099628:tw4929817857521099628=tw4929817857521099628:=rfl
def tw6640524202212869343:Params->BT:=λP=>Subtype.val (p:=λt=>t=qB 12 (pS P)) ⟨_,by dsimp only[pS,nM,lS,kK,jM,iU,iB,gN,gC,fG,eJ,List.set,List.cons_append,List.nil_append,qB,qe,qg]⟩
theorem te6640524202212869343:tw6640524202212869343=tw6640524202212869343:=rfl
def tw2927466547944101768:List Stmt:=[(qS 19),(qS 20),(qS 21),(qS 22),(qS 23),(qS 24),(qS 25),(qS 26),(qS 27),(qS 28),(qS 29),(qS 30),(qS 31),(qS 32),(qS 33)]
theorem te2927466547944101768:tw2927466547944101768=tw2927466547944101768:=rfl
def tw10004610050759014371:Params->BT:=λP=>Subtype.val (p:=λt=>t=qB 12 (rS P)) ⟨_,by dsimp only[rS,pS,nM,lS,kK,jM,iU,iB,gN,gC,fG,eJ,List.set,List.cons_append,List.nil_append,qB,qe,qg]⟩
theorem te10004610050759014371:tw10004610050759014371=tw10004610050759014371:=rfl
def tw8462282223321343811:List Stmt:=[(qS 34),(qS 35),(qS 36),(qS 37),(qS 38),(qS 39),(qS 40),(qS 41),(qS 42),(qS 43),(qS 44),(qS 45)]
theorem te8462282223321343811:tw8462282223321343811=tw8462282223321343811:=rfl
def tw10829769760584311600:Params->BT:=λP=>Subtype.val (p:=λt=>t=qB 12 (uH P)) ⟨_,by dsimp only[uH,rS,pS,nM,lS,kK,jM,iU,iB,gN,gC,fG,eJ,List.set,List.cons_append,List.nil_append,qB,qe,qg]⟩
theorem te10829769760584311600:tw10829769760584311600=tw10829769760584311600:=rfl
def tw6250662572407140489:List Stmt:=[(qS 46),(qS 47),(qS 48),(qS 49)]
theorem te6250662572407140489:tw6250662572407140489=tw6250662572407140489:=rfl
def tw1769388232157407725:Params->BT:=λP=>Subtype.val (p:=λt=>t=qB 12 (yZ P)) ⟨_,by dsimp only[yZ,uH,rS,pS,nM,lS,kK,jM,iU,iB,gN,gC,fG,eJ,List.set,List.cons_append,List.nil_append,qB,qe,qg]⟩
theorem te1769388232157407725:tw1769388232157407725=tw1769388232157407725:=rfl
def tw4940706138368187461:Params->Heap:=λP=>Subtype.val (p:=λt=>t=(.mk (yZ P).toArray (.mk [] [] [] 0 [] [] .false #[] [] 0 .false .false .false 0 [2000,10,10] .false 0 .true [] [] 0 .false))) ⟨_,by dsimp only[yZ,uH,rS,pS,nM,lS,kK,jM,iU,iB,gN,gC,fG,eJ,List.set,List.cons_append,List.nil_append]⟩
theorem te4940706138368187461:tw4940706138368187461=tw4940706138368187461:=rfl
end PySem.W.Fast
theorem PySem.Challenge.cw_aheadmill_k10_rows_read_holds : PySem.Challenge.rw_aheadmill_k10_rows_read.Holds := by
 w_on;o_law;k_head;(case hw=>w_witness2)
 k_fill
 refine AM.walk (k:=2*12+2) (x:="_law_script") (l:=PySem.Challenge.rw_aheadmill_k10_rows_read) rfl rfl ⟨rfl,by decide,by decide⟩ (λw h Y=>W.kIn_of Y) ?F
 case F=>
  intro w mg fa h KX G hmg;refine' AMx.all_mk KX G hmg ?D ?lb ?oN ?xc_0 ?xc_1 ?xc_2 ?xc_3 ?xc_4 ?xc_5 ?xc_6 ?xc_7 ?xc_8 ?x_LETTERS ?x_FIGURES ?x_BOXES ?l_BOXES ?x_LONGEST_LABEL ?x_GREATEST_WORD ?x_GREATEST_STEP ?x_GREATEST_TARGET ?x_FORMS ?l_FORMS ?e_FORMS ?q_FORMS ?t_FORMS ?sm_FORMS ?cl_0 ?cl_6 ?xi_6 ?xf_6 ?xa_6 ?mr_6_6 ?mr_6_0 ?ko_6_8 ?ko_6_7 ?ko_6_5 ?ko_6_4 ?ko_6_3 ?ko_6_2 ?ko_6_1 ?z_ValueError ?ko_6_ValueError ?ko_6_0
  case D=>
   unfold AMx.gc AMx.fQ;repeat' first
    |exact AM.fM.nil
    | (apply AM.fM.one (dV:=.none);(case l=>k_is);(case c=>k_is);(case k=>k_is);(case b=>first|exact L2.Binds.all λus hl=>by obtain⟨v0,rfl⟩:=AM.Fm hl;rfl|exact L2.Binds.all λus hl=>by obtain⟨v0,v1,rfl⟩:=AM.Fo hl;rfl|exact L2.Binds.all λus hl=>by obtain⟨v0,v1,v2,rfl⟩:=AM.JB hl;rfl);(case s=>exact⟨by kernel_rfl,by kernel_rfl,by kernel_rfl,by decide +kernel,by kernel_rfl,by decide +kernel,by decide +kernel⟩))
  (case lb=>exact λv=>rfl)
  (case oN=>kernel_rfl)
  (case xc_0=>k_is)
  (case xc_1=>k_is)
  (case xc_2=>k_is)
  (case xc_3=>k_is)
  (case xc_4=>k_is)
  (case xc_5=>k_is)
  (case xc_6=>k_is)
  (case xc_7=>k_is)
  (case xc_8=>k_is)
  (case x_LETTERS=>k_is)
  (case x_FIGURES=>k_is)
  (case x_BOXES=>k_is)
  (case l_BOXES=>k_is)
  (case x_LONGEST_LABEL=>k_is)
  (case x_GREATEST_WORD=>k_is)
  (case x_GREATEST_STEP=>k_is)
  (case x_GREATEST_TARGET=>k_is)
  (case x_FORMS=>k_is)
  (case l_FORMS=>k_is)
  (case e_FORMS=>rfl)
  (case q_FORMS=>rfl)
  (case t_FORMS=>kernel_rfl)
  (case sm_FORMS=>decide)
  (case cl_0=>kernel_rfl)
  (case cl_6=>kernel_rfl)
  (case xi_6=>kernel_rfl)
  (case xf_6=>kernel_rfl)
  (case xa_6=>kernel_rfl)
  (case mr_6_6=>kernel_rfl)
  (case mr_6_0=>kernel_rfl)
  (case ko_6_8=>kernel_rfl)
  (case ko_6_7=>kernel_rfl)
  (case ko_6_5=>kernel_rfl)
  (case ko_6_4=>kernel_rfl)
  (case ko_6_3=>kernel_rfl)
  (case ko_6_2=>kernel_rfl)
  (case ko_6_1=>kernel_rfl)
  (case z_ValueError=>k_is)
  (case ko_6_ValueError=>kernel_rfl)
  (case ko_6_0=>kernel_rfl)
