import PyProof.Rows.All
import Wide.All
import OpenK.AllK
import Wide.FinOn
import Lean
import PyProof.EqAt
import PyProof.EqKinds
import PyProof.TupleCall
import OpenK.KOwn
import PySem.Challenge.RW_aheadmill_k51_wrong_slips_told
import PyProof.NeKinds
set_option Elab.async false
set_option linter.all false
set_option maxRecDepth 100000
set_option exponentiation.threshold 2000
set_option maxHeartbeats 0
set_option compiler.extract_closed false
set_option genSizeOf false
local macro_rules | `(command| $d:definition) => `(command| noncomputable $d:definition)
namespace L2
open PySem PySem.Spec PyProof.Rows
abbrev aK:=Sum Int Str
def tE:aK->Value->Bool
 |.inl k,v=>Value.isInt k v
 |.inr x,v=>Value.isStrOf x v
def Pe(w:World):aK->Int
 |.inl k=>hashInt k
 |.inr x=>hashStr w x
theorem gR:∀{k:aK} {v:Value},tE k v=true->(∃i t,k=Sum.inl i/\v=Value.int i t)\/(∃x t,k=Sum.inr x/\v=Value.str x t)
 |.inl i,v,h=>by obtain⟨t,e⟩:=Value.isInt_shape (k:=i) (v:=v) h;exact .inl ⟨i,t,rfl,e⟩
 |.inr x,v,h=>by obtain⟨t,e⟩:=Value.isStrOf_shape (x:=x) (v:=v) h;exact .inr ⟨x,t,rfl,e⟩
theorem HE(i:Int)(t:Tok):tE (.inl i) (.int i t)=true:=by simp[tE,Value.isInt]
theorem HF(x:Str)(t:Tok):tE (.inr x) (.str x t)=true:=by simp[tE,Value.isStrOf]
theorem HG(a b:Int):decide ((Sum.inl a:aK)=Sum.inl b)=(a==b):=by
 by_cases e:a=b
 .subst e;simp
 .have h:¬(Sum.inl a:aK)=Sum.inl b:=λq=>e (Sum.inl.inj q);rw[decide_eq_false h];exact(beq_eq_false_iff_ne.mpr e).symm
theorem HJ(a b:Str):decide ((Sum.inr a:aK)=Sum.inr b)=decide (a=b):=by
 by_cases e:a=b
 .subst e;simp
 .have h:¬(Sum.inr a:aK)=Sum.inr b:=λq=>e (Sum.inr.inj q);rw[decide_eq_false h,decide_eq_false e]
theorem HH(a:Int)(b:Str):decide ((Sum.inl a:aK)=Sum.inr b)=false:=decide_eq_false (λq=>nomatch q)
theorem HI(a:Str)(b:Int):decide ((Sum.inr a:aK)=Sum.inl b)=false:=decide_eq_false (λq=>nomatch q)
def dO(prog:Program)(w:World):PySem.KeyKind prog w aK where
 is:=tE
 hash:=Pe w
 inj:=λv a b ha hb=>by
  rcases gR ha with⟨i,t,rfl,rfl⟩|⟨x,t,rfl,rfl⟩
  .rcases gR hb with⟨j,u,rfl,e⟩|⟨y,u,rfl,e⟩
   .injection e with e1 _;rw[e1]
   .exact nomatch e
  .rcases gR hb with⟨j,u,rfl,e⟩|⟨y,u,rfl,e⟩
   .exact nomatch e
   .injection e with e1 _;rw[e1]
 byValue:=λk v h=>by rcases gR h with⟨i,t,rfl,rfl⟩|⟨x,t,rfl,rfl⟩<;>rfl
 pyHash:=λhv h=>by
  rcases gR hv with⟨i,t,rfl,rfl⟩|⟨x,t,rfl,rfl⟩
  .exact wpAny_pyHash_int h
  .exact wpAny_pyHash_str h
 eqBool:=λhu hv h=>by
  rcases gR hu with⟨i,t,rfl,rfl⟩|⟨x,t,rfl,rfl⟩
  .rcases gR hv with⟨j,u,rfl,rfl⟩|⟨y,u,rfl,rfl⟩
   .rw[HG]at h;exact wpAny_eqBool_int h
   .rw[HH]at h;exact SeqAt.EqAt.int_str i t y u _ _ _ _ h
  .rcases gR hv with⟨j,u,rfl,rfl⟩|⟨y,u,rfl,rfl⟩
   .rw[HI]at h;exact SeqAt.EqAt.str_int x t j u _ _ _ _ h
   .rw[HJ]at h;exact wpAny_eqBool_str h
 «strs»:=λk x t v h=>by
  rcases gR h with⟨i,u,rfl,e⟩|⟨y,u,rfl,e⟩
  .exact nomatch e
  .injection e with e1 _;subst e1;cases v<;>rfl
theorem IS(prog:Program)(w:World)(i:Int)(t:Tok):(dO prog w).is (.inl i) (.int i t)=true:=HE i t
theorem IT(prog:Program)(w:World)(x:Str)(t:Tok):(dO prog w).is (.inr x) (.str x t)=true:=HF x t
inductive V where
 |aB|bl (b:Bool)|int (i:Int)|str (x:Str)|gJ (b:Array UInt8)|sO (b:UInt64)|ref (a:Addr)|ty (n:String)
 deriving DecidableEq
def RelV:V->Value->Prop
 |.aB,u=>u=Value.none
 |.bl b,u=>u=Value.bool b
 |.int i,u=>∃t,u=Value.int i t
 |.str x,u=>∃t,u=Value.str x t
 |.gJ b,u=>∃t,u=Value.bytes b t
 |.sO b,u=>∃t,u=Value.float b t
 |.ref a,u=>u=Value.ref a
 |.ty n,u=>u=Value.type n
abbrev Vals:List V->List Value->Prop:=Paired RelV
theorem Vals.length{xs:List V}{us:List Value}(r:Vals xs us):xs.length=us.length:=Paired.length r
theorem Vals.get:∀{xs:List V} {us:List Value} {i:Nat} {x:V},Vals xs us->xs[i]?=some x->∃u,us[i]?=some u/\RelV x u
 |_,_,_,_,.nil,e=>by simp at e
 |_,_,0,_,.cons r _,e=>by simp at e;subst e;exact⟨_,rfl,r⟩
 |_,_,i+1,x,.cons _ t,e=>by obtain⟨u,h1,h2⟩:=Vals.get (i:=i) (x:=x) t (by simpa using e);exact⟨u,by simpa using h1,h2⟩
theorem Vals.set{x:V}{u:Value}(r:RelV x u):∀{xs:List V} {us:List Value} (i:Nat),Vals xs us->Vals (xs.set i x) (us.set i u)
 |_,_,_,.nil=>.nil
 |_,_,0,.cons _ t=>.cons r t
 |_,_,i+1,.cons q t=>.cons q (Vals.set r i t)
theorem Vals.append:∀{xs ys:List V} {us ws:List Value},Vals xs us->Vals ys ws->Vals (xs++ys) (us++ws)
 |_,_,_,_,.nil,s=>s
 |_,_,_,_,.cons r t,s=>.cons r (Vals.append t s)
theorem Vals.take:∀{xs:List V} {us:List Value} (n:Nat),Vals xs us->Vals (xs.take n) (us.take n)
 |_,_,0,_=>.nil
 |_,_,_+1,.nil=>.nil
 |_,_,n+1,.cons r t=>.cons r (Vals.take n t)
theorem Vals.drop:∀{xs:List V} {us:List Value} (n:Nat),Vals xs us->Vals (xs.drop n) (us.drop n)
 |_,_,0,r=>r
 |_,_,_+1,.nil=>.nil
 |_,_,n+1,.cons _ t=>Vals.drop n t
def fA:Option V->Option Value->Prop
 |some v,some u=>RelV v u
 |none,none=>True
 |_,_=>False
def KV{κ:Type}:List (κ×V)->List (κ×Value)->Prop:=Paired λ(p:κ×V) (q:κ×Value)=>p.1=q.1/\RelV p.2 q.2
def kV:aK->V
 |.inl i=>.int i
 |.inr x=>.str x
inductive HO where
 |lst (xs:List V)
 |tup (xs:List V)
 |dK (kvs:List (aK×V))|dT (kvs:List (List aK×V))
 |set (S:Int->Bool) (n:Nat)
 |ins (C dx:Addr) (fs:List (Str×V))
 |own (x:Addr)
 |xd (fs:List (Str×V))
 |met (f x:Addr)
 |yh (lo hi:Int)
 |cT (o:Obj) (u:HO)
 |rR (ps:Array Value)
 |ext (φ:Heap->Prop)
abbrev Hp:=Addr->Option HO
def aR(H:Hp)(a:Addr)(o:HO):Hp:=λb=>if b=a then some o else H b
theorem fQ{H:Hp}{a:Addr}{o:HO}:aR H a o a=some o:=by unfold aR;rw[if_pos rfl]
theorem bP{H:Hp}{a b:Addr}{o:HO}(h:b≠a):aR H a o b=H b:=by unfold aR;rw[if_neg h]
theorem mQ{H:Hp}{a b:Addr}{o u:HO}(h:H a=some o)(h':H b=some u)(d:o≠u):a≠b:=by intro e;subst e;rw[h]at h';exact d (Option.some.inj h')
theorem eL{H:Hp}{a b:Addr}{o:HO}(h:H a=some o)(h':H b=none):a≠b:=by intro e;subst e;rw[h]at h';cases h'
section
variable (P:Program)(w:World)
def cQ(H:Hp)(h:Heap)(a:Addr):HO->Prop
 |.lst xs=>xs.length<=sizeLine/\∃(its:List Value) (n:Nat),Vals xs its/\h.get? a=some { cls:=.type "list",data:=.seq its.toArray n }
 |.tup xs=>xs.length<=sizeLine/\∃its:List Value,Vals xs its/\IsTup h a its.toArray
 |.dK kvs=>kvs.length<=sizeLine/\(a==sysModules)=false/\∃vs,KV kvs vs/\h.DictOf (dO P w) a vs
 |.dT kvs=>kvs.length<=sizeLine/\(a==sysModules)=false/\∃xs:List (List aK×Addr×Value),
  Paired (λ(p:List aK×V) (q:List aK×Addr×Value)=>p.1=q.1/\H q.2.1=some (.tup (p.1.map kV))/\RelV p.2 q.2.2) kvs xs /\
  ∃o es ep,h.get? a=some o/\o.ExactDict/\o.data = .dict es ep/\es.toList=xs.map (entryOfKey (tupleKind (dO P w)))/\(xs.map (·.1)).Nodup
 |.set S n=>h.SetOf (intKind P w) a S n
 |.ins C dx fs=>H dx=some (.own a)/\fs.length<=1000/\dx≠a/\h.get? a=some (W.instObj C dx) /\
  ∃mA,h.Ns1 dx mA/\(∀f,fA (fs.lookup f) (mA f))/\PySem.Within mA (fs.map (·.1))
 |.own _=>∃o,h.get? a=some o
 |.xd fs=>∃mA,h.Ns1 a mA/\∀f,fA (fs.lookup f) (mA f)
 |.yh lo hi=>∃t u v,h.get? a=some { cls:=.type "range",data:=.fields #[.int lo t,.int hi u,.int 1 v] }
 |.cT o u=>h.get? a=some o/\cQ H h a u
 |.rR ps=>h.get? a=some { cls:=.none,data:=.fields ps }
 |.met f x=>h.get? a=some (W.methodObj (.ref f) (.ref x))
 |.ext φ=>φ h/\(∃o,h.get? a=some o)/\∀h1 h2:Heap,φ h1->(∀o,h1.get? a=some o->h2.get? a=some o)->φ h2
def cJ(H:Hp)(h:Heap):Prop:=∀a o,H a=some o->cQ P w H h a o
end
section
variable {P:Program}{w:World}{H H':Hp}{h h':Heap}{a:Addr}{o:HO}
theorem cQ.lt(x:cQ P w H h a o):a<h.objs.size:=by
 cases o with
 |lst xs=>obtain⟨_,_,_,_,e⟩:=x;exact Heap.lt_size e|tup xs=>obtain⟨_,_,_,p⟩:=x;exact p.lt|dK kvs=>obtain⟨_,_,_,_,o,_,_,e,_⟩:=x;exact Heap.lt_size e|dT kvs=>obtain⟨_,_,_,_,o,_,_,e,_⟩:=x;exact Heap.lt_size e|set S n=>obtain⟨o,_,_,_,e,_⟩:=x;exact Heap.lt_size e|ins C dx fs=>obtain⟨_,_,_,e,_⟩:=x;exact Heap.lt_size e|own y=>obtain⟨_,e⟩:=x;exact Heap.lt_size e|xd fs=>obtain⟨_,⟨_,_,_,e,_⟩,_⟩:=x;exact Heap.lt_size e|yh lo hi=>obtain⟨_,_,_,e⟩:=x;exact Heap.lt_size e|cT ob u=>obtain⟨e,_⟩:=x;exact Heap.lt_size e|rR ps=>exact Heap.lt_size (show h.get? a=some _ from x)|met f y=>exact Heap.lt_size (show h.get? a=some _ from x)|ext φ=>obtain⟨_,⟨_,e⟩,_⟩:=x;exact Heap.lt_size e
theorem Paired.Ck{α β:Type}{F G:α->β->Prop}:∀{l₁:List α} {l₂:List β},Paired F l₁ l₂->(∀a b,F a b->G a b)->Paired G l₁ l₂
 |_,_,.nil,_=>.nil
 |_,_,.cons r t,f=>.cons (f _ _ r) (Paired.Ck t f)
theorem cQ.nF(x:cQ P w H h a o)(k:∀b u,(b=a\/H b=some (.own a))->h.get? b=some u->h'.get? b=some u)
  (ho:∀b,H b=some (.own a)->H' b=some (.own a)) (ht:∀b xs,H b=some (.tup xs)->H' b=some (.tup xs)):cQ P w H' h' a o:=by
 induction o with
 |lst xs=>obtain⟨z,its,n,r,e⟩:=x;exact⟨z,its,n,r,k _ _ (.inl rfl) e⟩|tup xs=>obtain⟨z,its,r,ob,e,c⟩:=x;exact⟨z,its,r,ob,k _ _ (.inl rfl) e,c⟩|dK kvs=>obtain⟨z,y,vs,r,ob,es,ep,e,c⟩:=x;exact⟨z,y,vs,r,ob,es,ep,k _ _ (.inl rfl) e,c⟩|dT kvs=>obtain⟨z,y,xs,r,ob,es,ep,e,c⟩:=x;exact⟨z,y,xs,Paired.Ck r λp q z=>⟨z.1,ht _ _ z.2.1,z.2.2⟩,ob,es,ep,k _ _ (.inl rfl) e,c⟩
 |set S n=>obtain⟨ob,es,ep,t,e,c⟩:=x;exact⟨ob,es,ep,t,k _ _ (.inl rfl) e,c⟩|ins C dx fs=>obtain⟨d,z,ne,e,mA,⟨od,es,ep,e2,c⟩,r⟩:=x;exact⟨ho _ d,z,ne,k _ _ (.inl rfl) e,mA,⟨od,es,ep,k _ _ (.inr d) e2,c⟩,r⟩
 |own y=>obtain⟨ob,e⟩:=x;exact⟨ob,k _ _ (.inl rfl) e⟩|xd fs=>obtain⟨mA,⟨od,es,ep,e,c⟩,r⟩:=x;exact⟨mA,⟨od,es,ep,k _ _ (.inl rfl) e,c⟩,r⟩|yh lo hi=>obtain⟨t,u,v,e⟩:=x;exact⟨t,u,v,k _ _ (.inl rfl) e⟩|cT ob u ih=>obtain⟨e,q⟩:=x;exact⟨k _ _ (.inl rfl) e,ih q⟩|rR ps=>have e:h.get? a=some { cls:=.none,data:=.fields ps }:=x;show h'.get? a=some { cls:=.none,data:=.fields ps };exact k a _ (.inl rfl) e
 |met f y=>have e:h.get? a=some (W.methodObj (.ref f) (.ref y)):=x;show h'.get? a=some (W.methodObj (.ref f) (.ref y));exact k a _ (.inl rfl) e
 |ext φ=>obtain⟨p,⟨o,e⟩,st⟩:=x;exact⟨st _ _ p λo q=>k _ _ (.inl rfl) q,⟨o,k _ _ (.inl rfl) e⟩,st⟩
theorem cJ.lt(x:cJ P w H h)(e:H a=some o):a<h.objs.size:=(x a o e).lt
theorem cJ.fresh(x:cJ P w H h)(e:h.objs.size<=a):H a=none:=by
 cases q:H a with
 |none=>rfl|some u=>exact absurd (Nat.lt_of_lt_of_le (x.lt q) e) (Nat.lt_irrefl _)
theorem cJ.kept(x:cJ P w H h)(k:∀b u,h.get? b=some u->h'.get? b=some u):cJ P w H h':=λa o e=>
 (x a o e).nF (λb u _ q=>k b u q) (λ_ q=>q) λ_ _ q=>q
theorem cJ.laid(x:cJ P w H h)(k:∀b u,h.get? b=some u->h'.get? b=some u)(hp:h.objs.size<=a)(new:cQ P w (aR H a o) h' a o):cJ P w (aR H a o) h':=λb u e=>by
 have hn:=x.fresh hp;by_cases hb:b=a
 .subst hb;rw[fQ]at e;cases e;exact new
 .rw[bP hb]at e;exact(x b u e).nF (λc v _ q=>k c v q) (λc q=>by rw[bP (eL q hn)];exact q) λc xs q=>by rw[bP (eL q hn)];exact q
end
def Rd(H:Hp)(a:Addr)(u:HO):Prop:=H a=some u\/∃o,H a=some (.cT o u)
theorem Rd.ok{P:Program}{w:World}{H:Hp}{h:Heap}{a:Addr}{u:HO}(r:Rd H a u)(x:cJ P w H h):cQ P w H h a u:=by
 rcases r with r|⟨o,r⟩
 .exact x a u r
 .obtain⟨_,q⟩:=x a _ r;exact q
def fc:Option HO->Prop
 |some (.lst _)=>True
 |some (.dK _)=>True
 |some (.dT _)=>True
 |some (.set _ _)=>True
 |some (.ins _ _ _)=>True
 |some (.ext _)=>True
 |_=>False
section
variable {P:Program}{w:World}{H:Hp}{h h':Heap}{x e:Addr}{o':HO}
theorem cJ.write(ok:cJ P w H h)(mu:fc (H x))(he:e=x\/H e=some (.own x))(k:∀b u,b≠e->h.get? b=some u->h'.get? b=some u)(heo:∃u,h'.get? e=some u)
  (new:cQ P w (aR H x o') h' x o'):cJ P w (aR H x o') h':=λb u q=>by
 have nown:∀c y,H c=some (.own y)->c≠x:=λc y r z=>by subst z;rw[r]at mu;exact mu
 have ntup:∀c xs,H c=some (.tup xs)->c≠x:=λc xs r z=>by subst z;rw[r]at mu;exact mu
 by_cases hb:b=x
 .subst hb;rw[fQ]at q;cases q;exact new
 .rw[bP hb]at q;by_cases hbe:b=e
  .have q':H b=some (.own x):=by
    rcases he with z|z
    .exact absurd (hbe.trans z) hb
    .rw[hbe];exact z
   rw[q]at q';cases q';obtain⟨v,hv⟩:=heo;exact⟨v,by rw[hbe];exact hv⟩
  .refine(ok b u q).nF (λc v hc r=>k c v ?_ r) (λc r=>by rw[bP (nown c b r)];exact r) λc xs r=>by rw[bP (ntup c xs r)];exact r
   rcases hc with rfl|hc
   .exact hbe
   .rintro rfl
    rcases he with z|z
    .exact nown c b hc z
    .rw[hc]at z;cases z;exact hb rfl
end
structure Un(fs ex:List Addr)(H H':Hp)(h h':Heap):Prop where
 keep:∀b o,h.get? b=some o->H b=none->b∉fs->b∉ex->h'.get? b=some o
 slot:∀b o,h.get? b=some o->H b=none->b∈fs->b∉ex->∃sl,h'.get? b=some { o with slots:=sl }
 free:∀b o,h.get? b=some o->H b=none->b∉ex->H' b=none
 there:∀b o,h.get? b=some o->b∉ex->∃o',h'.get? b=some o'
 lX:∀b xs,H b=some (.tup xs)->H' b=some (.tup xs)
 iO:∀b o u,H b=some (.cT o u)->H' b=some (.cT o u)
 lV:∀b ps,H b=some (.rR ps)->∃more,H' b=some (.rR (ps++more))
section
variable {fs fs' ex ex':List Addr}{H H1 H2:Hp}{h h1 h2 h':Heap}{a x e:Addr}{o:HO}
theorem Un.any(u:Un fs ex H H1 h h1){b:Addr}{ob:Obj}(q:h.get? b=some ob)(n:H b=none)(hx:b∉ex):∃sl,h1.get? b=some { ob with slots:=sl }:=by
 by_cases hb:b∈fs
 .exact u.slot b ob q n hb hx
 .exact⟨ob.slots,u.keep b ob q n hb hx⟩
theorem Un.kept(k:∀b u,h.get? b=some u->h'.get? b=some u):Un fs ex H H h h':=
 ⟨λb ob q _ _ _=>k b ob q,λb ob q _ _ _=>⟨ob.slots,k b ob q⟩,λ_ _ _ n _=>n,λb ob q _=>⟨ob,k b ob q⟩,λ_ _ q=>q,λ_ _ _ q=>q,λ_ ps q=>⟨#[],by rw[q];simp⟩⟩
theorem Un.refl:Un fs ex H H h h:=Un.kept λ_ _ q=>q
theorem Un.laid(k:∀b u,h.get? b=some u->h'.get? b=some u)(hp:h.objs.size<=a)(hn:H a=none):Un fs ex H (aR H a o) h h' where
 keep:=λb u q _ _ _=>k b u q
 slot:=λb u q _ _ _=>⟨u.slots,k b u q⟩
 free:=λb u q n _=>by rw[bP (Nat.ne_of_lt (Nat.lt_of_lt_of_le (Heap.lt_size q) hp))];exact n
 there:=λb u q _=>⟨u,k b u q⟩
 lX:=λb xs q=>by rw[bP (eL q hn)];exact q
 iO:=λb u xs q=>by rw[bP (eL q hn)];exact q
 lV:=λb ps q=>⟨#[],by rw[bP (eL q hn),q];simp⟩
theorem Un.write(mu:fc (H x))(he:e=x\/H e=some (.own x))(k:∀b u,b≠e->h.get? b=some u->h'.get? b=some u)(heo:∃u,h'.get? e=some u):Un fs ex H (aR H x o) h h':=by
 have hx:∀b,H b=none->b≠x:=λb n z=>by subst z;rw[n]at mu;exact mu
 have hb:∀b,H b=none->b≠e:=λb n z=>by
  subst z;rcases he with r|r
  .exact hx b n r
  .rw[n]at r;cases r
 have hm:∀b u,H b=some u->¬fc (some u)->b≠x:=λb u q nm z=>by subst z;rw[q]at mu;exact nm mu
 refine⟨λb u q n _ _=>k b u (hb b n) q,λb u q n _ _=>⟨u.slots,k b u (hb b n) q⟩,λb u q n _=>by rw[bP (hx b n)];exact n,λb u q _=>?_,
  λb xs q=>by rw[bP (hm b _ q λz=>z)];exact q,λb u xs q=>by rw[bP (hm b _ q λz=>z)];exact q,λb ps q=>⟨#[],by rw[bP (hm b _ q λz=>z),q];simp⟩⟩
 by_cases hbe:b=e
 .subst hbe;exact heo
 .exact⟨u,k b u hbe q⟩
end
def yx(h:Heap)(H:Hp):List Addr:=(List.range h.objs.size).filter λa=>(H a).isSome
def mL(h:Heap)(H:Hp):Heap:=W.hideAll h (yx h H)
theorem FX(h:Heap)(H:Hp):(mL h H).objs.size=h.objs.size:=W.hideAll_size _ _
theorem FW{h:Heap}{H:Hp}{b:Addr}{o:Obj}(e:h.get? b=some o)(n:H b=none):(mL h H).get? b=some o:=
 W.hideAll_get _ e λhm=>by have q:(H b).isSome=true:=(List.mem_filter.mp hm).2;rw[n]at q;simp at q
theorem JI{h:Heap}{H:Hp}{b:Addr}{o:Obj}(e:(mL h H).get? b=some o):h.get? b=some o/\H b=none:=by
 have e':h.get? b=some o:=W.of_hideAll (yx h H) e;refine⟨e',?_⟩;cases q:H b with
 |none=>rfl|some x=>have hm:b∈yx h H:=List.mem_filter.mpr ⟨List.mem_range.mpr (Heap.lt_size e'),by simp[q]⟩;have z:(mL h H).get? b=none:=W.hideAll_none (yx h H) hm;rw[z]at e;cases e
structure Mod(K:W.Frag)(mg:Str->Option Value)(base:Heap):Prop where
 wI:K.In base
 glob:base.Ns mainGlobals mg
 blt:∃mb,base.Ns builtinsNs mb/\∀x:Str,x≠"__name__"->mb x=bootBuiltins x
 nolimit:base.NoLimit
structure Cx where
 prog:Program
 w:World
 K:W.Frag
 mg:Str->Option Value
 base:Heap
 A:Around
 N:List Str
 s₀:Shared
 H₀:Hp
 env:Env
 outer:List Env
 stack:List Env
 ex:List Addr
 fn:Str->Bool
 calm:Bool
 pn:List (Addr×Obj)
 xe:Value->Shared->Prop
def fF(l:List Env):List Addr:=l.filterMap (·.frame)
noncomputable abbrev Cx.fs(X:Cx):List Addr:=fF X.outer
def ou(sc:Scope)(x:Str):Prop:=sc.names.lookup x=some .local\/sc.names.lookup x=some .cell\/sc.names.lookup x=some .free
def fb(sc:Scope)(x:Str):Prop:=sc.names.lookup x=some .local\/sc.names.lookup x=some .cell
def Wy(env:Env)(h:Heap)(m:Str->Option Value)(x:Str)(u:Value):Prop:=
 (env.kindOf x=some .local/\m x=some u)\/((env.kindOf x=some .cell\/env.kindOf x=some .free)/\∃c,env.cells.lookup x=some c/\h.IsCell c (some u))
structure Cx.Ok(X:Cx):Prop where
 mod:Mod X.K X.mg X.base
 kind:X.env.scope.kind = .function
 glob:X.env.globals=mainGlobals
 blt:X.env.builtins=builtinsNs
 above:X.s₀.heap.objs.size<=X.env.locals
 inj:∀x y c,X.env.cells.lookup x=some c->X.env.cells.lookup y=some c->x=y
 has:∀x,(X.env.kindOf x=some .cell\/X.env.kindOf x=some .free)->∃c,X.env.cells.lookup x=some c
 pq:∀x c,X.fn x=true->X.env.cells.lookup x=some c->X.s₀.heap.objs.size<=c
 hd:X.calm=true->X.A.handled=none
 frames:X.A.frames=some X.stack
 dg:X.stack=X.outer\/(X.stack=X.env::X.outer/\X.env.frame=some X.env.locals)
 qr:∀b∈X.ex,b≠X.env.locals/\∀x c,X.env.cells.lookup x=some c->c≠b
 bs:∀b o,X.base.get? b=some o->X.s₀.heap.get? b=some o/\X.H₀ b=none
 nN:X.base.objs.size<=X.s₀.heap.objs.size
 ud:∀b o,X.base.get? b=some o->b∉X.ex
 fz:∀b∈X.ex,b∉X.fs
 iP:X.s₀.heap.FunFrames X.base X.outer
 wD:∀b∈X.fs,X.H₀ b=none
structure Inv(X:Cx)(pins:List (Addr×Obj))(U:List (Option V))(H:Hp)(s:Shared):Prop where
 ok:X.Ok
 os:s.os=X.s₀.os
 bare:AllBare s.gens
 base:Un X.fs X.ex X.H₀ H X.s₀.heap s.heap
 loc:∃m,s.heap.Ns X.env.locals m/\∀(i:Nat) (x:Str) (v:V),X.N[i]?=some x->U[i]?=some (some v)->ou X.env.scope x->∃u,RelV v u/\Wy X.env s.heap m x u
 cell:∀x c,X.env.cells.lookup x=some c->∃v,s.heap.IsCell c v
 free:H X.env.locals=none
 mI:∀x c,X.env.cells.lookup x=some c->H c=none
 pin:∀p∈X.pn++pins,s.heap.get? p.1=some p.2/\H p.1=none/\p.1≠X.env.locals/\p.1∉X.fs/\∀v,p.2.data ≠ .cell v
 aN:cJ X.prog X.w H s.heap
 len:U.length=X.N.length
section
variable {X:Cx}{pins:List (Addr×Obj)}{U:List (Option V)}{H H':Hp}{s:Shared}{h':Heap}
theorem Cx.Ok.JC(ok:X.Ok){b:Addr}{o:Obj}(e:X.base.get? b=some o):b∉X.fs:=λhb=>by have:=(ok.iP.mem hb).1;rw[e]at this;cases this
theorem Inv.bs(I:Inv X pins U H s):∀b o,X.base.get? b=some o->s.heap.get? b=some o/\H b=none:=λb o e=>
 ⟨I.base.keep b o (I.ok.bs b o e).1 (I.ok.bs b o e).2 (I.ok.JC e) (I.ok.ud b o e),I.base.free b o (I.ok.bs b o e).1 (I.ok.bs b o e).2 (I.ok.ud b o e)⟩
theorem Inv.bk(I:Inv X pins U H s):∀b o,X.base.get? b=some o->s.heap.get? b=some o:=λb o e=>(I.bs b o e).1
theorem Inv.mod(I:Inv X pins U H s):Mod X.K X.mg X.base:=I.ok.mod
theorem Inv.cB(I:Inv X pins U H s):X.K.In s.heap:=I.ok.mod.wI.keeps I.bk
theorem Inv.lt(I:Inv X pins U H s):X.env.locals<s.heap.objs.size:=let ⟨_,hn,_⟩:=I.loc;hn.lt
theorem Inv.sz(I:Inv X pins U H s):X.s₀.heap.objs.size<=s.heap.objs.size:=Nat.le_trans I.ok.above (Nat.le_of_lt I.lt)
theorem Inv.JE(I:Inv X pins U H s){a:Addr}(h:s.heap.objs.size<=a):a∉X.fs:=λhb=>by obtain⟨_,o,ho,_⟩:=I.ok.iP.mem hb;exact absurd (Nat.lt_of_lt_of_le (Heap.lt_size ho) (Nat.le_trans I.sz h)) (Nat.lt_irrefl _)
theorem Inv.sF(I:Inv X pins U H s):∀x c,X.env.cells.lookup x=some c->c≠X.env.locals:=λx c e z=>by obtain⟨v,o,ho,hd⟩:=I.cell x c e;obtain⟨m,⟨o',es,ep,ho',hd',_⟩,_⟩:=I.loc;rw[z,ho']at ho;cases ho;rw[hd']at hd;cases hd
theorem Inv.iP(I:Inv X pins U H s):s.heap.FunFrames X.base X.outer:=by
 have all:∀(l:List Env),(∀b∈fF l,b∈X.fs)->X.s₀.heap.FunFrames X.base l->s.heap.FunFrames X.base l:=by
  intro l;induction l with
  |nil=>intro _ _;trivial|cons env r ih=>intro hs hl;obtain⟨hk,⟨L,o,hf,hn,ho,hd⟩,hr⟩:=hl;have hL:L∈X.fs:=hs L (by unfold fF;rw[List.filterMap_cons,hf];exact List.mem_cons_self);obtain⟨sl,e⟩:=I.base.slot L o ho (I.ok.wD L hL) hL λz=>I.ok.fz L z hL;exact⟨hk,⟨L,_,hf,hn,e,hd⟩,ih (λb hb=>hs b (by unfold fF;rw[List.filterMap_cons,hf];exact List.mem_cons_of_mem _ hb)) hr⟩
 exact all X.outer (λ_ hb=>hb) I.ok.iP
theorem Inv.stack(I:Inv X pins U H s):s.heap.FunFrames X.base X.stack:=by
 rcases I.ok.dg with e|⟨e,hf⟩
 .rw[e];exact I.iP
 .rw[e];obtain⟨m,hn,_⟩:=I.loc;refine .cons (by rw[I.ok.kind];decide) hf hn ?_ I.iP;exact Heap.get?_none_of_le (Nat.le_trans I.ok.nN I.ok.above)
theorem Inv.yq(I:Inv X pins U H s):∀b∈fF X.stack,b∈X.env.locals::X.fs:=λb hb=>by
 rcases I.ok.dg with e|⟨e,hf⟩
 .rw[e]at hb;exact List.mem_cons_of_mem _ hb
 .rw[e]at hb;unfold fF at hb;rw[List.filterMap_cons,hf]at hb;exact hb
theorem Inv.Gy(I:Inv X pins U H s):∀b∈fF X.stack,H b=none:=λb hb=>by
 rcases List.mem_cons.mp (I.yq b hb)with e|hb
 .rw[e];exact I.free
 .obtain⟨_,o,ho,_⟩:=I.ok.iP.mem hb;exact I.base.free b o ho (I.ok.wD b hb) λz=>I.ok.fz b z hb
theorem Inv.step{g':Array GenState}{t':Nat}{d':Drawn}{ch:List Addr}(I:Inv X pins U H s)
  (hch:∀b∈ch,(b∈X.ex\/X.s₀.heap.objs.size<=b)/\b≠X.env.locals/\(∀x c,X.env.cells.lookup x=some c->c≠b)/\∀p∈X.pn++pins,p.1≠b)
  (keep:∀b o,b≠X.env.locals->b∉X.fs->b∉ch->s.heap.get? b=some o->H b=none->h'.get? b=some o)
  (slot:∀b o,b≠X.env.locals->b∈X.fs->b∉ch->s.heap.get? b=some o->H b=none->∃sl,h'.get? b=some { o with slots:=sl }) (free:∀b o,b∉ch->s.heap.get? b=some o->H b=none->H' b=none)
  (there:∀b o,b∉ch->s.heap.get? b=some o->∃o',h'.get? b=some o')
  (lX:∀b xs,H b=some (.tup xs)->H' b=some (.tup xs)) (iO:∀b o u,H b=some (.cT o u)->H' b=some (.cT o u)) (lV:∀b ps,H b=some (.rR ps)->∃more,H' b=some (.rR (ps++more)))
  (ns:∀m,s.heap.Ns X.env.locals m->h'.Ns X.env.locals m) (aN:cJ X.prog X.w H' h') (hg:AllBare g') :
  Inv X pins U H' { s with heap:=h',gens:=g',drawn:=d',toks:=t' }:=by
 have neL:∀b o,X.s₀.heap.get? b=some o->b≠X.env.locals:=λb o e=>Nat.ne_of_lt (Nat.lt_of_lt_of_le (Heap.lt_size e) I.ok.above);have neC:∀b o,X.s₀.heap.get? b=some o->b∉X.ex->b∉ch:=λb o e hx hb=>by
  rcases(hch b hb).1 with z|z
  .exact hx z
  .exact absurd (Nat.lt_of_lt_of_le (Heap.lt_size e) z) (Nat.lt_irrefl _)
 have cellK:∀x c,X.env.cells.lookup x=some c->∀v,s.heap.IsCell c v->h'.IsCell c v:=λx c e v ⟨o,ho,hd⟩=>by
  have nch:c∉ch:=λz=>(hch c z).2.2.1 x c e rfl;by_cases hc:c∈X.fs
  .obtain⟨sl,q⟩:=slot c o (I.sF x c e) hc nch ho (I.mI x c e);exact⟨_,q,hd⟩
  .exact⟨o,keep c o (I.sF x c e) hc nch ho (I.mI x c e),hd⟩
 refine⟨I.ok,I.os,hg,⟨λb o e n hb hx=>?_,λb o e n hb hx=>?_,λb o e n hx=>?_,λb o e hx=>?_,λb xs e=>lX b xs (I.base.lX b xs e),λb o xs e=>iO b o xs (I.base.iO b o xs e),λb ps e=>?_⟩,?_,λx c e=>?_,?_,λx c e=>?_,λp hp=>?_,aN,I.len⟩
 .exact keep b o (neL b o e) hb (neC b o e hx) (I.base.keep b o e n hb hx) (I.base.free b o e n hx)
 .obtain⟨sl,e1⟩:=I.base.slot b o e n hb hx;obtain⟨sl',e2⟩:=slot b _ (neL b o e) hb (neC b o e hx) e1 (I.base.free b o e n hx);exact⟨sl',e2⟩
 .obtain⟨o',e1⟩:=I.base.there b o e hx;exact free b o' (neC b o e hx) e1 (I.base.free b o e n hx)
 .obtain⟨o',e1⟩:=I.base.there b o e hx;exact there b o' (neC b o e hx) e1
 .obtain⟨m1,e1⟩:=I.base.lV b ps e;obtain⟨m2,e2⟩:=lV b _ e1;exact⟨m1++m2,by rw[e2,Array.append_assoc]⟩
 .obtain⟨m,hn,hl⟩:=I.loc;refine⟨m,ns m hn,λi x v e1 e2 e3=>?_⟩;obtain⟨u,r,l⟩:=hl i x v e1 e2 e3;refine⟨u,r,?_⟩;rcases l with l|⟨k,c,e,z⟩
  .exact .inl l
  .exact .inr ⟨k,c,e,cellK x c e _ z⟩
 .obtain⟨v,z⟩:=I.cell x c e;exact⟨v,cellK x c e v z⟩
 .obtain⟨m,⟨o,_,_,ho,_⟩,_⟩:=I.loc;exact free _ o (λz=>(hch _ z).2.1 rfl) ho I.free
 .obtain⟨v,o,ho,hd⟩:=I.cell x c e;exact free c o (λz=>(hch c z).2.2.1 x c e rfl) ho (I.mI x c e)
 .obtain⟨e,n,ne,nf,d⟩:=I.pin p hp;have nch:p.1∉ch:=λz=>(hch p.1 z).2.2.2 p hp rfl;exact⟨keep p.1 p.2 ne nf nch e n,free p.1 p.2 nch e n,ne,nf,d⟩
theorem Inv.un{t':Nat}(I:Inv X pins U H s)(u:Un X.fs [] H H' s.heap h')(aN:cJ X.prog X.w H' h'):Inv X pins U H' { s with heap:=h',toks:=t' }:=by
 obtain⟨m,⟨o,es,ep,ho,r⟩,_⟩:=id I.loc;obtain⟨sl,hL⟩:=u.any ho I.free (by simp);exact I.step (g':=s.gens) (d':=s.drawn) (ch:=[]) (λ_ z=>nomatch z) (λb o _ hb _ e n=>u.keep b o e n hb (by simp)) (λb o _ hb _ e n=>u.slot b o e n hb (by simp)) (λb o _ e n=>u.free b o e n (by simp)) (λb o _ e=>u.there b o e (by simp)) u.lX u.iO u.lV (λm' hm=>by obtain⟨o',es',ep',ho',r'⟩:=hm;rw[ho]at ho';cases ho';exact⟨_,es',ep',hL,r'⟩) aN I.bare
theorem Inv.call{g':Array GenState}{t':Nat}{d':Drawn}{ch:List Addr}(I:Inv X pins U H s)(u:Un (fF X.stack) ch H H' s.heap h')(aN:cJ X.prog X.w H' h')(hg:AllBare g')
  (hch:∀b∈ch,(b∈X.ex\/X.s₀.heap.objs.size<=b)/\b≠X.env.locals/\(∀x c,X.env.cells.lookup x=some c->c≠b)/\∀p∈X.pn++pins,p.1≠b) :
  Inv X pins U H' { s with heap:=h',gens:=g',drawn:=d',toks:=t' }:=by
 obtain⟨m,⟨o,es,ep,ho,r⟩,_⟩:=id I.loc;obtain⟨sl,hL⟩:=u.any ho I.free λz=>(hch _ z).2.1 rfl;exact I.step (ch:=ch) hch (λb o hL hb hc e n=>u.keep b o e n (λz=>(List.mem_cons.mp (I.yq b z)).elim hL hb) hc) (λb o _ _ hc e n=>u.any e n hc) (λb o hc e n=>u.free b o e n hc) (λb o hc e=>u.there b o e hc) u.lX u.iO u.lV (λm' hm=>by obtain⟨o',es',ep',ho',r'⟩:=hm;rw[ho]at ho';cases ho';exact⟨_,es',ep',hL,r'⟩) aN hg
theorem Inv.turned{t':Nat}{it:Addr}(I:Inv X pins U H s)(k:∀b o,b≠it->s.heap.get? b=some o->h'.get? b=some o)(hn:H it=none)(hL:it≠X.env.locals)
  (h1:it∈X.ex\/X.s₀.heap.objs.size<=it) (h2:∀x c,X.env.cells.lookup x=some c->c≠it) (h3:∀p∈X.pn++pins,p.1≠it):Inv X pins U H { s with heap:=h',toks:=t' }:=by
 have nit:∀b u,H b=some u->b≠it:=λb u e z=>by rw[z,hn]at e;cases e
 refine I.step (g':=s.gens) (d':=s.drawn) (ch:=[it]) (λb hb=>?_) (λb o _ _ hc e _=>k b o (λz=>hc (by simp[z])) e) (λb o _ _ hc e _=>⟨o.slots,k b o (λz=>hc (by simp[z])) e⟩) (λ_ _ _ _ n=>n)
  (λb o hc e=>⟨o,k b o (λz=>hc (by simp[z])) e⟩) (λ_ _ e=>e) (λ_ _ _ e=>e) (λb ps e=>⟨#[],by rw[e];simp⟩) (λm hm=>?_) (λb u e=>?_) I.bare
 .have e:b=it:=by simpa using hb
  subst e;exact⟨h1,hL,h2,h3⟩
 .obtain⟨o,es,ep,ho,r⟩:=hm;exact⟨o,es,ep,k _ o (Ne.symm hL) ho,r⟩
 .refine(I.aN b u e).nF (λc v hc q=>k c v ?_ q) (λ_ q=>q) λ_ _ q=>q;rcases hc with z|z
  .rw[z];exact nit b u e
  .exact nit c _ z
theorem Inv.tok(I:Inv X pins U H s)(t:Nat):Inv X pins U H { s with toks:=t }:=I.un (h':=s.heap) (t':=t) Un.refl I.aN
theorem Inv.kept{t':Nat}(I:Inv X pins U H s)(k:∀b u,s.heap.get? b=some u->h'.get? b=some u):Inv X pins U H { s with heap:=h',toks:=t' }:=I.un (Un.kept k) (I.aN.kept k)
theorem Inv.laid{a:Addr}{o:HO}{t':Nat}(I:Inv X pins U H s)(k:∀b u,s.heap.get? b=some u->h'.get? b=some u)(hp:s.heap.objs.size<=a)(new:cQ X.prog X.w (aR H a o) h' a o) :
 Inv X pins U (aR H a o) { s with heap:=h',toks:=t' }:=I.un (Un.laid k hp (I.aN.fresh hp)) (I.aN.laid k hp new)
theorem Inv.write{x e:Addr}{o:HO}{t':Nat}(I:Inv X pins U H s)(mu:fc (H x))(he:e=x\/H e=some (.own x))(k:∀b u,b≠e->s.heap.get? b=some u->h'.get? b=some u)(heo:∃u,h'.get? e=some u)
 (new:cQ X.prog X.w (aR H x o) h' x o):Inv X pins U (aR H x o) { s with heap:=h',toks:=t' }:=I.un (Un.write mu he k heo) (I.aN.write mu he k heo new)
theorem Inv.wQ{pins':List (Addr×Obj)}(I:Inv X pins U H s)(h:∀p∈pins',s.heap.get? p.1=some p.2/\H p.1=none/\p.1≠X.env.locals/\p.1∉X.fs/\∀v,p.2.data ≠ .cell v):Inv X pins' U H s:=
 ⟨I.ok,I.os,I.bare,I.base,I.loc,I.cell,I.free,I.mI,λp hp=>(List.mem_append.mp hp).elim (λz=>I.pin p (List.mem_append_left _ z)) (h p),I.aN,I.len⟩
theorem Qg{N:List Str}(hN:N.Nodup){i j:Nat}{x:Str}(a:N[i]?=some x)(b:N[j]?=some x):i=j:=by obtain⟨h1,e1⟩:=List.getElem?_eq_some_iff.mp a;obtain⟨h2,e2⟩:=List.getElem?_eq_some_iff.mp b;exact(List.getElem_inj hN).mp (e1.trans e2.symm)
theorem ZR{M:Model}{A:Around}{E:Value->Shared->Prop}{i:Nat}{x:Str}{v:V}{u:Value}{Q:Unit->Shared->Prop}(I:Inv X pins U H s)(hN:X.N.Nodup)(hi:X.N[i]?=some x)(hx:fb X.env.scope x)(r:RelV v u)
  (h:∀s',Inv X pins (U.set i (some v)) H s'->(∃a,Heap.SameBut a s.heap s'.heap/\(a=X.env.locals\/X.env.cells.lookup x=some a))->Q () s') (hf:X.fn x=true\/X.env.scope.names.lookup x=some .local:=by first|exact .inl rfl|exact .inr rfl|assumption):wpAny M A (storeName X.env x u) Q E s:=by
 obtain⟨m,hn,hl⟩:=id I.loc;have hcls:(X.env.scope.kind == .class||(X.env.scope.kind == .module&&X.env.locals != X.env.globals))=false:=by rw[I.ok.kind];rfl
 have hiU:i<U.length:=by rw[I.len];exact(List.getElem?_eq_some_iff.mp hi).1
 have sF:=I.sF;have tracked:∀{a:Addr} {h':Heap},(∃o,s.heap.get? a=some o/\H a=none)->Heap.SameBut a s.heap h'->cJ X.prog X.w H h':=λ{a h'} ha hs b ob e=>by
  obtain⟨_,_,hfree⟩:=ha;refine(I.aN b ob e).nF (λc w' hc q=>(hs.2 c ?_).trans q) (λ_ q=>q) λ_ _ q=>q;rintro rfl
  rcases hc with rfl|hc
  .rw[hfree]at e;cases e
  .rw[hfree]at hc;cases hc
 rcases hx with hk|hk
 .refine wpAny_storeName_local hk hn (λh' hn' hs=>?_) hcls;obtain⟨oL,_,_,hoL,_⟩:=id hn;refine h _ ⟨I.ok,I.os,I.bare,⟨λb o e n hb hx=>?_,λb o e n hb hx=>?_,I.base.free,λb o e hx=>?_,I.base.lX,I.base.iO,I.base.lV⟩,⟨_,hn',λj y v' e1 e2 e3=>?_⟩,λy c e=>?_,I.free,I.mI,λp hp=>?_,tracked ⟨oL,hoL,I.free⟩ hs,by simpa using I.len⟩ ⟨_,hs,.inl rfl⟩
  .exact(hs.2 b (Nat.ne_of_lt (Nat.lt_of_lt_of_le (Heap.lt_size e) I.ok.above))).trans (I.base.keep b o e n hb hx)
  .obtain⟨sl,e1⟩:=I.base.slot b o e n hb hx;exact⟨sl,(hs.2 b (Nat.ne_of_lt (Nat.lt_of_lt_of_le (Heap.lt_size e) I.ok.above))).trans e1⟩
  .obtain⟨o',e1⟩:=I.base.there b o e hx;exact⟨o',(hs.2 b (Nat.ne_of_lt (Nat.lt_of_lt_of_le (Heap.lt_size e) I.ok.above))).trans e1⟩
  .by_cases hj:j=i
   .subst hj;rw[hi]at e1;cases e1;rw[List.getElem?_set_self hiU]at e2;cases e2;exact⟨u,r,.inl ⟨hk,by simp⟩⟩
   .rw[List.getElem?_set_ne (Ne.symm hj)]at e2;obtain⟨u',r',q⟩:=hl j y v' e1 e2 e3;refine⟨u',r',?_⟩;rcases q with⟨k,e⟩|⟨k,c,e,z⟩
    .refine .inl ⟨k,?_⟩;have:y≠x:=λe=>hj (Qg hN e1 (e▸hi));simp[this,e]
    .exact .inr ⟨k,c,e,z.sameBut hs (sF y c e)⟩
  .obtain⟨w',z⟩:=I.cell y c e;exact⟨w',z.sameBut hs (sF y c e)⟩
  .obtain⟨e,n,ne,nf,d⟩:=I.pin p hp;exact⟨(hs.2 p.1 ne).trans e,n,ne,nf,d⟩
 .have hfn:X.fn x=true:=by
   rcases hf with z|z
   .exact z
   .rw[z]at hk;cases hk
  obtain⟨c,hc⟩:=I.ok.has x (.inl hk);obtain⟨w',z⟩:=I.cell x c hc;refine wpAny_storeName_cell I.ok.kind hk hc z (λh' hc' hs=>?_);obtain⟨oc,hoc,hocd⟩:=id z;refine h { s with heap:=h' } ⟨I.ok,I.os,I.bare,⟨λb o e n hb hx=>?_,λb o e n hb hx=>?_,I.base.free,λb o e hx=>?_,I.base.lX,I.base.iO,I.base.lV⟩,⟨m,hn.sameBut hs (Ne.symm (sF x c hc)),λj y v' e1 e2 e3=>?_⟩,λy c' e=>?_,I.free,I.mI,λp hp=>?_,tracked ⟨oc,hoc,I.mI x c hc⟩ hs,by simpa using I.len⟩ ⟨c,hs,.inr hc⟩
  .exact(hs.2 b (Nat.ne_of_lt (Nat.lt_of_lt_of_le (Heap.lt_size e) (I.ok.pq x c hfn hc)))).trans (I.base.keep b o e n hb hx)
  .obtain⟨sl,e1⟩:=I.base.slot b o e n hb hx;exact⟨sl,(hs.2 b (Nat.ne_of_lt (Nat.lt_of_lt_of_le (Heap.lt_size e) (I.ok.pq x c hfn hc)))).trans e1⟩
  .obtain⟨o',e1⟩:=I.base.there b o e hx;exact⟨o',(hs.2 b (Nat.ne_of_lt (Nat.lt_of_lt_of_le (Heap.lt_size e) (I.ok.pq x c hfn hc)))).trans e1⟩
  .by_cases hj:j=i
   .subst hj;rw[hi]at e1;cases e1;rw[List.getElem?_set_self hiU]at e2;cases e2;exact⟨u,r,.inr ⟨.inl hk,c,hc,hc'⟩⟩
   .rw[List.getElem?_set_ne (Ne.symm hj)]at e2;obtain⟨u',r',q⟩:=hl j y v' e1 e2 e3;refine⟨u',r',?_⟩;rcases q with q|⟨k,c',e,z'⟩
    .exact .inl q
    .refine .inr ⟨k,c',e,z'.sameBut hs ?_⟩;rintro rfl
     exact hj (Qg hN e1 (I.ok.inj _ _ _ e hc▸hi))
  .by_cases hcc:c'=c
   .subst hcc;exact⟨_,hc'⟩
   .obtain⟨w2,z2⟩:=I.cell y c' e;exact⟨w2,z2.sameBut hs hcc⟩
  .obtain⟨e,n,ne,nf,d⟩:=I.pin p hp;refine⟨(hs.2 p.1 ?_).trans e,n,ne,nf,d⟩;intro q;rw[q,hoc]at e;have q':oc=p.2:=Option.some.inj e;exact d w' (by rw[<- q'];exact hocd)
theorem vK{M:Model}{A:Around}{E:Value->Shared->Prop}{i:Nat}{x:Str}{v:V}{u:Value}{Q:Unit->Shared->Prop}(I:Inv X pins U H s)(hN:X.N.Nodup)(hi:X.N[i]?=some x)(hx:fb X.env.scope x)(r:RelV v u)
  (h:∀s',Inv X pins (U.set i (some v)) H s'->Q () s') (hf:X.fn x=true\/X.env.scope.names.lookup x=some .local:=by first|exact .inl rfl|exact .inr rfl|assumption):wpAny M A (storeName X.env x u) Q E s:=
 ZR I hN hi hx r (λs' I' _=>h s' I') hf
theorem Inv.Xx{s':Shared}{ch:List Addr}(I:Inv X pins U H s)(ho:s'.os=s.os)(u:Un (fF X.stack) ch H H' s.heap s'.heap)(aN:cJ X.prog X.w H' s'.heap)(hg:AllBare s'.gens)
  (hch:∀b∈ch,(b∈X.ex\/X.s₀.heap.objs.size<=b)/\b≠X.env.locals/\(∀x c,X.env.cells.lookup x=some c->c≠b)/\∀p∈X.pn++pins,p.1≠b):Inv X pins U H' s':=by
 obtain⟨h',g',d',t',o'⟩:=s';have e:o'=s.os:=ho;subst e;exact I.call (g':=g') (t':=t') (d':=d') u aN hg hch
end
abbrev XK:=Value->Option Addr->Hp->Prop
abbrev St:=List (Option V)
abbrev VK:=V->Hp->Prop
abbrev TE:=St->Hp->VK->Prop
abbrev TT:=St->Hp->(Bool->Hp->Prop)->Prop
abbrev TA:=St->Hp->(List V->Hp->Prop)->Prop
structure Ends where
 nx:St->Hp->Prop
 rt:VK
 bk:St->Hp->Prop:=λ_ _=>False
 ct:St->Hp->Prop:=λ_ _=>False
abbrev TS:=Ends->St->Hp->Prop
def EP(X:Cx)(pins:List (Addr×Obj))(U:St)(Q:VK)(u:Value)(s':Shared):Prop:=∃v H',Inv X pins U H' s'/\RelV v u/\Q v H'
def TP(X:Cx)(pins:List (Addr×Obj))(U:St)(Q:Bool->Hp->Prop)(b:Bool)(s':Shared):Prop:=∃H',Inv X pins U H' s'/\Q b H'
def AP(X:Cx)(pins:List (Addr×Obj))(U:St)(Q:List V->Hp->Prop)(us:List Value)(s':Shared):Prop:=∃vs H',Inv X pins U H' s'/\Vals vs us/\Q vs H'
def SP(X:Cx)(pins:List (Addr×Obj))(D:Ends)(f:Flow)(s':Shared):Prop:=
 match f with
 |.next=>∃U' H',Inv X pins U' H' s'/\D.nx U' H'
 |.brk=>∃U' H',Inv X pins U' H' s'/\D.bk U' H'
 |.cont=>∃U' H',Inv X pins U' H' s'/\D.ct U' H'
 |.ret u=>∃v U' H',Inv X pins U' H' s'/\RelV v u/\D.rt v H'
def PE(X:Cx)(e:Expr)(t:TE):Prop:=
 ∀(pins:List (Addr×Obj)) (s:Shared) (U:St) (H:Hp) (Q:VK),Inv X pins U H s->t U H Q->wpAny (model X.prog X.w) X.A (eval e X.env) (EP X pins U Q) X.xe s
def PT(X:Cx)(e:Expr)(t:TT):Prop:=
 ∀(pins:List (Addr×Obj)) (s:Shared) (U:St) (H:Hp) (Q:Bool->Hp->Prop),Inv X pins U H s->t U H Q->wpAny (model X.prog X.w) X.A (isTrue e X.env (eval e X.env)) (TP X pins U Q) X.xe s
def PW(X:Cx)(e:Expr)(t:TT):Prop:=
 ∀(whole:Sem Value) (pins:List (Addr×Obj)) (s:Shared) (U:St) (H:Hp) (Q:Bool->Hp->Prop),Inv X pins U H s->t U H Q->wpAny (model X.prog X.w) X.A (isTrue e X.env whole) (TP X pins U Q) X.xe s
theorem PW.pt{X:Cx}{e:Expr}{t:TT}(h:PW X e t):PT X e t:=h _
def PA(X:Cx)(es:List Expr)(t:TA):Prop:=
 ∀(pos:Pos) (pins:List (Addr×Obj)) (s:Shared) (U:St) (H:Hp) (Q:List V->Hp->Prop),Inv X pins U H s->t U H Q->wpAny (model X.prog X.w) X.A (spliced (backTo pos (starEach es X.env))) (AP X pins U Q) X.xe s
def PS(X:Cx)(st:Stmt)(t:TS):Prop:=
 ∀(pins:List (Addr×Obj)) (s:Shared) (U:St) (H:Hp) (D:Ends),Inv X pins U H s->t D U H->wpAny (model X.prog X.w) X.A (exec st X.env) (SP X pins D) X.xe s
def kZ(X:Cx)(st:List Stmt)(t:TS):Prop:=
 ∀(pins:List (Addr×Obj)) (s:Shared) (U:St) (H:Hp) (D:Ends),Inv X pins U H s->t D U H->wpAny (model X.prog X.w) X.A (execs st X.env) (SP X pins D) X.xe s
theorem aM{α:Type}{t:Sem α}{Q Q':α->Shared->Prop}{M:Model}{A:Around}{E:Value->Shared->Prop}{s:Shared}(h:wpAny M A t Q E s)(hQ:∀a s,Q a s->Q' a s):wpAny M A t Q' E s:=wpAny_mono h hQ λ_ _ x=>x
section
variable {X:Cx}
def g4(i:Nat):TE:=λU H Q=>∃v,U[i]?=some (some v)/\Q v H
def tC(v:V):TE:=λ_ H Q=>Q v H
theorem MX{i:Nat} {x:Str} {pos:Pos} (hN:X.N[i]?=some x) (hv:ou X.env.scope x) (hd:(x==("__debug__":Str))=false:=by decide) (hcd:(x==("__classdict__":Str))=false:=by decide):PE X (.Name x pos) (g4 i):=by
 intro pins s U H Q I h;obtain⟨v,e,h⟩:=h;obtain⟨m,hn,hl⟩:=I.loc;obtain⟨u,r,l⟩:=hl i x v hN e hv;have aL:EP X pins U Q u s:=⟨v,H,I,r,h⟩;rcases l with⟨hk,hm⟩|⟨hk,c,hc,hcell⟩
 .exact wpAny_Name (wpAny_loadName_local I.ok.kind hk hn hm aL) hd
 .rcases hk with hk|hk
  .exact wpAny_Name (wpAny_loadName_cell I.ok.kind hk hc hcell aL) hd
  .exact wpAny_Name (wpAny_loadName_free I.ok.kind hk hc hcell aL hcd) hd
theorem Qt{i j pos}:PE X (.Constant (.int i) j pos) (tC (.int i)):=λ_ _ _ H _ I h=>wpAny_Constant_int ⟨.int i,H,I.tok _,⟨_,rfl⟩,h⟩
theorem Dc{b j pos}:PE X (.Constant (.bool b) j pos) (tC (.bl b)):=λ_ _ _ H _ I h=>Constant_bool ⟨.bl b,H,I,rfl,h⟩
theorem Dh{j pos}:PE X (.Constant .none j pos) (tC .aB):=λ_ _ _ H _ I h=>Constant_none ⟨.aB,H,I,rfl,h⟩
theorem Qu{x j pos}:PE X (.Constant (.str x) j pos) (tC (.str x)):=λ_ _ _ H _ I h=>Calls.Constant_str ⟨.str x,H,I.tok _,⟨_,rfl⟩,h⟩
def Gl(X:Cx)(x:Str):Prop:=X.env.kindOf x=some .globalImplicit
theorem gr{E:Value->Shared->Prop}{pins:List (Addr×Obj)}{s:Shared}{U:St}{H:Hp}{x:Str}{u:Value}{pos:Pos}{Q:Value->Shared->Prop}(I:Inv X pins U H s)(hg:Gl X x)(hm:X.mg x=some u)(h:Q u s)
  (hd:(x==("__debug__":Str))=false:=by decide):wpAny (model X.prog X.w) X.A (eval (.Name x pos) X.env) Q E s:=
 Calls.Name_function_global I.ok.kind hg (Calls.loadGlobal_global (by rw[I.ok.glob];exact I.mod.glob.keeps I.bk) hm h) hd
theorem wK{E:Value->Shared->Prop}{pins:List (Addr×Obj)}{s:Shared}{U:St}{H:Hp}{x:Str}{u:Value}{pos:Pos}{Q:Value->Shared->Prop}(I:Inv X pins U H s)(hg:Gl X x)(hm:X.mg x=none)(hv:bootBuiltins x=some u)(h:Q u s)
  (hn:x≠"__name__":=by decide) (hd:(x==("__debug__":Str))=false:=by decide):wpAny (model X.prog X.w) X.A (eval (.Name x pos) X.env) Q E s:=by
 obtain⟨mb,h1,h2⟩:=I.mod.blt;exact Calls.Name_function_global I.ok.kind hg (Calls.loadGlobal_builtin (by rw[I.ok.glob];exact I.mod.glob.keeps I.bk) hm (by rw[I.ok.blt];exact h1.keeps I.bk) ((h2 x hn).trans hv) h) hd
theorem Dg{x:Str} {v:V} {u:Value} {pos:Pos} (hg:Gl X x) (hm:X.mg x=some u) (r:RelV v u) (hd:(x==("__debug__":Str))=false:=by decide):PE X (.Name x pos) (tC v):=
 λ_ _ _ H _ I h=>gr I hg hm ⟨v,H,I,r,h⟩ hd
theorem LZ{x:Str} {v:V} {u:Value} {pos:Pos} (hg:Gl X x) (hm:X.mg x=none) (hv:bootBuiltins x=some u) (r:RelV v u) (hn:x≠"__name__":=by decide) (hd:(x==("__debug__":Str))=false:=by decide):PE X (.Name x pos) (tC v):=
 λ_ _ _ H _ I h=>wK I hg hm hv ⟨v,H,I,r,h⟩ hn hd
variable {a b:Expr}{ta tb:TE}{pos:Pos}
variable {tA tB':TT}{rest:List Expr}
def ZZ(t u:TT):TT:=λU H Q=>t U H λc H1=>if c=true then u U H1 Q else Q false H1
def d6(t u:TT):TT:=λU H Q=>t U H λc H1=>if c=true then Q true H1 else u U H1 Q
def c9(t:TT):TT:=λU H Q=>t U H λc H1=>Q (!c) H1
theorem OP(ha:PT X a tA):PW X (.BoolOp .And [a] pos) tA:=by
 intro wh pins s U H Q I h;refine isTrue_and (aM (ha pins s U H Q I h) λc s1 e=>?_);cases c with
 |true=>exact isTrue_and_nil e|false=>exact e
theorem OR(ha:PT X a tA):PW X (.BoolOp .Or [a] pos) tA:=by
 intro wh pins s U H Q I h;refine isTrue_or (aM (ha pins s U H Q I h) λc s1 e=>?_);cases c with
 |false=>exact isTrue_or_nil e|true=>exact e
theorem OO(ha:PT X a tA)(hb:PW X (.BoolOp .And (b::rest) pos) tB'):PW X (.BoolOp .And (a::b::rest) pos) (ZZ tA tB'):=by
 intro wh pins s U H Q I h;refine isTrue_and (aM (ha pins s U H _ I h) λc s1 ⟨H1,I1,q1⟩=>?_);cases c with
 |true=>exact hb wh pins s1 U H1 Q I1 q1|false=>exact⟨H1,I1,q1⟩
theorem OQ(ha:PT X a tA)(hb:PW X (.BoolOp .Or (b::rest) pos) tB'):PW X (.BoolOp .Or (a::b::rest) pos) (d6 tA tB'):=by
 intro wh pins s U H Q I h;refine isTrue_or (aM (ha pins s U H _ I h) λc s1 ⟨H1,I1,q1⟩=>?_);cases c with
 |true=>exact⟨H1,I1,q1⟩|false=>exact hb wh pins s1 U H1 Q I1 q1
theorem OL(ha:PT X a tA):PT X (.UnaryOp .Not a pos) (c9 tA):=by intro pins s U H Q I h;exact isTrue_not (ha pins s U H (λc H1=>Q (!c) H1) I h)
theorem MR{op}{t:TE}(h:PE X a t):PE X (.BoolOp op [a] pos) t:=λpins s U H Q I hw=>BoolOp_one (h pins s U H Q I hw)
def b9(t:TT)(ta tb:TE):TE:=λU H Q=>t U H λc H1=>if c=true then ta U H1 Q else tb U H1 Q
theorem MJ{c:Expr}(hc:PT X c tA)(ha:PE X a ta)(hb:PE X b tb):PE X (.IfExp c a b pos) (b9 tA ta tb):=by
 intro pins s U H Q I h;refine wpAny_IfExp (aM (hc pins s U H _ I h) λd s1 ⟨H1,I1,q1⟩=>?_);cases d with
 |true=>exact ha pins s1 U H1 Q I1 q1|false=>exact hb pins s1 U H1 Q I1 q1
end
def bO(K:W.Frag)(H:Hp)(a:Addr)(xs:List V):Prop:=
 Rd H a (.lst xs) \/
  ∃(o:Obj) (its:Array Value) (n:Nat),K.lookup a=some o/\o.cls = .type "list"/\o.dict=none/\o.data = .seq its n/\its.size<=sizeLine/\Vals xs its.toList
def bZ(K:W.Frag)(H:Hp)(a:Addr)(xs:List V):Prop:=
 Rd H a (.tup xs) \/
  ∃(o:Obj) (its:Array Value) (n:Nat),K.lookup a=some o/\o.cls = .type "tuple"/\o.data = .seq its n/\its.size<=sizeLine/\Vals xs its.toList
def Xd:Value->Option V
 |.none=>some .aB
 |.bool b=>some (.bl b)
 |.int i _=>some (.int i)
 |.str x _=>some (.str x)
 |.bytes b _=>some (.gJ b)
 |.float b _=>some (.sO b)
 |.ref a=>some (.ref a)
 |.type n=>some (.ty n)
 |_=>none
theorem RelV.abs{x:V}{u:Value}(r:RelV x u):Xd u=some x:=by
 cases x with
 |aB=>cases r;rfl|bl _=>cases r;rfl|int _=>obtain⟨t,rfl⟩:=r;rfl|str _=>obtain⟨t,rfl⟩:=r;rfl|gJ _=>obtain⟨t,rfl⟩:=r;rfl|sO _=>obtain⟨t,rfl⟩:=r;rfl|ref _=>cases r;rfl|ty _=>cases r;rfl
theorem RelV.inj{x y:V}{u:Value}(r:RelV x u)(q:RelV y u):x=y:=Option.some.inj (r.abs.symm.trans q.abs)
theorem Vals.inj:∀{xs ys:List V} {us:List Value},Vals xs us->Vals ys us->xs=ys
 |_,_,_,.nil,.nil=>rfl|_,_,_,.cons r t,.cons r' t'=>by rw[r.inj r',Vals.inj t t']
section
variable {X:Cx}{pins:List (Addr×Obj)}{U:St}{H:Hp}{s:Shared}{a:Addr}{xs ys:List V}
theorem bO.of{K:W.Frag}(h:H a=some (.lst xs)):bO K H a xs:=.inl (.inl h)
theorem bZ.of{K:W.Frag}(h:H a=some (.tup xs)):bZ K H a xs:=.inl (.inl h)
theorem Inv.list(I:Inv X pins U H s)(h:bO X.K H a xs):∃its:List Value,Vals xs its/\PlainL s.heap a its.toArray/\xs.length<=sizeLine:=by
 rcases h with h|⟨o,its,n,hk,hc,hd,hs,hz,r⟩
 .obtain⟨z,its,n,r,e⟩:=h.ok I.aN;exact⟨its,r,⟨_,n,e,rfl,rfl,rfl⟩,z⟩
 .refine⟨its.toList,r,⟨o,n,I.cB a o hk,hc,hd,by simpa using hs⟩,?_⟩;have e:=r.length;simp only[Array.length_toList]at e;omega
theorem Inv.tuple(I:Inv X pins U H s)(h:bZ X.K H a xs):∃its:List Value,Vals xs its/\IsTup s.heap a its.toArray/\xs.length<=sizeLine:=by
 rcases h with h|⟨o,its,n,hk,hc,hs,hz,r⟩
 .obtain⟨z,its,r,p⟩:=h.ok I.aN;exact⟨its,r,p,z⟩
 .refine⟨its.toList,r,⟨o,I.cB a o hk,hc,n,by simpa using hs⟩,?_⟩;have e:=r.length;simp only[Array.length_toList]at e;omega
theorem Inv.Pn(I:Inv X pins U H s)(h:bO X.K H a xs)(h':bO X.K H a ys):xs=ys:=by
 obtain⟨its,r,⟨o,n,e,_,_,d⟩,_⟩:=I.list h;obtain⟨its',r',⟨o',n',e',_,_,d'⟩,_⟩:=I.list h';rw[e]at e';cases e';rw[d]at d';injection d' with d1 _;have:its=its':=by simpa using congrArg Array.toList d1
 subst this;exact r.inj r'
theorem Inv.i5(I:Inv X pins U H s)(h:bZ X.K H a xs)(h':bZ X.K H a ys):xs=ys:=by
 obtain⟨its,r,⟨o,e,_,n,d⟩,_⟩:=I.tuple h;obtain⟨its',r',⟨o',e',_,n',d'⟩,_⟩:=I.tuple h';rw[e]at e';cases e';rw[d]at d';injection d' with d1 _;have:its=its':=by simpa using congrArg Array.toList d1
 subst this;exact r.inj r'
end
section
variable {X:Cx}{st:Stmt}{rest:List Stmt}{t u:TS}{e:Expr}{te:TE}{pos:Pos}
def Vn:TS:=λD U H=>D.nx U H
def f6(t u:TS):TS:=λD U H=>t { D with nx:=u D } U H
theorem OH:kZ X [] Vn:=λ_ _ U H _ I h=>wpAny_execs_nil ⟨U,H,I,h⟩
theorem OG(h1:PS X st t)(h2:kZ X rest u):kZ X (st::rest) (f6 t u):=by
 intro pins s U H D I h;refine wpAny_execs_cons (aM (h1 pins s U H { D with nx:=u D } I h) λf s1 q=>?_);cases f with
 |next=>obtain⟨U',H',I',q⟩:=q;exact h2 pins s1 U' H' D I' q
 |ret v=>exact q|brk=>exact q|cont=>exact q
def a7:TS:=λD U H=>D.bk U H
def a9:TS:=λD U H=>D.ct U H
theorem OB:PS X (.Pass pos) Vn:=λ_ _ U H _ I h=>wpAny_Pass ⟨U,H,I,h⟩
theorem NS:PS X (.Break pos) a7:=λ_ _ U H _ I h=>wpAny_Break ⟨U,H,I,h⟩
theorem NT:PS X (.Continue pos) a9:=λ_ _ U H _ I h=>wpAny_Continue ⟨U,H,I,h⟩
theorem Inv.quiet{pins:List (Addr×Obj)}{U:St}{H:Hp}{s:Shared}(I:Inv X pins U H s):interactive X.env=false:=by simp[interactive,I.ok.kind]
def b5(te:TE):TS:=λD U H=>te U H λ_ H1=>D.nx U H1
theorem NU(he:PE X e te)(hs:swapsWith e none pos.line X.env=pure false:=by rfl):PS X (.Expr e pos) (b5 te):=by intro pins s U H D I h;exact wpAny_Expr_any (aM (he pins s U H _ I h) λv s1 ⟨x,H1,I1,r1,q1⟩=>⟨U,H1,I1,q1⟩) I.quiet hs
def e8(te:TE):TS:=λD U H=>te U H D.rt
theorem OC(he:PE X e te):PS X (.Return (some e) pos) (e8 te):=by intro pins s U H D I h;exact wpAny_Return_some (aM (he pins s U H _ I h) λv s1 ⟨x,H1,I1,r1,q1⟩=>⟨x,U,H1,I1,r1,q1⟩)
def e9:TS:=λD _ H=>D.rt .aB H
theorem OD:PS X (.Return none pos) e9:=λ_ _ U H _ I h=>wpAny_Return_none ⟨.aB,U,H,I,rfl,h⟩
def c0(c:TT)(t u:TS):TS:=λD U H=>c U H λb H1=>if b=true then t D U H1 else u D U H1
theorem NX{c:Expr}{a b:List Stmt}{tc:TT}(hc:PT X c tc)(ha:kZ X a t)(hb:kZ X b u):PS X (.If c a b pos) (c0 tc t u):=by
 intro pins s U H D I h;refine wpAny_If (aM (hc pins s U H _ I h) λd s1 ⟨H1,I1,q1⟩=>?_);cases d with
 |true=>exact ha pins s1 U H1 D I1 q1|false=>exact hb pins s1 U H1 D I1 q1
def c7:TS:=λ_ _ _=>False
theorem NY:PS X st c7:=λ_ _ _ _ _ _ h=>h.elim
end
abbrev TG:=V->St->Hp->(St->Hp->Prop)->Prop
abbrev sA:=List V->St->Hp->(St->Hp->Prop)->Prop
def PG(X:Cx)(target:Expr)(t:TG):Prop:=
 ∀(pins:List (Addr×Obj)) (s:Shared) (U:St) (H:Hp) (v:V) (u:Value) (Q:St->Hp->Prop),Inv X pins U H s->RelV v u->t v U H Q ->
  wpAny (model X.prog X.w) X.A (assign target X.env u) (λ_ s'=>∃U' H',Inv X pins U' H' s'/\Q U' H') X.xe s
def fe(X:Cx)(ts:List Expr)(t:sA):Prop:=
 ∀(pins:List (Addr×Obj)) (s:Shared) (U:St) (H:Hp) (vs:List V) (us:List Value) (Q:St->Hp->Prop),Inv X pins U H s->Vals vs us->t vs U H Q ->
  wpAny (model X.prog X.w) X.A (assignInOrder ((assignEach ts X.env).map (·.2)) us) (λ_ s'=>∃U' H',Inv X pins U' H' s'/\Q U' H') X.xe s
abbrev zz:=V->V->V->Hp->(Hp->Prop)->Prop
def zv(X:Cx)(t:zz):Prop:=
 ∀(pins:List (Addr×Obj)) (s:Shared) (U:St) (H:Hp) (o i v:V) (ov iv u:Value) (Q:Hp->Prop),Inv X pins U H s->RelV o ov->RelV i iv->RelV v u->t o i v H Q ->
  wpAny (model X.prog X.w) X.A (setItem ov iv u) (λ_ s'=>∃H',Inv X pins U H' s'/\Q H') X.xe s
section
variable {X:Cx}{pos:Pos}
def Of(i:Nat):TG:=λv U H Q=>Q (U.set i (some v)) H
theorem MY{i:Nat}{x:Str}(hN:X.N.Nodup)(hi:X.N[i]?=some x)(hx:fb X.env.scope x)(hf:X.fn x=true\/X.env.scope.names.lookup x=some .local:=by first|exact .inl rfl|exact .inr rfl|assumption):PG X (.Name x pos) (Of i):=by intro pins s U H v u Q I r h;exact wpAny_assign_Name (vK I hN hi hx r (λs' I'=>⟨_,H,I',h⟩) hf)
def FC:sA:=λvs U H Q=>vs=[]/\Q U H
def FA(t:TG)(u:sA):sA:=λvs U H Q=>∃v r,vs=v::r/\t v U H λU' H'=>u r U' H' Q
theorem NC:fe X [] FC:=by intro pins s U H vs us Q I r h;obtain⟨e,h⟩:=h;subst e;cases r;exact assignInOrder_nil ⟨U,H,I,h⟩
theorem NB{e:Expr}{es:List Expr}{t:TG}{u:sA}(h1:PG X e t)(h2:fe X es u)
  (hs:(assignEach (e::es) X.env).map (·.2)=assign e X.env::(assignEach es X.env).map (·.2):=by rfl):fe X (e::es) (FA t u):=by
 intro pins s U H vs us Q I r h;obtain⟨v,vr,e1,h⟩:=h;subst e1;cases r with
 |cons r rr=>rw[hs];refine assignInOrder_cons (aM (h1 pins s U H _ _ _ I r h) λ_ s1 ⟨U1,H1,I1,q1⟩=>?_);exact h2 pins s1 U1 H1 _ _ Q I1 rr q1
def rn(to ti:TE)(t:zz):TG:=λv U H Q=>to U H λo H1=>ti U H1 λi H2=>t o i v H2 λH3=>Q U H3
theorem NA{o i:Expr}{to ti:TE}{t:zz}(ho:PE X o to)(hi:PE X i ti)(hs:zv X t)
  (ha:∀v,assign (.Subscript o i pos) X.env v=(do
   let ov <- holding [v] (eval o X.env)
   let iv <- holding [v,ov] (eval i X.env)
   standAt pos
   holding [v,ov,iv] (setItem ov iv v)
   release [v,ov,iv] []):=by intro _;rfl):PG X (.Subscript o i pos) (rn to ti t):=by
 intro pins s U H v u Q I r h;rw[ha];refine wpAny_bind (wpAny_holding (aM (ho pins s U H _ I h) λov s1 ⟨x,H1,I1,r1,q1⟩=>?_));refine wpAny_bind (wpAny_holding (aM (hi pins s1 U H1 _ I1 q1) λiv s2 ⟨y,H2,I2,r2,q2⟩=>?_));refine wpAny_bind (wpAny_standAt (wpAny_bind (wpAny_holding (aM (hs pins s2 U H2 x y v ov iv u _ I2 r1 r2 r q2) λ_ s3 ⟨H3,I3,q3⟩=>?_))));exact wpAny_release ⟨U,H3,I3,q3⟩
def Vi(te:TE)(g:TG):TS:=λD U H=>te U H λx H1=>g x U H1 D.nx
theorem NR{tg e:Expr}{te:TE}{g:TG}(he:PE X e te)(hg:PG X tg g)(hs:swapsWithSole [tg] e pos.line X.env=pure false:=by rfl)(hw:swappedStores [tg] e X.env=pure none:=by rfl)
  (h1:(assignEach [tg] X.env).map (·.2)=[assign tg X.env]:=by rfl):PS X (.Assign [tg] e pos) (Vi te g):=by
 intro pins s U H D I h;refine wpAny_Assign_stores (aM (he pins s U H _ I h) λv s1 ⟨x,H1,I1,r1,q1⟩=>?_) hs hw;rw[h1];exact aM (hg pins s1 U H1 x v _ I1 r1 q1) λ_ s2 q=>q
def d8(i j:Nat)(ta:TA):TS:=λD U H=>ta U H λvs H1=>∃v w,vs=[v,w]/\D.nx ((U.set i (some v)).set j (some w)) H1
theorem NZ{i j:Nat}{x y:Str}{a b:Expr}{ta:TA}{px py pt:Pos}{kt k2 pt2}(hc:X.calm=true)(hN:X.N.Nodup)(hi:X.N[i]?=some x)(hj:X.N[j]?=some y)(hij:i≠j)
  (hx:X.env.scope.names.lookup x=some .local) (hy:X.env.scope.names.lookup y=some .local) (ha:PA X [a,b] ta)
  (hw:swappedStores [.Tuple [.Name x px,.Name y py] kt pt] (.Tuple [a,b] k2 pt2) X.env=pure (some [x,y]))
  (hs:swapsWithSole [.Tuple [.Name x px,.Name y py] kt pt] (.Tuple [a,b] k2 pt2) pos.line X.env=pure false:=by rfl) :
  PS X (.Assign [.Tuple [.Name x px,.Name y py] kt pt] (.Tuple [a,b] k2 pt2) pos) (d8 i j ta):=by
 intro pins s U H D I h;rw[exec_Assign_arm];refine wpAny_bind (wpAny_standAt ?_);rw[hs];refine wpAny_bind (wpAny_pure ?_);rw[if_neg (by decide)];refine wpAny_bind (Tuple_ (aM (ha _ pins s U H _ I h) λus s1 ⟨vs,H1,I1,r1,q1⟩=>?_));obtain⟨v,w,e1,q1⟩:=q1;subst e1;obtain⟨u1,u2,rfl,rv,rw'⟩:∃u1 u2,us=[u1,u2]/\RelV v u1/\RelV w u2:=by
  cases r1 with
  |cons p q=>
   cases q with
   |cons p' q'=>cases q';exact⟨_,_,rfl,p,p'⟩
 refine wpAny_newObj_type ?_ (by show 2<=sizeLine;decide);have I2:Inv X pins U H1 { s1 with heap:=s1.heap.push { cls:=.type "tuple",data:=.seq [u1,u2].toArray } }:=I1.kept (t':=s1.toks) λb o e=>Heap.get?_push_of_some _ e;rw[hw];refine wpAny_bind (wpAny_pure ?_);show wpAny (model X.prog X.w) X.A (do rule "assign.swapped-stores";let items <- unpackItems (.ref s1.heap.objs.size) 2 none;assignInOrder [λv=>bindName X.env y v,λv=>bindName X.env x v] items.reverse;pure Flow.next) _ _ _;refine wpAny_bind (wpAny_rule (wpAny_bind (unpackItems_tuple (items:=#[u1,u2]) (I.ok.hd hc) (IsTup.new s1.heap _) λh' hx'=>?_)));have I3:=I2.kept (h':=h') (t':=s1.toks) λb o e=>hx' b o (Nat.ne_of_lt (Heap.lt_size e)) e;show wpAny _ _ (assignInOrder [λv=>bindName X.env y v,λv=>bindName X.env x v] [u2,u1]>>=λ_=>pure Flow.next) _ _ _;refine wpAny_bind (assignInOrder_cons (wpAny_bindName (vK I3 hN hj (.inl hy) rw' (λs2 I4=>?_) (.inr hy))));refine assignInOrder_cons (wpAny_bindName (vK I4 hN hi (.inl hx) rv (λs3 I5=>assignInOrder_nil (wpAny_pure ?_)) (.inr hx)));rw[List.set_comm _ _ (Ne.symm hij)]at I5;exact⟨_,H1,I5,q1⟩
end
section
variable {X:Cx}{pos:Pos}
def g5(c:TT)(tb:TS):TS:=λD U H=>∃W:Nat->St->Hp->Prop,(∃m,W m U H)/\∀m U H,W m U H ->
 c U H λb H1=>if b=true then∃N:St->Hp->Prop,(∀U' H',N U' H'->∃m',m'<m/\W m' U' H')/\tb { D with nx:=N,ct:=N,bk:=D.nx } U H1 else D.nx U H1
theorem OF{c:Expr}{body:List Stmt}{tc:TT}{tb:TS}(hp:PassesOwn (model X.prog X.w) X.A X.env X.xe)(hc:PT X c tc)(hb:kZ X body tb):PS X (.While c body [] pos) (g5 tc tb):=by
 intro pins s U H D I h;obtain⟨W,⟨m0,w0⟩,turn⟩:=h;refine wpAny_While (codeAny_whileLoop (λn s'=>∃U' H',Inv X pins U' H' s'/\W n U' H') ?_ m0 ⟨U,H,I,w0⟩);rintro n s1 ⟨U1,H1,I1,w1⟩
 refine wpAny_passesOwn hp (aM (hc pins s1 U1 H1 _ I1 (turn n U1 H1 w1)) λb s2 ⟨H2,I2,q2⟩=>?_);cases b with
 |true=>
  obtain⟨N,hN,q2⟩:=q2;rw[if_pos rfl];refine wpAny_passesOwn hp (aM (hb pins s2 U1 H2 _ I2 q2) λf s3 q3=>?_);cases f with
  |next=>obtain⟨U3,H3,I3,n3⟩:=q3;obtain⟨m',hm,w3⟩:=hN U3 H3 n3;exact⟨m',hm,U3,H3,I3,w3⟩
  |cont=>obtain⟨U3,H3,I3,n3⟩:=q3;obtain⟨m',hm,w3⟩:=hN U3 H3 n3;exact⟨m',hm,U3,H3,I3,w3⟩
  |brk=>exact q3|ret v=>exact q3
 |false=>rw[if_neg Bool.false_ne_true];exact wpAny_execs_nil ⟨U1,H2,I2,q2⟩
end
structure It where
 go:Nat->Hp->Prop
 oe:Nat->Hp->V->Hp->Prop
 stop:Nat->Hp->Prop
def eZ(X:Cx)(pins:List (Addr×Obj))(H:Hp)(b:Addr):Prop:=
 H b=none/\b≠X.env.locals/\b∉X.fs/\(b∈X.ex\/X.s₀.heap.objs.size<=b)/\(∀x c,X.env.cells.lookup x=some c->c≠b)/\∀p∈X.pn++pins,p.1≠b
theorem Inv.sP{X:Cx}{pins:List (Addr×Obj)}{U:St}{H H':Hp}{s:Shared}{b:Addr}(I:Inv X pins U H s)(hb:s.heap.objs.size<=b)(hn:H' b=none):eZ X pins H' b:=by
 refine⟨hn,Nat.ne_of_gt (Nat.lt_of_lt_of_le I.lt hb),I.JE hb,.inr (Nat.le_trans I.sz hb),λx c e z=>?_,λp hp z=>?_⟩
 .obtain⟨v,q⟩:=I.cell x c e;exact absurd (Nat.lt_of_lt_of_le q.lt (by rw[z];exact hb)) (Nat.lt_irrefl _)
 .exact absurd (Nat.lt_of_lt_of_le (Heap.lt_size (I.pin p hp).1) (by rw[z];exact hb)) (Nat.lt_irrefl _)
structure Turn(P:Program)(w:World)(K:W.Frag)(tg:Expr)(J:It)(fp:List Addr)(it:Addr)(tn:Nat->Heap->Prop):Prop where
 mem:it∈fp
 obj:∀i h,tn i h->∀b∈fp,∃o,h.get? b=some o/\∀v,o.data ≠ .cell v
 keep:∀i h h',tn i h->(∀b∈fp,∀o,h.get? b=some o->h'.get? b=some o)->tn i h'
 item:∀(X:Cx),X.prog=P->X.w=w->X.K=K->X.calm=true->∀(i:Nat) (pins:List (Addr×Obj)) (s:Shared) (U:St) (H:Hp) (E:Value->Shared->Prop),Inv X pins U H s->(∀b∈fp,eZ X pins H b)->tn i s.heap->J.go i H ->
  wpAny (model P w) X.A (pyNext (.ref it)) (λr s1=>∃u,r=some u /\
   wpAny (model P w) X.A (letOwnedTupleGo tg (.ref it) u) (λ_ s2=>∃x H',Inv X pins U H' s2/\RelV x u/\J.oe i H x H'/\tn (i+1) s2.heap/\∀b∈fp,H' b=none) E s1) E s
 done:∀(X:Cx),X.prog=P->X.w=w->X.K=K->X.calm=true->∀(i:Nat) (pins:List (Addr×Obj)) (s:Shared) (U:St) (H:Hp) (E:Value->Shared->Prop),Inv X pins U H s->(∀b∈fp,eZ X pins H b)->tn i s.heap->J.stop i H ->
  wpAny (model P w) X.A (pyNext (.ref it)) (λr s1=>r=none/\Inv X pins U H s1) E s
 self:∀(A:Around) (i:Nat) (s:Shared) (Q:Value->Shared->Prop) (E:Value->Shared->Prop),tn i s.heap->Q (.ref it) s->wpAny (model P w) A (pyIter (.ref it)) Q E s
abbrev TI:=St->Hp->(It->Hp->Prop)->Prop
def Ig(X:Cx)(pins:List (Addr×Obj))(U:St)(tg:Expr)(R:It->Hp->Prop)(itv:Value)(s2:Shared):Prop:=
 ∃(it:Addr) (fp:List Addr) (tn:Nat->Heap->Prop) (J:It) (H':Hp),itv = .ref it/\Inv X pins U H' s2/\Turn X.prog X.w X.K tg J fp it tn/\tn 0 s2.heap/\(∀b∈fp,eZ X pins H' b)/\R J H'
def PI(X:Cx)(tg bQ:Expr)(wi:TI):Prop:=
 ∀(pins:List (Addr×Obj)) (s:Shared) (U:St) (H:Hp) (R:It->Hp->Prop),Inv X pins U H s->wi U H R ->
  wpAny (model X.prog X.w) X.A (eval bQ X.env) (λv s1=>wpAny (model X.prog X.w) X.A (pyIter v) (Ig X pins U tg R) X.xe s1) X.xe s
theorem Bv{M:Model}{A:Around}{E:Value->Shared->Prop}{s:Shared}{tg:Expr}{it:Addr}{u:Value}{o:Obj}{n:String}{vs:Array Value}{Q:Unit->Shared->Prop}(ho:s.heap.get? it=some o)(hc:o.cls = .type n)(hd:o.data = .fields vs)
    (hn:["enumerate","zip","dict_itemiterator","dict_reverseitemiterator","odict_iterator","itertools.zip_longest","itertools.pairwise"].contains n=false) (hQ:Q () s):wpAny M A (letOwnedTupleGo tg (.ref it) u) Q E s:=by
  unfold letOwnedTupleGo;cases tg<;>first
    |exact wpAny_pure hQ
    | (cases u<;>first
        |exact wpAny_pure hQ
        | (refine wpAny_bind (wpAny_load ho ?_)
           rw[hc,hd];show wpAny M A (if(["enumerate","zip","dict_itemiterator","dict_reverseitemiterator","odict_iterator","itertools.zip_longest","itertools.pairwise"].contains n&&vs[0]?==some (rawInt _))=true then _ else _) Q E s;rw[if_neg (by intro h;rw[hn,Bool.false_and]at h;cases h)];exact wpAny_pure hQ))
def zq(K:W.Frag)(a:Addr):It:=
 ⟨λi H=>∃xs x,bO K H a xs/\xs[i]?=some x,λi H x H'=>H'=H/\∀xs,bO K H a xs->xs[i]?=some x,λi H=>∃xs,bO K H a xs/\xs.length<=i⟩
def zr(K:W.Frag)(a:Addr):It:=
 ⟨λi H=>∃xs x,bZ K H a xs/\xs[i]?=some x,λi H x H'=>H'=H/\∀xs,bZ K H a xs->xs[i]?=some x,λi H=>∃xs,bZ K H a xs/\xs.length<=i⟩
def oj(lo:Int)(n:Nat):It:=⟨λi _=>i<n,λi H x H'=>H'=H/\x = .int (lo+i),λi _=>n<=i⟩
theorem i7{P:Program}{w:World}{K:W.Frag}{tg:Expr}(a it:Addr):Turn P w K tg (zq K a) [it] it (λi h=>h.IsListIter it a i) where
 mem:=by simp
 obj:=λi h st b hb=>by
  have e:b=it:=by simpa using hb
  subst e;obtain⟨o,e,c,d⟩:=st;exact⟨o,e,λv z=>by rw[d]at z;cases z⟩
 keep:=λi h h' st k=>st.at λo e=>k it (by simp) o e
 item:=by intro X hP hw hK hc i pins s U H E I hf st hg;subst hP hw hK;obtain⟨xs,x,hq,hx⟩:=hg;obtain⟨its,rv,p,hz⟩:=I.list hq;obtain⟨u,hu,ru⟩:=rv.get hx;obtain⟨f0,f1,f2,f3,f4,f5⟩:=hf it (by simp);refine wpAny_pyNext_list_item st p.isList (x:=u) (by simpa using hu) λh' st' sb=>?_;have I1:Inv X pins U H { s with heap:=h' }:=I.turned (t':=s.toks) (λb o hb e=>(sb.2 b hb).trans e) f0 f1 f3 f4 f5;obtain⟨o,e,c,d⟩:=id st';exact⟨u,rfl,Bv (s:={ s with heap:=h' }) e c d (by decide) ⟨x,H,I1,ru,⟨rfl,λys hy=>by rw[I.Pn hy hq];exact hx⟩,st',λb hb=>(hf b hb).1⟩⟩
 done:=by intro X hP hw hK hc i pins s U H E I hf st hg;subst hP hw hK;obtain⟨xs,hq,hx⟩:=hg;obtain⟨its,rv,p,hz⟩:=I.list hq;obtain⟨f0,f1,f2,f3,f4,f5⟩:=hf it (by simp);have hl:=rv.length;exact wpAny_pyNext_list_end (I.ok.hd hc) st p.isList (by simp;omega) λh' eb=>⟨rfl,I.turned (t':=s.toks) (λb o hb e=>eb b o hb e) f0 f1 f3 f4 f5⟩
 self:=λ_ _ _ _ _ st h=>wpAny_pyIter_listiter st h
theorem j4{P:Program}{w:World}{K:W.Frag}{tg:Expr}(a it:Addr):Turn P w K tg (zr K a) [it] it (λi h=>h.IsTupleIter it a i) where
 mem:=by simp
 obj:=λi h st b hb=>by
  have e:b=it:=by simpa using hb
  subst e;obtain⟨o,e,c,d⟩:=st;exact⟨o,e,λv z=>by rw[d]at z;cases z⟩
 keep:=λi h h' st k=>st.at λo e=>k it (by simp) o e
 item:=by intro X hP hw hK hc i pins s U H E I hf st hg;subst hP hw hK;obtain⟨xs,x,hq,hx⟩:=hg;obtain⟨its,rv,p,hz⟩:=I.tuple hq;obtain⟨u,hu,ru⟩:=rv.get hx;obtain⟨f0,f1,f2,f3,f4,f5⟩:=hf it (by simp);refine wpAny_pyNext_tuple_item st (show s.heap.IsTuple a its.toArray from p) (x:=u) (by simpa using hu) λh' st' sb=>?_;have I1:Inv X pins U H { s with heap:=h' }:=I.turned (t':=s.toks) (λb o hb e=>(sb.2 b hb).trans e) f0 f1 f3 f4 f5;obtain⟨o,e,c,d⟩:=id st';exact⟨u,rfl,Bv (s:={ s with heap:=h' }) e c d (by decide) ⟨x,H,I1,ru,⟨rfl,λys hy=>by rw[I.i5 hy hq];exact hx⟩,st',λb hb=>(hf b hb).1⟩⟩
 done:=by intro X hP hw hK hc i pins s U H E I hf st hg;subst hP hw hK;obtain⟨xs,hq,hx⟩:=hg;obtain⟨its,rv,p,hz⟩:=I.tuple hq;obtain⟨f0,f1,f2,f3,f4,f5⟩:=hf it (by simp);have hl:=rv.length;exact wpAny_pyNext_tuple_end (I.ok.hd hc) st (show s.heap.IsTuple a its.toArray from p) (by simp;omega) λh' eb=>⟨rfl,I.turned (t':=s.toks) (λb o hb e=>eb b o hb e) f0 f1 f3 f4 f5⟩
 self:=λ_ _ _ _ _ st h=>wpAny_pyIter_tupleiter st h
theorem i8{P:Program}{w:World}{K:W.Frag}{tg:Expr}(it:Addr)(lo:Int)(n:Nat):Turn P w K tg (oj lo n) [it] it (λi h=>IsRangeIter h it (lo+(i:Nat)*1) ((n:Int)-(i:Nat)) 1) where
 mem:=by simp
 obj:=λi h st b hb=>by
  have e:b=it:=by simpa using hb
  subst e;exact⟨_,st,λv z=>by have z':Data.fields _=Data.cell v:=z;cases z'⟩
 keep:=λi h h' st k=>k it (by simp) _ st
 item:=by intro X hP hw hK hc i pins s U H E I hf st hg;subst hP hw hK;obtain⟨f0,f1,f2,f3,f4,f5⟩:=hf it (by simp);have W:=Walks.range (prog:=X.prog) (w:=X.w) (I.ok.hd hc) it lo 1 n;refine W.item i s _ _ hg st λv h' tk hv st' kk=>?_;obtain⟨t,rfl⟩:=hv;have I1:Inv X pins U H { s with heap:=h',toks:=tk }:=I.turned (λb o hb e=>kk b o (by simpa using hb) e) f0 f1 f3 f4 f5;refine⟨_,rfl,Bv (s:={ s with heap:=h',toks:=tk }) (n:="range_iterator") st' rfl rfl (by decide) ⟨.int (lo+i),H,I1,⟨t,?_⟩,⟨rfl,rfl⟩,st',λb hb=>(hf b hb).1⟩⟩;rw[Int.mul_one]
 done:=by intro X hP hw hK hc i pins s U H E I hf st hg;subst hP hw hK;obtain⟨f0,f1,f2,f3,f4,f5⟩:=hf it (by simp);exact wpAny_pyNext_range_end (I.ok.hd hc) st (by have:n<=i:=hg;omega) λh' eb=>⟨rfl,I.turned (t':=s.toks) (λb o hb e=>eb b o hb e) f0 f1 f3 f4 f5⟩
 self:=λ_ _ _ _ _ st h=>wpAny_pyIter_rangeiter st h
section
variable {X:Cx}{tg:Expr}
theorem VP{pins:List (Addr×Obj)}{U:St}{H:Hp}{s:Shared}{R:It->Hp->Prop}{E:Value->Shared->Prop}{lo hi:Int}{t u v:Tok}{tk:Nat}(I:Inv X pins U H s)(h1:-(2 ^ 62)<=lo)(h2:lo<2 ^ 62)(h3:-(2 ^ 62)<=hi)(h4:hi<2 ^ 62)
  (q:R (oj lo (hi-lo).toNat) H):wpAny (model X.prog X.w) X.A (pyIter (.ref s.heap.objs.size)) (Ig X pins U tg R) E { s with heap:=s.heap.push { cls:=.type "range",data:=.fields #[.int lo t,.int hi u,.int 1 v] },toks:=tk }:=by
 refine wpAny_pyIter_range (IsRange.new ..) (small_one h1 h2 h3 h4) ?_;have I1:Inv X pins U H { s with heap:=s.heap.push { cls:=.type "range",data:=.fields #[.int lo t,.int hi u,.int 1 v] },toks:=tk }:=I.kept λb o e=>Heap.get?_push_of_some _ e;refine⟨(s.heap.push { cls:=.type "range",data:=.fields #[.int lo t,.int hi u,.int 1 v] }).objs.size,[(s.heap.push { cls:=.type "range",data:=.fields #[.int lo t,.int hi u,.int 1 v] }).objs.size],_,_,H,rfl,
  I1.kept (t':=tk) λb o e=>Heap.get?_push_of_some _ e,i8 _ lo (hi-lo).toNat,?_,λb hb=>?_,q⟩
 .have e1:lo+((0:Nat):Int)*1=lo:=by simp
  have e2:(((hi-lo).toNat:Nat):Int)-((0:Nat):Int)=Builtin.Range.rangeSize lo hi 1:=by rw[rangeSize_one];split<;>omega
  show IsRangeIter _ _ (lo+((0:Nat):Int)*1) ((((hi-lo).toNat:Nat):Int)-((0:Nat):Int)) 1;rw[e1,e2];exact Heap.get?_push_size _ rfl
 .have e:b=(s.heap.push { cls:=.type "range",data:=.fields #[.int lo t,.int hi u,.int 1 v] }).objs.size:=by simpa using hb
  subst e;exact I1.sP (Nat.le_refl _) (I1.aN.fresh (Nat.le_refl _))
def FZ(ta:TA):TI:=λU H R=>ta U H λvs H1=>∃j:Int,vs=[.int j]/\-(2 ^ 62)<=j/\j<2 ^ 62/\R (oj 0 j.toNat) H1
theorem NF{a:Expr} {ta:TA} {p pos:Pos} (hg:Gl X "range") (hm:X.mg "range"=none) (ha:PA X [a] ta) (hs:starEach [a] X.env=[(false,eval a X.env)]:=by rfl):PI X tg (.Call (.Name "range" p) [a] [] pos) (FZ ta):=by
 intro pins s U H R I h;refine Call_ (wK I hg hm boot_range (PyProof.Rows.callWith_type1 (aM (ha pos pins s U H _ I h) λus s1 ⟨vs,H1,I1,r1,q1⟩=>?_) hs rfl));obtain⟨j,e,q1,q2,q⟩:=q1;subst e;cases r1 with
 |cons r rr=>cases rr;obtain⟨t,rfl⟩:=r;exact call_range_1 (VP I1 (by omega) (by omega) q1 q2 (by simpa using q))
def b7(wi:TI)(g:TG)(tb:TS):TS:=λD U H=>wi U H λJ H1=>∃W:Nat->Nat->St->Hp->Prop,(∃m,W 0 m U H1)/\∀i m U H,W i m U H ->
 (J.stop i H/\D.nx U H)\/(J.go i H/\∃N:St->Hp->Prop,(∀U' H',N U' H'->∃m',m'<m/\W (i+1) m' U' H')/\∀x H',J.oe i H x H'->g x U H' λU2 H2=>tb { D with nx:=N,ct:=N,bk:=D.nx } U2 H2)
def ui(fp:List Addr)(h:Heap):List (Addr×Obj):=fp.filterMap λb=>(h.get? b).map λo=>(b,o)
theorem sy{fp:List Addr}{h:Heap}{b:Addr}{o:Obj}(hb:b∈fp)(e:h.get? b=some o):(b,o)∈ui fp h:=List.mem_filterMap.mpr ⟨b,hb,by rw[e];rfl⟩
theorem Qh{fp:List Addr}{h:Heap}{p:Addr×Obj}(hp:p∈ui fp h):p.1∈fp/\h.get? p.1=some p.2:=by
 obtain⟨b,hb,e⟩:=List.mem_filterMap.mp hp;cases q:h.get? b with
 |none=>rw[q]at e;cases e|some o=>rw[q]at e;have e':(b,o)=p:=Option.some.inj e;subst e';exact⟨hb,q⟩
theorem Inv.pinned{pins:List (Addr×Obj)}{U:St}{H:Hp}{s:Shared}{fp:List Addr}(I:Inv X pins U H s)(hf:∀b∈fp,eZ X pins H b)(ho:∀b∈fp,∃o,s.heap.get? b=some o/\∀v,o.data ≠ .cell v):Inv X (pins++ui fp s.heap) U H s:=
 I.wQ λp hp=>(List.mem_append.mp hp).elim (λz=>I.pin p (List.mem_append_right _ z)) λz=>by obtain⟨hb,e⟩:=Qh z;obtain⟨f0,f1,f2,_⟩:=hf p.1 hb;obtain⟨o,e',d⟩:=ho p.1 hb;rw[e]at e';cases e';exact⟨e,f0,f1,f2,d⟩
theorem Inv.ze{pins pl:List (Addr×Obj)}{U:St}{H:Hp}{s:Shared}(I:Inv X (pins++pl) U H s):Inv X pins U H s:=I.wQ λp hp=>I.pin p (List.mem_append_right _ (List.mem_append_left _ hp))
theorem NW{bQ:Expr}{body:List Stmt}{wi:TI}{g:TG}{tb:TS}{pos:Pos}(hp:PassesOwn (model X.prog X.w) X.A X.env X.xe)(hc:X.calm=true)(hi:PI X tg bQ wi)(hg:PG X tg g)(hb:kZ X body tb)
  (hs:∀x,foldedSetIterable bQ X.env x=pure x:=by intro _;rfl):PS X (.For tg bQ body [] pos) (b7 wi g tb):=by
 intro pins s U H D I h;refine wpAny_For (aM (hi pins s U H _ I h) λv s1 h1=>aM h1 λitv s2 h2=>?_) hs;obtain⟨it,fp,tn,J,H2,e,I2,T,st2,f2,W,⟨m0,w0⟩,turn⟩:=h2;subst e;have stat:∀{H':Hp},(∀b∈fp,H' b=none)->∀b∈fp,eZ X pins H' b:=λhn b hb=>⟨hn b hb,(f2 b hb).2⟩;refine codeAny_forLoop_any (λn s'=>∃i U' H',Inv X pins U' H' s'/\tn i s'.heap/\(∀b∈fp,H' b=none)/\W i n U' H') ?_ m0 ⟨0,U,H2,I2,st2,λb hb=>(f2 b hb).1,w0⟩;rintro n s3 ⟨i,U3,H3,I3,st3,fr3,w3⟩
 rcases turn i n U3 H3 w3 with⟨stop,qn⟩|⟨go,N,hN,step⟩
 .refine wpAny_passesOwn hp (aM (T.done X rfl rfl rfl hc i pins s3 U3 H3 X.xe I3 (stat fr3) st3 stop) λr s4 ⟨hr,I4⟩=>?_);subst hr;exact wpAny_execs_nil ⟨U3,H3,I4,qn⟩
 .refine wpAny_passesOwn hp (aM (T.item X rfl rfl rfl hc i pins s3 U3 H3 X.xe I3 (stat fr3) st3 go) λr s4 ⟨u,hr,h4⟩=>?_);subst hr;refine wpAny_passesOwn hp (aM h4 λ_ s5 ⟨x,H5,I5,r5,y5,st5,fr5⟩=>?_);have I5':=I5.pinned (stat fr5) (T.obj _ _ st5);refine wpAny_passesOwn hp (aM (hg _ s5 U3 H5 x u _ I5' r5 (step x H5 y5)) λ_ s6 ⟨U6,H6,I6,q6⟩=>?_);refine wpAny_passesOwn hp (aM (hb _ s6 U6 H6 _ I6 q6) λf s7 q7=>?_);have again:∀{U7:St} {H7:Hp},Inv X (pins++ui fp s5.heap) U7 H7 s7->N U7 H7->∃m,m<n/\∃i U' H',Inv X pins U' H' s7/\tn i s7.heap/\(∀b∈fp,H' b=none)/\W i m U' H':=λ{U7 H7} I7 n7=>by obtain⟨m',hm,w7⟩:=hN U7 H7 n7;refine⟨m',hm,i+1,U7,H7,I7.ze,T.keep _ _ _ st5 λb hb o e=>(I7.pin (b,o) (List.mem_append_right _ (List.mem_append_right _ (sy hb e)))).1,λb hb=>?_,w7⟩;obtain⟨o,e,d⟩:=T.obj _ _ st5 b hb;exact(I7.pin (b,o) (List.mem_append_right _ (List.mem_append_right _ (sy hb e)))).2.1
  cases f with
  |next=>obtain⟨U7,H7,I7,n7⟩:=q7;exact again I7 n7|cont=>obtain⟨U7,H7,I7,n7⟩:=q7;exact again I7 n7|brk=>obtain⟨U7,H7,I7,q7⟩:=q7;exact⟨U7,H7,I7.ze,q7⟩|ret v=>obtain⟨x7,U7,H7,I7,r7,q7⟩:=q7;exact⟨x7,U7,H7,I7.ze,r7,q7⟩
end
abbrev R2:=V->V->Hp->VK->Prop
def bH(X:Cx)(f:Value->Value->Sem Value)(r:R2):Prop:=
 ∀(pins:List (Addr×Obj)) (s:Shared) (U:St) (H:Hp) (x y:V) (v u:Value) (Q:VK),Inv X pins U H s->RelV x v->RelV y u->r x y H Q ->
  wpAny (model X.prog X.w) X.A (f v u) (EP X pins U Q) X.xe s
def ot(X:Cx)(f:Value->Sem Value)(r:V->Hp->VK->Prop):Prop:=
 ∀(pins:List (Addr×Obj)) (s:Shared) (U:St) (H:Hp) (x:V) (v:Value) (Q:VK),Inv X pins U H s->RelV x v->r x H Q ->
  wpAny (model X.prog X.w) X.A (f v) (EP X pins U Q) X.xe s
def eB(X:Cx)(f:Value)(r:List V->Hp->VK->Prop):Prop:=
 ∀(pins:List (Addr×Obj)) (s:Shared) (U:St) (H:Hp) (xs:List V) (us:List Value) (Q:VK),Inv X pins U H s->Vals xs us->r xs H Q ->
  wpAny (model X.prog X.w) X.A (call f us) (EP X pins U Q) X.xe s
def Xb(X:Cx)(r:V->Hp->(Bool->Hp->Prop)->Prop):Prop:=
 ∀(pins:List (Addr×Obj)) (s:Shared) (U:St) (H:Hp) (x:V) (v:Value) (Q:Bool->Hp->Prop),Inv X pins U H s->RelV x v->r x H Q ->
  wpAny (model X.prog X.w) X.A (truthy v) (TP X pins U Q) X.xe s
def yu(r:R2)(ta tb:TE):TE:=λU H Q=>ta U H λx H1=>tb U H1 λy H2=>r x y H2 Q
def g0(r:V->Hp->VK->Prop)(ta:TE):TE:=λU H Q=>ta U H λx H1=>r x H1 Q
def rI(C:Int->Int->Prop)(g:Int->Int->V):R2:=λx y H Q=>∃i j,x = .int i/\y = .int j/\C i j/\Q (g i j) H
def hE(g:Int->Int->V):R2:=λx y H Q=>∃i j,x = .int i/\y = .int j/\Q (g i j) H
def rU(g:Int->V):V->Hp->VK->Prop:=λx H Q=>∃i,x = .int i/\Q (g i) H
section
variable {X:Cx}{a b c:Expr}{ta tb tc:TE}{pos:Pos}
theorem Af(ha:PE X a ta)(hb:PE X b tb){pins:List (Addr×Obj)}{s:Shared}{U:St}{H:Hp}{R:V->V->Hp->Prop}(I:Inv X pins U H s)
  (h:ta U H λx H1=>tb U H1 λy H2=>R x y H2) {Q:Value->Shared->Prop} {f:Value->Value->Sem Value}
  (hf:∀v u s2 x y H2,Inv X pins U H2 s2->RelV x v->RelV y u->R x y H2->wpAny (model X.prog X.w) X.A (f v u) Q X.xe s2) :
  wpAny (model X.prog X.w) X.A (eval a X.env) (λv s₁=>wpAny (model X.prog X.w) X.A (eval b X.env) (λu s₂=>wpAny (model X.prog X.w) X.A (f v u) Q X.xe s₂) X.xe s₁) X.xe s:=by
 refine aM (ha pins s U H _ I h) λv s1 ⟨x,H1,I1,r1,q1⟩=>?_;refine aM (hb pins s1 U H1 _ I1 q1) λu s2 ⟨y,H2,I2,r2,q2⟩=>?_;exact hf v u s2 x y H2 I2 r1 r2 q2
theorem MS{op:Operator}{r:R2}(ho:bH X (binaryOp op) r)(ha:PE X a ta)(hb:PE X b tb):PE X (.BinOp a op b pos) (yu r ta tb):=by intro pins s U H Q I h;exact wpAny_BinOp (Af ha hb I h λv u s2 x y H2 I2 rx ry q=>ho pins s2 U H2 x y v u Q I2 rx ry q)
theorem MW{op:UnaryOp}{r:V->Hp->VK->Prop}(ho:ot X (unaryOp op) r)(ha:PE X a ta):PE X (.UnaryOp op a pos) (g0 r ta):=by intro pins s U H Q I h;exact UnaryOp_ (aM (ha pins s U H _ I h) λv s1 ⟨x,H1,I1,r1,q1⟩=>ho pins s1 U H1 x v Q I1 r1 q1)
theorem wN{f:Value->Value->Sem Value}{C:Int->Int->Prop}{g:Int->Int->Int}
  (rule:∀(i j:Int) (t u:Tok) (s:Shared) (Q:Value->Shared->Prop) (E:Value->Shared->Prop),C i j->Q (.int (g i j) s.toks) { s with toks:=s.toks+1 }->wpAny (model X.prog X.w) X.A (f (.int i t) (.int j u)) Q E s) :
  bH X f (rI C λi j=>.int (g i j)):=by
 intro pins s U H x y v u Q I rx ry h;obtain⟨i,j,rfl,rfl,hc,q⟩:=h;obtain⟨t,rfl⟩:=rx;obtain⟨t',rfl⟩:=ry;exact rule i j t t' s _ _ hc ⟨.int (g i j),H,I.tok _,⟨_,rfl⟩,q⟩
theorem ik{f:Value->Value->Sem Value}{g:Int->Int->Int}
  (rule:∀(i j:Int) (t u:Tok) (s:Shared) (Q:Value->Shared->Prop) (E:Value->Shared->Prop),Q (.int (g i j) s.toks) { s with toks:=s.toks+1 }->wpAny (model X.prog X.w) X.A (f (.int i t) (.int j u)) Q E s) :
  bH X f (hE λi j=>.int (g i j)):=by
 intro pins s U H x y v u Q I rx ry h;obtain⟨i,j,rfl,rfl,q⟩:=h;obtain⟨t,rfl⟩:=rx;obtain⟨t',rfl⟩:=ry;exact rule i j t t' s _ _ ⟨.int (g i j),H,I.tok _,⟨_,rfl⟩,q⟩
theorem ue{f:Value->Value->Sem Value}{g:Int->Int->Bool}
  (rule:∀(i j:Int) (t u:Tok) (s:Shared) (Q:Value->Shared->Prop) (E:Value->Shared->Prop),Q (.bool (g i j)) s->wpAny (model X.prog X.w) X.A (f (.int i t) (.int j u)) Q E s) :
  bH X f (hE λi j=>.bl (g i j)):=by
 intro pins s U H x y v u Q I rx ry h;obtain⟨i,j,rfl,rfl,q⟩:=h;obtain⟨t,rfl⟩:=rx;obtain⟨t',rfl⟩:=ry;exact rule i j t t' s _ _ ⟨.bl (g i j),H,I,rfl,q⟩
def zm(i j:Int):Prop:=0<=j/\j<=1000000/\i.natAbs<2 ^ 64
theorem j8(k:Nat):(0:Int)<=2 ^ k:=by rw[two_pow_cast];exact Int.natCast_nonneg _
theorem JL:bH X (binaryOp .Add) (hE λi j=>.int (i+j)):=ik λ_ _ _ _ _ _ _ q=>add_int q
theorem KR:bH X (binaryOp .Sub) (hE λi j=>.int (i-j)):=ik λ_ _ _ _ _ _ _ q=>sub_int q
theorem KC:bH X (binaryOp .Mod) (rI (λ_ j=>0<j) λi j=>.int (i%j)):=wN λi j _ _ _ _ _ hc q=>by have h1:(0:Int)<j:=hc;exact mod_int' (by omega) (by rw[Int.fmod_eq_emod_of_nonneg i (by omega)];exact q)
theorem KO:bH X (binaryOp .Pow) (rI zm λi j=>.int (i ^ j.toNat)):=wN λ_ _ _ _ _ _ _ hc q=>pow_int_small hc.1 hc.2.1 hc.2.2 q
theorem KP:bH X (binaryOp .LShift) (rI zm λi j=>.int (i*2 ^ j.toNat)):=wN λ_ _ _ _ _ _ _ hc q=>lshift_int_small hc.1 hc.2.1 hc.2.2 q
theorem KQ:bH X (binaryOp .RShift) (rI (λ_ j=>0<=j) λi j=>.int (i / 2 ^ j.toNat)):=wN λi j _ _ _ _ _ hc q=>rshift_int hc (by rw[Int.fdiv_eq_ediv_of_nonneg i (j8 _)];exact q)
theorem JN:bH X (binaryOp .BitAnd) (hE λi j=>.int (Builtin.bitAnd i j)):=ik λ_ _ _ _ _ _ _ q=>and_int q
theorem KN:bH X (binaryOp .BitOr) (hE λi j=>.int (Builtin.bitOr i j)):=ik λ_ _ _ _ _ _ _ q=>or_int q
theorem KS:bH X (binaryOp .BitXor) (hE λi j=>.int (Builtin.bitXor i j)):=ik λ_ _ _ _ _ _ _ q=>xor_int q
theorem k9{f:Value->Sem Value}{g:Int->Int}
  (rule:∀(i:Int) (t:Tok) (s:Shared) (Q:Value->Shared->Prop) (E:Value->Shared->Prop),Q (.int (g i) s.toks) { s with toks:=s.toks+1 }->wpAny (model X.prog X.w) X.A (f (.int i t)) Q E s) :
  ot X f (rU λi=>.int (g i)):=by
 intro pins s U H x v Q I rx h;obtain⟨i,rfl,q⟩:=h;obtain⟨t,rfl⟩:=rx;exact rule i t s _ _ ⟨.int (g i),H,I.tok _,⟨_,rfl⟩,q⟩
theorem l0:ot X (unaryOp .USub) (rU λi=>.int (-i)):=k9 λ_ _ _ _ _ q=>neg_int q
end
def yi:V->V->Bool
 |.aB,.aB=>true | .aB,.int _=>true | .int _,.aB=>true | .aB,.bl _=>true | .bl _,.aB=>true | .aB,.str _=>true | .str _,.aB=>true
 |.int _,.int _=>true | .bl _,.bl _=>true | .str _,.str _=>true | .gJ _,.gJ _=>true
 |.int _,.str _=>true | .str _,.int _=>true | .bl _,.str _=>true | .str _,.bl _=>true
 |_,_=>false
def Uc:R2:=λx y H Q=>yi x y=true/\Q (.bl (decide (x=y))) H
def Uj:R2:=λx y H Q=>yi x y=true/\Q (.bl (!decide (x=y))) H
theorem Ma{i j:Int}:decide (V.int i=V.int j)=(i==j):=by rw[Bool.eq_iff_iff];simp
theorem Ly{i j:Bool}:decide (V.bl i=V.bl j)=(i==j):=by rw[Bool.eq_iff_iff];simp
theorem Mb{i j:Str}:decide (V.str i=V.str j)=(i==j):=by rw[Bool.eq_iff_iff];simp
theorem Lz{i j:Array UInt8}:decide (V.gJ i=V.gJ j)=(i.toList==j.toList):=by rw[Bool.eq_iff_iff];cases i;cases j;simp
section
variable {X:Cx}{a b c:Expr}{ta tb tc:TE}{pos:Pos}
theorem cN{pins:List (Addr×Obj)}{U:St}{H:Hp}{s:Shared}{Q:VK}{k k':Bool}(I:Inv X pins U H s)(q:Q (.bl k) H)(e:k=k'):EP X pins U Q (.bool k') s:=by subst e;exact⟨.bl k,H,I,rfl,q⟩
theorem JR:bH X (compareOp .Eq) Uc:=by
 intro pins s U H x y v u Q I rx ry h;obtain⟨hs,q⟩:=h;cases x with
 |aB=>
  cases rx;cases y with
  |aB=>cases ry;exact PySem.EqNone.eq_none_none (cN I q (by simp))|bl j=>cases ry;exact PySem.EqNone.eq_none_bool (cN I q (by simp))|int j=>obtain⟨t',rfl⟩:=ry;exact PySem.EqNone.eq_none_int (cN I q (by simp))|str j=>obtain⟨t',rfl⟩:=ry;exact PySem.EqNone.eq_none_str (cN I q (by simp))|_=>exact absurd (show false=true from hs) Bool.false_ne_true
 |bl i=>
  cases rx;cases y with
  |aB=>cases ry;exact PySem.EqNone.eq_bool_none (cN I q (by simp))|bl j=>cases ry;exact eq_bool (cN I q Ly)|str j=>obtain⟨t',rfl⟩:=ry;exact PySem.EqMixed.eq_bool_str (cN I q (by simp))|_=>exact absurd (show false=true from hs) Bool.false_ne_true
 |int i=>
  obtain⟨t,rfl⟩:=rx;cases y with
  |aB=>cases ry;exact PySem.EqNone.eq_int_none (cN I q (by simp))|int j=>obtain⟨t',rfl⟩:=ry;exact eq_int (cN I q Ma)|str j=>obtain⟨t',rfl⟩:=ry;exact PySem.EqMixed.eq_int_str (cN I q (by simp))|_=>exact absurd (show false=true from hs) Bool.false_ne_true
 |str i=>
  obtain⟨t,rfl⟩:=rx;cases y with
  |aB=>cases ry;exact PySem.EqNone.eq_str_none (cN I q (by simp))|bl j=>cases ry;exact PySem.EqMixed.eq_str_bool (cN I q (by simp))|int j=>obtain⟨t',rfl⟩:=ry;exact PySem.EqMixed.eq_str_int (cN I q (by simp))|str j=>obtain⟨t',rfl⟩:=ry;exact eq_str (cN I q Mb)|_=>exact absurd (show false=true from hs) Bool.false_ne_true
 |gJ i=>
  obtain⟨t,rfl⟩:=rx;cases y with
  |gJ j=>obtain⟨t',rfl⟩:=ry;exact W.eq_bytes (cN I q Lz)|_=>exact absurd (show false=true from hs) Bool.false_ne_true
 |_=>cases y<;>exact absurd (show false=true from hs) Bool.false_ne_true
theorem KG:bH X (compareOp .NotEq) Uj:=by
 intro pins s U H x y v u Q I rx ry h;obtain⟨hs,q⟩:=h;cases x with
 |aB=>
  cases rx;cases y with
  |aB=>cases ry;exact PySem.EqNone.ne_none_none (cN I q (by simp))|bl j=>cases ry;exact PySem.EqNone.ne_none_bool (cN I q (by simp))|int j=>obtain⟨t',rfl⟩:=ry;exact PySem.EqNone.ne_none_int (cN I q (by simp))|str j=>obtain⟨t',rfl⟩:=ry;exact PySem.EqNone.ne_none_str (cN I q (by simp))|_=>exact absurd (show false=true from hs) Bool.false_ne_true
 |bl i=>
  cases rx;cases y with
  |aB=>cases ry;exact PySem.EqNone.ne_bool_none (cN I q (by simp))|bl j=>cases ry;exact ne_bool (cN I q (congrArg not Ly))|str j=>obtain⟨t',rfl⟩:=ry;exact PySem.EqMixed.ne_bool_str (cN I q (by simp))|_=>exact absurd (show false=true from hs) Bool.false_ne_true
 |int i=>
  obtain⟨t,rfl⟩:=rx;cases y with
  |aB=>cases ry;exact PySem.EqNone.ne_int_none (cN I q (by simp))|int j=>obtain⟨t',rfl⟩:=ry;exact ne_int (cN I q (congrArg not Ma))|str j=>obtain⟨t',rfl⟩:=ry;exact PySem.EqMixed.ne_int_str (cN I q (by simp))|_=>exact absurd (show false=true from hs) Bool.false_ne_true
 |str i=>
  obtain⟨t,rfl⟩:=rx;cases y with
  |aB=>cases ry;exact PySem.EqNone.ne_str_none (cN I q (by simp))|bl j=>cases ry;exact PySem.EqMixed.ne_str_bool (cN I q (by simp))|int j=>obtain⟨t',rfl⟩:=ry;exact PySem.EqMixed.ne_str_int (cN I q (by simp))|str j=>obtain⟨t',rfl⟩:=ry;exact ne_str (cN I q (congrArg not Mb))|_=>exact absurd (show false=true from hs) Bool.false_ne_true
 |gJ i=>
  obtain⟨t,rfl⟩:=rx;cases y with
  |gJ j=>obtain⟨t',rfl⟩:=ry;exact W.ne_bytes (cN I q (congrArg not Lz))|_=>exact absurd (show false=true from hs) Bool.false_ne_true
 |_=>cases y<;>exact absurd (show false=true from hs) Bool.false_ne_true
theorem KA:bH X (compareOp .Lt) (hE λi j=>.bl (decide (i<j))):=ue λ_ _ _ _ _ _ _ q=>lt_int q
theorem JZ:bH X (compareOp .LtE) (hE λi j=>.bl (decide (i<=j))):=ue λ_ _ _ _ _ _ _ q=>le_int q
theorem JV:bH X (compareOp .Gt) (hE λi j=>.bl (decide (j<i))):=ue λ_ _ _ _ _ _ _ q=>gt_int q
theorem JU:bH X (compareOp .GtE) (hE λi j=>.bl (decide (j<=i))):=ue λ_ _ _ _ _ _ _ q=>ge_int q
theorem JY:bH X (compareOp .Is) (λx y H Q=>y = .aB/\Q (.bl (decide (x = .aB))) H):=by
 intro pins s U H x y v u Q I rx ry h;obtain⟨rfl,q⟩:=h;cases ry;refine is_none_gen (cN I q ?_);cases x<;>first
  | (cases rx;rfl)
  | (obtain⟨t,rfl⟩:=rx;rfl)
theorem KL:bH X (compareOp .IsNot) (λx y H Q=>y = .aB/\Q (.bl (!decide (x = .aB))) H):=by
 intro pins s U H x y v u Q I rx ry h;obtain⟨rfl,q⟩:=h;cases ry;refine isnot_none_gen (cN I q ?_);cases x<;>first
  | (cases rx;rfl)
  | (obtain⟨t,rfl⟩:=rx;rfl)
theorem bH.or{f:Value->Value->Sem Value}{r r':R2}(h:bH X f r)(h':bH X f r'):bH X f (λx y H Q=>r x y H Q\/r' x y H Q):=by
 intro pins s U H x y v u Q I rx ry q;rcases q with q|q
 .exact h pins s U H x y v u Q I rx ry q
 .exact h' pins s U H x y v u Q I rx ry q
theorem MF{op:CmpOp}{r:R2}(ho:bH X (compareOp op) r)(ha:PE X a ta)(hb:PE X b tb)(hm:behindInMarks op b=false):PE X (.Compare a [op] [b] pos) (yu r ta tb):=by intro pins s U H Q I h;exact wpAny_Compare1 (Af ha hb I h λv u s2 x y H2 I2 rx ry q=>ho pins s2 U H2 x y v u Q I2 rx ry q) hm
def He(t:TE):TT:=λU H Q=>t U H λx H'=>∃k,x = .bl k/\Q k H'
theorem OK{op:CmpOp}{r:R2}(ho:bH X (compareOp op) r)(ha:PE X a ta)(hb:PE X b tb)(hm:behindInMarks op b=false):PT X (.Compare a [op] [b] pos) (He (yu r ta tb)):=by
 intro pins s U H Q I h;refine wpAny_isTrue_Compare1 (aM (ha pins s U H _ I h) λv s1 ⟨x,H1,I1,r1,q1⟩=>aM (hb pins s1 U H1 _ I1 q1) λu s2 ⟨y,H2,I2,r2,q2⟩=>aM (ho pins s2 U H2 x y v u _ I2 r1 r2 q2) λc s3 ⟨z,H3,I3,r3,k,e,q3⟩=>?_) hm
 subst e;cases r3;exact wpAny_truthy_bool ⟨H3,I3,q3⟩
def Gz(r r':R2)(ta tb tc:TE):TE:=λU H Q=>ta U H λx H1=>tb U H1 λy H2=>r x y H2 λz H3=>∃k,z = .bl k /\
 (if k=true then tc U H3 λw' H4=>r' y w' H4 Q else Q (.bl false) H3)
theorem MD{op op':CmpOp}{r r':R2}(ho:bH X (compareOp op) r)(ho':bH X (compareOp op') r')(ha:PE X a ta)(hb:PE X b tb)(hc:PE X c tc)
  (hm:lastMarks [op,op'] [b,c]=false:=by with_unfolding_all rfl):PE X (.Compare a [op,op'] [b,c] pos) (Gz r r' ta tb tc):=by
 intro pins s U H Q I h;refine Compare_chain (aM (ha pins s U H _ I h) λv s1 ⟨x,H1,I1,r1,q1⟩=>chain_link (aM (hb pins s1 U H1 _ I1 q1) λu s2 ⟨y,H2,I2,r2,q2⟩=>aM (ho pins s2 U H2 x y v u _ I2 r1 r2 q2) λd s3 ⟨z,H3,I3,r3,k,e,q3⟩=>?_)) hm
 subst e;cases r3;refine wpAny_truthy_bool ?_;cases k with
 |false=>exact ite_ff ⟨.bl false,H3,I3,rfl,q3⟩|true=>exact ite_tt (chain_last (aM (hc pins s3 U H3 _ I3 q3) λw' s4 ⟨z',H4,I4,r4,q4⟩=>ho' pins s4 U H4 y z' u w' Q I4 r2 r4 q4))
theorem OI{op op':CmpOp}{r r':R2}(ho:bH X (compareOp op) r)(ho':bH X (compareOp op') r')(ha:PE X a ta)(hb:PE X b tb)(hc:PE X c tc)
  (hm:lastMarks [op,op'] [b,c]=false:=by with_unfolding_all rfl):PT X (.Compare a [op,op'] [b,c] pos) (He (Gz r r' ta tb tc)):=by
 intro pins s U H Q I h;refine isTrue_chain (aM (ha pins s U H _ I h) λv s1 ⟨x,H1,I1,r1,q1⟩=>test_link (aM (hb pins s1 U H1 _ I1 q1) λu s2 ⟨y,H2,I2,r2,q2⟩=>aM (ho pins s2 U H2 x y v u _ I2 r1 r2 q2) λd s3 ⟨z,H3,I3,r3,k,e,q3⟩=>?_)) hm
 subst e;cases r3;refine wpAny_truthy_bool ?_;cases k with
 |false=>obtain⟨k',e',q'⟩:=q3;cases e';exact ite_ff ⟨H3,I3,q'⟩
 |true=>refine ite_tt (test_last (aM (hc pins s3 U H3 _ I3 q3) λw' s4 ⟨z',H4,I4,r4,q4⟩=>aM (ho' pins s4 U H4 y z' u w' _ I4 r2 r4 q4) λd' s5 ⟨z2,H5,I5,r5,k2,e2,q5⟩=>?_));subst e2;cases r5;exact wpAny_truthy_bool ⟨H5,I5,q5⟩
def sC(K:W.Frag)(x:V)(H:Hp)(k:Bool):Prop:=
 match x with
 |.aB=>k=false
 |.bl b=>k=b
 |.int i=>k=(i != 0)
 |.str y=>y.length<=sizeLine/\k=((y.length:Int) != 0)
 |.gJ y=>y.size<=sizeLine/\k=((y.size:Int) != 0)
 |.ref p=>(∃xs,bO K H p xs/\k = !xs.isEmpty)\/(∃xs,bZ K H p xs/\k = !xs.isEmpty)\/∃kvs,H p=some (.dK kvs)/\k = !kvs.isEmpty
 |_=>False
theorem GQ{κ:Type}{kvs:List (κ×V)}{vs:List (κ×Value)}(r:KV kvs vs):(!vs.isEmpty) = !kvs.isEmpty:=by cases r<;>rfl
theorem Ov{xs:List V}{its:List Value}(r:Vals xs its):(!its.toArray.isEmpty) = !xs.isEmpty:=by cases r<;>simp
theorem tH:(sizeLine:Nat)<2 ^ 63:=by rw[sizeLine_eq];decide
theorem yz:Xb X (λx H Q=>∃k,sC X.K x H k/\Q k H):=by
 intro pins s U H x v Q I rx h;obtain⟨k,e,q⟩:=h;have hl:=tH;have hs:sizeLine=16777216:=sizeLine_eq;cases x with
 |aB=>cases rx;have e':k=false:=e;subst e';exact truthy_none ⟨H,I,q⟩
 |bl b=>cases rx;have e':k=b:=e;subst e';exact wpAny_truthy_bool ⟨H,I,q⟩
 |int i=>obtain⟨t,rfl⟩:=rx;have e':k=(i != 0):=e;subst e';exact PySem.P.truthy_int ⟨H,I,q⟩
 |str y=>obtain⟨t,rfl⟩:=rx;obtain⟨hy,e'⟩:y.length<=sizeLine/\k=((y.length:Int) != 0):=e;subst e';exact PySem.P.truthy_str (by omega) ⟨H,I.tok _,q⟩
 |gJ y=>obtain⟨t,rfl⟩:=rx;obtain⟨hy,e'⟩:y.size<=sizeLine/\k=((y.size:Int) != 0):=e;subst e';exact W.truthy_bytes (by omega) ⟨H,I.tok _,q⟩
 |ref p=>
  cases rx;have e':(∃xs,bO X.K H p xs/\k = !xs.isEmpty)\/(∃xs,bZ X.K H p xs/\k = !xs.isEmpty)\/∃kvs,H p=some (.dK kvs)/\k = !kvs.isEmpty:=e;rcases e' with⟨xs,hx,e'⟩|⟨xs,hx,e'⟩|⟨kvs,hx,e'⟩
  .subst e';obtain⟨its,r,pl,hz⟩:=I.list hx;have hlen:=r.length;exact wpAny_truthy_list pl.isList (by simp only[List.size_toArray];omega) ⟨H,I.tok _,by rw[Ov r];exact q⟩
  .subst e';obtain⟨its,r,pl,hz⟩:=I.tuple hx;have hlen:=r.length;exact truthy_tuple pl (by simp only[List.size_toArray];omega) ⟨H,I.tok _,by rw[Ov r];exact q⟩
  .subst e';obtain⟨hz,hS,vs,r,m⟩:kvs.length<=sizeLine/\(p==sysModules)=false/\∃vs,KV kvs vs/\s.heap.DictOf (dO X.prog X.w) p vs:=I.aN p _ hx;have hlen:kvs.length=vs.length:=Paired.length r;exact wpAny_truthy_dict hS m (by omega) ⟨H,I.tok _,by rw[GQ r];exact q⟩
 |_=>exact(show False from e).elim
theorem OM(ha:PE X a ta)(he:∀whole,isTrue a X.env whole=(do let v <- whole;standAt a.pos;holding [v] (truthy v))) :
  PT X a (λU H Q=>ta U H λx H'=>∃k,sC X.K x H' k/\Q k H'):=by
 intro pins s U H Q I h;exact isTrue_plain (aM (ha pins s U H _ I h) λv s1 ⟨x,H1,I1,r1,q1⟩=>yz pins s1 U H1 x v Q I1 r1 q1) (he _)
theorem JM:bH X (binaryOp .Add) (λx y H Q=>∃i j,x = .str i/\y = .str j/\i.length+j.length<=sizeLine/\Q (.str (i++j)) H):=by intro pins s U H x y v u Q I rx ry h;obtain⟨i,j,rfl,rfl,hz,q⟩:=h;obtain⟨t,rfl⟩:=rx;obtain⟨t',rfl⟩:=ry;exact add_str (λt' tk=>⟨.str (i++j),H,I.tok _,⟨_,rfl⟩,q⟩) hz
theorem dj{x:V}{us:List Value}(r:Vals [x] us):∃u,us=[u]/\RelV x u:=by
 cases r with
 |cons r1 r2=>cases r2;exact⟨_,rfl,r1⟩
theorem dk{x y:V}{us:List Value}(r:Vals [x,y] us):∃u w',us=[u,w']/\RelV x u/\RelV y w':=by
 cases r with
 |cons r1 r2=>
  cases r2 with
  |cons r3 r4=>cases r4;exact⟨_,_,rfl,r1,r3⟩
theorem Yh(hc:X.calm=true):eB X (.builtin "max") (λxs H Q=>∃i j,xs=[.int i,.int j]/\Q (.int (if j > i then j else i)) H):=by
 intro pins s U H xs us Q I r h;obtain⟨i,j,rfl,q⟩:=h;obtain⟨u,w',rfl,⟨t,rfl⟩,⟨t',rfl⟩⟩:=dk r;refine max_two_ints (I.ok.hd hc) λh' tk k=>⟨_,H,I.kept k,?_,q⟩;by_cases hj:j > i
 .rw[if_pos hj,if_pos hj];exact⟨_,rfl⟩
 .rw[if_neg hj,if_neg hj];exact⟨_,rfl⟩
theorem Yj(hc:X.calm=true):eB X (.builtin "min") (λxs H Q=>∃i j,xs=[.int i,.int j]/\Q (.int (if j<i then j else i)) H):=by
 intro pins s U H xs us Q I r h;obtain⟨i,j,rfl,q⟩:=h;obtain⟨u,w',rfl,⟨t,rfl⟩,⟨t',rfl⟩⟩:=dk r;refine min_two_ints (I.ok.hd hc) λh' tk k=>⟨_,H,I.kept k,?_,q⟩;by_cases hj:j<i
 .rw[if_pos hj,if_pos hj];exact⟨_,rfl⟩
 .rw[if_neg hj,if_neg hj];exact⟨_,rfl⟩
theorem Yb:eB X (.type "int") (λxs H Q=>(∃i,xs=[.int i]/\Q (.int i) H)\/∃k,xs=[.bl k]/\Q (.int (if k then 1 else 0)) H):=by
 intro pins s U H xs us Q I r h;rcases h with⟨i,rfl,q⟩|⟨k,rfl,q⟩
 .obtain⟨u,rfl,t,rfl⟩:=dj r;exact call_int_int ⟨.int i,H,I,⟨_,rfl⟩,q⟩
 .obtain⟨u,rfl,r1⟩:=dj r;cases r1;exact call_int_bool ⟨.int (if k then 1 else 0),H,I.tok _,⟨_,rfl⟩,q⟩
end
structure rY(h:Heap)(x dx C:Addr)(mA:Str->Option Value):Prop where
 obj:h.get? x=some (W.instObj C dx)
 ns:h.Ns1 dx mA
 ne:dx≠x
theorem HY{h:Heap}{dx:Addr}{mA:Str->Option Value}(n:h.Ns1 dx mA):∃od,h.get? dx=some od/\∀name,W.lookIn name od=some (mA name):=by
 obtain⟨o,es,ep,ho,hd,hk,_,hm⟩:=n;refine⟨o,ho,λname=>?_⟩;have e:=hm name;unfold nsFind findBy at e;rw[<- Array.find?_toList]at e;unfold W.lookIn;rw[hd];dsimp only;split
 .rename_i y q;rw[q]at e;exact congrArg some e
 .rename_i q;rw[q]at e;have a:es.toList.any (·.refKey)=false:=by rw[List.any_eq_false];intro y hy;obtain⟨z,t,hkey⟩:=hk y (Array.mem_toList_iff.mp hy);simp[DictEntry.refKey,hkey]
  have a':¬es.toList.any (·.refKey)=true:=by rw[a];exact Bool.false_ne_true
  rw[if_neg a'];exact congrArg some e
theorem rY.look{h:Heap}{x dx C:Addr}{mA:Str->Option Value}(I:rY h x dx C mA):∃od,W.InstAt h x (W.instObj C dx) C (some od)/\∀name,W.lookIn name od=some (mA name):=
 let ⟨od,ho,hl⟩:=HY I.ns
 ⟨od,⟨I.obj,rfl,rfl,ho⟩,hl⟩
section
variable {prog:Program}{w:World}{A:Around}{E:Value->Shared->Prop}{s:Shared}{K:W.Frag}{x dx C f:Addr}{mA:Str->Option Value}{name:Str}{v:Value}
theorem FF{expr:Bool}{Q:Value->Shared->Prop}(X:K.In s.heap)(I:rY s.heap x dx C mA)(hg:W.plainGet K C name=true)(hh:W.hasDictIn K C=true)
  (ha:W.findIn K (.ref C) name=some none) (hv:mA name=some v) (hv':W.handedIn v=true) (h:Q v { s with toks:=s.toks+1 }) :
  wpAny (model prog w) A (getAttr (.ref x) name expr) Q E s:=by
 obtain⟨od,J,hl⟩:=I.look;exact W.get_value X J (W.plainGet_of hg).1 (W.findObj_own hh ha rfl (by rw[hl,hv])) hv' h
theorem FG{pl:Sem Bool}{Q:Value×List Value->Shared->Prop}(X:K.In s.heap)(I:rY s.heap x dx C mA)(hg:W.plainGet K C name=true)
  (hf:W.findIn K (.ref C) name=some (some (.ref f))) (ht:W.isFn K (.ref f)=true) (hv:mA name=none) (h:Q (.ref f,[.ref x]) s) :
  wpAny (model prog w) A (getMethod (.ref x) name pl) Q E s:=by
 obtain⟨od,J,hl⟩:=I.look;exact W.method_fn X J (W.plainGet_of hg).1 (W.plainGet_of hg).2 hf (beq_iff_eq.mp ht) (by show(W.lookIn name od).map (·.isSome)=some false;rw[hl,hv];rfl) h
theorem YS{ns:List Str}{Q:Unit->Shared->Prop}(X:K.In s.heap)(I:rY s.heap x dx C mA)
  (hs:W.findIn K (.ref C) "__setattr__"=some (some (.builtin "object.__setattr__"))) (hp:W.plainOver K C=true) (ht:W.takerIn K C name=some none) (hh:W.hasDictIn K C=true)
  (hw:PySem.Within mA ns) (hsz:ns.length<=sizeLine)
  (h:∀h',rY h' x dx C (λy=>if y=name then some v else mA y)->Heap.SameBut dx s.heap h'->Q () { s with heap:=h',toks:=s.toks+2 }) :
  wpAny (model prog w) A (setAttr (.ref x) name v) Q E s:=by
 obtain⟨od,J,hl⟩:=I.look;refine W.set_plain X J hs (W.osa_open (s:={ s with toks:=s.toks+1 }) (r:=none) X J hp ht λb=>?_);obtain⟨cd,hc,hd'⟩:=W.any_some hh;have hx:s.heap.get? x=some ⟨.ref C,some dx,.plain,#[]⟩:=I.obj;refine wpAny_bind (wpAny_pure (wpAny_bind (wpAny_bind (wpAny_loadPart hx (wpAny_bind (W.Looks.here (s:={ s with toks:=s.toks+1 }) (W.looks_clsIn X hc) ?_))))));rw[hd'];refine wpAny_pure (a:=some dx) (wpAny_bind (wpAny_pure (wpAny_bind ?_)));refine wpAny_nsSet1 (s:={ s with toks:=s.toks+1 }) I.ns λh' hn2 hs2=>?_;obtain⟨oD,esD,epD,hoD,hdD,hcD⟩:=hn2.count (PySem.Within.cons name v hw);refine wpAny_bind (wpAny_lookBehind hoD (by rw[hdD];exact pastItsLine_dict (Nat.le_trans hcD (by rw[List.length_cons];omega))) ?_);exact wpAny_pure (h _ ⟨(hs2.2 _ (Ne.symm I.ne)).trans I.obj,hn2,I.ne⟩ hs2)
theorem IG{R:Result->Shared->Prop}{vs:List Value}{kw:List (Str×Value)}(X:K.In s.heap)(hm:W.makesIn K C=true)
  (hi:W.findIn K (.ref C) "__init__"=some (some (.ref f))) (hf:W.typeIn K (.ref f)=some (.type "function"))
  (h:codeAny (model prog w) (A.under (.builtin "type.__call__" ⟨.ref C::vs,kw⟩)) (.call (.ref f) ⟨.ref (s.heap.objs.size+1)::vs,kw⟩) (W.InitBack (s.heap.objs.size+1) R)
   { s with heap:=(s.heap.push W.emptyDict).push (W.instObj C s.heap.objs.size) }) :
  codeAny (model prog w) A (.call (.ref C) ⟨vs,kw⟩) R s:=by
 obtain⟨hh,g,d,t,os⟩:=s;exact W.make_core (W.makes_of X hm) (W.looks_findIn X hi) (λself=>W.bind_fn X self hf) (.inl rfl) h
end
def eS(f:Str)(v:V):List (Str×V)->List (Str×V)
 |[]=>[(f,v)]
 | (g,x)::r=>if g=f then(g,v)::r else(g,x)::eS f v r
theorem Pq(f g:Str)(v:V):∀fs:List (Str×V),(eS f v fs).lookup g=if g=f then some v else fs.lookup g
 |[]=>by
  show List.lookup g [(f,v)]=_;by_cases h:g=f
  .have hb:(g==f)=true:=beq_iff_eq.mpr h;simp only[List.lookup,hb,if_pos h]
  .have hb:(g==f)=false:=beq_eq_false_iff_ne.mpr h;simp only[List.lookup,hb,if_neg h]
 | (k,x)::r=>by
  have ih:=Pq f g v r;rw[show eS f v ((k,x)::r)=(if k=f then(k,v)::r else(k,x)::eS f v r) from rfl];by_cases hk:k=f
  .rw[if_pos hk];by_cases h:g=k
   .have hb:(g==k)=true:=beq_iff_eq.mpr h;simp only[List.lookup,hb,if_pos (h.trans hk)]
   .have hb:(g==k)=false:=beq_eq_false_iff_ne.mpr h;simp only[List.lookup,hb,if_neg (λe:g=f=>h (e.trans hk.symm))]
  .rw[if_neg hk];by_cases h:g=k
   .have hb:(g==k)=true:=beq_iff_eq.mpr h;simp only[List.lookup,hb,if_neg (λe:g=f=>hk (h.symm.trans e))]
   .have hb:(g==k)=false:=beq_eq_false_iff_ne.mpr h;simp only[List.lookup,hb];exact ih
theorem Cd(f:Str)(v:V):∀fs:List (Str×V),f∈(eS f v fs).map (·.1)/\∀g,g∈fs.map (·.1)->g∈(eS f v fs).map (·.1)
 |[]=>⟨by simp[eS],λg h=>by simp at h⟩
 | (k,x)::r=>by
  obtain⟨i1,i2⟩:=Cd f v r;rw[show eS f v ((k,x)::r)=(if k=f then(k,v)::r else(k,x)::eS f v r) from rfl];by_cases hk:k=f
  .rw[if_pos hk];subst hk;exact⟨by simp,λg h=>by simpa using h⟩
  .rw[if_neg hk];refine⟨?_,λg h=>?_⟩
   .rw[List.map_cons];exact List.mem_cons_of_mem _ i1
   .rw[List.map_cons]at h ⊢;rcases List.mem_cons.mp h with e|e
    .exact List.mem_cons.mpr (.inl e)
    .exact List.mem_cons_of_mem _ (i2 g e)
theorem Pk(f:Str)(v:V):∀fs:List (Str×V),(eS f v fs).length<=fs.length+1
 |[]=>by simp[eS]
 | (k,x)::r=>by
  have ih:=Pk f v r;rw[show eS f v ((k,x)::r)=(if k=f then(k,v)::r else(k,x)::eS f v r) from rfl];by_cases hk:k=f
  .rw[if_pos hk,List.length_cons,List.length_cons];omega
  .rw[if_neg hk,List.length_cons,List.length_cons];omega
theorem fA.some_of{v:V}{o:Option Value}(r:fA (some v) o):∃u,o=some u/\RelV v u:=by
 cases o with
 |none=>exact(show False from r).elim|some u=>exact⟨u,rfl,r⟩
theorem fA.none_of{o:Option Value}(r:fA none o):o=none:=by
 cases o with
 |none=>rfl|some u=>exact(show False from r).elim
theorem FQ{v:V}{u:Value}(r:RelV v u):W.handedIn u=true:=by
 cases v with
 |aB=>cases(show u=Value.none from r);rfl|bl b=>cases(show u=Value.bool b from r);rfl|int i=>obtain⟨t,e⟩:=(show∃t,u=Value.int i t from r);cases e;rfl|str x=>obtain⟨t,e⟩:=(show∃t,u=Value.str x t from r);cases e;rfl|gJ b=>obtain⟨t,e⟩:=(show∃t,u=Value.bytes b t from r);cases e;rfl|sO b=>obtain⟨t,e⟩:=(show∃t,u=Value.float b t from r);cases e;rfl|ref a=>cases(show u=Value.ref a from r);rfl|ty n=>cases(show u=Value.type n from r);rfl
section
variable {P:Program}{w:World}{H H':Hp}{h h':Heap}{a C dx:Addr}{fs fs':List (Str×V)}
theorem sh(aN:cJ P w H h)(e:H a=some (.ins C dx fs)):∃mA,rY h a dx C mA/\(∀f,fA (fs.lookup f) (mA f))/\PySem.Within mA (fs.map (·.1))/\fs.length<=1000/\H dx=some (.own a):=by obtain⟨d,z,ne,ob,mA,n,r,q⟩:=(show cQ P w H h a (.ins C dx fs) from aN a _ e);exact⟨mA,⟨ob,n,ne⟩,r,q,z,d⟩
end
structure hG(K:W.Frag)(C:Addr):Prop where
 pg:W.plainGet K C Str.empty=true
 hd:W.hasDictIn K C=true
 po:W.plainOver K C=true
 sa:W.findIn K (.ref C) "__setattr__"=some (some (.builtin "object.__setattr__"))
theorem hG.get{K:W.Frag}{C:Addr}(c:hG K C)(f:Str):W.plainGet K C f=true:=c.pg
def rX(K:W.Frag)(C:Addr)(f:Str):Prop:=W.findIn K (.ref C) f=some none
theorem rX.g7{K:W.Frag}{C:Addr}{f:Str}(n:rX K C f):W.takerIn K C f=some none:=by unfold W.takerIn;rw[show W.findIn K (.ref C) f=some none from n];rfl
structure Meth(K:W.Frag)(C:Addr)(m:Str)(f:Addr):Prop where
 at_:W.findIn K (.ref C) m=some (some (.ref f))
 fn:W.isFn K (.ref f)=true
 kp:W.keepIn K (.ref f)=true
section
variable {X:Cx}{pins:List (Addr×Obj)}{U:St}{H:Hp}{s:Shared}{a C dx:Addr}{fs:List (Str×V)}{f:Str}{v:V}{A:Around}{E:Value->Shared->Prop}
theorem FH{b:Bool}{Q:Value->Shared->Prop}(I:Inv X pins U H s)(e:H a=some (.ins C dx fs))(c:hG X.K C)(n:rX X.K C f)(l:fs.lookup f=some v)
  (h:∀u s',Inv X pins U H s'->RelV v u->Q u s'):wpAny (model X.prog X.w) A (getAttr (.ref a) f b) Q E s:=by
 obtain⟨mA,O,r,_,_,_⟩:=sh I.aN e;obtain⟨u,hu,ru⟩:=fA.some_of (v:=v) (o:=mA f) (by rw[<- l];exact r f);exact FF I.cB O (c.get f) c.hd n hu (FQ ru) (h u _ (I.tok _) ru)
theorem Oo{m:Str}{g:Addr}{pl:Sem Bool}{Q:Value×List Value->Shared->Prop}(I:Inv X pins U H s)(e:H a=some (.ins C dx fs))(c:hG X.K C)(k:Meth X.K C m g)(l:fs.lookup m=none)
  (h:Q (.ref g,[.ref a]) s):wpAny (model X.prog X.w) A (getMethod (.ref a) m pl) Q E s:=by
 obtain⟨mA,O,r,_,_,_⟩:=sh I.aN e;have hn:mA m=none:=fA.none_of (by rw[<- l];exact r m);exact FG I.cB O (c.get m) k.at_ k.fn hn h
theorem YT{y:V}{u:Value}{Q:Unit->Shared->Prop}(I:Inv X pins U H s)(e:H a=some (.ins C dx fs))(c:hG X.K C)(n:rX X.K C f)(hl:fs.length<1000)(ry:RelV y u)
  (h:∀s',Inv X pins U (aR H a (.ins C dx (eS f y fs))) s'->Q () s'):wpAny (model X.prog X.w) A (setAttr (.ref a) f u) Q E s:=by
 obtain⟨mA,O,r,wi,_,ho⟩:=sh I.aN e;have hz:(fs.map (·.1)).length<=sizeLine:=by rw[List.length_map,sizeLine_eq];omega
 refine YS I.cB O c.sa c.po n.g7 c.hd wi hz λh' O' sb=>h _ ?_;have hd:∃o,h'.get? dx=some o:=let ⟨o,_,_,e',_⟩:=O'.ns;⟨o,e'⟩;refine I.write (x:=a) (e:=dx) (by rw[e];exact True.intro) (.inr ho) (λb q hb z=>(sb.2 b hb).trans z) hd ?_;refine⟨by rw[bP O.ne];exact ho,?_,O.ne,O'.obj,_,O'.ns,λg=>?_,λg hg=>?_⟩
 .have:=Pk f y fs;omega
 .show fA ((eS f y fs).lookup g) (if g=f then some u else mA g);rw[Pq];by_cases q:g=f
  .rw[if_pos q,if_pos q];exact ry
  .rw[if_neg q,if_neg q];exact r g
 .by_cases q:g=f
  .rw[q];exact(Cd f y fs).1
  .refine(Cd f y fs).2 g (wi g λz=>hg ?_);show(if g=f then some u else mA g)=none;rw[if_neg q];exact z
theorem Inv.made(I:Inv X pins U H s):Inv X pins U (aR (aR H s.heap.objs.size (.own (s.heap.objs.size+1))) (s.heap.objs.size+1) (.ins C s.heap.objs.size []))
  { s with heap:=(s.heap.push W.emptyDict).push (W.instObj C s.heap.objs.size) }:=by
 have e1:(s.heap.push W.emptyDict).get? s.heap.objs.size=some W.emptyDict:=Heap.get?_push_size s.heap rfl;have e2:((s.heap.push W.emptyDict).push (W.instObj C s.heap.objs.size)).get? (s.heap.objs.size+1)=some (W.instObj C s.heap.objs.size):=by have:=Heap.get?_push_size (s.heap.push W.emptyDict) (o:=W.instObj C s.heap.objs.size) rfl;rwa [Heap.size_push]at this
 have e3:(s.heap.push W.emptyDict).Ns s.heap.objs.size (λ_=>none):=⟨W.emptyDict,#[],_,e1,rfl,(λe he=>absurd he (by simp)),λ_=>rfl⟩;have I1:=I.laid (a:=s.heap.objs.size) (o:=.own (s.heap.objs.size+1)) (h':=s.heap.push W.emptyDict) (t':=s.toks) (λb u q=>Heap.get?_push_of_some _ q) (Nat.le_refl _) ⟨_,e1⟩;refine I1.laid (a:=s.heap.objs.size+1) (o:=.ins C s.heap.objs.size []) (t':=s.toks) (λb u q=>Heap.get?_push_of_some _ q) (Nat.le_of_eq (Heap.size_push _ _)) ?_;have ne:s.heap.objs.size≠s.heap.objs.size+1:=Nat.ne_of_lt (Nat.lt_succ_self _);refine⟨by rw[bP ne,fQ],Nat.zero_le _,ne,e2,λ_=>none,(Heap.Ns1.of_empty e3).at λo q=>Heap.get?_push_of_some _ q,λ_=>True.intro,λy hy=>absurd rfl hy⟩
theorem Xk{prog:Program}{w:World}{env:Env}{e:Expr}{f:Str}{pos:Pos}{s:Shared}{Q:Value->Shared->Prop}(hb:attributeBase e f env (eval e env)=eval e env)
  (h:wpAny (model prog w) A (eval e env) (λo s₁=>wpAny (model prog w) A (getAttr o f true) Q E s₁) E s):wpAny (model prog w) A (eval (.Attribute e f pos) env) Q E s:=
 Attribute_any_ h (by rw[arm_eval_Attribute,hb])
end
def b6(K:W.Frag)(ta:TE)(f:Str):TE:=λU H Q=>ta U H λx H1=>∃a C dx fs v,x = .ref a/\H1 a=some (.ins C dx fs)/\hG K C/\rX K C f/\fs.lookup f=some v/\Q v H1
def WE(K:W.Frag)(ta tv:TE)(f:Str):TS:=λD U H=>tv U H λy H1=>ta U H1 λx H2=>∃a C dx fs,x = .ref a/\H2 a=some (.ins C dx fs)/\hG K C/\rX K C f/\fs.length<1000 /\
 D.nx U (aR H2 a (.ins C dx (eS f y fs)))
section
variable {X:Cx}{o e value:Expr}{f:Str}{pos pos' tpos:Pos}{ta tv:TE}
theorem MI(he:PE X e ta)(hb:attributeBase e f X.env (eval e X.env)=eval e X.env):PE X (.Attribute e f pos) (b6 X.K ta f):=by intro pins s U H Q I h;refine Xk hb (aM (he pins s U H _ I h) λu s1 ⟨x,H1,I1,rx,a,C,dx,fs,v,ex,ea,c,n,l,q⟩=>?_);subst ex;obtain rfl:u=Value.ref a:=rx;exact FH I1 ea c n l λu' s2 I2 ru=>⟨v,H1,I2,ru,q⟩
theorem NV(ha:PE X o ta)(hv:PE X value tv)(hs:swapsWith value (some (.Attribute o f pos')) pos.line X.env=pure false):PS X (.Assign [.Attribute o f pos'] value pos) (WE X.K ta tv f):=by intro pins s U H D I h;refine plainObj_wpAny_Assign_Attribute (aM (hv pins s U H _ I h) λu s1 ⟨y,H1,I1,ry,q⟩=>aM (ha pins s1 U H1 _ I1 q) λov s2 ⟨x,H2,I2,rx,a,C,dx,fs,ex,ea,c,n,l,q2⟩=>?_) hs;subst ex;obtain rfl:ov=Value.ref a:=rx;exact YT I2 ea c n l ry λs3 I3=>⟨U,_,I3,q2⟩
end
section
variable {X:Cx}{pins:List (Addr×Obj)}{U:St}{H:Hp}{s:Shared}{A:Around}{E:Value->Shared->Prop}{Q:Value->Shared->Prop}{c:Value}{b:Bool}
inductive hV(K:W.Frag)(H:Hp):V->Value->Prop where
 |aB:hV K H .aB (.type "NoneType")
 |bl (x:Bool):hV K H (.bl x) (.type "bool")
 |int (i:Int):hV K H (.int i) (.type "int")
 |str (x:Str):hV K H (.str x) (.type "str")
 |sO (x:UInt64):hV K H (.sO x) (.type "float")
 |lst {a:Addr} {xs:List V} (e:H a=some (.lst xs)):hV K H (.ref a) (.type "list")
 |cT {a:Addr} {o:Obj} {xs:List V} (e:H a=some (.cT o (.lst xs))):hV K H (.ref a) (.type "list")
 |tup {a:Addr} {xs:List V} (e:H a=some (.tup xs)):hV K H (.ref a) (.type "tuple")
 |dK {a:Addr} {kvs:List (aK×V)} (e:H a=some (.dK kvs)):hV K H (.ref a) (.type "dict")
 |dT {a:Addr} {kvs:List (List aK×V)} (e:H a=some (.dT kvs)):hV K H (.ref a) (.type "dict")
 |ins {a C dx:Addr} {fs:List (Str×V)} (e:H a=some (.ins C dx fs)) (cl:hG K C) (ha:W.findIn K (.ref C) "__class__"=some (some (.builtin "object.__class__")))
  (hn:W.specialIn K (.builtin "object.__class__") "__get__"=some (some (.builtin "getset_descriptor.__get__"))) (htk:W.takesIn K (.builtin "object.__class__")=some true)
  (hm:W.mroIn K C (.type "object")=some true):hV K H (.ref a) (.ref C)
theorem GV{x:V}{u t:Value}(I:Inv X pins U H s)(rx:RelV x u)(ty:hV X.K H x t)(e:W.kitOne X.K t c=some b)(h:∀tk,Q (.bool b) { s with toks:=tk }) :
  wpAny (model X.prog X.w) A (call (.builtin "isinstance") [u,c]) Q E s:=by
 cases ty with
 |aB=>cases(show u=Value.none from rx);exact W.kia_one W.kitx_none I.cB True.intro e (λz=>nomatch z) h|bl y=>cases(show u=Value.bool y from rx);exact W.kia_one W.kitx_bool I.cB True.intro e (λz=>nomatch z) h|int i=>obtain⟨t,q⟩:=(show∃t,u=Value.int i t from rx);cases q;exact W.kia_one W.kitx_int I.cB True.intro e (λz=>nomatch z) h|str y=>obtain⟨t,q⟩:=(show∃t,u=Value.str y t from rx);cases q;exact W.kia_one W.kitx_str I.cB True.intro e (λz=>nomatch z) h|sO y=>obtain⟨t,q⟩:=(show∃t,u=Value.float y t from rx);cases q;exact W.kia_one W.kitx_float I.cB True.intro e (λz=>nomatch z) h|@lst a xs ea=>cases(show u=Value.ref a from rx);obtain⟨_,_,n,_,h1⟩:=(show cQ X.prog X.w H s.heap a (.lst xs) from I.aN a _ ea);exact W.kia_one W.kitx_list I.cB ⟨_,h1,rfl⟩ e (λz=>nomatch z) h
 |@cT a ob xs ea=>cases(show u=Value.ref a from rx);obtain⟨_,_,_,n,_,h1⟩:=(show cQ X.prog X.w H s.heap a (.cT ob (.lst xs)) from I.aN a _ ea);exact W.kia_one W.kitx_list I.cB ⟨_,h1,rfl⟩ e (λz=>nomatch z) h
 |@tup a xs ea=>cases(show u=Value.ref a from rx);obtain⟨_,_,_,p⟩:=(show cQ X.prog X.w H s.heap a (.tup xs) from I.aN a _ ea);obtain⟨o,h1,h2,_⟩:=p;exact W.kia_one W.kitx_tuple I.cB ⟨o,h1,h2⟩ e (λz=>nomatch z) h
 |@dK a kvs ea=>cases(show u=Value.ref a from rx);obtain⟨_,_,vs,_,p⟩:=(show cQ X.prog X.w H s.heap a (.dK kvs) from I.aN a _ ea);obtain⟨o,es,ep,h1,h2,_⟩:=p;exact W.kia_one W.kitx_dict I.cB ⟨o,h1,h2.1⟩ e (λz=>nomatch z) h
 |@dT a kvs ea=>cases(show u=Value.ref a from rx);obtain⟨_,_,xs,_,o,es,ep,h1,h2,_⟩:=(show cQ X.prog X.w H s.heap a (.dT kvs) from I.aN a _ ea);exact W.kia_one W.kitx_dict I.cB ⟨o,h1,h2.1⟩ e (λz=>nomatch z) h
 |@ins a C dx fs ea cl ha hn htk hm=>cases(show u=Value.ref a from rx);obtain⟨mA,O,_⟩:=sh I.aN ea;obtain⟨od,J,_⟩:=O.look;exact W.kia_one (W.kitx_own (cl.get _) cl.hd ha hn htk hm) I.cB J e (λz=>nomatch z) h
end
structure cR(k:Nat)(A:Around):Prop where
 hd:A.handled=none
 dp:A.depth+3*k+5<recursionLimit
 un:A.units+16*k+200<cLine
theorem cR.mono{j k:Nat}{A:Around}(r:cR k A)(h:j<=k):cR j A:=⟨r.hd,by have:=r.dp;omega,by have:=r.un;omega⟩
theorem cR.deeper{k:Nat}{A:Around}(r:cR (k+1) A)(env:Env):cR k (A.deeper env):=
 ⟨r.hd,by have:=r.dp;show A.depth+1+3*k+5<_;omega,by have:=r.un;show A.units+3+16*k+200<_;omega⟩
theorem IF{A:Around}{C:Addr}{us:List Value}{kw:List (Str×Value)}:(A.under (.builtin "type.__call__" ⟨.ref C::us,kw⟩)).depth=A.depth+1:=by first|rfl|simp[Around.under,Code.weight,Code.isCreation,Code.isGuard,Code.isCaller,Code.frames,Code.isFrame,guardIds]
theorem IH{A:Around}{C:Addr}{us:List Value}{kw:List (Str×Value)}:(A.under (.builtin "type.__call__" ⟨.ref C::us,kw⟩)).units=A.units+1:=by first|rfl|simp[Around.under,Code.cUnits,Code.frames,Code.isFrame]
theorem cR.make{k:Nat}{A:Around}(r:cR (k+1) A)(C:Addr)(us:List Value)(kw:List (Str×Value)):cR k (A.under (.builtin "type.__call__" ⟨.ref C::us,kw⟩)):=
 ⟨r.hd,by have:=r.dp;rw[IF];omega,by have:=r.un;rw[IH];omega⟩
theorem cR.depth{k:Nat}{A:Around}(r:cR k A):A.depth<recursionLimit:=by have:=r.dp;omega
theorem cR.units{k:Nat}{A:Around}(r:cR k A):A.units+64<cLine:=by have:=r.un;omega
def rQ:TA:=λ_ H Q=>Q [] H
def yt(ta:TE)(tr:TA):TA:=λU H Q=>ta U H λx H1=>tr U H1 λxs H2=>Q (x::xs) H2
section
variable {X:Cx}{e:Expr}{es:List Expr}{te:TE}{t:TA}{pos:Pos}
theorem mS:PA X [] rQ:=λ_ _ _ _ H Q I h=>Calls.spliced_nil ⟨[],H,I,.nil,h⟩
theorem iU(ha:PE X e te)(hr:PA X es t)(hs:starEach (e::es) X.env=(false,eval e X.env)::starEach es X.env:=by rfl):PA X (e::es) (yt te t):=by intro pos pins s U H Q I h;rw[hs];show wpAny _ _ (spliced ((false,eval e X.env)::backTo pos (starEach es X.env))) _ _ s;refine Calls.spliced_cons (aM (ha pins s U H _ I h) λu s1 ⟨x,H1,I1,r1,q1⟩=>?_);exact aM (hr pos pins s1 U H1 _ I1 q1) λus s2 ⟨xs,H2,I2,r2,q2⟩=>⟨x::xs,H2,I2,.cons r1 r2,q2⟩
def f9(t:TA):TE:=λU H Q=>t U H λxs H1=>xs.length<=sizeLine/\∀p,H1 p=none->Q (.ref p) (aR H1 p (.tup xs))
def c6(t:TA):TE:=λU H Q=>t U H λxs H1=>xs.length<=sizeLine/\∀p,H1 p=none->Q (.ref p) (aR H1 p (.lst xs))
theorem MV{x1}(h:PA X es t):PE X (.Tuple es x1 pos) (f9 t):=by intro pins s U H Q I hq;refine wpAny_Tuple_spliced (aM (h pos pins s U H _ I hq) λus s1 ⟨xs,H1,I1,r,z,q⟩=>⟨by rw[<- r.length];exact z,?_⟩);have hf:H1 s1.heap.objs.size=none:=I1.aN.fresh (Nat.le_refl _);refine⟨.ref s1.heap.objs.size,aR H1 s1.heap.objs.size (.tup xs),I1.laid (t':=s1.toks) (λb u e=>Heap.get?_push_of_some _ e) (Nat.le_refl _) ?_,rfl,q _ hf⟩;exact⟨z,us,r,⟨_,Heap.get?_push_size _ rfl,rfl,_,rfl⟩⟩
theorem ML(h:PA X es t):PE X (.List es pos) (c6 t):=by intro pins s U H Q I hq;refine wpAny_List_spliced (aM (h pos pins s U H _ I hq) λus s1 ⟨xs,H1,I1,r,z,q⟩=>⟨by rw[<- r.length];exact z,?_⟩);have hf:H1 s1.heap.objs.size=none:=I1.aN.fresh (Nat.le_refl _);refine⟨.ref s1.heap.objs.size,aR H1 s1.heap.objs.size (.lst xs),I1.laid (t':=s1.toks) (λb u e=>Heap.get?_push_of_some _ e) (Nat.le_refl _) ?_,rfl,q _ hf⟩;exact⟨z,us,0,r,Heap.get?_push_size _ rfl⟩
end
abbrev Sp:=List V->Hp->VK->XK->Prop
abbrev gH:=List Env->Hp->Shared->XK->Value->Shared->Prop
structure rV(P:Program)(w:World)(K:W.Frag)(mg:Str->Option Value)(base:Heap)(A:Around)(outer:List Env)(s:Shared)(H:Hp):Prop where
 frames:A.frames=some outer
 mod:Mod K mg base
 bs:∀b o,base.get? b=some o->s.heap.get? b=some o/\H b=none
 nN:base.objs.size<=s.heap.objs.size
 iP:s.heap.FunFrames base outer
 wD:∀b∈fF outer,H b=none
 aN:cJ P w H s.heap
 bare:AllBare s.gens
def CE(outer:List Env)(P:Program)(w:World)(H:Hp)(s:Shared)(Q:VK)(u:Value)(s':Shared):Prop:=
 ∃v H',s'.os=s.os/\AllBare s'.gens/\Un (fF outer) [] H H' s.heap s'.heap/\cJ P w H' s'.heap/\RelV v u/\Q v H'
def CR(CX:gH)(outer:List Env)(P:Program)(w:World)(H:Hp)(s:Shared)(Q:VK)(E:XK)(r:Result)(s':Shared):Prop:=
 match r with
 |.ok (.ret u)=>CE outer P w H s Q u s'
 |.ok _=>False
 |.error e=>CX outer H s E e s'
structure dX(P:Program)(w:World)(K:W.Frag)(mg:Str->Option Value)(base:Heap)(CX:gH)(k:Nat)(f:Addr)(fd:FuncData)(ps:List Str)(sp:Sp):Prop where
 len:∀vs H Q E,sp vs H Q E->vs.length=ps.length
 run:∀(A:Around) (outer:List Env) (s:Shared) (H:Hp) (args:Args) (us:List Value) (vs:List V) (Q:VK) (E:XK),cR k A->rV P w K mg base A outer s H->BindsTo s fd args (ps.zip us)->Vals vs us->sp vs H Q E ->
  codeAny (model P w) A (.call (.ref f) args) (CR CX outer P w H s Q E) s
theorem dX.imp{P:Program}{w:World}{K:W.Frag}{mg:Str->Option Value}{base:Heap}{CX:gH}{k:Nat}{f:Addr}{fd:FuncData}{ps:List Str}{sp sp':Sp}(F:dX P w K mg base CX k f fd ps sp)
  (h:∀vs H Q E,sp' vs H Q E->sp vs H Q E):dX P w K mg base CX k f fd ps sp':=
 ⟨λvs H Q E q=>F.len vs H Q E (h _ _ _ _ q),λA outer s H args us vs Q E hr he hb hv hs=>F.run A outer s H args us vs Q E hr he hb hv (h _ _ _ _ hs)⟩
theorem rV.make{P:Program}{w:World}{K:W.Frag}{mg:Str->Option Value}{base:Heap}{A:Around}{outer:List Env}{s:Shared}{H:Hp}(e:rV P w K mg base A outer s H)(C:Addr)(us:List Value)(kw:List (Str×Value)) :
 rV P w K mg base (A.under (.builtin "type.__call__" ⟨.ref C::us,kw⟩)) outer s H:=⟨by first|exact e.frames|(simpa[Around.under,Code.envs,Code.isFrame,pushEnvs]using e.frames),e.mod,e.bs,e.nN,e.iP,e.wD,e.aN,e.bare⟩
section
variable {X:Cx}{pins:List (Addr×Obj)}{U:St}{H:Hp}{s s':Shared}
theorem Inv.Bg(I:Inv X pins U H s):rV X.prog X.w X.K X.mg X.base X.A X.stack s H:=
 ⟨I.ok.frames,I.ok.mod,I.bs,Nat.le_trans I.ok.nN I.sz,I.stack,I.Gy,I.aN,I.bare⟩
theorem Inv.after{Q:VK}{u:Value}(I:Inv X pins U H s)(h:CE X.stack X.prog X.w H s Q u s'):EP X pins U Q u s':=by obtain⟨v,H',os,bare,un,aN,r,q⟩:=h;obtain⟨hh,g,d,t,os'⟩:=s';obtain rfl:os'=s.os:=os;exact⟨v,H',I.call (h':=hh) (g':=g) (d':=d) (t':=t) (ch:=[]) un aN bare (λb z=>absurd z (by simp)),r,q⟩
end
def Vk(sp:Sp)(dvs:List V)(E:XK)(t:TA):TE:=λU H Q=>t U H λvs H1=>sp (vs++dvs) H1 Q E
def Vl(C:Addr)(sp:Sp)(dvs:List V)(E:XK)(t:TA):TE:=λU H Q=>t U H λvs H1=>∀x dx,H1 x=none->H1 dx=none->dx≠x ->
 sp (.ref x::(vs++dvs)) (aR (aR H1 dx (.own x)) x (.ins C dx [])) (λv H2=>v = .aB/\Q (.ref x) H2) E
def Binds(K:W.Frag)(fd:FuncData)(ps:List Str)(ds:List Value):Prop:=
 ∀(s:Shared) (us:List Value),K.In s.heap->(us++ds).length=ps.length->BindsTo s fd ⟨us,[]⟩ (ps.zip (us++ds))
theorem Binds.all{K:W.Frag}{fd:FuncData}{ps:List Str}(h:∀us:List Value,us.length=ps.length->bindArgs fd ⟨us,[]⟩=pure (ps.zip us)):Binds K fd ps []:=λs us _ hl=>by rw[List.append_nil]at hl ⊢;exact .of_eq (h us hl)
def lA(CX:gH)(X:Cx)(E:XK):Prop:=∀(pins:List (Addr×Obj)) (U:St) (H:Hp) (s:Shared) (e:Value) (s':Shared),Inv X pins U H s->CX X.stack H s E e s'->X.xe e s'
section
variable {X:Cx}{CX:gH}{k:Nat}{f C:Addr}{fd:FuncData}{ps:List Str}{sp:Sp}{dvs:List V}{ds:List Value}{E:XK}{x m:Str}{p pos apos:Pos}{e o:Expr}{es:List Expr}{ta:TE}{t:TA}
theorem Gq{pins:List (Addr×Obj)}{U:St}{H:Hp}{s:Shared}{Q:VK}{us:List Value}{vs:List V}(F:dX X.prog X.w X.K X.mg X.base CX k f fd ps sp)(hr:cR k X.A)(hb:Binds X.K fd ps ds)(hd:Vals dvs ds)(hx:lA CX X E)
  (I:Inv X pins U H s) (r:Vals vs us) (h:sp (vs++dvs) H Q E):wpAny (model X.prog X.w) X.A (call (.ref f) us) (EP X pins U Q) X.xe s:=by
 have r2:Vals (vs++dvs) (us++ds):=r.append hd;have hl:(us++ds).length=ps.length:=by rw[<- r2.length];exact F.len _ _ _ _ h
 refine wpAny_call (codeAny_mono (F.run X.A X.stack s H ⟨us,[]⟩ (us++ds) (vs++dvs) Q E hr I.Bg (hb s us I.cB hl) r2 h) λr s' hq=>?_);cases r with
 |error e=>exact hx pins U H s e s' I hq|ok fl=>
  cases fl with
  |ret u=>exact I.after hq|next=>exact False.elim hq|brk=>exact False.elim hq|cont=>exact False.elim hq
theorem MA(F:dX X.prog X.w X.K X.mg X.base CX k f fd ps sp)(hr:cR k X.A)(hg:Gl X x)(hm:X.mg x=some (.ref f))(hk:W.keepIn X.K (.ref f)=true)(hb:Binds X.K fd ps ds)(hd:Vals dvs ds)(hx:lA CX X E)
  (ha:PA X (e::es) t) (hdb:(x==("__debug__":Str))=false:=by decide) (he:starEach (e::es) X.env=(false,eval e X.env)::starEach es X.env:=by rfl) (hpl:(backTo pos (starEach es X.env)).any (·.1)=false:=by rfl) :
  PE X (.Call (.Name x p) (e::es) [] pos) (Vk sp dvs E t):=by
 intro pins s U H Q I h;refine wpAny_Call_Name_kw (gr I hg hm ?_ hdb);refine W.callWith_K (h₀:=X.base) I.ok.mod.wI hk (aM (ha pos pins s U H _ I h) λus s1 ⟨vs,H1,I1,r,q⟩=>⟨I1.cB,?_⟩) he hpl;exact Gq F hr hb hd hx I1 r q
theorem MB(F:dX X.prog X.w X.K X.mg X.base CX k f fd ps sp)(hr:cR k X.A)(hg:Gl X x)(hm:X.mg x=some (.ref f))(hk:W.keepIn X.K (.ref f)=true)(hb:Binds X.K fd ps ds)(hd:Vals dvs ds)(hx:lA CX X E)
  (hdb:(x==("__debug__":Str))=false:=by decide):PE X (.Call (.Name x p) [] [] pos) (Vk sp dvs E rQ):=by
 intro pins s U H Q I h;refine wpAny_Call_Name_kw (gr I hg hm ?_ hdb);exact W.callWith_K0 I.cB hk (Gq (us:=[]) F hr hb hd hx I .nil h)
structure Mk(K:W.Frag)(C f:Addr):Prop where
 makes:W.makesIn K C=true
 init:W.findIn K (.ref C) "__init__"=some (some (.ref f))
 fn:W.isFn K (.ref f)=true
 kp:W.keepIn K (.ref C)=true
theorem Uv{pins:List (Addr×Obj)}{U:St}{H:Hp}{s:Shared}{Q:VK}{us:List Value}{vs:List V}(M:Mk X.K C f)(F:dX X.prog X.w X.K X.mg X.base CX k f fd ps sp)(hr:cR (k+1) X.A)(hb:Binds X.K fd ps ds)(hd:Vals dvs ds)
  (hx:lA CX X E) (I:Inv X pins U H s) (r:Vals vs us)
  (h:∀x dx,H x=none->H dx=none->dx≠x->sp (.ref x::(vs++dvs)) (aR (aR H dx (.own x)) x (.ins C dx [])) (λv H2=>v = .aB/\Q (.ref x) H2) E) :
  wpAny (model X.prog X.w) X.A (call (.ref C) us) (EP X pins U Q) X.xe s:=by
 have hq:=h (s.heap.objs.size+1) s.heap.objs.size (I.aN.fresh (Nat.le_succ _)) (I.aN.fresh (Nat.le_refl _)) (Nat.ne_of_lt (Nat.lt_succ_self _));have I2:=Inv.made (C:=C) I;have r2:Vals (V.ref (s.heap.objs.size+1)::(vs++dvs)) (Value.ref (s.heap.objs.size+1)::(us++ds)):=.cons rfl (r.append hd);have hl:(Value.ref (s.heap.objs.size+1)::us++ds).length=ps.length:=by have e:=r2.length;rw[F.len _ _ _ _ hq]at e;exact e.symm
 refine wpAny_call (IG (f:=f) I.cB M.makes M.init (beq_iff_eq.mp M.fn) (codeAny_mono (F.run _ X.stack _ _ ⟨Value.ref (s.heap.objs.size+1)::us,[]⟩ (Value.ref (s.heap.objs.size+1)::(us++ds)) _ _ E (hr.make C us [])
  (I2.Bg.make C us []) (hb _ (Value.ref (s.heap.objs.size+1)::us) I2.cB hl) r2 hq) λr s' hq'=>?_))
 cases r with
 |error e=>exact hx pins U _ _ e s' I2 hq'|ok fl=>
  cases fl with
  |ret u=>obtain⟨v,H',I3,rv,ev,q3⟩:=I2.after hq';subst ev;exact⟨rv,⟨V.ref (s.heap.objs.size+1),H',I3,rfl,q3⟩⟩
  |next=>exact False.elim hq'|brk=>exact False.elim hq'|cont=>exact False.elim hq'
theorem MM(M:Mk X.K C f)(F:dX X.prog X.w X.K X.mg X.base CX k f fd ps sp)(hr:cR (k+1) X.A)(hg:Gl X x)(hm:X.mg x=some (.ref C))(hb:Binds X.K fd ps ds)(hd:Vals dvs ds)(hx:lA CX X E)
  (ha:PA X (e::es) t) (hdb:(x==("__debug__":Str))=false:=by decide) (he:starEach (e::es) X.env=(false,eval e X.env)::starEach es X.env:=by rfl) (hpl:(backTo pos (starEach es X.env)).any (·.1)=false:=by rfl) :
  PE X (.Call (.Name x p) (e::es) [] pos) (Vl C sp dvs E t):=by
 intro pins s U H Q I h;refine wpAny_Call_Name_kw (gr I hg hm ?_ hdb);refine W.callWith_K (h₀:=X.base) I.ok.mod.wI M.kp (aM (ha pos pins s U H _ I h) λus s1 ⟨vs,H1,I1,r,q⟩=>⟨I1.cB,?_⟩) he hpl;exact Uv M F hr hb hd hx I1 r q
theorem MN(M:Mk X.K C f)(F:dX X.prog X.w X.K X.mg X.base CX k f fd ps sp)(hr:cR (k+1) X.A)(hg:Gl X x)(hm:X.mg x=some (.ref C))(hb:Binds X.K fd ps ds)(hd:Vals dvs ds)(hx:lA CX X E)
  (hdb:(x==("__debug__":Str))=false:=by decide):PE X (.Call (.Name x p) [] [] pos) (Vl C sp dvs E rQ):=by
 intro pins s U H Q I h;refine wpAny_Call_Name_kw (gr I hg hm ?_ hdb);exact W.callWith_K0 I.cB M.kp (Uv (us:=[]) M F hr hb hd hx I .nil h)
end
def PK(X:Cx)(kws:List Keyword)(t:TA):Prop:=
 ∀(pos:Pos) (pins:List (Addr×Obj)) (s:Shared) (U:St) (H:Hp) (Q:List V->Hp->Prop),Inv X pins U H s->t U H Q->wpAny (model X.prog X.w) X.A (evalAll ((backToKw pos (keywordEach kws X.env)).map (·.2))) (AP X pins U Q) X.xe s
section
variable {X:Cx}{CX:gH}{k:Nat}{f C:Addr}{fd:FuncData}{ps ks:List Str}{sp:Sp}{E:XK}{x m:Str}{p pos apos kpos:Pos}{e o:Expr}{es:List Expr}{kws:List Keyword}{te ta:TE}{t tk:TA}{nm:Option Str}
theorem NJ:PK X [] rQ:=λ_ _ _ _ H Q I h=>wpAny_evalAll_nil ⟨[],H,I,.nil,h⟩
theorem NI(ha:PE X e te)(hr:PK X kws t):PK X (⟨nm,e,kpos⟩::kws) (yt te t):=by intro pos pins s U H Q I h;show wpAny _ _ (evalAll ((do let v <- eval e X.env;standAt pos;pure v)::(backToKw pos (keywordEach kws X.env)).map (·.2))) _ _ s;refine wpAny_evalAll_cons (wpAny_bind (aM (ha pins s U H _ I h) λu s1 ⟨x,H1,I1,r1,q1⟩=>wpAny_bind (wpAny_standAt (wpAny_pure ?_))));exact aM (hr pos pins s1 U H1 _ I1 q1) λus s2 ⟨xs,H2,I2,r2,q2⟩=>⟨x::xs,H2,I2,.cons r1 r2,q2⟩
variable {g:List Value->List Value->List Value}{gV:List V->List V->List V}
end
structure bG(N P:List Str)(sc:Scope):Prop where
 kind:sc.kind = .function
 co:sc.isCoroutine=false
 gen:sc.isGenerator=false
 nd:N.Nodup
 pre:N.take P.length=P
 par:∀x∈P,sc.names.lookup x=some .local\/sc.names.lookup x=some .cell
 JD:∀y∈sc.names,y.2 ≠ .free
theorem Ks{kindOf:Str->Option NameKind}{x:Str}:∀{binds:List (Str×Value)} {m:Str->Option Value},(∀v,(x,v)∉binds)->bindL kindOf binds m x=m x
 |[],_,_=>rfl
 | (n,v)::r,m,h=>by
  unfold bindL;rw[Ks λw hw=>h w (List.mem_cons_of_mem _ hw)];split
  .have:x≠n:=by rintro rfl;exact h v List.mem_cons_self
   simp[this]
  .rfl
theorem Kq{kindOf:Str->Option NameKind}{x:Str}:∀{binds:List (Str×Value)} {m:Str->Option Value},(∀v,(x,v)∉binds)->bindC kindOf binds m x=m x
 |[],_,_=>rfl
 | (n,v)::r,m,h=>by
  unfold bindC;rw[Kq λw hw=>h w (List.mem_cons_of_mem _ hw)];split
  .rfl
  .have:x≠n:=by rintro rfl;exact h v List.mem_cons_self
   simp[this]
theorem Kr{kindOf:Str->Option NameKind}{x:Str}{v:Value}:∀{P:List Str} {vs:List Value} {i:Nat} {m:Str->Option Value},P.Nodup->P[i]?=some x->vs[i]?=some v->kindOf x=some .local ->
  bindL kindOf (P.zip vs) m x=some v
 |[],_,_,_,_,h,_,_=>by simp at h
 |_::_,[],_,_,_,_,h,_=>by simp at h
 |p::P,w::vs,0,m,nd,h1,h2,hk=>by simp at h1 h2;subst h1;subst h2;show bindL kindOf ((p,w)::P.zip vs) m p=_;unfold bindL;rw[Ks λv hv=>(List.nodup_cons.mp nd).1 (List.of_mem_zip hv).1,if_pos hk];simp
 |p::P,w::vs,i+1,m,nd,h1,h2,hk=>by show bindL kindOf ((p,w)::P.zip vs) m x=_;unfold bindL;exact Kr (i:=i) (List.nodup_cons.mp nd).2 (by simpa using h1) (by simpa using h2) hk
theorem Ko{kindOf:Str->Option NameKind}{x:Str}{v:Value}:∀{P:List Str} {vs:List Value} {i:Nat} {m:Str->Option Value},P.Nodup->P[i]?=some x->vs[i]?=some v->kindOf x≠some .local ->
  bindC kindOf (P.zip vs) m x=some v
 |[],_,_,_,_,h,_,_=>by simp at h
 |_::_,[],_,_,_,_,h,_=>by simp at h
 |p::P,w::vs,0,m,nd,h1,h2,hk=>by simp at h1 h2;subst h1;subst h2;show bindC kindOf ((p,w)::P.zip vs) m p=_;unfold bindC;rw[Kq λv hv=>(List.nodup_cons.mp nd).1 (List.of_mem_zip hv).1,if_neg hk];simp
 |p::P,w::vs,i+1,m,nd,h1,h2,hk=>by show bindC kindOf ((p,w)::P.zip vs) m x=_;unfold bindC;exact Ko (i:=i) (List.nodup_cons.mp nd).2 (by simpa using h1) (by simpa using h2) hk
def start(N:List Str)(vs:List V):St:=vs.map some++List.replicate (N.length-vs.length) none
def nR(CX:gH)(P:Program)(w:World)(K:W.Frag)(mg:Str->Option Value)(base:Heap)(N:List Str)(qual:Str)(scope:Scope)(f:Addr)(cd:Value)(A:Around)(outer:List Env)(s:Shared)(H:Hp)(E:XK):Cx where
 prog:=P
 w:=w
 K:=K
 mg:=mg
 base:=base
 A:=A.deeper (envOfC qual scope s.heap.objs.size f cd)
 N:=N
 s₀:=s
 H₀:=H
 env:=envOfC qual scope s.heap.objs.size f cd
 outer:=outer
 stack:=envOfC qual scope s.heap.objs.size f cd::outer
 ex:=[]
 calm:=true
 fn:=λ_=>true
 pn:=[]
 xe:=λe s'=>wpAny (model P w) (A.deeper (envOfC qual scope s.heap.objs.size f cd)) (leaving (envOfC qual scope s.heap.objs.size f cd) e) (λ_ s''=>CX outer H s E e s'') (λe' s''=>CX outer H s E e' s'') s'
theorem Lb{sc:Scope}{n:Nat}{x:Str}(h:sc.names.lookup x=some .cell):∃c,(cellsFrom n sc.names []).lookup x=some c:=by have q:=W.cellsFrom_some sc.names n [] (.inl h);exact Option.isSome_iff_exists.mp q
theorem GN{CX:gH}{P:Program}{w:World}{K:W.Frag}{mg:Str->Option Value}{base:Heap}{N ps:List Str}{qual:Str}{scope:Scope}{f:Addr}{cd:Value}{A:Around}{outer:List Env}{s s1:Shared}{H:Hp}{E:XK}{us:List Value}{vs:List V}
  (S:bG N ps scope) (hd:A.handled=none) (e0:rV P w K mg base A outer s H) (hl:vs.length=ps.length) (r:Vals vs us)
  (x:InCallC s s.heap.objs.size (bindL (envOfC qual scope s.heap.objs.size f cd).kindOf (ps.zip us) λ_=>none) (cellsFrom (s.heap.objs.size+1) scope.names []) (bindC (envOfC qual scope s.heap.objs.size f cd).kindOf (ps.zip us) λ_=>none) s1) :
  Inv (nR CX P w K mg base N qual scope f cd A outer s H E) [] (start N vs) H s1:=by
 have hpl:ps.length<=N.length:=by have:=congrArg List.length S.pre;rw[List.length_take]at this;omega
 obtain⟨h1,tk,rfl,hk⟩:=x.done;have noA:∀b:Addr,b∉(nR CX P w K mg base N qual scope f cd A outer s H E).ex:=λb z=>absurd (show b∈([]:List Addr) from z) (by simp);refine⟨⟨e0.mod,S.kind,rfl,rfl,Nat.le_refl _,λy z c h1 h2=>?_,λy hy=>?_,λy c _ h=>?_,λ_=>hd,Around.frames_deeper e0.frames,.inr ⟨rfl,rfl⟩,λb z=>absurd z (noA b),e0.bs,e0.nN,λb _ _=>noA b,λb z=>absurd z (noA b),e0.iP,e0.wD⟩,
  rfl,e0.bare,Un.kept hk,⟨_,x.toInCall.ns,λi y v h1 h2 h3=>?_⟩,λy c h=>⟨_,x.cell y c h⟩,e0.aN.fresh (Nat.le_refl _),λy c h=>?_,λp hp=>absurd (show p∈([]:List (Addr×Obj)) from hp) (by simp),e0.aN.kept hk,?_⟩
 .exact name_of_addr x.apart (PySem.mem_of_lookup h1) (PySem.mem_of_lookup h2)
 .have hy:scope.names.lookup y=some .cell\/scope.names.lookup y=some .free:=hy;rcases hy with hy|hy
  .exact Lb hy
  .exact absurd rfl (S.JD _ (PySem.mem_of_lookup hy))
 .exact Nat.le_of_lt (x.above y c (PySem.mem_of_lookup h))
 .have hi:i<vs.length:=by
   unfold start at h2;by_cases hi:i<vs.length
   .exact hi
   .rw[List.getElem?_append_right (by simpa using hi)]at h2;rw[List.getElem?_replicate]at h2;split at h2<;>cases h2
  have ha:vs[i]?=some v:=by
   unfold start at h2;rw[List.getElem?_append_left (by simpa using hi),List.getElem?_map]at h2;cases e:vs[i]? with
   |none=>rw[e]at h2;cases h2|some a=>rw[e]at h2;cases h2;rfl
  obtain⟨u,hu,rv⟩:=r.get ha;have hp:ps[i]?=some y:=by rw[<- S.pre,List.getElem?_take_of_lt (by omega)];exact h1
  have ndP:ps.Nodup:=by rw[<- S.pre];exact S.nd.sublist (List.take_sublist _ _)
  refine⟨u,rv,?_⟩;rcases S.par y (List.mem_of_getElem? hp)with k|k
  .exact .inl ⟨k,Kr ndP hp hu k⟩
  .obtain⟨c,e⟩:=Lb (n:=s.heap.objs.size+1) k;refine .inr ⟨.inl k,c,e,?_⟩;have q:=x.cell y c e;rw[Ko ndP hp hu (by show scope.names.lookup y≠_;rw[k];decide)]at q;exact q
 .exact e0.aN.fresh (Nat.le_of_lt (x.above y c (PySem.mem_of_lookup h)))
 .unfold start;show _=N.length;rw[List.length_append,List.length_map,List.length_replicate];omega
theorem EW{CX:gH}{P:Program}{w:World}{K:W.Frag}{mg:Str->Option Value}{base:Heap}{k:Nat}{f:Addr}{name qual:Str}{params:Arguments}{body:List Stmt}{scope:Scope}{dV kV doc pm cdv ct oc:Value}{an od:Option Addr}
  {osl:Array (Option Value)} {N ps:List Str} {sp:Sp} (lk:K.lookup f=some ⟨oc,od,.func (W.fnOf name qual params body scope dV kV doc pm an cdv ct),osl⟩) (hcd:W.codeIn K cdv qual=true) (S:bG N ps scope)
  (len:∀vs H Q E,sp vs H Q E->vs.length=ps.length)
  (hbody:∀(A:Around) (outer:List Env) (s:Shared) (H:Hp) (vs:List V) (Q:VK) (E:XK),cR k (A.deeper (envOfC qual scope s.heap.objs.size f cdv))->sp vs H Q E ->
   ∃t,kZ (nR CX P w K mg base N qual scope f cdv A outer s H E) body t/\t { nx:=λ_ H'=>Q .aB H',rt:=Q } (start N vs) H) :
  dX P w K mg base CX (k+1) f (W.fnOf name qual params body scope dV kV doc pm an cdv ct) ps sp:=by
 refine⟨len,λA outer s H args us vs Q E hr e0 hb r hsp=>?_⟩;have hl:=len _ _ _ _ hsp;have KX:K.In s.heap:=e0.mod.wI.keeps λb o e=>(e0.bs b o e).1;have lim:s.heap.NoLimit:=e0.mod.nolimit.keeps λb o e=>(e0.bs b o e).1;have hkind:∀y∈ps.zip us,scope.names.lookup y.1=some .local\/(scope.names.lookup y.1=some .cell/\((cellsFrom (s.heap.objs.size+1) scope.names []).lookup y.1).isSome=true):=λ⟨n,v⟩ hy=>by
  rcases S.par n (List.of_mem_zip hy).1 with q|q
  .exact .inl q
  .exact .inr ⟨q,W.cellsFrom_some _ _ _ (.inl q)⟩
 refine codeAny_call_function hr.depth (KX _ _ lk) rfl S.co S.gen rfl (W.codeRec_of KX hcd) (hb _ _ _ _ ?_);refine wpAny_newFunctionEnv_cells S.kind hkind λenv he s1 x=>?_;subst he;refine⟨lim.keeps x.toInCall.keep,codeAny_func ?_⟩;obtain⟨t,ht,hq⟩:=hbody A outer s H vs Q E (hr.deeper _) hsp;have I:Inv (nR CX P w K mg base N qual scope f cdv A outer s H E) [] (start N vs) H s1:=GN S hr.hd e0 hl r x;refine wpAny_mono (ht [] s1 (start N vs) H _ I hq) (λfl s' hs=>?_) λe s' hs=>hs;have aL:∀{U':St} {H':Hp} {v:V} {u:Value},Inv (nR CX P w K mg base N qual scope f cdv A outer s H E) [] U' H' s'->RelV v u->Q v H'->CE outer P w H s Q u s':=
  λ{U' H' v u} J rv q=>⟨v,H',J.os,J.bare,J.base,J.aN,rv,q⟩
 cases fl with
 |ret u=>obtain⟨v,U',H',J,rv,q⟩:=hs;exact aL J rv q
 |next=>obtain⟨U',H',J,q⟩:=hs;exact aL (v:=V.aB) (u:=Value.none) J rfl q
 |brk=>obtain⟨_,_,_,q⟩:=hs;exact False.elim q
 |cont=>obtain⟨_,_,_,q⟩:=hs;exact False.elim q
section
variable {X:Cx}{x:Str}{p pos:Pos}{e:Expr}{es:List Expr}{t:TA}{id T:String}{r:List V->Hp->VK->Prop}
def Vj(r:List V->Hp->VK->Prop)(t:TA):TE:=λU H Q=>t U H λvs H1=>r vs H1 Q
theorem wO(hc:eB X (.builtin id) r) (hg:Gl X x) (hm:X.mg x=none) (hv:bootBuiltins x=some (.builtin id)) (ha:PA X (e::es) t) (hn:x≠"__name__":=by decide) (hdb:(x==("__debug__":Str))=false:=by decide)
  (he:starEach (e::es) X.env=(false,eval e X.env)::starEach es X.env:=by rfl) (hpl:(backTo pos (starEach es X.env)).any (·.1)=false:=by rfl):PE X (.Call (.Name x p) (e::es) [] pos) (Vj r t):=by
 intro pins s U H Q I h;refine wpAny_Call_Name_kw (wK I hg hm hv ?_ hn hdb);exact PyProof.Rows.callWith_builtin1 (aM (ha pos pins s U H _ I h) λus s1 ⟨vs,H1,I1,r1,q1⟩=>hc pins s1 U H1 vs us Q I1 r1 q1) he hpl
theorem MC(hc:eB X (.type T) r) (hg:Gl X x) (hm:X.mg x=none) (hv:bootBuiltins x=some (.type T)) (ha:PA X (e::es) t) (hn:x≠"__name__":=by decide) (hdb:(x==("__debug__":Str))=false:=by decide)
  (he:starEach (e::es) X.env=(false,eval e X.env)::starEach es X.env:=by rfl) (hpl:(backTo pos (starEach es X.env)).any (·.1)=false:=by rfl):PE X (.Call (.Name x p) (e::es) [] pos) (Vj r t):=by
 intro pins s U H Q I h;refine wpAny_Call_Name_kw (wK I hg hm hv ?_ hn hdb);exact PyProof.Rows.callWith_type1 (aM (ha pos pins s U H _ I h) λus s1 ⟨vs,H1,I1,r1,q1⟩=>hc pins s1 U H1 vs us Q I1 r1 q1) he hpl
end
end L2
namespace HT
open PySem PyProof.Rows
section
open PySem.SeqAt
open PySem.AutoSeq1 (wpAny_loadPart')
open PySem.MeetsSeq PySem.MeetsSeq2 PySem.MeetsSeq3
end
section
variable {prog:Program}{w:World}{A:Around}{E:Value->Shared->Prop}{s:Shared}
theorem Yn{t b:Addr}{vs ws:List Value}{Q:Value->Shared->Prop}(ht:IsTup s.heap t vs.toArray)(hb:IsTup s.heap b ws.toArray)(hv:vs≠[])
  (h1:ws=[]->Q (.ref t) s) (h2:ws≠[]->Q (.ref s.heap.objs.size) { s with heap:=s.heap.push { cls:=.type "tuple",data:=.seq (vs++ws).toArray } })
  (hsz:vs.length+ws.length<=sizeLine):wpAny (model prog w) A (binaryOp .Add (.ref t) (.ref b)) Q E s:=by
 obtain⟨⟨cls,dd,data,sl⟩,ho,hc,n,hd⟩:=id ht;obtain⟨⟨cls2,dd2,data2,sl2⟩,ho2,hc2,n2,hd2⟩:=id hb;simp only at hc hd hc2 hd2;subst hc hd hc2 hd2;have e:vs.toArray++ws.toArray=(vs++ws).toArray:=by simp
 by_cases hw:ws=[]
 .exact concat_meets ⟨_,ho,rfl⟩ ⟨_,ho2,rfl⟩ noFill_tuple_add seq_tuple_add PySem.F.slot_tuple_add PySem.F.entry_tuple_add (PySem.F.args_tuple_add_2 _ _)
   (tuple_addW1 t b vs.toArray ws.toArray n n2 dd dd2 sl sl2 (by simpa using hv) (by simp[hw])) ⟨ho,ho2,h1 hw⟩
 .refine concat_meets ⟨_,ho,rfl⟩ ⟨_,ho2,rfl⟩ noFill_tuple_add seq_tuple_add PySem.F.slot_tuple_add PySem.F.entry_tuple_add (PySem.F.args_tuple_add_2 _ _)
   (tuple_addW2 t b vs.toArray ws.toArray n n2 dd dd2 sl sl2 (by simpa using hv) (by simpa using hw) (by rw[List.size_toArray,List.size_toArray];exact hsz)) ⟨ho,ho2,?_⟩
  rw[e];exact h2 hw
def aZ(n d:Nat):Option Int->Nat
 |none=>d
 |some v=>if v<0 then(v+(n:Int)).toNat else min v.toNat n
theorem Gr(n d:Nat):aZ n d none=d:=rfl
theorem cw(n d k:Nat):aZ n d (some (k:Int))=min k n:=by show(if(k:Int)<0 then((k:Int)+(n:Int)).toNat else min (k:Int).toNat n)=min k n;rw[if_neg (by omega),Int.toNat_natCast]
theorem WG(n d:Nat)(hd:d<=n)(o:Option Int):aZ n d o<=n:=by
 cases o with
 |none=>exact hd|some v=>
  show(if v<0 then(v+(n:Int)).toNat else min v.toNat n)<=n;by_cases hv:v<0
  .rw[if_pos hv];omega
  .rw[if_neg hv];exact Nat.min_le_right _ _
theorem Lg(v:Int)(n d:Nat):(if v<0 then max (v+(n:Int)) 0 else min v (n:Int))=((aZ n d (some v):Nat):Int):=by
 show(if v<0 then max (v+(n:Int)) 0 else min v (n:Int))=(((if v<0 then(v+(n:Int)).toNat else min v.toNat n):Nat):Int);by_cases hv:v<0
 .simp only[if_pos hv];omega
 .simp only[if_neg hv];omega
theorem Xf(lo hi:Option Int)(n:Nat):Builtin.Slice.sliceAdjust lo hi 1 (n:Int)=(((aZ n 0 lo:Nat):Int),((aZ n n hi:Nat):Int)):=by
 have h1:¬((1:Int)<0):=by omega
 unfold Builtin.Slice.sliceAdjust;simp only[h1,if_false];refine Prod.ext ?_ ?_
 .cases lo with
  |none=>rfl|some v=>exact Lg v n 0
 .cases hi with
  |none=>rfl|some v=>exact Lg v n n
theorem NK(i j:Nat):Builtin.Slice.slicePlaces (i:Int) (j:Int) 1=j-i:=by
 unfold Builtin.Slice.slicePlaces;have h1:(1:Int) > 0:=by omega
 simp only[h1,if_true,Int.ediv_one];split<;>omega
theorem Va{v:Value}{o:Option Int}{Q:Option Int->Shared->Prop}(p:IsPart v o)(h:Q o s):wpAny (model prog w) A (Builtin.Slice.slicePartIndex v) Q E s:=by
 cases p with
 |none=>exact slicePart_none h|int i t=>exact slicePart_int h
theorem YY{sl:Addr}{vl vu:Value}{lo hi:Option Int}{n:Nat}{Q:Int×Int×Nat->Shared->Prop}(hs:s.heap.IsSliceOf sl vl vu .none)(pl:IsPart vl lo)(pu:IsPart vu hi)
  (h:Q (((aZ n 0 lo:Nat):Int),1,aZ n n hi-aZ n 0 lo) s):wpAny (model prog w) A (Builtin.Slice.sliceApplied (.ref sl) (pure (n:Int))) Q E s:=by
 obtain⟨os,hos,hcs,hds⟩:=id hs;unfold Builtin.Slice.sliceApplied Builtin.Slice.sliceFields;refine wpAny_bind (wpAny_bind (wpAny_field hos hds (x:=vl) rfl (wpAny_bind (wpAny_field hos hds (x:=vu) rfl (wpAny_bind (wpAny_field hos hds (x:=.none) rfl (wpAny_pure ?_)))))));refine wpAny_bind (slicePart_none ?_);show wpAny _ _ (if((1:Int)==0)=true then _ else _) _ _ s;rw[if_neg (by decide)];refine wpAny_bind (Va pl (wpAny_bind (Va pu (wpAny_bind (wpAny_pure ?_)))));show wpAny _ _ (match Builtin.Slice.sliceAdjust lo hi 1 (n:Int)with|(lo,hi)=>pure (lo,(1:Int),Builtin.Slice.slicePlaces lo hi 1)) _ _ s;rw[Xf lo hi n];show wpAny _ _ (pure (((aZ n 0 lo:Nat):Int),(1:Int),Builtin.Slice.slicePlaces ((aZ n 0 lo:Nat):Int) ((aZ n n hi:Nat):Int) 1)) _ _ s;rw[NK];exact wpAny_pure h
theorem NH(xs:Array Value)(i k:Nat):((List.range k).filterMap λ(m:Nat)=>xs[((i:Int)+(m:Int)*1).toNat]?).toArray=((xs.toList.drop i).take k).toArray:=by
 have e:(λ(m:Nat)=>xs[((i:Int)+(m:Int)*1).toNat]?)=λm=>xs[i+m]?:=by
  funext m
  have:((i:Int)+(m:Int)*1).toNat=i+m:=by omega
  rw[this]
 rw[e];have:=pick_run xs i k;rw[List.filterMap_map]at this;have e2:((λx=>xs[x]?) ∘ λx=>i+x)=λm=>xs[i+m]?:=rfl;rw[e2]at this;rw[this]
theorem FE{t sl:Addr}{items:Array Value}{vl vu:Value}{lo hi:Option Int}{Q:Value->Shared->Prop}(ht:IsTup s.heap t items)(hs:s.heap.IsSliceOf sl vl vu .none)(pl:IsPart vl lo)(pu:IsPart vu hi)
  (hw:¬(aZ items.size 0 lo=0/\aZ items.size items.size hi=items.size))
  (h:Q (.ref s.heap.objs.size) { s with heap:=s.heap.push { cls:=.type "tuple",data:=.seq ((items.toList.drop (aZ items.size 0 lo)).take (aZ items.size items.size hi-aZ items.size 0 lo)).toArray } })
  (hsz:items.size<=sizeLine):wpAny (model prog w) A (getItem (.ref t) (.ref sl)) Q E s:=by
 have htake:sizeOk (.seq ((items.toList.drop (aZ items.size 0 lo)).take (aZ items.size items.size hi-aZ items.size 0 lo)).toArray):=by show((items.toList.drop (aZ items.size 0 lo)).take (aZ items.size items.size hi-aZ items.size 0 lo)).toArray.size<=sizeLine;rw[List.size_toArray,List.length_take,List.length_drop,Array.length_toList];omega
 have hj:aZ items.size items.size hi<=items.size:=WG _ _ (Nat.le_refl _) hi;obtain⟨os,hos,hcs,hds⟩:=id hs;have hTs:s.TypeIs (.ref sl) "slice":=⟨os,hos,hcs⟩;unfold getItem;try with_reducible refine wpAny_holding ?_
 first|refine wpAny_bind (wpAny_pure ?_)|skip
 refine wpAny_bind (wpAny_sequenceKey ht.typeIs (by decide) ?_);refine wpAny_bind (wpAny_callSpecial?_slot (name:=Str.ofString "__getitem__") ht.typeIs PyProof.Rows.slot_tuple_getitem
  (wpAny_call_entry PyProof.Rows.slot_tuple_getitem ht.typeIs entry_tuple_getitem ?_ (args_tuple_getitem _ _)))
 show wpAny _ _ (Builtin.Tuple.tupleItemsOf (.ref t)>>=_) _ _ s;refine wpAny_bind (tupleItemsOf_ ht ?_);refine wpAny_bind (wpAny_typeOf hTs ?_);rw[if_pos (by decide)];refine wpAny_bind (YY hs pl pu ?_);have hno:¬((((aZ items.size 0 lo:Nat):Int)==0&&(1:Int)==1&&(aZ items.size items.size hi-aZ items.size 0 lo)==items.size)=true):=by intro q;rw[Bool.and_eq_true,Bool.and_eq_true]at q;have q1:((aZ items.size 0 lo:Nat):Int)=0:=eq_of_beq q.1.1;have q2:aZ items.size items.size hi-aZ items.size 0 lo=items.size:=eq_of_beq q.2;exact hw ⟨by omega,by omega⟩
 show wpAny _ _ (if(((aZ items.size 0 lo:Nat):Int)==0&&(1:Int)==1&&(aZ items.size items.size hi-aZ items.size 0 lo)==items.size)=true then _ else _) _ _ s;rw[if_neg hno,NH];first
  |exact wpAny_bind (m:=Builtin.Tuple.tupleExact _) (wpAny_newObj_type (wpAny_pure ⟨_,rfl,wpAny_pure h⟩) htake)|exact wpAny_bind (m:=Builtin.Tuple.tupleExact _) (wpAny_newObj_type (wpAny_bind (wpAny_pure (wpAny_pure ⟨_,rfl,wpAny_pure h⟩))) htake)|exact wpAny_bind (wpAny_bind (m:=Builtin.Tuple.tupleExact _) (wpAny_newObj_type (wpAny_pure (wpAny_pure ⟨_,rfl,wpAny_pure h⟩)) htake))|exact wpAny_bind (wpAny_bind (m:=Builtin.Tuple.tupleExact _) (wpAny_newObj_type (wpAny_pure ⟨_,rfl,wpAny_pure h⟩) htake))
end
end HT
namespace L2
open PySem PySem.Spec PyProof.Rows
abbrev TO:=St->Hp->(Option Int->Hp->Prop)->Prop
def PO(X:Cx)(e:Option Expr)(t:TO):Prop:=
 ∀(pins:List (Addr×Obj)) (s:Shared) (U:St) (H:Hp) (Q:Option Int->Hp->Prop),Inv X pins U H s->t U H Q ->
  wpAny (model X.prog X.w) X.A (evalPart e X.env) (λu s'=>∃o H',Inv X pins U H' s'/\IsPart u o/\Q o H') X.xe s
def c8:TO:=λ_ H Q=>Q none H
def e7(t:TE):TO:=λU H Q=>t U H λx H1=>∃i,x = .int i/\Q (some i) H1
section
variable {X:Cx}{e:Expr}{te:TE}{lo hi:Option Expr}{tl th:TO}{pos p2:Pos}
theorem NM:PO X none c8:=by intro pins s U H Q I h;rw[evalPart_none];exact wpAny_pure ⟨none,H,I,.none,h⟩
theorem NN(h:PE X e te):PO X (some e) (e7 te):=by intro pins s U H Q I hw;rw[evalPart_some];refine aM (h pins s U H _ I hw) λu s1 ⟨x,H1,I1,r1,q1⟩=>?_;obtain⟨i,rfl,q⟩:=q1;obtain⟨t,rfl⟩:=r1;exact⟨some i,H1,I1,.int i t,q⟩
def rZ(X:Cx)(r:V->Option Int->Option Int->Hp->VK->Prop):Prop:=
 ∀(pins:List (Addr×Obj)) (s:Shared) (U:St) (H:Hp) (x:V) (v vl vu:Value) (lo hi:Option Int) (sl:Addr) (Q:VK),Inv X pins U H s->RelV x v->s.heap.IsSliceOf sl vl vu .none->IsPart vl lo->IsPart vu hi->r x lo hi H Q ->
  ∃T id,typeLookup (.type T) "__getitem__"=pure (some (.builtin id))/\s.TypeIs v T/\wpAny (model X.prog X.w) X.A (getItem v (.ref sl)) (EP X pins U Q) X.xe s
theorem rZ.or{r r':V->Option Int->Option Int->Hp->VK->Prop}(h:rZ X r)(h':rZ X r'):rZ X (λx lo hi H Q=>r x lo hi H Q\/r' x lo hi H Q):=by
 intro pins s U H x v vl vu lo hi sl Q I rx hs pl pu q;rcases q with q|q
 .exact h pins s U H x v vl vu lo hi sl Q I rx hs pl pu q
 .exact h' pins s U H x v vl vu lo hi sl Q I rx hs pl pu q
def f7(r:V->Option Int->Option Int->Hp->VK->Prop)(te:TE)(tl th:TO):TE:=λU H Q=>te U H λx H1=>tl U H1 λl H2=>th U H2 λu H3=>r x l u H3 Q
theorem MU{r:V->Option Int->Option Int->Hp->VK->Prop}(hr:rZ X r)(he:PE X e te)(hl:PO X lo tl)(hu:PO X hi th):PE X (.Subscript e (.Slice lo hi none p2) pos) (f7 r te tl th):=by intro pins s U H Q I h;refine Subscript_ (aM (he pins s U H _ I h) λv s1 ⟨x,H1,I1,r1,q1⟩=>?_);refine wpAny_Slice (aM (hl pins s1 U H1 _ I1 q1) λvl s2 ⟨l,H2,I2,pl,q2⟩=>aM (hu pins s2 U H2 _ I2 q2) λvu s3 ⟨u,H3,I3,pu,q3⟩=>?_);rw[evalPart_none];refine wpAny_pure ?_;have I4:Inv X pins U H3 { s3 with heap:=s3.heap.push { cls:=.type "slice",data:=.fields #[vl,vu,.none] } }:=I3.kept (t':=s3.toks) λb ob q=>Heap.get?_push_of_some _ q;obtain⟨T,id,hT,ht,hg⟩:=hr pins { s3 with heap:=s3.heap.push { cls:=.type "slice",data:=.fields #[vl,vu,.none] } } U H3 x v vl vu l u s3.heap.objs.size Q I4 r1 (Heap.IsSliceOf.new ..) pl pu q3;show wpAny (model X.prog X.w) X.A (subscriptTail e (.Slice lo hi none p2) v (.ref s3.heap.objs.size)) (EP X pins U Q) X.xe { s3 with heap:=s3.heap.push { cls:=.type "slice",data:=.fields #[vl,vu,.none] } };exact tail_any (ops:=[.ref s3.heap.objs.size,v]) ht hT hg (by with_unfolding_all rfl)
def nQ(xs:List V)(lo hi:Option Int):List V:=(xs.drop (HT.aZ xs.length 0 lo)).take (HT.aZ xs.length xs.length hi-HT.aZ xs.length 0 lo)
theorem Lu(xs:List V)(lo hi:Option Int):(nQ xs lo hi).length<=xs.length:=by unfold nQ;rw[List.length_take,List.length_drop];omega
def VM(K:W.Frag):V->Option Int->Option Int->Hp->VK->Prop:=λx lo hi H Q=>∃a xs,x = .ref a/\bZ K H a xs /\
 ¬(HT.aZ xs.length 0 lo=0/\HT.aZ xs.length xs.length hi=xs.length)/\∀p,H p=none->Q (.ref p) (aR H p (.tup (nQ xs lo hi)))
theorem YX:rZ X (VM X.K):=by
 intro pins s U H x v vl vu lo hi sl Q I rx hs pl pu h;obtain⟨a,xs,rfl,hx,hw,q⟩:=h;cases rx;obtain⟨its,r,ht,hz⟩:=I.tuple hx;have hlen:its.toArray.size=xs.length:=by rw[List.size_toArray];exact r.length.symm
 refine⟨"tuple",_,PyProof.Rows.slot_tuple_getitem.lookup,ht.typeIs,?_⟩;refine HT.FE ht hs pl pu (by rw[hlen];exact hw) ?_ (by rw[hlen];exact hz);rw[hlen];refine⟨.ref s.heap.objs.size,_,I.laid (t':=s.toks) (o:=.tup (nQ xs lo hi)) (λb ob q=>Heap.get?_push_of_some _ q) (Nat.le_refl _) ?_,rfl,q _ (I.aN.fresh (Nat.le_refl _))⟩;exact⟨Nat.le_trans (Lu xs lo hi) hz,_,(r.drop (HT.aZ xs.length 0 lo)).take (HT.aZ xs.length xs.length hi-HT.aZ xs.length 0 lo),IsTup.new _ _⟩
def VE(K:W.Frag):R2:=λx y H Q=>∃a b xs ys,x = .ref a/\y = .ref b/\bZ K H a xs/\bZ K H b ys/\xs≠[]/\xs.length+ys.length<=sizeLine /\
 (ys=[]->Q (.ref a) H)/\(ys≠[]->∀p,H p=none->Q (.ref p) (aR H p (.tup (xs++ys))))
theorem Vals.Ct{xs:List V}{us:List Value}(r:Vals xs us):us=[]↔xs=[]:=by
 cases r with
 |nil=>simp|cons _ _=>simp
theorem JP:bH X (binaryOp .Add) (VE X.K):=by intro pins s U H x y v u Q I rx ry h;obtain⟨a,b,xs,ys,rfl,rfl,ha,hb,hx,hz,q1,q2⟩:=h;cases rx;cases ry;obtain⟨its,r1,p1,_⟩:=I.tuple ha;obtain⟨its2,r2,p2,_⟩:=I.tuple hb;refine HT.Yn p1 p2 (λz=>hx (r1.Ct.mp z)) (λz=>⟨.ref a,H,I,rfl,q1 (r2.Ct.mp z)⟩) (λz=>?_) (by rw[<- r1.length,<- r2.length];exact hz);refine⟨.ref s.heap.objs.size,_,I.laid (t':=s.toks) (o:=.tup (xs++ys)) (λb ob q=>Heap.get?_push_of_some _ q) (Nat.le_refl _) ?_,rfl,q2 (λw=>z (r2.Ct.mpr w)) _ (I.aN.fresh (Nat.le_refl _))⟩;exact⟨by rw[List.length_append];exact hz,_,r1.append r2,IsTup.new _ _⟩
end
def gA(n:Nat)(i:Int):Option Nat:=if 0<=i then(if i<n then some i.toNat else none) else if -(n:Int)<=i then some (i+n).toNat else none
def cW{α:Type}(xs:List α)(i:Int):Option α:=(gA xs.length i).bind λj=>xs[j]?
theorem Pb{n:Nat}{i:Int}{j:Nat}(h:gA n i=some j):seqIndex? i n=some j/\j<n/\-(n:Int)<=i/\i<n:=by
 unfold gA at h;by_cases h0:0<=i
 .rw[if_pos h0]at h;by_cases h1:i<n
  .rw[if_pos h1]at h;have e:i.toNat=j:=Option.some.inj h;exact⟨by rw[seqIndex_of h0 h1,e],by omega,by omega,h1⟩
  .rw[if_neg h1]at h;cases h
 .rw[if_neg h0]at h;by_cases h1:-(n:Int)<=i
  .rw[if_pos h1]at h;have e:(i+n).toNat=j:=Option.some.inj h;exact⟨by rw[seqIndex_neg (by omega) h1,e],by omega,h1,by omega⟩
  .rw[if_neg h1]at h;cases h
theorem Ac{α:Type}{xs:List α}{i:Int}{v:α}(h:cW xs i=some v):∃j,seqIndex? i xs.length=some j/\xs[j]?=some v/\j<xs.length/\-(xs.length:Int)<=i/\i<xs.length:=by
 unfold cW at h;cases e:gA xs.length i with
 |none=>rw[e]at h;cases h|some j=>rw[e]at h;obtain⟨h1,h2,h3,h4⟩:=Pb e;exact⟨j,h1,h,h2,h3,h4⟩
theorem hX{α:Type}{xs:List α}{j:Nat}{v:α}(h:xs[j]?=some v):cW xs (j:Int)=some v:=by
 have hj:j<xs.length:=(List.getElem?_eq_some_iff.mp h).1;have e:gA xs.length (j:Int)=some j:=by unfold gA;rw[if_pos (by omega),if_pos (by omega)];simp
 unfold cW;rw[e];exact h
def zx(b:Expr):Prop:=∀o i,subscripted b false o i=operate [o,i] (getItem o i)
def iI(X:Cx)(r:R2):Prop:=
 ∀(value slice:Expr) (pins:List (Addr×Obj)) (s:Shared) (U:St) (H:Hp) (x y:V) (v u:Value) (Q:VK),Inv X pins U H s->RelV x v->RelV y u->r x y H Q ->
  subscripted slice false v u=operate [v,u] (getItem v u)->wpAny (model X.prog X.w) X.A (subscriptTail value slice v u) (EP X pins U Q) X.xe s
def Wz(X:Cx)(id:String)(r:V->List V->Hp->VK->Prop):Prop:=
 ∀(pins:List (Addr×Obj)) (s:Shared) (U:St) (H:Hp) (x:V) (xs:List V) (v:Value) (us:List Value) (Q:VK),Inv X pins U H s->RelV x v->Vals xs us->r x xs H Q ->
  wpAny (model X.prog X.w) X.A (call (.builtin id) (v::us)) (EP X pins U Q) X.xe s
section
variable {X:Cx}{a b:Expr}{ta tb:TE}{pos:Pos}
theorem iI.or{r r':R2}(h:iI X r)(h':iI X r'):iI X (λx y H Q=>r x y H Q\/r' x y H Q):=by
 intro value slice pins s U H x y v u Q I rx ry q hs;rcases q with q|q
 .exact h value slice pins s U H x y v u Q I rx ry q hs
 .exact h' value slice pins s U H x y v u Q I rx ry q hs
theorem MK{r:R2}(hr:iI X r)(ha:PE X a ta)(hb:PE X b tb)(hs:zx b):PE X (.Subscript a b pos) (yu r ta tb):=by intro pins s U H Q I h;exact Subscript_ (Af ha hb I h λv u s2 x y H2 I2 rx ry q=>hr a b pins s2 U H2 x y v u Q I2 rx ry q (hs _ _))
def Ug(K:W.Frag):R2:=λx y H Q=>∃p xs i v,x = .ref p/\y = .int i/\bO K H p xs/\cW xs i=some v/\Q v H
def Ui(K:W.Frag):R2:=λx y H Q=>∃p xs i v,x = .ref p/\y = .int i/\bZ K H p xs/\cW xs i=some v/\Q v H
def Uh:R2:=λx y H Q=>∃z i c,x = .str z/\y = .int i/\z.length<=sizeLine/\cW z.cps.toList i=some c/\Q (.str ⟨#[c]⟩) H
theorem GX:iI X (Ug X.K):=by
 intro value slice pins s U H x y v u Q I rx ry h hs;obtain⟨p,xs,i,z,rfl,rfl,hq,he,q⟩:=h;cases rx;obtain⟨t,rfl⟩:=ry;obtain⟨its,r,pl,hz⟩:=I.list hq;obtain⟨j,h1,h2,h3,h4,h5⟩:=Ac he;obtain⟨w,ew,rw'⟩:=r.get h2;have hl:=r.length;have hn:=tH;have aL:EP X pins U Q w s:=⟨z,H,I,rw',q⟩;by_cases h0:0<=i
 .have hj:i.toNat=j:=by rw[seqIndex_of h0 h5]at h1;exact Option.some.inj h1
  exact item_listR pl.isList h0 (by omega) (by rw[hj];simpa using ew) aL hs
 .have hj:(i+(its.toArray.size:Int)).toNat=j:=by rw[seqIndex_neg (by omega) h4]at h1;rw[List.size_toArray,<- hl];exact Option.some.inj h1
  exact subscriptTail_builtinR (x:=w) pl.isList.typeIs slot_list_getitem.lookup
   (wpAny_getItem_list_neg (Q:=λr s'=>r=w/\EP X pins U Q r s') pl.isList (by omega) (by rw[List.size_toArray]<;>omega) (by omega) (by rw[hj];simpa using ew) ⟨rfl,aL⟩) hs
theorem HA:iI X (Ui X.K):=by
 intro value slice pins s U H x y v u Q I rx ry h hs;obtain⟨p,xs,i,z,rfl,rfl,hq,he,q⟩:=h;cases rx;obtain⟨t,rfl⟩:=ry;obtain⟨its,r,pl,hz⟩:=I.tuple hq;obtain⟨j,h1,h2,h3,h4,h5⟩:=Ac he;obtain⟨w,ew,rw'⟩:=r.get h2;have hl:=r.length;have hn:=tH;have aL:EP X pins U Q w s:=⟨z,H,I,rw',q⟩;exact subscriptTail_builtinR (x:=w) pl.typeIs slot_tuple_getitem.lookup
  (getItem_tuple (j:=j) (Q:=λr s'=>r=w/\EP X pins U Q r s') pl (by omega) (by omega) (by rw[List.size_toArray,<- hl];exact h1) (by simpa using ew) ⟨rfl,aL⟩) hs
theorem GZ:iI X Uh:=by
 intro value slice pins s U H x y v u Q I rx ry h hs;obtain⟨z,i,c,rfl,rfl,hz,he,q⟩:=h;obtain⟨t,rfl⟩:=rx;obtain⟨t',rfl⟩:=ry;obtain⟨j,h1,h2,h3,h4,h5⟩:=Ac he;have hl:z.cps.toList.length=z.length:=by simp[Str.length]
 rw[hl]at h1 h4 h5;have hn:=tH;exact tail_any (typeIs_str s z t) slot_str_getitem.lookup (getItem_str (c:=c) (by
  have e1:decide (i < -(2 ^ 63:Int))=false:=decide_eq_false (by omega);have e2:decide (i ≥ 2 ^ 63)=false:=decide_eq_false (by omega);rw[e1,e2,Bool.or_false]) (by rw[h1];simpa using h2) ⟨.str ⟨#[c]⟩,H,I.tok _,⟨_,rfl⟩,q⟩) hs
def Gk(K:W.Frag):R2:=λx y H Q=>Ug K x y H Q\/Ui K x y H Q\/Uh x y H Q
theorem GY:iI X (Gk X.K):=GX.or (HA.or GZ)
theorem IJ(its:List Value)(n j:Nat)(u:Value):Obj.mapSeq (·.setIfInBounds j u) { cls:=.type "list",data:=.seq its.toArray n }={ cls:=.type "list",data:=.seq (its.set j u).toArray n }:=by simp[Obj.mapSeq]
theorem Inv.lst{pins:List (Addr×Obj)}{U:St}{H:Hp}{s:Shared}{p:Addr}{xs:List V}(I:Inv X pins U H s)(h:H p=some (.lst xs)) :
  ∃(its:List Value) (n:Nat),Vals xs its/\s.heap.get? p=some { cls:=.type "list",data:=.seq its.toArray n }/\xs.length<=sizeLine:=by
 obtain⟨z,its,n,r,e⟩:=I.aN p _ h;exact⟨its,n,r,e,z⟩
theorem Inv.IA{pins:List (Addr×Obj)}{U:St}{H:Hp}{s:Shared}{p:Addr}{xs ys:List V}{its its':List Value}{n n':Nat}{f:Obj->Obj}(I:Inv X pins U H s)(h:H p=some (.lst xs))
  (ho:s.heap.get? p=some { cls:=.type "list",data:=.seq its.toArray n }) (hf:f { cls:=.type "list",data:=.seq its.toArray n }={ cls:=.type "list",data:=.seq its'.toArray n' }) (r:Vals ys its') (hz:ys.length<=sizeLine) (t:Nat) :
  Inv X pins U (aR H p (.lst ys)) { s with heap:=s.heap.update p f,toks:=t }:=by
 have e:(s.heap.update p f).get? p=some { cls:=.type "list",data:=.seq its'.toArray n' }:=by rw[Heap.get?_update_self f ho (by rw[hf]<;>rfl),hf]
 refine I.write (x:=p) (e:=p) (by rw[h];trivial) (.inl rfl) (λb u hb q=>(Heap.get?_update_other _ _ (Ne.symm hb)).trans q) ⟨_,e⟩ ?_;exact⟨hz,its',n',r,e⟩
def Uk:V->V->V->Hp->(Hp->Prop)->Prop:=λo i v H Q=>∃p xs k j,o = .ref p/\i = .int k/\H p=some (.lst xs)/\gA xs.length k=some j/\Q (aR H p (.lst (xs.set j v)))
theorem YR:zv X Uk:=by
 intro pins s U H o i v ov iv u Q I ro ri rv h;obtain⟨p,xs,k,j,rfl,rfl,hp,hj,q⟩:=h;cases ro;obtain⟨t,rfl⟩:=ri;obtain⟨its,n,r,ho,hz⟩:=I.lst hp;obtain⟨h1,h2,h3,h4⟩:=Pb hj;have hl:=r.length;have hn:=tH;have I':Inv X pins U (aR H p (.lst (xs.set j v))) { s with heap:=s.heap.update p (Obj.mapSeq (·.setIfInBounds j u)) }:=
  I.IA hp ho (IJ its n j u) (r.set rv j) (by rw[List.length_set];exact hz) s.toks
 by_cases h0:0<=k
 .have hk:k.toNat=j:=by rw[seqIndex_of h0 h4]at h1;exact Option.some.inj h1
  exact W.ki_setAt ho h0 (by omega) (by rw[List.size_toArray,<- hl];exact h4) (by rw[hk];exact⟨_,I',q⟩)
 .have hk:(k+(its.toArray.size:Int)).toNat=j:=by rw[seqIndex_neg (by omega) h3]at h1;rw[List.size_toArray,<- hl];exact Option.some.inj h1
  exact W.ki_setBack ho (by omega) (by rw[List.size_toArray,<- hl];exact h3) (by omega) (by rw[hk];exact⟨_,I',q⟩)
theorem ZA(lo hi:Option Int)(n:Nat):(sliceBounds lo hi none n).1=((HT.aZ n 0 lo:Nat):Int)/\(sliceBounds lo hi none n).2.1=((HT.aZ n n hi:Nat):Int)/\(sliceBounds lo hi none n).2.2=1:=by
 refine⟨?_,?_,rfl⟩
 .cases lo with
  |none=>simp[sliceBounds,HT.aZ]|some i=>
   simp only[sliceBounds,HT.aZ,Option.getD_none,show(1:Int) > 0 by decide,if_true];by_cases h:i<0
   .simp only[h,if_true]<;>omega
   .simp only[h,if_false]<;>omega
 .cases hi with
  |none=>simp[sliceBounds,HT.aZ]|some i=>
   simp only[sliceBounds,HT.aZ,Option.getD_none,show(1:Int) > 0 by decide,if_true];by_cases h:i<0
   .simp only[h,if_true]<;>omega
   .simp only[h,if_false]<;>omega
theorem YZ(its:List Value)(lo hi:Option Int):slicePick its.toArray lo hi none=((its.drop (HT.aZ its.length 0 lo)).take (HT.aZ its.length its.length hi-HT.aZ its.length 0 lo)).toArray:=by obtain⟨h1,h2,h3⟩:=ZA lo hi its.toArray.size;unfold slicePick;rw[h1,h2,h3];simp only[sliceRange_one,pick_run,List.size_toArray]<;>rfl
def VL(K:W.Frag):V->Option Int->Option Int->Hp->VK->Prop:=λx lo hi H Q=>∃a xs,x = .ref a/\bO K H a xs/\∀p,H p=none->Q (.ref p) (aR H p (.lst (nQ xs lo hi)))
theorem YW:rZ X (VL X.K):=by intro pins s U H x v vl vu lo hi sl Q I rx hs pl pu h;obtain⟨a,xs,rfl,hx,q⟩:=h;cases rx;obtain⟨its,r,ht,hz⟩:=I.list hx;have hlen:=r.length;refine⟨"list",_,slot_list_getitem.lookup,ht.isList.typeIs,?_⟩;refine wpAny_getItem_list_slice ht.isList hs pl pu .none (by simp) ?_ (by rw[List.size_toArray]<;>omega);rw[YZ,<- hlen];refine⟨.ref s.heap.objs.size,_,I.laid (t':=s.toks) (o:=.lst (nQ xs lo hi)) (λb ob q=>Heap.get?_push_of_some _ q) (Nat.le_refl _) ?_,rfl,q _ (I.aN.fresh (Nat.le_refl _))⟩;exact⟨Nat.le_trans (Lu xs lo hi) hz,_,0,(r.drop (HT.aZ xs.length 0 lo)).take (HT.aZ xs.length xs.length hi-HT.aZ xs.length 0 lo),Heap.get?_push_size _ rfl⟩
def fU:V->Bool
 |.aB=>true
 |.bl _=>true
 |.int _=>true
 |.str _=>true
 |_=>false
def iC:V->V->Bool
 |.aB,.aB=>true
 |.bl a,.bl b=>a==b
 |.bl a,.int b=>(if a then 1 else 0)==b
 |.int a,.bl b=>a==(if b then 1 else 0)
 |.int a,.int b=>a==b
 |.str a,.str b=>a==b
 |_,_=>false
theorem Mq{A:Around}{s:Shared}{y x:V}{u v:Value}(ry:RelV y u)(rx:RelV x v)(fy:fU y=true)(fx:fU x=true):SeqAt.EqAt A s u v (iC y x):=by
 cases y with
 |aB=>
  cases ry;cases x with
  |aB=>cases rx;exact SeqAt.EqAt.same _|bl b=>cases rx;exact SeqAt.EqAt.none_bool b|int b=>obtain⟨t,rfl⟩:=rx;exact SeqAt.EqAt.none_int b t|str b=>obtain⟨t,rfl⟩:=rx;exact SeqAt.EqAt.none_str b t|_=>exact absurd (show false=true from fx) Bool.false_ne_true
 |bl a=>
  cases ry;cases x with
  |aB=>cases rx;exact SeqAt.EqAt.bool_none a|bl b=>cases rx;exact SeqAt.EqAt.bool_bool a b|int b=>obtain⟨t,rfl⟩:=rx;exact SeqAt.EqAt.bool_int a b t|str b=>obtain⟨t,rfl⟩:=rx;exact SeqAt.EqAt.bool_str a b t|_=>exact absurd (show false=true from fx) Bool.false_ne_true
 |int a=>
  obtain⟨t',rfl⟩:=ry;cases x with
  |aB=>cases rx;exact SeqAt.EqAt.int_none a t'|bl b=>cases rx;exact SeqAt.EqAt.int_bool a t' b|int b=>obtain⟨t,rfl⟩:=rx;exact SeqAt.EqAt.int_int a t' b t|str b=>obtain⟨t,rfl⟩:=rx;exact SeqAt.EqAt.int_str a t' b t|_=>exact absurd (show false=true from fx) Bool.false_ne_true
 |str a=>
  obtain⟨t',rfl⟩:=ry;cases x with
  |aB=>cases rx;exact SeqAt.EqAt.str_none a t'|bl b=>cases rx;exact SeqAt.EqAt.str_bool a t' b|int b=>obtain⟨t,rfl⟩:=rx;exact SeqAt.EqAt.str_int a t' b t|str b=>obtain⟨t,rfl⟩:=rx;exact SeqAt.EqAt.str_str a t' b t|_=>exact absurd (show false=true from fx) Bool.false_ne_true
 |_=>exact absurd (show false=true from fy) Bool.false_ne_true
def fT(x:V)(u:Value):Bool:=match u with
 |.none=>iC .aB x
 |.bool b=>iC (.bl b) x
 |.int i _=>iC (.int i) x
 |.str z _=>iC (.str z) x
 |_=>false
theorem Mz{x y:V}{u:Value}(r:RelV y u)(f:fU y=true):fT x u=iC y x:=by
 cases y with
 |aB=>cases r;rfl|bl b=>cases r;rfl|int i=>obtain⟨t,rfl⟩:=r;rfl|str z=>obtain⟨t,rfl⟩:=r;rfl|_=>exact absurd (show false=true from f) Bool.false_ne_true
theorem fh{x:V}:∀{xs:List V} {us:List Value},Vals xs us->xs.all fU=true->us.any (fT x)=xs.any λy=>iC y x
 |_,_,.nil,_=>rfl|y::xs,u::us,.cons r t,f=>by rw[List.all_cons,Bool.and_eq_true]at f;rw[List.any_cons,List.any_cons,Mz r f.1,fh t f.2]
theorem gx{A:Around}{s:Shared}{x:V}{v:Value}(rx:RelV x v)(fx:fU x=true):∀{xs:List V} {us:List Value},Vals xs us->xs.all fU=true->∀u∈us,SeqAt.EqAt A s u v (fT x u)
 |_,_,.nil,_=>λu hu=>by cases hu
 |y::xs,u::us,.cons r t,f=>λu' hu=>by
  rw[List.all_cons,Bool.and_eq_true]at f;rcases List.mem_cons.mp hu with rfl|hu
  .rw[Mz r f.1];exact Mq r rx f.1 fx
  .exact gx rx fx t f.2 u' hu
def sg(x:V)(xs:List V):Bool:=xs.any λy=>iC y x
def Ud(K:W.Frag)(neg:Bool):R2:=λx y H Q=>∃p xs,y = .ref p/\(bO K H p xs\/bZ K H p xs)/\fU x=true/\xs.all fU=true/\Q (.bl (if neg then !sg x xs else sg x xs)) H
theorem JX:bH X (compareOp .In) (Ud X.K false):=by
 intro pins s U H x y v u Q I rx ry h;obtain⟨p,xs,rfl,hq,fx,fs,q⟩:=h;cases ry;rcases hq with hq|hq
 .obtain⟨its,r,pl,hz⟩:=I.list hq;refine SeqAt.in_listAt (fT x) pl.isList (λw hw=>gx rx fx r fs w (by simpa using hw)) ⟨.bl _,H,I,rfl,?_⟩;rw[show its.toArray.any (fT x)=its.any (fT x) by simp,fh r fs];exact q
 .obtain⟨its,r,pl,hz⟩:=I.tuple hq;refine SeqAt.in_tupleAt (fT x) pl (λw hw=>gx rx fx r fs w (by simpa using hw)) ⟨.bl _,H,I,rfl,?_⟩;rw[show its.toArray.any (fT x)=its.any (fT x) by simp,fh r fs];exact q
theorem KJ:bH X (compareOp .NotIn) (Ud X.K true):=by
 intro pins s U H x y v u Q I rx ry h;obtain⟨p,xs,rfl,hq,fx,fs,q⟩:=h;cases ry;rcases hq with hq|hq
 .obtain⟨its,r,pl,hz⟩:=I.list hq;refine SeqAt.notIn_listAt (fT x) pl.isList (λw hw=>gx rx fx r fs w (by simpa using hw)) ⟨.bl _,H,I,rfl,?_⟩;rw[show its.toArray.any (fT x)=its.any (fT x) by simp,fh r fs];exact q
 .obtain⟨its,r,pl,hz⟩:=I.tuple hq;refine SeqAt.notIn_tupleAt (fT x) pl (λw hw=>gx rx fx r fs w (by simpa using hw)) ⟨.bl _,H,I,rfl,?_⟩;rw[show its.toArray.any (fT x)=its.any (fT x) by simp,fh r fs];exact q
theorem Ye:eB X (.builtin "len") (λxs H Q=>∃p ys,xs=[.ref p]/\(bO X.K H p ys\/bZ X.K H p ys)/\Q (.int ys.length) H):=by
 intro pins s U H xs us Q I r h;obtain⟨p,ys,rfl,hq,q⟩:=h;obtain⟨u,rfl,rx⟩:=dj r;cases rx;have hn:=tH;rcases hq with hq|hq
 .obtain⟨its,r',pl,hz⟩:=I.list hq;have hlen:=r'.length;exact Calls.call_len_list pl.isList (by simp only[List.size_toArray]<;>omega) ⟨.int ys.length,H,I.tok _,⟨s.toks+1,by rw[List.size_toArray,hlen]⟩,q⟩
 .obtain⟨its,r',pl,hz⟩:=I.tuple hq;have hlen:=r'.length;exact len_tuple pl (by simp only[List.size_toArray]<;>omega) ⟨.int ys.length,H,I.tok _,⟨s.toks+1,by rw[List.size_toArray,hlen]⟩,q⟩
theorem Yf:eB X (.builtin "len") (λxs H Q=>∃z,xs=[.str z]/\z.length<=sizeLine/\Q (.int z.length) H):=by intro pins s U H xs us Q I r h;obtain⟨z,rfl,hz,q⟩:=h;obtain⟨u,rfl,t,rfl⟩:=dj r;have hn:=tH;exact len_str (by omega) ⟨.int z.length,H,I.tok _,⟨_,rfl⟩,q⟩
theorem eB.or{f:Value}{r r':List V->Hp->VK->Prop}(h:eB X f r)(h':eB X f r'):eB X f (λxs H Q=>r xs H Q\/r' xs H Q):=by
 intro pins s U H xs us Q I rs q;rcases q with q|q
 .exact h pins s U H xs us Q I rs q
 .exact h' pins s U H xs us Q I rs q
theorem Yg:eB X (.type "list") (λxs H Q=>∃p ys,xs=[.ref p]/\(bO X.K H p ys\/bZ X.K H p ys)/\∀l,H l=none->Q (.ref l) (aR H l (.lst ys))):=by
 intro pins s U H xs us Q I r h;obtain⟨p,ys,rfl,hq,q⟩:=h;obtain⟨u,rfl,rx⟩:=dj r;cases rx;have aL:∀(its:List Value),Vals ys its->ys.length<=sizeLine->∀(h':Heap) (c':Nat),(∀b o',s.heap.get? b=some o'->h'.get? b=some o') ->
   h'.get? s.heap.objs.size=some { cls:=.type "list",dict:=none,data:=.seq its.toArray c',slots:=#[] }->EP X pins U Q (.ref s.heap.objs.size) { s with heap:=h' }:=λits r' hz h' c' kp e=>
  ⟨.ref s.heap.objs.size,_,I.laid (t':=s.toks) kp (Nat.le_refl _) (show cQ X.prog X.w _ h' _ (.lst ys) from⟨hz,its,c',r',e⟩),rfl,q _ (I.aN.fresh (Nat.le_refl _))⟩
 rcases hq with hq|hq
 .obtain⟨its,r',pl,hz⟩:=I.list hq;have hlen:=r'.length;obtain⟨o,ho,hc,n,hd⟩:=pl.isList;exact call_list_seq p (.inl rfl) ho hc hd (λh' c' kp e=>aL its r' hz h' c' kp e) (by simp only[List.size_toArray]<;>omega)
 .obtain⟨its,r',pl,hz⟩:=I.tuple hq;have hlen:=r'.length;obtain⟨o,ho,hc,n,hd⟩:=pl;exact call_list_seq p (.inr rfl) ho hc hd (λh' c' kp e=>aL its r' hz h' c' kp e) (by simp only[List.size_toArray]<;>omega)
theorem Ym:eB X (.type "tuple") (λxs H Q=>∃p ys,xs=[.ref p]/\((bO X.K H p ys/\∀l,H l=none->Q (.ref l) (aR H l (.tup ys)))\/(bZ X.K H p ys/\Q (.ref p) H))):=by
 intro pins s U H xs us Q I r h;obtain⟨p,ys,rfl,h⟩:=h;obtain⟨u,rfl,rx⟩:=dj r;cases rx;rcases h with⟨hq,q⟩|⟨hq,q⟩
 .obtain⟨its,r',pl,hz⟩:=I.list hq;have hlen:=r'.length;refine call_tuple_list pl.isList (λh' kp=>?_) (by simp only[List.size_toArray]<;>omega);have I1:Inv X pins U H { s with heap:=h' }:=I.kept (t':=s.toks) kp;have I2:Inv X pins U (aR H h'.objs.size (.tup ys)) { s with heap:=h'.push { cls:=.type "tuple",data:=.seq its.toArray } }:=
   I1.laid (t':=s.toks) (λb o e=>Heap.get?_push_of_some _ e) (Nat.le_refl _) (show cQ X.prog X.w _ _ _ (.tup ys) from⟨hz,its,r',IsTup.new _ _⟩)
  exact⟨.ref h'.objs.size,_,I2,rfl,q _ (I1.aN.fresh (Nat.le_refl _))⟩
 .obtain⟨its,r',pl,hz⟩:=I.tuple hq;exact call_tuple_same pl ⟨.ref p,H,I,rfl,q⟩
def Vy(K:W.Frag)(T:String)(x:V)(H:Hp):Prop:=match x with
 |.str _=>T="str"
 |.int _=>T="int"
 |.ref p=>(T="list"/\∃xs,bO K H p xs)\/(T="tuple"/\∃o,K.lookup p=some o/\o.cls = .type "tuple"/\o.dict=none) \/
  (T="dict"/\((∃kvs,H p=some (.dK kvs))\/∃kvs,H p=some (.dT kvs)))\/(T="set"/\∃S n,H p=some (.set S n))
 |_=>False
theorem j9{pins:List (Addr×Obj)}{U:St}{H:Hp}{s:Shared}{T:String}{x:V}{v:Value}(I:Inv X pins U H s)(r:RelV x v)(ty:Vy X.K T x H) :
  s.TypeIs v T/\∀a,v = .ref a->∃ob,s.heap.get? a=some ob/\ob.dict=none:=by
 cases x with
 |str z=>obtain⟨t,rfl⟩:=r;cases(show T="str" from ty);exact⟨typeIs_str s z t,λ_ e=>nomatch e⟩
 |int i=>obtain⟨t,rfl⟩:=r;cases(show T="int" from ty);exact⟨typeIs_int s i t,λ_ e=>nomatch e⟩
 |ref p=>
  cases r;rcases ty with⟨rfl,xs,hq⟩|⟨rfl,o,hk,hc,hd⟩|⟨rfl,hk⟩|⟨rfl,S,n,hk⟩
  .obtain⟨its,_,pl,_⟩:=I.list hq;refine⟨pl.isList.typeIs,λa e=>?_⟩;cases e;obtain⟨o,n,e,c,hd,_⟩:=pl;exact⟨o,e,hd⟩
  .refine⟨⟨o,I.cB p o hk,hc⟩,λa e=>?_⟩;cases e;exact⟨o,I.cB _ o hk,hd⟩
  .have z:∃o,s.heap.get? p=some o/\o.ExactDict:=by
    rcases hk with⟨kvs,hk⟩|⟨kvs,hk⟩
    .obtain⟨_,_,_,_,o,_,_,e,ex,_⟩:=I.aN p _ hk;exact⟨o,e,ex⟩
    .obtain⟨_,_,_,_,o,_,_,e,ex,_⟩:=I.aN p _ hk;exact⟨o,e,ex⟩
   obtain⟨o,e,ex⟩:=z;refine⟨⟨o,e,ex.1⟩,λa e2=>?_⟩;cases e2;exact⟨o,e,ex.2.1⟩
  .obtain⟨o,_,_,_,e,ex,_⟩:=I.aN p _ hk;refine⟨⟨o,e,ex.1⟩,λa e2=>?_⟩;cases e2;exact⟨o,e,ex.2.1⟩
 |_=>exact False.elim ty
def a6(K:W.Frag)(T:String)(r:V->List V->Hp->VK->Prop)(to:TE)(t:TA):TE:=λU H Q=>to U H λx H1=>Vy K T x H1/\t U H1 λxs H2=>r x xs H2 Q
variable {o e:Expr}{es:List Expr}{to:TE}{t:TA}{name:Str}{apos cpos:Pos}{T id:String}{r:V->List V->Hp->VK->Prop}
theorem Qr(pa:PlainAttrs T) (slot:Slot T name id) (hty:typeOf (.builtin id)=pure (.type "method_descriptor")) (hm:Wz X id r) (ho:PE X o to) (ha:PA X (e::es) t)
  (hbase:attributeBase o name X.env (eval o X.env)=eval o X.env:=by rfl)
  (hfew:((backTo cpos (starEach (e::es) X.env)).all (λx=>!x.1)&&(backToKw cpos (keywordEach [] X.env)).all (λx=>x.1.isSome)
  &&decide ((e::es).length+([]:List Keyword).length+(if([]:List Keyword).isEmpty then 0 else 1)<30))=true:=by rfl)
  (hline:(apos.endLine==cpos.line)=true:=by rfl) (hs:starEach (e::es) X.env=(false,eval e X.env)::starEach es X.env:=by rfl) (hplain:(backTo cpos (starEach es X.env)).any (·.1)=false:=by rfl) :
  PE X (.Call (.Attribute o name apos) (e::es) [] cpos) (a6 X.K T r to t):=by
 intro pins s U H Q I h;refine wpAny_Call_method_late hbase hfew hline rfl (aM (ho pins s U H _ I h) λv s1 ⟨x,H1,I1,r1,ty,q1⟩=>?_);obtain⟨h1,h2⟩:=j9 I1 r1 ty;refine⟨T,id,pa,slot,hty,h1,h2,?_⟩;have hA:=ha cpos pins s1 U H1 _ I1 q1;rw[hs]at hA ⊢;refine Calls.callWith_builtin (by show(false||(backTo cpos (starEach es X.env)).any (·.1))=false;rw[hplain]<;>rfl) (Calls.evalArgs_plain ?_);exact aM hA λus s2 ⟨vs,H2,I2,r2,q2⟩=>hm pins s2 U H2 x vs v us Q I2 r1 r2 q2
end
def zt(X:Cx)(id:String)(r:V->List V->Hp->VK->Prop):Prop:=
 ∀(pins:List (Addr×Obj)) (s:Shared) (U:St) (H:Hp) (x:V) (xs:List V) (v:Value) (us:List Value) (Q:VK),Inv X pins U H s->RelV x v->Vals xs us->r x xs H Q ->
  wpAny (model X.prog X.w) X.A (call (.builtin id) (v::us)) (EP X pins U Q) X.xe s
theorem Vals.one:∀{x:V} {us:List Value},Vals [x] us->∃u,us=[u]/\RelV x u
 |_,_,.cons r .nil=>⟨_,rfl,r⟩
section
variable {X:Cx}{pins:List (Addr×Obj)}{U:St}{H:Hp}{s:Shared}{l b:Addr}{xs ys zs:List V}
theorem Inv.HZ{its its':List Value}{n:Nat}{f:Array Value->Array Value}{t':Nat}(I:Inv X pins U H s)(hH:H l=some (.lst xs))
  (e:s.heap.get? l=some { cls:=.type "list",data:=.seq its.toArray n }) (hf:f its.toArray=its'.toArray) (hv:Vals ys its') (hz:ys.length<=sizeLine) :
  Inv X pins U (aR H l (.lst ys)) { s with heap:=s.heap.update l (Obj.mapSeq f),toks:=t' }:=by
 have q:=PySem.IsL.update e f;rw[hf]at q;refine I.write (x:=l) (e:=l) (by rw[hH];exact trivial) (.inl rfl) (λb' u hb hu=>(Heap.get?_update_other s.heap (Obj.mapSeq f) (Ne.symm hb)).trans hu) ⟨_,q⟩ ?_;exact⟨hz,its',_,hv,q⟩
theorem Inv.HW{its:List Value}{t':Nat}(I:Inv X pins U H s)(hv:Vals ys its)(hz:ys.length<=sizeLine) :
  Inv X pins U (aR H s.heap.objs.size (.lst ys)) { s with heap:=s.heap.push { cls:=.type "list",data:=.seq its.toArray },toks:=t' }:=
 I.laid (λ_ _ q=>Heap.get?_push_of_some _ q) (Nat.le_refl _) ⟨hz,its,0,hv,Heap.get?_push_size _ rfl⟩
theorem Inv.fresh(I:Inv X pins U H s):H s.heap.objs.size=none:=I.aN.fresh (Nat.le_refl _)
theorem Inv.tI(I:Inv X pins U H s)(hH:H l=some (.lst xs)):xs.length<=sizeLine/\∃(its:List Value) (n:Nat),Vals xs its/\xs.length=its.length/\s.heap.get? l=some { cls:=.type "list",data:=.seq its.toArray n }:=by obtain⟨z,its,n,r,e⟩:=I.aN l _ hH;exact⟨z,its,n,r,r.length,e⟩
end
section
variable {X:Cx}
def Tz:V->List V->Hp->VK->Prop:=λx vs H Q=>∃l xs y,x = .ref l/\vs=[y]/\H l=some (.lst xs)/\xs.length<sizeLine/\Q .aB (aR H l (.lst (xs++[y])))
theorem IU:zt X "list.append" Tz:=by intro pins s U H x vs v us Q I rx rv h;obtain⟨l,xs,y,rfl,rfl,hH,hz,q⟩:=h;cases rx;obtain⟨u,rfl,ru⟩:=rv.one;obtain⟨z,its,n,r,hl,e⟩:=I.tI hH;refine call_meets F.slot_list_append ⟨_,e,rfl⟩ F.entry_list_append (F.args_list_append_2 _ _) (PySem.list_append l its.toArray n u (by rw[List.size_toArray];omega)) ⟨e,?_⟩;refine⟨.aB,_,I.HZ (its':=its++[u]) hH e (by simp) (r.append (.cons ru .nil)) ?_,rfl,q⟩;rw[List.length_append,List.length_singleton];omega
def Ua:R2:=λx y H Q=>∃l b xs zs,x = .ref l/\y = .ref b/\H l=some (.lst xs)/\H b=some (.lst zs)/\xs.length+zs.length<=sizeLine/\∀p,H p=none->Q (.ref p) (aR H p (.lst (xs++zs)))
theorem JO:bH X (binaryOp .Add) Ua:=by
 intro pins s U H x y v u Q I rx ry h;obtain⟨l,b,xs,zs,rfl,rfl,hH,hB,hz,q⟩:=h;cases rx;cases ry;obtain⟨z,its,n,r,hl,e⟩:=I.tI hH;obtain⟨z2,its2,n2,r2,hl2,e2⟩:=I.tI hB;refine PySem.P.add_list e e2 ?_ (by rw[List.size_toArray,List.size_toArray];omega);have ea:its.toArray++its2.toArray=(its++its2).toArray:=by simp
 rw[ea];exact⟨.ref _,_,I.HW (t':=s.toks) (r.append r2) (by rw[List.length_append];omega),rfl,q _ I.fresh⟩
end
end L2
namespace Att
open PySem PySem.W PySem.Calls PyProof.Rows
theorem GL{P:Params}{h:Heap}:∀(ns:List Int) (vs:List Value),WellAll P h vs (ns.map WData.int)->IntsAre vs ns:=by
 intro ns;induction ns with
 |nil=>intro vs w;rw[List.map_nil]at w;cases w;exact .nil
 |cons n ns ih=>
  intro vs w;rw[List.map_cons]at w;cases w with
  |cons a b=>cases a;exact .cons _ _ (ih _ b)
theorem YM{l:OpenLaw}{n:Nat}(hn:l.most=some n){P:Params}{h:Heap}{args:List WData}{vals:List Value}
  (hpre:l.row.toRowW.claim.pre args=true) (hwl:WellAll P h vals args) :
  ∃a vs ns,vals=[Value.ref a]/\args=[WData.list (ns.map WData.int)]/\h.get? a=some { cls:=.type "list",data:=.seq vs.toArray }/\IntsAre vs ns/\ns.length<=n:=by
 have hsh:WShape.hasAll [] args [.list .int]=true:=(pre_splitW hpre).1;have hc:l.pre.holds [] { args:=args }=true:=(pre_splitW hpre).2;obtain⟨d,r,rfl,h1,h2⟩:=hasAllW_cons hsh;obtain rfl:=hasAllW_nil h2;obtain⟨xs,rfl,h3⟩:=hasW_list h1;obtain⟨ns,rfl⟩:=items_int h3;have hlen:ns.length<=n:=by
  unfold OpenLaw.pre at hc;have h4:(WTm.not (.lt (.lit (.int (n:Int))) (.len (.arg 0)))).holds [] { args:=[.list (ns.map .int)] }=true:=by have h4:=(holds_andW hc).1;rw[hn]at h4;exact h4
  have h5:=condW_of h4 (w_not (w_lt w_lit (w_len_list (w_arg rfl))));rw[List.length_map]at h5;refine Nat.le_of_not_lt λq=>?_;have q':(n:Int)<((ns.length:Nat):Int):=by omega
  first
   | (rw[decide_eq_true q']at h5;exact absurd h5 (by decide))
   | (simp at h5;omega)
 cases hwl with
 |cons w1 w2=>
  cases w2;cases w1 with
  |list ho hall=>exact⟨_,_,ns,rfl,rfl,ho,GL ns _ hall,hlen⟩
theorem NO(l:OpenLaw)(args:List WData):l.row.toRowW.claim.post args (.bool true) args=true:=
 postW_of (r:=l.row.toRowW) (X:=(true==true))
  (show WShape.has [] (.bool true) .bool=true by first|rfl|decide|simp[WShape.has,WShape.arms,WShape.armsAll])
  (show(WTm.eq .res (.lit (.bool true))).value [] { args:=args,res:=some (.bool true),after:=args }=some (.bool (true==true)) from w_eq_bool (w_res rfl) w_lit) rfl
theorem Xj{l:OpenLaw}{n:Nat}{q:Program}{loose:List Str}{XP:(Str->Option Value)->Heap->Prop}{YP:World->Heap->Prop}{d:DefRec}
  (hn:l.most=some n) (hdf:d.params.defaults=[])
  (call:∀(w:World) (s₀ s₁:Shared) (mg mb:Str->Option Value) (fa:Addr) (o:Obj) (pm cd doc:Value) (a:Addr) (vs:List Value) (ns:List Int),
   Ground q loose [] XP w s₀ mg mb s₁.heap->YP w s₁.heap ->
   s₁.heap.get? fa=some o->o.data = .func (docDef d.name d.params d.body d.scope pm cd doc)->s₁.heap.CodeRec cd d.name->mg d.name=some (.ref fa) ->
   s₁.heap.get? a=some { cls:=.type "list",data:=.seq vs.toArray }->IntsAre vs ns->ns.length<=n->s₁.gens=#[] ->
   codeAny (model l.prog w) callerA (.call (.ref fa) ⟨[.ref a],[]⟩) (λr s'=>r = .ok (.ret (.bool true))/\OldK s₁.heap s'.heap/\s'.os=s₁.os/\AllBare s'.gens) s₁) :
  WalkO q loose XP YP l.row.toRowW d [] (λf vs=>PySem.call f vs):=by
 intro w s₀ s₁ mg mb G Y fa o pm cd doc dV kV ho hd hcd hD hmg hg args vals as hpre hlay hrd hwl hlo;obtain rfl:dV = .none:=Dflts.none hD hdf;obtain rfl:kV = .none:=Dflts.noKw hD;obtain⟨a,vs,ns,rfl,rfl,hobj,hints,hlen⟩:=YM hn hpre hwl;refine enter_call (codeAny_mono (call w s₀ s₁ mg mb fa o pm cd doc a vs ns G Y ho (fd_plain hd) hcd hmg hobj hints hlen hg) λr s' hq=>?_);obtain⟨rfl,h2,h3,h4⟩:=hq;exact⟨.inl ⟨.bool true,.bool true,[],rfl,λ_=>rfl,.bool true,NO l _,λ_=>⟨List.Pairwise.nil,λ_ hm=>(nomatch hm)⟩⟩,h2,h3,h4⟩
end Att
namespace L2
open PySem PySem.Spec PyProof.Rows
theorem Wc:∀{vs:List Value} {ns:List Int},IntsAre vs ns->Vals (ns.map V.int) vs
 |_,_,.nil=>.nil
 |_,_,.cons n t h=>.cons ⟨t,rfl⟩ (Wc h)
def oq(H:Hp):Prop:=∀b,H b=none\/∃o xs,H b=some (.cT o (.lst xs))
theorem HM{P:Program}{w:World}{K:W.Frag}{mg mb:Str->Option Value}{CX:gH}{k:Nat}{fa a:Addr}{fd:FuncData}{x:Str}{sp:Sp}{s₁:Shared}{vs:List Value}{ns:List Int}
  (KX:K.In s₁.heap) (hns:s₁.heap.Ns mainGlobals mg) (hb:s₁.heap.Ns builtinsNs mb) (hbb:∀x:Str,x≠"__name__"->mb x=bootBuiltins x) (hlim:s₁.heap.NoLimit) (hg:s₁.gens=#[])
  (ha:s₁.heap.get? a=some { cls:=.type "list",data:=.seq vs.toArray }) (hi:IntsAre vs ns) (hl:ns.length<=sizeLine) (hr:cR k callerA)
  (F:∀base:Heap,K.In base->base.Ns mainGlobals mg->dX P w K mg base CX k fa fd [x] sp) (hbind:∀(s:Shared) (u:Value),BindsTo s fd ⟨[u],[]⟩ [(x,u)])
  (hsp:∀H:Hp,oq H->bO K H a (ns.map V.int)->sp [.ref a] H (λv _=>v = .bl true) λ_ _ _=>False)
  (hCX:∀H e s',CX [] H s₁ (λ_ _ _=>False) e s'->False) :
  codeAny (model P w) callerA (.call (.ref fa) ⟨[.ref a],[]⟩) (λr s'=>r = .ok (.ret (.bool true))/\OldK s₁.heap s'.heap/\s'.os=s₁.os/\AllBare s'.gens) s₁:=by
 have rv:=Wc hi;have lenV:=hi.length;have core:∀H:Hp,oq H->bO K H a (ns.map V.int)->cJ P w H s₁.heap->(∀b,H b≠none->b=a)->(H a≠none->K.lookup a=none) ->
   codeAny (model P w) callerA (.call (.ref fa) ⟨[.ref a],[]⟩) (λr s'=>r = .ok (.ret (.bool true))/\OldK s₁.heap s'.heap/\s'.os=s₁.os/\AllBare s'.gens) s₁:=by
  intro H hO hS aN hA hK;have base_of:∀{b:Addr} {o:Obj},s₁.heap.get? b=some o->H b=none->(mL s₁.heap H).get? b=some o:=λe n=>FW e n;have noA:∀{b:Addr} {o:Obj} {es:Array DictEntry} {ep:Nat},s₁.heap.get? b=some o->o.data = .dict es ep->H b=none:=λ{b o es ep} e d=>by
   cases q:H b with
   |none=>rfl|some u=>have e':b=a:=hA b (by rw[q];simp);subst e';rw[ha]at e;cases e;have d':Data.seq vs.toArray _=Data.dict es ep:=d;cases d'
  have nsK:∀{b:Addr} {m:Str->Option Value},s₁.heap.Ns b m->(mL s₁.heap H).Ns b m:=λ{b m} ⟨o,es,ep,e,d,r⟩=>⟨o,es,ep,base_of e (noA e d),d,r⟩;have hKb:K.In (mL s₁.heap H):=λb o e=>base_of (KX b o e) (by
   cases q:H b with
   |none=>rfl|some u=>have e':b=a:=hA b (by rw[q];simp);subst e';rw[hK (by rw[q];simp)]at e;cases e)
  have hM:Mod K mg (mL s₁.heap H):=⟨hKb,nsK hns,⟨mb,nsK hb,hbb⟩,let ⟨mc,h1,h2⟩:=hlim;⟨mc,nsK h1,h2⟩⟩;have e0:rV P w K mg (mL s₁.heap H) callerA [] s₁ H:=⟨rfl,hM,λb o e=>JI e,Nat.le_of_eq (FX _ _),trivial,λb hb=>absurd (show b∈([]:List Addr) from hb) (by simp),aN,.of_eq hg⟩;refine codeAny_mono ((F _ hKb (nsK hns)).run callerA [] s₁ H ⟨[.ref a],[]⟩ [.ref a] [.ref a] _ _ hr e0 (hbind s₁ (.ref a)) (.cons rfl .nil) (hsp H hO hS)) λr s' h=>?_;cases r with
  |error e=>exact(hCX H e s' h).elim|ok fl=>
   cases fl with
   |next=>exact False.elim h|brk=>exact False.elim h|cont=>exact False.elim h|ret u=>
    obtain⟨v,H',os,bare,un,hok',r',q⟩:=h;have q':v = .bl true:=q;subst q';obtain rfl:u=Value.bool true:=r';refine⟨rfl,OldK.of_keep λb o e=>?_,os,bare⟩;cases q:H b with
    |none=>exact un.keep b o e q (by intro z;exact absurd (show b∈([]:List Addr) from z) (by simp)) (by simp)|some u=>
     rcases hO b with z|⟨ob,xs,z⟩
     .rw[q]at z;cases z
     .have z2:=un.iO b ob _ z;obtain⟨e1,_⟩:=aN b _ z;obtain⟨e2,_⟩:=hok' b _ z2;rw[e]at e1;cases e1;exact e2
 cases hk:K.lookup a with
 |some o=>have e:=KX a o hk;rw[ha]at e;cases e;refine core (λ_=>none) (λ_=>.inl rfl) (.inr ⟨_,vs.toArray,_,hk,rfl,rfl,rfl,by rw[List.size_toArray,lenV];exact hl,by simpa using rv⟩) (λb u z=>by have z':(none:Option HO)=some u:=z;cases z') (λb z=>absurd rfl z) λz=>absurd rfl z
 |none=>
  refine core (λb=>if b=a then some (.cT { cls:=.type "list",data:=.seq vs.toArray } (.lst (ns.map V.int))) else none) (λb=>?_) (.inl (.inr ⟨{ cls:=.type "list",data:=.seq vs.toArray },if_pos rfl⟩)) (λb u z=>?_) (λb z=>?_) λ_=>hk
  .by_cases hb:b=a
   .exact .inr ⟨_,_,if_pos hb⟩
   .exact .inl (if_neg hb)
  .by_cases hb:b=a
   .have z':=(if_pos hb).symm.trans z;cases z';subst hb;exact⟨ha,by rw[List.length_map];exact hl,vs,_,rv,ha⟩
   .have z':=(if_neg hb).symm.trans z;cases z'
  .by_cases hb:b=a
   .exact hb
   .exact absurd (if_neg hb) z
theorem p4{l:W.OpenLaw}{n k:Nat}{q:Program}{loose:List Str}{XP:(Str->Option Value)->Heap->Prop}{YP:World->Heap->Prop}{d:DefRec}{K:Params->W.Frag}{CX:World->gH}{sp:World->Sp}{x:Str}
  (hn:l.most=some n) (hn2:n<=sizeLine) (hdf:d.params.defaults=[]) (hr:cR k callerA)
  (hY:∀(w:World) (h:Heap),YP w h->(K w.params).In h)
  (F:∀(w:World) (mg:Str->Option Value) (fa:Addr) (h:Heap),(K w.params).In h->h.Ns mainGlobals mg->mg d.name=some (.ref fa) ->
   ∃fd:FuncData,(∀(s:Shared) (u:Value),BindsTo s fd ⟨[u],[]⟩ [(x,u)]) /\
    ∀base:Heap,(K w.params).In base->base.Ns mainGlobals mg->dX l.prog w (K w.params) mg base (CX w) k fa fd [x] (sp w))
  (hsp:∀(w:World) (H:Hp) (a:Addr) (ns:List Int),ns.length<=n->oq H->bO (K w.params) H a (ns.map V.int)->sp w [.ref a] H (λv _=>v = .bl true) λ_ _ _=>False)
  (hCX:∀(w:World) (H:Hp) (s:Shared) (e:Value) (s':Shared),CX w [] H s (λ_ _ _=>False) e s'->False) :
  W.WalkO q loose XP YP l.row.toRowW d [] (λf vs=>PySem.call f vs):=by
 refine Att.Xj hn hdf λw s₀ s₁ mg mb fa o pm cd doc a vs ns G Y ho hd hcd hmg hobj hints hlen hg=>?_;have KX:=hY w _ Y;obtain⟨fd,hb,hF⟩:=F w mg fa _ KX G.T.g hmg;exact HM KX G.T.g G.T.b G.T.builtins G.T.nolimit hg hobj hints (Nat.le_trans hlen hn2) hr hF hb (λH hO hS=>hsp w H a ns hlen hO hS) λH e s'=>hCX w H s₁ e s'
def aI(s:Stmt):Arguments:=match s with
 |.FunctionDef _ a _ _ _ _ _ _ _ _=>a
 |_=>{ posonlyargs:=[],args:=[],vararg:=none,kwonlyargs:=[],kw_defaults:=[],kwarg:=none,defaults:=[] }
def aH(s:Stmt):List Stmt:=match s with
 |.FunctionDef _ _ b _ _ _ _ _ _ _=>b
 |_=>[]
def aF(s:Stmt):Scope:=match s with
 |.FunctionDef _ _ _ _ _ _ sc _ _ _=>sc
 |_=>{ kind:=.function,names:=[],isGenerator:=false,isCoroutine:=false }
abbrev E0:XK:=λ_ _ _=>False
section
variable {κ:Type} [DecidableEq κ]
def eV(kvs:List (κ×V))(k:κ):Option V:=(kvs.find? λkv=>decide (kv.1=k)).map (·.2)
def gF(kvs:List (κ×V))(k:κ)(v:V):List (κ×V):=
 if(kvs.any λkv=>decide (kv.1=k))=true then kvs.map (λkv=>if kv.1=k then(kv.1,v) else kv) else kvs++[(k,v)]
theorem Hn{p:κ×V}{r:List (κ×V)}{k:κ}(e:p.1=k):eV (p::r) k=some p.2:=by simp[eV,List.find?_cons,e]
theorem Hm{p:κ×V}{r:List (κ×V)}{k:κ}(e:¬p.1=k):eV (p::r) k=eV r k:=by simp[eV,List.find?_cons,e]
theorem Vz(k:κ):∀kvs:List (κ×V),(kvs.any λkv=>decide (kv.1=k))=(eV kvs k).isSome
 |[]=>rfl|p::r=>by
  rw[List.any_cons];by_cases e:p.1=k
  .simp only[Hn e,decide_eq_true e,Bool.true_or,Option.isSome_some]
  .rw[Hm e,decide_eq_false e,Bool.false_or];exact Vz k r
theorem Pl(kvs:List (κ×V))(k:κ)(v:V):(gF kvs k v).length<=kvs.length+1:=by
 unfold gF;split
 .rw[List.length_map];omega
 .rw[List.length_append,List.length_cons,List.length_nil];omega
theorem fA.gp{o:Option V}{u:Option Value}(r:fA o u):o.isSome=u.isSome:=by
 cases o with
 |none=>cases u with
  |none=>rfl|some _=>exact(show False from r).elim
 |some _=>cases u with
  |none=>exact(show False from r).elim|some _=>rfl
theorem fA.getD{o:Option V}{u:Option Value}{d:V}{d':Value}(r:fA o u)(rd:RelV d d'):RelV (o.getD d) (u.getD d'):=by
 cases o with
 |none=>cases u with
  |none=>exact rd|some _=>exact(show False from r).elim
 |some _=>cases u with
  |none=>exact(show False from r).elim|some _=>exact r
theorem KV.val{kvs:List (κ×V)}{vs:List (κ×Value)}(r:KV kvs vs)(k:κ):fA (eV kvs k) (valueAt vs k):=by
 unfold KV at r;induction r with
 |nil=>exact True.intro|@cons p q ps qs h t ih=>
  obtain⟨h1,h2⟩:=h;by_cases e:p.1=k
  .have e':q.1=k:=h1.symm.trans e;have b:valueAt (q::qs) k=some q.2:=by simp[valueAt,List.find?_cons,e']
   rw[Hn e,b];exact h2
  .have e':¬q.1=k:=λz=>e (h1.trans z);have b:valueAt (q::qs) k=valueAt qs k:=by simp[valueAt,List.find?_cons,e']
   rw[Hm e,b];exact ih
theorem KV.any{kvs:List (κ×V)}{vs:List (κ×Value)}(r:KV kvs vs)(k:κ):(kvs.any λkv=>decide (kv.1=k))=vs.any λkv=>decide (kv.1=k):=by
 unfold KV at r;induction r with
 |nil=>rfl|cons h t ih=>rw[List.any_cons,List.any_cons,ih,h.1]
theorem KV.Gn{kvs:List (κ×V)}{vs:List (κ×Value)}(r:KV kvs vs)(k:κ){y:V}{u:Value}(ry:RelV y u) :
  KV (kvs.map λkv=>if kv.1=k then(kv.1,y) else kv) (vs.map λkv=>if kv.1=k then(kv.1,u) else kv):=by
 unfold KV at r ⊢;induction r with
 |nil=>exact .nil|@cons p q ps qs h t ih=>
  rw[List.map_cons,List.map_cons];refine .cons ?_ ih;obtain⟨h1,h2⟩:=h;by_cases e:p.1=k
  .rw[if_pos e,if_pos (h1.symm.trans e)];exact⟨h1,ry⟩
  .rw[if_neg e,if_neg (λz=>e (h1.trans z))];exact⟨h1,h2⟩
theorem KV.put{kvs:List (κ×V)}{vs:List (κ×Value)}(r:KV kvs vs)(k:κ){y:V}{u:Value}(ry:RelV y u):KV (gF kvs k y) (stored vs k u):=by
 unfold gF stored;rw[r.any k];by_cases e:(vs.any λkv=>decide (kv.1=k))=true
 .rw[if_pos e,if_pos e];exact r.Gn k ry
 .rw[if_neg e,if_neg e];exact Paired.snoc r ⟨rfl,ry⟩
theorem KV.length{kvs:List (κ×V)}{vs:List (κ×Value)}(r:KV kvs vs):kvs.length=vs.length:=Paired.length r
end
theorem tD{P:Program}{w:World}{k:aK}{u:Value}(r:RelV (kV k) u):(dO P w).is k u=true:=by
 cases k with
 |inl i=>obtain⟨t,e⟩:=(show∃t,u=Value.int i t from r);subst e;exact IS P w i t|inr x=>obtain⟨t,e⟩:=(show∃t,u=Value.str x t from r);subst e;exact IT P w x t
theorem Oz{P:Program}{w:World}:∀{ks:List aK} {us:List Value},Vals (ks.map kV) us->ItemsAre (dO P w) ks us
 |[],_,r=>by rw[List.map_nil]at r;cases r;exact .nil
 |k::ks,_,r=>by
  rw[List.map_cons]at r;cases r with
  |cons h t=>exact .cons (tD h) (Oz t)
abbrev KT(H:Hp):List (List aK×V)->List (List aK×Addr×Value)->Prop:=Paired λp q=>p.1=q.1/\H q.2.1=some (.tup (p.1.map kV))/\RelV p.2 q.2.2
theorem KT.val{H:Hp}{kvs:List (List aK×V)}{xs:List (List aK×Addr×Value)}(r:KT H kvs xs)(k:List aK):fA (eV kvs k) ((atKey xs k).map (·.2)):=by
 induction r with
 |nil=>exact True.intro|@cons p q ps qs h t ih=>
  obtain⟨h1,_,h2⟩:=h;by_cases e:p.1=k
  .have e':q.1=k:=h1.symm.trans e;have b:atKey (q::qs) k=some q.2:=by simp[atKey,List.find?_cons,e']
   rw[Hn e,b];exact h2
  .have e':¬q.1=k:=λz=>e (h1.trans z);have b:atKey (q::qs) k=atKey qs k:=by simp[atKey,List.find?_cons,e']
   rw[Hm e,b];exact ih
theorem KT.Gn{H:Hp}{kvs:List (List aK×V)}{xs:List (List aK×Addr×Value)}(r:KT H kvs xs)(k:List aK){y:V}{u:Value}(ry:RelV y u) :
  KT H (kvs.map λkv=>if kv.1=k then(kv.1,y) else kv) (xs.map (putAt k u)):=by
 induction r with
 |nil=>exact .nil|@cons p q ps qs h t ih=>
  rw[List.map_cons,List.map_cons];refine .cons ?_ ih;obtain⟨h1,h2,h3⟩:=h;unfold putAt;by_cases e:p.1=k
  .rw[if_pos e,if_pos (h1.symm.trans e)];exact⟨h1,h2,ry⟩
  .rw[if_neg e,if_neg (λz=>e (h1.trans z))];exact⟨h1,h2,h3⟩
theorem KT.put{H:Hp}{kvs:List (List aK×V)}{xs:List (List aK×Addr×Value)}(r:KT H kvs xs)(k:List aK){b:Addr}{y:V}{u:Value}(hb:H b=some (.tup (k.map kV)))(ry:RelV y u) :
  KT H (gF kvs k y) (storedH xs k b u):=by
 have e:(kvs.any λkv=>decide (kv.1=k))=(atKey xs k).isSome:=by rw[Vz,(r.val k).gp,Option.isSome_map]
 unfold gF storedH;rw[e];by_cases q:(atKey xs k).isSome=true
 .rw[if_pos q,if_pos q];exact r.Gn k ry
 .rw[if_neg q,if_neg q];exact Paired.snoc r ⟨rfl,hb,ry⟩
theorem KT.keeps{H H':Hp}{kvs:List (List aK×V)}{xs:List (List aK×Addr×Value)}(r:KT H kvs xs)(ht:∀b ys,H b=some (.tup ys)->H' b=some (.tup ys)):KT H' kvs xs:=
 Paired.Ck r λ_ _ z=>⟨z.1,ht _ _ z.2.1,z.2.2⟩
section
variable {P:Program}{w:World}{H:Hp}{h:Heap}{a:Addr}
theorem Ul{u:HO}(ok:cJ P w H h)(e:Rd H a u):cQ P w H h a u:=e.ok ok
theorem sL{kvs:List (aK×V)}(ok:cJ P w H h)(e:Rd H a (.dK kvs)):kvs.length<=sizeLine/\(a==sysModules)=false/\∃vs,KV kvs vs/\h.DictOf (dO P w) a vs:=
 show cQ P w H h a (.dK kvs) from Ul ok e
theorem Me{kvs:List (aK×V)}(ok:cJ P w H h)(e:H a=some (.dK kvs)):kvs.length<=sizeLine/\(a==sysModules)=false/\∃vs,KV kvs vs/\h.DictOf (dO P w) a vs:=sL ok (.inl e)
theorem tF{ks:List aK}(ok:cJ P w H h)(e:H a=some (.tup (ks.map kV))):(tupleKind (dO P w)).is h ks a:=by obtain⟨_,its,r,o,h1,h2,n,h3⟩:=(show cQ P w H h a (.tup (ks.map kV)) from ok a _ e);exact⟨o,its.toArray,n,h1,h2,h3,by simpa using Oz r⟩
theorem sM{kvs:List (List aK×V)}(ok:cJ P w H h)(e:Rd H a (.dT kvs)):kvs.length<=sizeLine/\(a==sysModules)=false /\
  ∃xs,KT H kvs xs/\h.DictOfH (tupleKind (dO P w)) a xs:=by
 obtain⟨z,y,xs,r,o,es,ep,h1,h2,h3,h4,h5⟩:=(show cQ P w H h a (.dT kvs) from Ul ok e);refine⟨z,y,xs,r,o,es,ep,h1,h2,h3,h4,λx hx=>?_,h5⟩;have all:∀{l:List (List aK×V)} {m:List (List aK×Addr×Value)},KT H l m->∀x∈m,(tupleKind (dO P w)).is h x.1 x.2.1:=by
  intro l m q;induction q with
  |nil=>intro x hx;exact nomatch hx|@cons p q ps qs hq t ih=>
   intro x hx;rcases List.mem_cons.mp hx with e|hx
   .subst e;exact tF ok (by rw[<- hq.1];exact hq.2.1)
   .exact ih x hx
 exact all r x hx
theorem Zw{kvs:List (List aK×V)}(ok:cJ P w H h)(e:H a=some (.dT kvs)):kvs.length<=sizeLine/\(a==sysModules)=false /\
 ∃xs,KT H kvs xs/\h.DictOfH (tupleKind (dO P w)) a xs:=sM ok (.inl e)
end
def fN(H:Hp)(a:Addr)(y:V)(r:Option V):Prop:=
 (∃kvs k,Rd H a (.dK kvs)/\y=kV k/\r=eV kvs k)\/∃kvs k b,Rd H a (.dT kvs)/\y = .ref b/\H b=some (.tup (k.map kV))/\r=eV kvs k
def eu(H:Hp)(a:Addr)(y v:V)(H':Hp):Prop:=
 (∃kvs k,H a=some (.dK kvs)/\y=kV k/\kvs.length<sizeLine/\H'=aR H a (.dK (gF kvs k v))) \/
 ∃kvs k b,H a=some (.dT kvs)/\y = .ref b/\H b=some (.tup (k.map kV))/\kvs.length<sizeLine/\H'=aR H a (.dT (gF kvs k v))
theorem fN.k{H:Hp}{a:Addr}{kvs:List (aK×V)}{k:aK}(e:H a=some (.dK kvs)):fN H a (kV k) (eV kvs k):=.inl ⟨kvs,k,.inl e,rfl,rfl⟩
theorem eu.k{H:Hp}{a:Addr}{kvs:List (aK×V)}{k:aK}{v:V}(e:H a=some (.dK kvs))(hl:kvs.length<sizeLine):eu H a (kV k) v (aR H a (.dK (gF kvs k v))):=.inl ⟨kvs,k,e,rfl,hl,rfl⟩
section
variable {X:Cx}{pins:List (Addr×Obj)}{U:St}{H:Hp}{s:Shared}{a:Addr}{y v:V}{u r:Value}{o:Option V}{A:Around}{E:Value->Shared->Prop}
theorem Inv.big(I:Inv X pins U H s):sysModules<s.heap.objs.size:=by have h:mainGlobals<s.heap.objs.size:=(I.mod.glob.keeps I.bk).lt;exact Nat.lt_trans (by decide) h
theorem Zd{Q:Value->Shared->Prop}(hu:A.units+1<cLine)(I:Inv X pins U H s)(g:fN H a y (some v))(ry:RelV y u)(h:∀w' s',Inv X pins U H s'->RelV v w'->Q w' s') :
  wpAny (model X.prog X.w) A (getItem (.ref a) u) Q E s:=by
 rcases g with⟨kvs,k,e,ey,l⟩|⟨kvs,k,b,e,ey,eb,l⟩
 .subst ey;obtain⟨z,hd,vs,rel,dd⟩:=sL I.aN e;obtain⟨w',hw,rw'⟩:=fA.some_of (v:=v) (o:=valueAt vs k) (by rw[l];exact rel.val k);exact wpAny_getItem_of (tD ry) dd.mapOf hw (h w' _ (I.tok _) rw')
 .subst ey;cases(show u=Value.ref b from ry);obtain⟨z,hd,xs,rel,dd⟩:=sM I.aN e;obtain⟨w',hw,rw'⟩:=fA.some_of (v:=v) (o:=(atKey xs k).map (·.2)) (by rw[l];exact rel.val k);obtain⟨p,hp,hp2⟩:=Option.map_eq_some_iff.mp hw;refine wpAny_getItem_heap (tupleKind_room_in1 hu) (tF I.aN eb) dd hp ?_;rw[hp2];exact h w' _ (I.tok _) rw'
theorem Ze{Q:Value->Shared->Prop}(hu:A.units+1<cLine)(I:Inv X pins U H s)(g:fN H a y o)(ry:RelV y u)(h:∀s',Inv X pins U H s'->Q (.bool o.isSome) s') :
  wpAny (model X.prog X.w) A (compareOp .In u (.ref a)) Q E s:=by
 rcases g with⟨kvs,k,e,ey,l⟩|⟨kvs,k,b,e,ey,eb,l⟩
 .subst ey;obtain⟨z,hd,vs,rel,dd⟩:=sL I.aN e;refine wpAny_in_of (tD ry) hd dd.mapOf ?_;rw[<- (rel.val k).gp,<- l];exact h _ (I.tok _)
 .subst ey;cases(show u=Value.ref b from ry);obtain⟨z,hd,xs,rel,dd⟩:=sM I.aN e;refine wpAny_in_heap (tupleKind_room_in1 hu) (tF I.aN eb) hd dd ?_;have q:=(rel.val k).gp;rw[Option.isSome_map]at q;rw[<- q,<- l];exact h _ (I.tok _)
theorem Zf{Q:Value->Shared->Prop}(hu:A.units+1<cLine)(I:Inv X pins U H s)(g:fN H a y o)(ry:RelV y u)(h:∀s',Inv X pins U H s'->Q (.bool (!o.isSome)) s') :
  wpAny (model X.prog X.w) A (compareOp .NotIn u (.ref a)) Q E s:=by
 rcases g with⟨kvs,k,e,ey,l⟩|⟨kvs,k,b,e,ey,eb,l⟩
 .subst ey;obtain⟨z,hd,vs,rel,dd⟩:=sL I.aN e;refine wpAny_notIn_of (tD ry) hd dd.mapOf ?_;rw[<- (rel.val k).gp,<- l];exact h _ (I.tok _)
 .subst ey;cases(show u=Value.ref b from ry);obtain⟨z,hd,xs,rel,dd⟩:=sM I.aN e;refine wpAny_notIn_heap (tupleKind_room_in1 hu) (tF I.aN eb) hd dd ?_;have q:=(rel.val k).gp;rw[Option.isSome_map]at q;rw[<- q,<- l];exact h _ (I.tok _)
theorem Lw{h':Heap}{t':Nat}{ob:HO}(I:Inv X pins U H s)(mu:fc (H a))(hs:Heap.SameBut a s.heap h')(he:∃q,h'.get? a=some q)(new:cQ X.prog X.w (aR H a ob) h' a ob) :
  Inv X pins U (aR H a ob) { s with heap:=h',toks:=t' }:=
 I.write (x:=a) (e:=a) mu (.inl rfl) (λb q hb z=>(hs.2 b hb).trans z) he new
theorem Zq{P:Program}{w:World}{H':Hp}{h':Heap}{kvs:List (aK×V)}{vs:List (aK×Value)}(z:kvs.length<=sizeLine)(hd:(a==sysModules)=false)(rel:KV kvs vs)(dd:h'.DictOf (dO P w) a vs) :
 cQ P w H' h' a (.dK kvs):=⟨z,hd,vs,rel,dd⟩
theorem Zg{H':Hp}{Q:Unit->Shared->Prop}(hu:A.units+1<cLine)(I:Inv X pins U H s)(g:eu H a y v H')(ry:RelV y u)(rv:RelV v r)(h:∀s',Inv X pins U H' s'->Q () s') :
  wpAny (model X.prog X.w) A (setItem (.ref a) u r) Q E s:=by
 rcases g with⟨kvs,k,e,ey,l,eH⟩|⟨kvs,k,b,e,ey,eb,l,eH⟩
 .subst ey eH;obtain⟨z,hd,vs,rel,dd⟩:=Me I.aN e;have hz:vs.length<=sizeLine:=by rw[<- rel.length];exact z
  have hl:(gF kvs k v).length<=sizeLine:=by have:=Pl kvs k v;omega
  refine wpAny_setItem_pairs (hsz:=hz) (tD ry) dd λh' dd' hs=>h _ ?_;have he:∃q,h'.get? a=some q:=let ⟨q,_,_,hq,_⟩:=dd';⟨q,hq⟩;exact Lw I (by rw[e];exact True.intro) hs he (Zq hl hd (rel.put k rv) dd')
 .subst ey eH;cases(show u=Value.ref b from ry);obtain⟨z,hd,xs,rel,dd⟩:=Zw I.aN e;have hz:xs.length<=sizeLine:=by rw[<- Paired.length rel];exact z
  have hl:(gF kvs k v).length<=sizeLine:=by have:=Pl kvs k v;omega
  refine wpAny_setItem_heap (hsz:=hz) (tupleKind_room_in1 hu) (tF I.aN eb) dd λh' dd' hs=>h _ ?_;obtain⟨q,es,ep,hq,h2,h3,h4,_,h5⟩:=dd';refine Lw I (by rw[e];exact True.intro) hs ⟨q,hq⟩ ⟨hl,hd,_,(rel.put k eb rv).keeps λc ys ec=>?_,q,es,ep,hq,h2,h3,h4,h5⟩;rw[bP (mQ ec e (λz=>nomatch z))];exact ec
end
theorem Zo{X:Cx}{pins:List (Addr×Obj)}{U:St}{H:Hp}{s:Shared}{a:Addr}{y:V}{o:Option V}(I:Inv X pins U H s)(g:fN H a y o):s.TypeIs (.ref a) "dict":=by
 rcases g with⟨kvs,k,e,_,_⟩|⟨kvs,k,b,e,_,_,_⟩
 .obtain⟨_,_,vs,_,dd⟩:=sL I.aN e;exact dd.typeIs
 .obtain⟨_,_,xs,_,dd⟩:=sM I.aN e;exact dd.typeIs
theorem Zp{P:Program}{w:World}{H:Hp}(h:Heap)(hb:sysModules<h.objs.size):cQ P w H (h.push { cls:=.type "dict",data:=.dict #[] }) h.objs.size (.dK []):=
 ⟨Nat.zero_le _,beq_eq_false_iff_ne.mpr (Ne.symm (Nat.ne_of_lt hb)),[],.nil,Heap.DictOf.new h⟩
def b4:TE:=λ_ H Q=>∀p,H p=none->Q (.ref p) (aR H p (.dK []))
section
variable {X:Cx}{pos:Pos}
theorem MH:PE X (.Dict [] [] pos) b4:=λpins s U H Q I h=>wpAny_Dict_empty ⟨.ref s.heap.objs.size,_,I.laid (a:=s.heap.objs.size) (o:=.dK []) (t':=s.toks) (λ_ _ q=>Heap.get?_push_of_some _ q) (Nat.le_refl _) (Zp s.heap I.big),rfl,h _ (I.aN.fresh (Nat.le_refl _))⟩
end
section
variable {X:Cx}{pins:List (Addr×Obj)}{U:St}{H:Hp}{s:Shared}{a:Addr}{y d:V}{u r:Value}{o:Option V}{A:Around}{E:Value->Shared->Prop}
theorem Zb{Q:Value->Shared->Prop}(hu:A.units+1<cLine)(I:Inv X pins U H s)(g:fN H a y o)(ry:RelV y u)(h:∀w' s',Inv X pins U H s'->RelV (o.getD .aB) w'->Q w' s') :
  wpAny (model X.prog X.w) A (call (.builtin "dict.get") [.ref a,u]) Q E s:=by
 rcases g with⟨kvs,k,e,ey,l⟩|⟨kvs,k,b,e,ey,eb,l⟩
 .subst ey;obtain⟨z,hd,vs,rel,dd⟩:=sL I.aN e;refine call_meetsIn PySem.F.slot_dict_get dd.typeIs PySem.F.entry_dict_get (PySem.F.args_dict_get_2 _ _) (meets_dict_get (dO X.prog X.w) a (tD ry) hd) ⟨_,dd.mapOf,h _ _ (I.tok _) ?_⟩;rw[l];exact(rel.val k).getD rfl
 .subst ey;cases(show u=Value.ref b from ry);obtain⟨z,hd,xs,rel,dd⟩:=sM I.aN e;refine call_meetsIn PySem.F.slot_dict_get dd.typeIs PySem.F.entry_dict_get (PySem.F.args_dict_get_2 _ _) (meetsH_dict_get (tupleKind (dO X.prog X.w)) a b hd) ⟨tupleKind_room_in1 hu,k,xs,tF I.aN eb,dd,h _ _ (I.tok _) ?_⟩;rw[l];exact(rel.val k).getD rfl
theorem Zc{Q:Value->Shared->Prop}(hu:A.units+1<cLine)(I:Inv X pins U H s)(g:fN H a y o)(ry:RelV y u)(rd:RelV d r)(h:∀w' s',Inv X pins U H s'->RelV (o.getD d) w'->Q w' s') :
  wpAny (model X.prog X.w) A (call (.builtin "dict.get") [.ref a,u,r]) Q E s:=by
 rcases g with⟨kvs,k,e,ey,l⟩|⟨kvs,k,b,e,ey,eb,l⟩
 .subst ey;obtain⟨z,hd,vs,rel,dd⟩:=sL I.aN e;refine call_meetsIn PySem.F.slot_dict_get dd.typeIs PySem.F.entry_dict_get (PySem.F.args_dict_get_3 _ _ _) (meets_dict_get_default (dO X.prog X.w) a (tD ry) hd r) ⟨_,dd.mapOf,h _ _ (I.tok _) ?_⟩;rw[l];exact(rel.val k).getD rd
 .subst ey;cases(show u=Value.ref b from ry);obtain⟨z,hd,xs,rel,dd⟩:=sM I.aN e;refine call_meetsIn PySem.F.slot_dict_get dd.typeIs PySem.F.entry_dict_get (PySem.F.args_dict_get_3 _ _ _) (meetsH_dict_get_default (tupleKind (dO X.prog X.w)) a b hd r) ⟨tupleKind_room_in1 hu,k,xs,tF I.aN eb,dd,h _ _ (I.tok _) ?_⟩;rw[l];exact(rel.val k).getD rd
end
theorem cQ.get{P:Program}{w:World}{H:Hp}{h:Heap}{a:Addr}{o:HO}(x:cQ P w H h a o):∃ob,h.get? a=some ob:=by
 cases o with
 |lst xs=>obtain⟨_,_,_,_,e⟩:=x;exact⟨_,e⟩|tup xs=>obtain⟨_,_,_,ob,e,_⟩:=x;exact⟨_,e⟩|dK kvs=>obtain⟨_,_,_,_,o,_,_,e,_⟩:=x;exact⟨_,e⟩|dT kvs=>obtain⟨_,_,_,_,o,_,_,e,_⟩:=x;exact⟨_,e⟩|set S n=>obtain⟨o,_,_,_,e,_⟩:=x;exact⟨_,e⟩|ins C dx fs=>obtain⟨_,_,_,e,_⟩:=x;exact⟨_,e⟩|own y=>exact x|xd fs=>obtain⟨_,⟨_,_,_,e,_⟩,_⟩:=x;exact⟨_,e⟩|yh lo hi=>obtain⟨_,_,_,e⟩:=x;exact⟨_,e⟩|cT ob u=>obtain⟨e,_⟩:=x;exact⟨_,e⟩|rR ps=>exact⟨_,show h.get? a=some _ from x⟩|met f y=>exact⟨_,show h.get? a=some _ from x⟩|ext φ=>obtain⟨_,e,_⟩:=x;exact e
def Ic(B:Heap)(fs:List Addr)(h0:Heap)(H':Hp)(h:Heap):Prop:=∀b o,h.get? b=some o->b∉fs->((∃u,h0.get? b=some u)\/H' b≠none)->B.get? b=some o
def eI(P:Program)(w:World):gH:=λouter H s E e s'=>
 ∃(a:Addr) (cls:Value) (H':Hp) (B:Heap) (a0:Value),e = .ref a/\s'.os=s.os/\AllBare s'.gens/\Un (fF outer) [] H H' s.heap s'.heap/\cJ P w H' s'.heap /\
  Heap.FlyingW B outer a cls a0 s'.heap/\Ic B (fF outer) s.heap H' s'.heap/\E cls none H'
theorem cJ.gf{P:Program}{w:World}{H':Hp}{h h' h0 B:Heap}{fs:List Addr}(x:cJ P w H' h)(c:Ic B fs h0 H' h)(k:B.StaysIn h')(nf:∀b∈fs,H' b=none):cJ P w H' h':=λa o e=>
 (x a o e).nF (λb u hb q=>by
  have ht:H' b≠none:=by
   rcases hb with rfl|hb
   .rw[e];intro z;cases z
   .rw[hb];intro z;cases z
  exact k b u (c b u q (λz=>ht (nf b z)) (.inr ht))) (λ_ q=>q) λ_ _ q=>q
section
variable {X:Cx}{pins:List (Addr×Obj)}{U:St}{H1:Hp}{s1 s':Shared}{E:XK}{e:Value}
theorem EV(I:Inv X pins U H1 s1)(hx:X.ex=[])(hs:X.stack=X.env::X.outer)(hf:X.env.frame=some X.env.locals)(h:eI X.prog X.w X.stack H1 s1 E e s'){M:Model}{E':Value->Shared->Prop} :
  wpAny M X.A (leaving X.env e) (λ_ s''=>eI X.prog X.w X.outer X.H₀ X.s₀ E e s'') E' s':=by
 obtain⟨a,cls,H',B,a0,rfl,os,bare,un,aN,gf,calm,q⟩:=h;have hfr:X.A.frames=some (X.env::X.outer):=by rw[<- hs];exact I.ok.frames
 rw[hs]at gf;refine wpAny_leaves_onW hfr hf gf λh' fly' up=>?_;have nin:∀b o,X.s₀.heap.get? b=some o->b≠X.env.locals:=λb o e z=>by have:=Heap.lt_size e;rw[z]at this;exact absurd (Nat.lt_of_lt_of_le this I.ok.above) (Nat.lt_irrefl _)
 have fst:∀b,b∈fF X.stack->b=X.env.locals\/b∈X.fs:=λb hb=>List.mem_cons.mp (I.yq b hb);have nst:∀b o,X.s₀.heap.get? b=some o->b∉X.fs->b∉fF X.stack:=λb o e n z=>by
  rcases fst b z with z|z
  .exact nin b o e z
  .exact n z
 have sub:∀b∈X.fs,b∈fF X.stack:=λb hb=>by rw[hs];unfold fF;rw[List.filterMap_cons,hf];exact List.mem_cons_of_mem _ hb
 have nx:∀b:Addr,b∉X.ex:=λb z=>by rw[hx]at z;cases z
 have n0:∀b:Addr,b∉([]:List Addr):=λb z=>by cases z
 have nf:∀b∈fF X.stack,H' b=none:=λb hb=>by obtain⟨_,o,ho,_⟩:=I.stack.mem hb;exact un.free b o ho (I.Gy b hb) (n0 b)
 have old:∀b o,X.s₀.heap.get? b=some o->∃u,s1.heap.get? b=some u:=λb o e=>I.base.there b o e (nx b);have inB:∀b o o',X.s₀.heap.get? b=some o->b∉X.fs->s'.heap.get? b=some o'->B.get? b=some o':=λb o o' e n e'=>calm b o' e' (nst b o e n) (.inl (old b o e));have slots:∀b∈X.fs,∀o,s'.heap.get? b=some o->∃sl,h'.get? b=some { o with slots:=sl }:=λb hb o e=>by obtain⟨_,o',ho,hd⟩:=gf.2.2.1.mem (by rw[<- hs];exact sub b hb);rw[e]at ho;cases ho;exact up b o e hd
 refine⟨a,cls,H',B,a0,rfl,os.trans I.os,bare,⟨λb o e n hb _=>?_,λb o e n hb _=>?_,λb o e n _=>?_,λb o e _=>?_,λb xs z=>un.lX b xs (I.base.lX b xs z),λb o u z=>un.iO b o u (I.base.iO b o u z),λb ps z=>?_⟩,aN.gf calm fly'.1 nf,fly',λb o e n w=>?_,q⟩
 .have e1:=I.base.keep b o e n hb (nx b);have e2:=un.keep b o e1 (I.base.free b o e n (nx b)) (nst b o e hb) (n0 b);exact fly'.1 b o (inB b o o e hb e2)
 .obtain⟨sl,e1⟩:=I.base.slot b o e n hb (nx b);obtain⟨sl2,e2⟩:=un.slot b _ e1 (I.base.free b o e n (nx b)) (sub b hb) (n0 b);obtain⟨sl3,e3⟩:=slots b hb _ e2;exact⟨sl3,e3⟩
 .obtain⟨u,e1⟩:=old b o e;exact un.free b u e1 (I.base.free b o e n (nx b)) (n0 b)
 .obtain⟨u,e1⟩:=old b o e;obtain⟨u2,e2⟩:=un.there b u e1 (n0 b);by_cases hb:b∈X.fs
  .obtain⟨sl,e3⟩:=slots b hb u2 e2;exact⟨_,e3⟩
  .exact⟨u2,fly'.1 b u2 (inB b o u2 e hb e2)⟩
 .obtain⟨m1,e1⟩:=I.base.lV b ps z;obtain⟨m2,e2⟩:=un.lV b _ e1;exact⟨m1++m2,by rw[e2,Array.append_assoc]⟩
 .have:∃o',s'.heap.get? b=some o'/\B.get? b=some o':=by
   rcases w with⟨u,w⟩|w
   .obtain⟨u1,e1⟩:=old b u w;obtain⟨u2,e2⟩:=un.there b u1 e1 (n0 b);exact⟨u2,e2,inB b u u2 w n e2⟩
   .cases hh:H' b with
    |none=>exact absurd hh w|some y=>obtain⟨u2,e2⟩:=(aN b y hh).get;exact⟨u2,e2,calm b u2 e2 (λz=>w (nf b z)) (.inr w)⟩
  obtain⟨o',_,e2⟩:=this;have q2:=fly'.1 b o' e2;rw[e]at q2;cases q2;exact e2
end
theorem uh{P:Program}{w:World}{K:W.Frag}{mg:Str->Option Value}{base:Heap}{N:List Str}{qual:Str}{scope:Scope}{f:Addr}{cd:Value}{A:Around}{outer:List Env}{s:Shared}{H:Hp}{E:XK} :
 lA (eI P w) (nR (eI P w) P w K mg base N qual scope f cd A outer s H E) E:=λpins U H1 s1 e s' I h=>EV I rfl rfl rfl h
def D7(a:Addr)(cls:Value)(h:Heap):Prop:=∃ob,h.get? a=some ob/\ob.cls=cls
def Ih(CX:gH)(X:Cx)(EE:St->XK):Prop:=∀(pins:List (Addr×Obj)) (U:St) (H:Hp) (s:Shared) (e:Value) (s':Shared),Inv X pins U H s->CX X.stack H s (EE U) e s'->X.xe e s'
section
variable {X:Cx}{CX:gH}{k:Nat}{f:Addr}{fd:FuncData}{ps:List Str}{sp:Sp}{EE:St->XK}{x:Str}{p pos:Pos}{e:Expr}{es:List Expr}{t:TA}
theorem Uu{pins:List (Addr×Obj)}{U:St}{H:Hp}{s:Shared}{Q:VK}{us:List Value}{vs:List V}(F:dX X.prog X.w X.K X.mg X.base CX k f fd ps sp)(hr:cR k X.A)(hb:Binds X.K fd ps [])(hx:Ih CX X EE)
  (I:Inv X pins U H s) (r:Vals vs us) (h:sp vs H Q (EE U)):wpAny (model X.prog X.w) X.A (call (.ref f) us) (EP X pins U Q) X.xe s:=by
 have hl:(us++[]).length=ps.length:=by rw[List.append_nil,<- r.length];exact F.len _ _ _ _ h
 have hb':=hb s us I.cB hl;rw[List.append_nil]at hb';refine wpAny_call (codeAny_mono (F.run X.A X.stack s H ⟨us,[]⟩ us vs Q (EE U) hr I.Bg hb' r h) λr s' hq=>?_);cases r with
 |error e=>exact hx pins U H s e s' I hq|ok fl=>
  cases fl with
  |ret u=>exact I.after hq|next=>exact False.elim hq|brk=>exact False.elim hq|cont=>exact False.elim hq
end
def iK(cells:List (Str×Addr))(x:Str×NameKind)(cs:List (Str×Addr)):List (Str×Addr):=if(x.2==NameKind.free)=true then(match cells.lookup x.1 with
 |some c=>(x.1,c)::cs
 |none=>cs) else cs
def nP(scope:Scope)(env:Env):List (Str×Addr):=scope.names.foldl (λcs x=>iK env.cells x cs) []
theorem Nn{α β:Type}{st:α->β->β}:∀{l:List α} {f:α->β->Sem (ForInStep β)} (c:β),(∀x∈l,∀c,f x c=pure (.yield (st x c)))->forIn l c f=pure (l.foldl (λc x=>st x c) c)
 |[],f,c,h=>rfl|x::l,f,c,h=>by rw[List.forIn_cons,h x List.mem_cons_self,pure_bind];exact Nn (st x c) λy hy=>h y (List.mem_cons_of_mem _ hy)
theorem Yp{scope:Scope}{env:Env}(h:∀x∈scope.names,x.2 = .free->∃c,env.cells.lookup x.1=some c):closureFor scope env=pure (nP scope env):=by
 simp only[closureFor];rw[Nn (st:=iK env.cells) [] (λx hx c=>by
  obtain⟨n,kind⟩:=x;by_cases hk:kind = .free
  .obtain⟨a,ha⟩:=h _ hx hk;subst hk;simp[iK,cellOf,ha]
  .have:(kind==NameKind.free)=false:=by simpa using hk
   simp[iK,this])]
 rfl
theorem Lf{cells:List (Str×Addr)}:∀(l:List (Str×NameKind)) (cs:List (Str×Addr)),(∀x c,cs.lookup x=some c->cells.lookup x=some c)->∀x c,(l.foldl (λcs x=>iK cells x cs) cs).lookup x=some c->cells.lookup x=some c
 |[],cs,h=>h
 |y::l,cs,h=>Lf l _ (by
  intro x c e;change (iK cells y cs).lookup x=some c at e;unfold iK at e;split at e
  .split at e
   .rename_i c' hc';rw[List.lookup_cons]at e;split at e
    .rename_i q;have:=eq_of_beq q;subst this;rw[hc'];exact e
    .exact h x c e
   .exact h x c e
  .exact h x c e)
theorem Le{cells:List (Str×Addr)}:∀(l:List (Str×NameKind)) (cs:List (Str×Addr)) (x:Str),((∃c,cs.lookup x=some c)\/((x,NameKind.free)∈l/\∃c,cells.lookup x=some c))->∃c,(l.foldl (λcs x=>iK cells x cs) cs).lookup x=some c
 |[],cs,x,h=>by
  rcases h with h|⟨h,_⟩
  .exact h
  .cases h
 |y::l,cs,x,h=>by
  refine Le l _ x ?_;rcases h with⟨c,e⟩|⟨hm,c,e⟩
  .left;change ∃c,(iK cells y cs).lookup x=some c;unfold iK;split
   .split
    .rename_i c' _;rw[List.lookup_cons];split
     .exact⟨c',rfl⟩
     .exact⟨c,e⟩
    .exact⟨c,e⟩
   .exact⟨c,e⟩
  .rcases List.mem_cons.mp hm with q|q
   .left;subst q;simp[iK,e]
   .exact .inr ⟨q,c,e⟩
theorem Pt{env:Env}(hk:env.scope.kind = .function):∀{names:List (Str×NameKind)} {x:Str},names.lookup x=some .free->env.kindOf x=some .cell ->
  (names.map λ(n,k)=>if(k==NameKind.free&&env.scope.kind == .function&&env.kindOf n==some .cell) then(n,NameKind.cell) else(n,k)).lookup x=some .cell
 |[],_,h,_=>by simp at h
 | (n,k)::r,x,h,hc=>by
  have ih:=@Pt env hk r x;show List.lookup x ((if(k==NameKind.free&&env.scope.kind == .function&&env.kindOf n==some .cell)=true then(n,NameKind.cell) else(n,k))::_)=_;cases hx:x==n with
  |true=>simp only[List.lookup_cons,hx]at h;cases h;have:=eq_of_beq hx;subst this;simp[List.lookup_cons,hk,hc]
  |false=>
   simp only[List.lookup_cons,hx]at h;by_cases hq:(k==NameKind.free&&env.scope.kind == .function&&env.kindOf n==some .cell)=true
   .rw[if_pos hq];simp only[List.lookup_cons,hx];exact ih h hc
   .rw[if_neg hq];simp only[List.lookup_cons,hx];exact ih h hc
theorem Cg{env:Env}:∀{names:List (Str×NameKind)} {x:Str} {k:NameKind},(∀y∈names,y.2 ≠ .cell) ->
  (names.map λ(n,k)=>if(k==NameKind.free&&env.scope.kind == .function&&env.kindOf n==some .cell) then(n,NameKind.cell) else(n,k)).lookup x=some k->k = .cell\/k = .free->(x,NameKind.free)∈names
 |[],_,_,_,h,_=>by simp at h
 | (n,k)::r,x,k',hn,h,hk=>by
  have ih:=@Cg env r x k' λy hy=>hn y (List.mem_cons_of_mem _ hy);have h':List.lookup x ((if(k==NameKind.free&&env.scope.kind == .function&&env.kindOf n==some .cell)=true then(n,NameKind.cell) else(n,k))::(r.map λ(n,k)=>if(k==NameKind.free&&env.scope.kind == .function&&env.kindOf n==some .cell) then(n,NameKind.cell) else(n,k)))=some k':=h;cases hx:x==n with
  |true=>
   have e:=eq_of_beq hx;subst e;by_cases hq:(k==NameKind.free&&env.scope.kind == .function&&env.kindOf x==some .cell)=true
   .have:k = .free:=by simp only[Bool.and_eq_true]at hq;exact eq_of_beq hq.1.1
    subst this;exact List.mem_cons_self
   .rw[if_neg hq]at h';simp only[List.lookup_cons,hx]at h';cases h';rcases hk with hk|hk
    .exact absurd hk (hn _ List.mem_cons_self)
    .have hk:k = .free:=hk;subst hk;exact List.mem_cons_self
  |false=>
   have h2:(r.map λ(n,k)=>if(k==NameKind.free&&env.scope.kind == .function&&env.kindOf n==some .cell) then(n,NameKind.cell) else(n,k)).lookup x=some k':=by
    by_cases hq:(k==NameKind.free&&env.scope.kind == .function&&env.kindOf n==some .cell)=true
    .rw[if_pos hq]at h';simpa only[List.lookup_cons,hx]using h'
    .rw[if_neg hq]at h';simpa only[List.lookup_cons,hx]using h'
   exact List.mem_cons_of_mem _ (ih h2 hk)
def Cx.comp(X:Cx)(N':List Str)(scope:Scope)(s3:Shared)(H3:Hp)(C:Addr)(fp:List Addr):Cx:=
 { X with N:=N',s₀:=s3,H₀:=H3,env:=compEnvC scope (nP scope X.env) C X.env,outer:=X.stack,ex:=fp,fn:=λ_=>false,pn:=[],xe:=λ_ _=>False }
structure hJ(X:Cx)(N':List Str)(scope:Scope):Prop where
 kind:scope.kind = .function
 Cw:∀y∈scope.names,y.2 ≠ .cell
 Po:∀y∈scope.names,y.2 = .local->scope.names.lookup y.1=some .local
 free:∀y∈scope.names,y.2 = .free->X.env.scope.names.lookup y.1=some .cell
section
variable {X:Cx}{N':List Str}{scope:Scope}{pins:List (Addr×Obj)}{U U':St}{H:Hp}{s:Shared}{fp:List Addr}{C:Addr}
theorem hJ.Lh(hs:hJ X N' scope)(ok:X.Ok):closureFor scope X.env=pure (nP scope X.env):=
 Yp λx hx hk=>ok.has x.1 (.inl (hs.free x hx hk))
theorem vZ{x:Str}{c:Addr}(h:(nP scope X.env).lookup x=some c):X.env.cells.lookup x=some c:=Lf _ [] (λx c e=>by simp at e) x c h
theorem hJ.has(hs:hJ X N' scope)(ok:X.Ok){x:Str}(h:(x,NameKind.free)∈scope.names):∃c,(nP scope X.env).lookup x=some c:=
 Le _ [] x (.inr ⟨h,ok.has x (.inl (hs.free _ h rfl))⟩)
theorem Inv.mE(I:Inv X pins U H s)(hs:hJ X N' scope)(hf:∀b∈fp,eZ X pins H b/\b≠C)(hC:s.heap.objs.size<=C):(X.comp N' scope s H C fp).Ok where
 mod:=I.ok.mod
 kind:=hs.kind
 glob:=I.ok.glob
 blt:=I.ok.blt
 above:=hC
 inj:=λx y c e1 e2=>I.ok.inj x y c (vZ e1) (vZ e2)
 has:=λx hx=>by
  rcases hx with hx|hx
  .exact hs.has I.ok (Cg hs.Cw hx (.inl rfl))
  .exact hs.has I.ok (Cg hs.Cw hx (.inr rfl))
 pq:=λx c h=>by cases h
 hd:=I.ok.hd
 frames:=I.ok.frames
 dg:=.inl rfl
 qr:=λb hb=>⟨(hf b hb).2,λx c e=>(hf b hb).1.2.2.2.2.1 x c (vZ e)⟩
 bs:=λb o e=>I.bs b o e
 nN:=Nat.le_trans I.ok.nN I.sz
 ud:=λb o e hb=>by
  rcases(hf b hb).1.2.2.2.1 with z|z
  .exact I.ok.ud b o e z
  .exact absurd (Nat.lt_of_lt_of_le (Nat.lt_of_lt_of_le (Heap.lt_size e) I.ok.nN) z) (Nat.lt_irrefl _)
 fz:=λb hb hz=>by
  rcases List.mem_cons.mp (I.yq b hz)with e|e
  .exact(hf b hb).1.2.1 e
  .exact(hf b hb).1.2.2.1 e
 iP:=I.stack
 wD:=I.Gy
theorem Inv.comp{h4:Heap}{t:Nat}{m0:Str->Option Value}(I:Inv X pins U H s)(hs:hJ X N' scope)(hf:∀b∈fp,eZ X pins H b/\b≠C)(hC:s.heap.objs.size<=C)
  (k:∀b o,s.heap.get? b=some o->h4.get? b=some o) (hn:h4.Ns C m0) (hl:U'.length=N'.length)
  (hU:∀(i:Nat) x v,N'[i]?=some x->U'[i]?=some (some v)->scope.names.lookup x=some .free/\(x,NameKind.free)∈scope.names/\∃j:Nat,X.N[j]?=some x/\U[j]?=some (some v)) :
  Inv (X.comp N' scope s H C fp) [] U' H { s with heap:=h4,toks:=t } where
 ok:=I.mE hs hf hC
 os:=rfl
 bare:=I.bare
 base:=Un.kept k
 loc:=⟨m0,hn,λi x v e1 e2 _=>by
  obtain⟨hx,hm,j,e3,e4⟩:=hU i x v e1 e2;obtain⟨m,_,hl⟩:=I.loc;have hk:=hs.free _ hm rfl;obtain⟨u,r,lk⟩:=hl j x v e3 e4 (.inr (.inl hk));refine⟨u,r,.inr ⟨.inl (Pt I.ok.kind hx hk),?_⟩⟩;rcases lk with⟨z,_⟩|⟨_,c,ec,hc⟩
  .rw[show X.env.kindOf x=some .cell from hk]at z;cases z
  .obtain⟨c',e'⟩:=hs.has I.ok hm;have:=vZ e';rw[ec]at this;cases this;obtain⟨o,ho,hd⟩:=hc;exact⟨c,e',o,k _ _ ho,hd⟩⟩
 cell:=λx c e=>by obtain⟨v,o,ho,hd⟩:=I.cell x c (vZ e);exact⟨v,o,k _ _ ho,hd⟩
 free:=I.aN.fresh hC
 mI:=λx c e=>I.mI x c (vZ e)
 pin:=λp hp=>by cases hp
 aN:=I.aN.kept k
 len:=hl
end
noncomputable abbrev gS(us:List Value)(k:Nat):Obj:={ cls:=.type "list",data:=.seq us.toArray k }
theorem yw{α:Type}{M:Model}{A:Around}{t:Sem α}{Q:α->Shared->Prop}{E:Value->Shared->Prop}{s:Shared}(h:wpAny M A t Q (λ_ _=>False) s):wpAny M A t Q E s:=wpAny_mono h (λ_ _ q=>q) λ_ _ z=>z.elim
section
variable {X:Cx}{N':List Str}{scope:Scope}{pins:List (Addr×Obj)}{U U':St}{H H2:Hp}{s s2:Shared}{fp:List Addr}{it:Addr}{tn:Nat->Heap->Prop}{J:It}{elt tg bQ:Expr}{pos:Pos}
theorem Inv.i4{D:Addr}{ys:List V}{us:List Value}{k:Nat}(I:Inv X pins U H s)(hD:eZ X pins H D)(ho:s.heap.get? D=some (gS us k))(r:Vals ys us)(hz:ys.length<=sizeLine):Inv X pins U (aR H D (.lst ys)) s:=by
 have hn:=hD.1;show Inv X pins U (aR H D (.lst ys)) { s with heap:=s.heap,gens:=s.gens,drawn:=s.drawn,toks:=s.toks };refine I.step (ch:=[D]) (λb hb=>?_) (λb o _ _ _ e _=>e) (λb o _ _ _ e _=>⟨o.slots,e⟩) (λb o hc e n=>?_) (λb o _ e=>⟨o,e⟩) (λb xs e=>by rw[bP (eL e hn)];exact e) (λb o u e=>by rw[bP (eL e hn)];exact e) (λb ps e=>⟨#[],by rw[bP (eL e hn),e];simp⟩) (λm hm=>hm) (λb u e=>?_) I.bare
 .have e:b=D:=by simpa using hb
  subst e;exact⟨hD.2.2.2.1,hD.2.1,hD.2.2.2.2.1,hD.2.2.2.2.2⟩
 .rw[bP (λz=>hc (by simp[z]))];exact n
 .by_cases hb:b=D
  .subst hb;rw[fQ]at e;cases e;exact⟨hz,us,k,r,ho⟩
  .rw[bP hb]at e;exact(I.aN b u e).nF (λc v hc q=>q) (λc q=>by rw[bP (eL q hn)];exact q) λc xs q=>by rw[bP (eL q hn)];exact q
theorem Lm{ct:Option Expr}{g:TG}{tc:TT}{te:TE}{R:List V->Hp->Prop}{W:Nat->Nat->List V->St->Hp->Prop}{m0:Nat}{RR:Value->Addr->Result->Shared->Prop}{E:Value->Shared->Prop}
  (hsc:hJ X N' scope) (hcalm:X.calm=true) (I2:Inv X pins U H2 s2) (T:Turn X.prog X.w X.K tg J fp it tn) (st2:tn 0 s2.heap) (f2:∀b∈fp,eZ X pins H2 b)
  (hg:∀s H C fp,PG (X.comp N' scope s H C fp) tg g) (hct:∀c,ct=some c->∀s H C fp,PT (X.comp N' scope s H C fp) c tc) (hct0:ct=none->∀U H Q,tc U H Q->Q true H) (he:∀s H C fp,PE (X.comp N' scope s H C fp) elt te)
  (hl:U'.length=N'.length) (hU:∀(i:Nat) x v,N'[i]?=some x->U'[i]?=some (some v)->scope.names.lookup x=some .free/\(x,NameKind.free)∈scope.names/\∃j:Nat,X.N[j]?=some x/\U[j]?=some (some v))
  (w0:W 0 m0 [] U' H2)
  (turn:∀i m ys U H,W i m ys U H->(J.stop i H/\R ys H)\/(J.go i H/\∀x H',J.oe i H x H'->g x U H' λU2 H2=>tc U2 H2 λb H3=>if b=true then te U2 H3 λy H4=>ys.length<sizeLine/\∃m',m'<m/\W (i+1) m' (ys++[y]) U2 H4 else∃m',m'<m/\W (i+1) m' ys U2 H3))
  (hRR:∀D C s' H' m ys,Inv X pins U (aR H' D (.lst ys)) s'->H' D=none->s'.heap.Ns C m->eZ X pins (aR H' D (.lst ys)) C->R ys H'->RR (.ref D) C (.ok .next) s') :
  wpAny (model X.prog X.w) X.A (newList []) (λacc s₃=>wpAny (model X.prog X.w) X.A (newFunctionEnv scope X.env.globals (nP scope X.env) [] X.env.qual none .none (some X.env)) (λcenv s₄=>codeAny (model X.prog X.w) X.A (.compStart (.ListComp elt [⟨tg,bQ,ct.toList,0⟩] scope pos) 0 (.ref it) acc { cenv with scope:=relabel scope X.env }) (RR acc cenv.locals) s₄) E s₃) E s2:=by
 refine wpAny_newObj_type (wpAny_newFunctionEnv hsc.Cw (by intro y hy;simp at hy) (λh₁ hns₁ hsb₁=>?_) hsc.kind);dsimp only at hns₁ hsb₁ ⊢;generalize hH2:s2.heap.push { cls:=.type "list",dict:=none,data:=.seq ([]:List Value).toArray }=hp2 at hns₁ hsb₁ ⊢;have hC:hp2.objs.size=s2.heap.objs.size+1:=by rw[<- hH2,Heap.size_push]
 have hDC:s2.heap.objs.size≠hp2.objs.size:=by rw[hC];exact Nat.ne_of_lt (Nat.lt_succ_self _)
 have hCle:s2.heap.objs.size<=hp2.objs.size:=by rw[hC];exact Nat.le_succ _
 have below:∀b,b<s2.heap.objs.size->b≠hp2.objs.size/\b≠s2.heap.objs.size:=λb hb=>⟨by rw[hC];exact Nat.ne_of_lt (Nat.lt_succ_of_lt hb),Nat.ne_of_lt hb⟩;have old:∀b o,s2.heap.get? b=some o->h₁.get? b=some o:=λb o e=>hsb₁.extBut b o (below b (Heap.lt_size e)).1 (Heap.get?_push_of_some _ (hH2▸Heap.get?_push_of_some _ e));have hacc:h₁.get? s2.heap.objs.size=some (gS [] 0):=hsb₁.extBut _ _ hDC (Heap.get?_push_of_some _ (hH2▸Heap.get?_push_size _ rfl));have fD:eZ X pins H2 s2.heap.objs.size:=I2.sP (Nat.le_refl _) (I2.aN.fresh (Nat.le_refl _));have lfp:∀b∈fp,b<s2.heap.objs.size:=λb hb=>by obtain⟨o,e,_⟩:=T.obj 0 _ st2 b hb;exact Heap.lt_size e
 have hf':∀b∈s2.heap.objs.size::fp,eZ X pins H2 b/\b≠hp2.objs.size:=λb hb=>by
  rcases List.mem_cons.mp hb with rfl|hb
  .exact⟨fD,hDC⟩
  .exact⟨f2 b hb,(below b (lfp b hb)).1⟩
 have IY:=I2.comp (t:=s2.toks+([]:List (Str×Value)).length) hsc hf' hCle old hns₁ hl hU;generalize hDd:s2.heap.objs.size=D at *;generalize hCd:hp2.objs.size=C at *;have fnD:∀b∈fp,b≠D:=λb hb=>(below b (lfp b hb)).2;have ok:=IY.ok;have hg':=hg s2 H2 C (D::fp);have hct':=λc e=>hct c e s2 H2 C (D::fp);have he':=he s2 H2 C (D::fp);have fY:∀{pl:List (Addr×Obj)} {H':Hp} {b:Addr},b∈D::fp->H' b=none->(∀p∈pl,p.1≠b)->eZ (X.comp N' scope s2 H2 C (D::fp)) pl H' b:=λ{pl H' b} hb hn hp=>
  ⟨hn,(ok.qr b hb).1,ok.fz b hb,.inl hb,(ok.qr b hb).2,λp h=>hp p (by simpa[Cx.comp]using h)⟩
 let Iv:Nat->Shared->Prop:=λn s'=>∃(i:Nat) (ys:List V) (us:List Value) (k:Nat) (U':St) (H':Hp),Inv (X.comp N' scope s2 H2 C (D::fp)) [] U' H' s'/\tn i s'.heap/\(∀b∈D::fp,H' b=none)/\s'.heap.get? D=some (gS us k)/\Vals ys us/\ys.length<=sizeLine/\W i n ys U' H'
 have turnA:∀(n:Nat) (s':Shared),Iv n s'->∀(K:Shared->Prop) (E':Value->Shared->Prop),
   (∀(i:Nat) (ys:List V) (us:List Value) (k:Nat) (pl:List (Addr×Obj)) (U6:St) (H6:Hp) (s6:Shared),Inv (X.comp N' scope s2 H2 C (D::fp)) ([(D,gS us k)]++pl) U6 H6 s6 ->
    (∀h7:Heap,(∀p∈pl,h7.get? p.1=some p.2)->tn (i+1) h7)->(∀b∈fp,∃o,(b,o)∈pl)->(∀p∈pl,p.1∈fp)->Vals ys us->ys.length<=sizeLine ->
    (tc U6 H6 λb H3=>if b=true then te U6 H3 λy H4=>ys.length<sizeLine/\∃m',m'<n/\W (i+1) m' (ys++[y]) U6 H4 else∃m',m'<n/\W (i+1) m' ys U6 H3)->K s6) ->
   wpAny (model X.prog X.w) X.A (pyNext (.ref it)) (λr s1=>match r with
    |none=>RR (.ref D) C (.ok .next) s1
    |some v=>wpAny (model X.prog X.w) X.A (letOwnedTupleGo tg (.ref it) v) (λ_ s0=>wpAny (model X.prog X.w) X.A (assign tg (compEnvC scope (nP scope X.env) C X.env) v) (λ_ s2=>K s2) E' s0) E' s1) E' s':=by
  rintro n s' ⟨i,ys,us,k,U3,H3,I3,st3,fr3,hD3,rv3,hz3,w3⟩ K E' hK
  have I3':Inv (X.comp N' scope s2 H2 C (D::fp)) [(D,gS us k)] U3 H3 s':=I3.wQ λp hp=>by
   have e:p=(D,gS us k):=by simpa using hp
   subst e;exact⟨hD3,fr3 D List.mem_cons_self,(ok.qr D List.mem_cons_self).1,ok.fz D List.mem_cons_self,λv z=>by cases z⟩
  have fp3:∀{H':Hp},(∀b∈fp,H' b=none)->∀b∈fp,eZ (X.comp N' scope s2 H2 C (D::fp)) [(D,gS us k)] H' b:=λhn b hb=>fY (List.mem_cons_of_mem _ hb) (hn b hb) λp hp=>by
   have e:p=(D,gS us k):=by simpa using hp
   subst e;exact Ne.symm (fnD b hb)
  have fr3':∀b∈fp,H3 b=none:=λb hb=>fr3 b (List.mem_cons_of_mem _ hb);rcases turn i n ys U3 H3 w3 with⟨stop,hR⟩|⟨go,step⟩
  .refine aM (T.done (X.comp N' scope s2 H2 C (D::fp)) rfl rfl rfl hcalm i _ s' U3 H3 E' I3' (fp3 fr3') st3 stop) λr s4 ⟨hr,I4⟩=>?_;subst hr;obtain⟨gD,nD,_⟩:=I4.pin (D,gS us k) (List.mem_append_right _ List.mem_cons_self);obtain⟨m,hn,_⟩:=id I4.loc;have IX:Inv X pins U H3 s4:=I2.Xx (ch:=D::fp) I4.os I4.base I4.aN I4.bare λb hb=>⟨(hf' b hb).1.2.2.2.1,(hf' b hb).1.2.1,(hf' b hb).1.2.2.2.2.1,(hf' b hb).1.2.2.2.2.2⟩;refine hRR D C s4 H3 m ys (IX.i4 ⟨nD,fD.2⟩ gD rv3 hz3) nD hn ⟨by rw[bP (Ne.symm hDC)];exact I4.free,?_⟩ hR;have fC:eZ X pins H3 C:=I2.sP (by rw[hDd];exact hCle) I4.free;exact fC.2
  .refine aM (T.item (X.comp N' scope s2 H2 C (D::fp)) rfl rfl rfl hcalm i _ s' U3 H3 E' I3' (fp3 fr3') st3 go) λr s4 ⟨u,hr,h4⟩=>?_;subst hr;refine aM h4 λ_ s5 ⟨x,H5,I5,r5,y5,st5,fr5⟩=>?_;have I5':=I5.pinned (fp3 fr5) (T.obj _ _ st5);refine yw (aM (hg' _ s5 U3 H5 x u _ I5' r5 (step x H5 y5)) λ_ s6 ⟨U6,H6,I6,q6⟩=>?_);refine hK i ys us k _ U6 H6 s6 I6 (λh7 h=>T.keep _ _ _ st5 λb hb o e=>h (b,o) (sy hb e)) (λb hb=>?_) (λp hp=>(Qh hp).1) rv3 hz3 q6;obtain⟨o,e,_⟩:=T.obj _ _ st5 b hb;exact⟨o,sy hb e⟩
 have back:∀{n i:Nat} {ys:List V} {us:List Value} {k:Nat} {pl:List (Addr×Obj)} {U6:St} {H6:Hp} {s6:Shared},Inv (X.comp N' scope s2 H2 C (D::fp)) ([(D,gS us k)]++pl) U6 H6 s6 ->
   (∀h7:Heap,(∀p∈pl,h7.get? p.1=some p.2)->tn (i+1) h7)->(∀b∈fp,∃o,(b,o)∈pl)->Vals ys us->ys.length<=sizeLine->(∃m',m'<n/\W (i+1) m' ys U6 H6)->∃m',m'<n/\Iv m' s6:=by
  intro n i ys us k pl U6 H6 s6 I6 ht hall rv hz ⟨m',hm,w⟩;obtain⟨gD,nD,_⟩:=I6.pin (D,gS us k) (List.mem_append_right _ (List.mem_append_left _ List.mem_cons_self));refine⟨m',hm,i+1,ys,us,k,U6,H6,I6.wQ λp hp=>(by cases hp),ht _ λp hp=>(I6.pin p (List.mem_append_right _ (List.mem_append_right _ hp))).1,λb hb=>?_,gD,rv,hz,w⟩;rcases List.mem_cons.mp hb with rfl|hb
  .exact nD
  .obtain⟨o,ho⟩:=hall b hb;exact(I6.pin _ (List.mem_append_right _ (List.mem_append_right _ ho))).2.1
 have app:∀{n i:Nat} {ys:List V} {us:List Value} {k:Nat} {pl:List (Addr×Obj)} {U6:St} {H7:Hp} {s7:Shared} {y:V} {v:Value} {E':Value->Shared->Prop},Inv (X.comp N' scope s2 H2 C (D::fp)) ([(D,gS us k)]++pl) U6 H7 s7 ->
   (∀h7:Heap,(∀p∈pl,h7.get? p.1=some p.2)->tn (i+1) h7)->(∀b∈fp,∃o,(b,o)∈pl)->(∀p∈pl,p.1∈fp)->Vals ys us->RelV y v->ys.length<sizeLine->(∃m',m'<n/\W (i+1) m' (ys++[y]) U6 H7) ->
   wpAny (model X.prog X.w) X.A (call (.builtin "list.append") [.ref D,v]) (λ_ s8=>∃m',m'<n/\Iv m' s8) E' s7:=by
  intro n i ys us k pl U6 H7 s7 y v E' I7 ht hall hpl rv ry hz ⟨m',hm,w⟩;obtain⟨gD,nD,_⟩:=I7.pin (D,gS us k) (List.mem_append_right _ (List.mem_append_left _ List.mem_cons_self));have hus:us.length<sizeLine:=by rw[<- rv.length];exact hz
  refine append_at (hsz:=by rw[List.size_toArray];exact Nat.le_of_lt hus) gD λh8 hs8 g8=>?_;have nb:∀b∈D::fp,H7 b=none:=λb hb=>by
   rcases List.mem_cons.mp hb with rfl|hb
   .exact nD
   .obtain⟨o,ho⟩:=hall b hb;exact(I7.pin _ (List.mem_append_right _ (List.mem_append_right _ ho))).2.1
  have f8:=fY (pl:=[]) (H':=H7) (b:=D) List.mem_cons_self nD (λp hp=>by cases hp);refine⟨m',hm,i+1,ys++[y],us++[v],k+1,U6,H7,(I7.wQ (pins':=[]) λp hp=>(by cases hp)).turned (t':=s7.toks) (it:=D) (λb o hb e=>hs8.extBut b o hb e) nD f8.2.1 f8.2.2.2.1 f8.2.2.2.2.1 f8.2.2.2.2.2,
   ht _ λp hp=>?_,nb,?_,rv.append (.cons ry .nil),?_,w⟩
  .exact hs8.extBut _ _ (fnD _ (hpl p hp)) (I7.pin p (List.mem_append_right _ (List.mem_append_right _ hp))).1
  .show h8.get? D=_;rw[g8];simp[gS]
  .rw[List.length_append];exact hz
 have i0:Iv m0 { s2 with heap:=h₁,toks:=s2.toks+([]:List (Str×Value)).length }:=⟨0,[],[],0,U',H2,IY,T.keep _ _ _ st2 λb _ o e=>old b o e,λb hb=>(hf' b hb).1.1,hacc,.nil,Nat.zero_le _,w0⟩;have loop:codeAny (model X.prog X.w) X.A (.compLoop (.ListComp elt [⟨tg,bQ,ct.toList,0⟩] scope pos) 0 (.ref it) (.ref D) (compEnvC scope (nP scope X.env) C X.env)) (RR (.ref D) C) { s2 with heap:=h₁,toks:=s2.toks+([]:List (Str×Value)).length }:=by
  cases ct with
  |none=>refine PySem.W.kcp_loop Iv (λn s' hI=>turnA n s' hI _ _ ?_) m0 i0;intro i ys us k pl U6 H6 s6 I6 ht hall hpl rv hz q6;have q7:=hct0 rfl U6 H6 _ q6;rw[if_pos rfl]at q7;refine yw (aM (he' _ s6 U6 H6 _ I6 q7) λv s7 ⟨y,H7,I7,r7,hz7,w7⟩=>?_);exact app I7 ht hall hpl rv r7 hz7 w7
  |some c=>
   refine PySem.W.kct_loop Iv (λn s' hI=>turnA n s' hI _ _ ?_) m0 i0;intro i ys us k pl U6 H6 s6 I6 ht hall hpl rv hz q6;refine yw (aM (hct' c rfl _ s6 U6 H6 _ I6 q6) λb s7 ⟨H7,I7,q7⟩=>?_);cases b with
   |true=>rw[if_pos rfl]at q7 ⊢;refine yw (aM (he' _ s7 U6 H7 _ I7 q7) λv s8 ⟨y,H8,I8,r8,hz8,w8⟩=>?_);exact app I8 ht hall hpl rv r8 hz8 w8
   |false=>rw[if_neg Bool.false_ne_true]at q7 ⊢;exact back I7 ht hall rv hz q7
 exact codeAny_compStart_list loop (T.self _ 0 _ _ _ (T.keep _ _ _ st2 λb _ o e=>old b o e) loop)
def Hb(wi:TI)(imp:St->St)(g:TG)(tc:TT)(te:TE):TE:=λU H Q=>wi U H λJ H1=>∃(W:Nat->Nat->List V->St->Hp->Prop) (m0:Nat),W 0 m0 [] (imp U) H1/\∀i m ys U' H',W i m ys U' H' ->
 (J.stop i H'/\∀D,H' D=none->Q (.ref D) (aR H' D (.lst ys)))\/(J.go i H'/\∀x H2,J.oe i H' x H2->g x U' H2 λU3 H3=>tc U3 H3 λb H4=>if b=true then te U3 H4 λy H5=>ys.length<sizeLine/\∃m',m'<m/\W (i+1) m' (ys++[y]) U3 H5 else∃m',m'<m/\W (i+1) m' ys U3 H4)
variable {ct:Option Expr}{wi:TI}{imp:St->St}{g:TG}{tc:TT}{te:TE}
theorem MG(hsc:hJ X N' scope)(hcalm:X.calm=true)(hi:PI X tg bQ wi)
  (hg:∀s H C fp,PG (X.comp N' scope s H C fp) tg g) (hct:∀c,ct=some c->∀s H C fp,PT (X.comp N' scope s H C fp) c tc) (hct0:ct=none->∀U H Q,tc U H Q->Q true H) (he:∀s H C fp,PE (X.comp N' scope s H C fp) elt te)
  (himp:∀U:St,(imp U).length=N'.length)
  (hU:∀(U:St) (i:Nat) x v,N'[i]?=some x->(imp U)[i]?=some (some v)->scope.names.lookup x=some .free/\(x,NameKind.free)∈scope.names/\∃j:Nat,X.N[j]?=some x/\U[j]?=some (some v))
  (hset:∀x,foldedSetIterable bQ X.env x=pure x):PE X (.ListComp elt [⟨tg,bQ,ct.toList,0⟩] scope pos) (Hb wi imp g tc te):=by
 intro pins s U H Q I h;rw[eval_ListComp];refine wpAny_comprehension_free (use:=none) (g:=⟨tg,bQ,ct.toList,0⟩) (gs:=[]) rfl hset (hsc.Lh I.ok) hsc.kind hsc.Po ?_;refine aM (hi pins s U H _ I h) λv s1 h1=>aM h1 λitv s2 h2=>?_;obtain⟨it,fp,tn,J,H2,e,I2,T,st2,f2,W,m0,w0,turn⟩:=h2;subst e;refine Lm (R:=λys H'=>∀D,H' D=none->Q (.ref D) (aR H' D (.lst ys))) hsc hcalm I2 T st2 f2 hg hct hct0 he (himp U) (hU U) w0 turn ?_;intro D C s' H' m ys I' hD hn fC hR;exact⟨m,hn,λh' hs'=>⟨.ref D,_,I'.turned (t':=s'.toks) (λb o hb e=>hs'.extBut b o hb e) fC.1 fC.2.1 fC.2.2.2.1 fC.2.2.2.2.1 fC.2.2.2.2.2,rfl,hR D hD⟩⟩
theorem OE{i:Nat}{y:Str}{py spos:Pos}(hN:X.N.Nodup)(hi':X.N[i]?=some y)(hy:X.env.scope.names.lookup y=some .local)
  (hsw:swapsWith (.ListComp elt [⟨tg,bQ,ct.toList,0⟩] scope pos) (some (.Name y py)) spos.line X.env=pure true) (hsc:hJ X N' scope) (hcalm:X.calm=true) (hi:PI X tg bQ wi)
  (hg:∀s H C fp,PG (X.comp N' scope s H C fp) tg g) (hct:∀c,ct=some c->∀s H C fp,PT (X.comp N' scope s H C fp) c tc) (hct0:ct=none->∀U H Q,tc U H Q->Q true H) (he:∀s H C fp,PE (X.comp N' scope s H C fp) elt te)
  (himp:∀U:St,(imp U).length=N'.length)
  (hU:∀(U:St) (i:Nat) x v,N'[i]?=some x->(imp U)[i]?=some (some v)->scope.names.lookup x=some .free/\(x,NameKind.free)∈scope.names/\∃j:Nat,X.N[j]?=some x/\U[j]?=some (some v))
  (hset:∀x,foldedSetIterable bQ X.env x=pure x):PS X (.Assign [.Name y py] (.ListComp elt [⟨tg,bQ,ct.toList,0⟩] scope pos) spos) (Vi (Hb wi imp g tc te) (Of i)):=by
 intro pins s U H D I h;rw[exec_Assign_Name_used _ _ _ _ hsw];refine wpAny_bind (wpAny_standAt (wpAny_bind ?_));show wpAny _ _ (do let _ <- comprehension (.ListComp elt [⟨tg,bQ,ct.toList,0⟩] scope pos) scope X.env _ (newList []) false (eval bQ X.env) (some (assign (.Name y py) X.env))) _ _ s;refine wpAny_bind (wpAny_mono (wpAny_comprehension_free (use:=some (assign (.Name y py) X.env)) (Q:=λ_ s'=>SP X pins D .next s') (g:=⟨tg,bQ,ct.toList,0⟩) (gs:=[]) rfl hset (hsc.Lh I.ok) hsc.kind hsc.Po ?_)
  (λ_ s' hq=>wpAny_pure (wpAny_pure hq)) λ_ _ e=>e)
 refine aM (hi pins s U H _ I h) λv s1 h1=>aM h1 λitv s2 h2=>?_;obtain⟨it,fp,tn,J,H2,e,I2,T,st2,f2,W,m0,w0,turn⟩:=h2;subst e;refine Lm (R:=λys H'=>∀d,H' d=none->D.nx (U.set i (some (.ref d))) (aR H' d (.lst ys))) hsc hcalm I2 T st2 f2 hg hct hct0 he (himp U) (hU U) w0 turn ?_;intro d C s' H' m ys I' hD hn fC hR;obtain⟨oC,es,ep,hoC,hd1,rC⟩:=id hn;have I'':Inv X (pins++[(C,oC)]) U (aR H' d (.lst ys)) s':=I'.wQ λp hp=>(List.mem_append.mp hp).elim (λz=>I'.pin p (List.mem_append_right _ z)) λz=>by
  have e:p=(C,oC):=by simpa using z
  subst e;exact⟨hoC,fC.1,fC.2.1,fC.2.2.1,λv z=>by rw[hd1]at z;cases z⟩
 refine wpAny_assign_Name (vK I'' hN hi' (.inl hy) (v:=.ref d) rfl (λs3 I3=>?_) (.inr hy));have p3:=(I3.pin (C,oC) (List.mem_append_right _ (List.mem_append_right _ List.mem_cons_self))).1;exact⟨m,⟨oC,es,ep,p3,hd1,rC⟩,λh' hs'=>⟨_,_,I3.ze.turned (t':=s3.toks) (λb o hb e=>hs'.extBut b o hb e) fC.1 fC.2.1 fC.2.2.2.1 fC.2.2.2.2.1 fC.2.2.2.2.2,hR d hD⟩⟩
end
end L2
namespace AM
open PySem PySem.Spec PyProof.Rows L2
theorem VQ{x y:V}{u:Value}(h:RelV x u)(k:RelV y u):x=y:=by cases x<;>cases y<;>simp only[L2.RelV]at h k<;>(try obtain⟨t,h⟩:=h)<;>(try obtain⟨t2,k⟩:=k)<;>first|(subst h;cases k<;>rfl)|(rw[h]at k;cases k<;>rfl)|(cases k<;>rfl)|(cases h<;>rfl)|rfl
theorem Ho:∀{xs ys:List V} {us:List Value},Vals xs us->Vals ys us->xs=ys
 |_,_,_,.nil,.nil=>rfl|_,_,_,.cons h t,.cons k r=>by rw[VQ h k,Ho t r]
def eC(K:W.Frag)(H:Hp):Nat->V->V->Bool->Prop
  |0,_,_,_=>False
  |n+1,x,y,b=>(fU x=true/\fU y=true/\b=iC x y) \/
    (b=false/\∃(a:Addr) (xs:List V),bZ K H a xs/\((x = .aB/\y = .ref a)\/(x = .ref a/\y = .aB))) \/
    ∃(a c:Addr) (xs ys:List V),x = .ref a/\y = .ref c /\
      ((bO K H a xs/\bO K H c ys/\((xs.length≠ys.length/\b=false)\/(xs.length=ys.length/\∃e:Nat->Bool,(∀j p q,xs[j]?=some p->ys[j]?=some q->eC K H n p q (e j))/\b=(List.range xs.length).all e))) \/
       (bZ K H a xs/\bZ K H c ys/\∃e:Nat->Bool,(∀j p q,xs[j]?=some p->ys[j]?=some q->eC K H n p q (e j))/\b=((List.range (min xs.length ys.length)).all e&&xs.length==ys.length)) \/
       (bO K H a xs/\bZ K H c ys/\b=false)\/(bZ K H a xs/\bO K H c ys/\b=false))
section
variable {X:Cx}{pins:List (Addr×Obj)}{U:L2.St}{H:Hp}{s:Shared}
theorem CS{x:V}(h:fU x=true):iC x x=true:=by cases x<;>first|(simp[iC];done)|cases h
theorem qI(I:Inv X pins U H s){a:Addr}{xs:List V}(h:bO X.K H a xs):∃its:List Value,Vals xs its/\s.heap.IsList a its.toArray:=by obtain⟨its,r,p,_⟩:=I.list h;exact⟨its,r,p.isList⟩
theorem lW(I:Inv X pins U H s){a:Addr}{xs:List V}(h:bZ X.K H a xs):∃its:List Value,Vals xs its/\s.heap.IsTuple a its.toArray:=by obtain⟨its,r,p,_⟩:=I.tuple h;exact⟨its,r,p⟩
theorem GR{a:Addr}{xs ys:List Value}(h:s.heap.IsList a xs.toArray)(k:s.heap.IsList a ys.toArray):xs=ys:=by obtain⟨o,h1,h2,n,h3⟩:=h;obtain⟨o2,k1,k2,n2,k3⟩:=k;rw[h1]at k1;cases k1;rw[h3]at k3;injection k3 with e1 e2;simpa using e1
theorem GS{a:Addr}{xs ys:List Value}(h:s.heap.IsTuple a xs.toArray)(k:s.heap.IsTuple a ys.toArray):xs=ys:=by obtain⟨o,h1,h2,n,h3⟩:=h;obtain⟨o2,k1,k2,n2,k3⟩:=k;rw[h1]at k1;cases k1;rw[h3]at k3;injection k3 with e1 e2;simpa using e1
theorem Ij{e:Nat->Bool}{n:Nat}(h:∀j,j<n->e j=true):(List.range n).all e=true:=by rw[List.all_eq_true];intro j hj;exact h j (List.mem_range.mp hj)
theorem eC.same(I:Inv X pins U H s):∀{n:Nat} {x:V} {b:Bool},eC X.K H n x x b->b=true
 |0,_,_,h=>h.elim
 |n+1,x,b,h=>by
  have ga:∀{xs:List V} {e:Nat->Bool},(∀j p q,xs[j]?=some p->xs[j]?=some q->eC X.K H n p q (e j))->∀j,j<xs.length->e j=true:=λ{xs e} h j hj=>eC.same I (h j xs[j] xs[j] (List.getElem?_eq_getElem hj) (List.getElem?_eq_getElem hj))
  rcases h with⟨f,_,rfl⟩|⟨_,a,xs,_,⟨e1,e2⟩|⟨e1,e2⟩⟩|⟨a,c,xs,ys,e1,e2,h⟩
  rotate_left 1
  .subst e1;cases e2
  .subst e1;cases e2
  rotate_left 1
  .exact CS f
  .subst e1;cases e2;rcases h with⟨h1,h2,h⟩|⟨h1,h2,h⟩|⟨h1,h2,h⟩|⟨h1,h2,h⟩
   .obtain⟨us,r1,p1⟩:=qI I h1;obtain⟨vs,r2,p2⟩:=qI I h2;have e:=GR p1 p2;subst e;have e:=Ho r1 r2;subst e;rcases h with⟨h,_⟩|⟨_,e,h,rfl⟩
    .exact absurd rfl h
    .exact Ij (ga h)
   .obtain⟨us,r1,p1⟩:=lW I h1;obtain⟨vs,r2,p2⟩:=lW I h2;have e:=GS p1 p2;subst e;have e:=Ho r1 r2;subst e;obtain⟨e,h,rfl⟩:=h;rw[Nat.min_self,Ij (ga h)];simp
   .obtain⟨us,r1,p1⟩:=qI I h1;obtain⟨vs,r2,p2⟩:=lW I h2;exact absurd rfl (SeqAt.ne_of_list_tuple p1 p2)
   .obtain⟨us,r1,p1⟩:=lW I h1;obtain⟨vs,r2,p2⟩:=qI I h2;exact absurd rfl (SeqAt.ne_of_list_tuple p2 p1)
mutual
theorem eC.rc(I:Inv X pins U H s):∀{n:Nat} {A:Around} {a c:Addr} {b:Bool},A.units+n<cLine->eC X.K H n (.ref a) (.ref c) b->SeqAt.RcAt A s (.ref a) (.ref c) b/\SeqAt.RcNeAt A s (.ref a) (.ref c) (!b)
 |0,_,_,_,_,_,h=>h.elim
 |n+1,A,a,c,b,hu,h=>by
  have hu':A.in1.units+n<cLine:=by show A.units+1+n<cLine;omega
  have h0:A.units<cLine:=by omega
  have items:∀{xs ys:List V} {us vs:List Value} {e:Nat->Bool},Vals xs us->Vals ys vs->(∀j p q,xs[j]?=some p->ys[j]?=some q->eC X.K H n p q (e j)) ->
    ∀j (h1:j<us.toArray.size) (h2:j<vs.toArray.size),SeqAt.EqAt A.in1 s us.toArray[j] vs.toArray[j] (e j):=λ{xs ys us vs e} r1 r2 h j h1 h2=>by
   have l1:j<xs.length:=by rw[r1.length];simpa using h1
   have l2:j<ys.length:=by rw[r2.length];simpa using h2
   obtain⟨u,g1,q1⟩:=r1.get (List.getElem?_eq_getElem l1);obtain⟨v,g2,q2⟩:=r2.get (List.getElem?_eq_getElem l2);have e1:us.toArray[j]=u:=by have:us[j]?=some u:=g1;rw[List.getElem?_eq_some_iff]at this;simpa using this.2
   have e2:vs.toArray[j]=v:=by have:vs[j]?=some v:=g2;rw[List.getElem?_eq_some_iff]at this;simpa using this.2
   rw[e1,e2];exact eC.at I hu' q1 q2 (h j _ _ (List.getElem?_eq_getElem l1) (List.getElem?_eq_getElem l2))
  rcases h with⟨f,_,_⟩|⟨_,a,xs,_,⟨e1,e2⟩|⟨e1,e2⟩⟩|⟨a',c',xs,ys,e1,e2,h⟩
  rotate_left 1
  .cases e1
  .cases e2
  rotate_left 1
  .cases f
  .cases e1;cases e2;rcases h with⟨h1,h2,h⟩|⟨h1,h2,h⟩|⟨h1,h2,rfl⟩|⟨h1,h2,rfl⟩
   .obtain⟨us,r1,p1⟩:=qI I h1;obtain⟨vs,r2,p2⟩:=qI I h2;rcases h with⟨hl,rfl⟩|⟨hl,e,h,rfl⟩
    .have hz:(us.toArray.size != vs.toArray.size)=true:=by rw[bne_iff_ne];simp only[List.size_toArray];rw[<- r1.length,<- r2.length];exact hl
     exact⟨SeqAt.RcAt.lists_lengths p1 p2 hz h0,SeqAt.RcNeAt.lists_lengths p1 p2 hz h0⟩
    .have hz:us.toArray.size=vs.toArray.size:=by simp only[List.size_toArray];rw[<- r1.length,<- r2.length];exact hl
     have e3:xs.length=us.toArray.size:=by simp only[List.size_toArray];exact r1.length
     rw[e3];exact⟨SeqAt.RcAt.lists p1 p2 hz h0 (items r1 r2 h),SeqAt.RcNeAt.lists p1 p2 hz h0 (items r1 r2 h)⟩
   .obtain⟨us,r1,p1⟩:=lW I h1;obtain⟨vs,r2,p2⟩:=lW I h2;obtain⟨e,h,rfl⟩:=h;have e3:xs.length=us.toArray.size:=by simp only[List.size_toArray];exact r1.length
    have e4:ys.length=vs.toArray.size:=by simp only[List.size_toArray];exact r2.length
    rw[e3,e4];exact⟨SeqAt.RcAt.tuples p1 p2 h0 (items r1 r2 h),SeqAt.RcNeAt.tuples p1 p2 h0 (items r1 r2 h)⟩
   .obtain⟨us,r1,p1⟩:=qI I h1;obtain⟨vs,r2,p2⟩:=lW I h2;exact⟨SeqAt.RcAt.list_tuple p1 p2 h0,SeqAt.RcNeAt.list_tuple p1 p2 h0⟩
   .obtain⟨us,r1,p1⟩:=lW I h1;obtain⟨vs,r2,p2⟩:=qI I h2;exact⟨SeqAt.RcAt.tuple_list p1 p2 h0,SeqAt.RcNeAt.tuple_list p1 p2 h0⟩
termination_by n=>2*n
theorem eC.at(I:Inv X pins U H s):∀{n:Nat} {A:Around} {x y:V} {u v:Value} {b:Bool},A.units+n<cLine->RelV x u->RelV y v->eC X.K H n x y b->SeqAt.EqAt A s u v b
 |n,A,x,y,u,v,b,hu,rx,ry,h=>by
  by_cases hf:fU x=true/\fU y=true
  .cases n with
   |zero=>exact h.elim|succ n=>
    rcases h with⟨_,_,rfl⟩|⟨_,a,xs,_,⟨e1,e2⟩|⟨e1,e2⟩⟩|⟨a,c,xs,ys,e1,e2,h⟩
    rotate_left 1
    .subst e2;cases hf.2
    .subst e1;cases hf.1
    rotate_left 1
    .exact Mq rx ry hf.1 hf.2
    .subst e1;cases hf.1
  .have:(∃a c,x = .ref a/\y = .ref c)\/(b=false/\∃(a:Addr) (xs:List V),bZ X.K H a xs/\((x = .aB/\y = .ref a)\/(x = .ref a/\y = .aB))):=by
    cases n with
    |zero=>exact h.elim|succ n=>
     rcases h with⟨h1,h2,rfl⟩|h|⟨a,c,xs,ys,e1,e2,h⟩
     .exact absurd ⟨h1,h2⟩ hf
     .exact .inr h
     .exact .inl ⟨a,c,e1,e2⟩
   rcases this with⟨a,c,rfl,rfl⟩|⟨rfl,a,xs,hq,⟨rfl,rfl⟩|⟨rfl,rfl⟩⟩
   rotate_left
   .obtain⟨us,_,p⟩:=lW I hq;cases rx;cases ry;exact SeqAt.EqAt.none_tuple p (by omega)
   .obtain⟨us,_,p⟩:=lW I hq;cases rx;cases ry;exact SeqAt.EqAt.tuple_none p (by omega)
   cases rx;cases ry;by_cases hac:a=c
   .subst hac;rw[eC.same I h];exact SeqAt.EqAt.same _
   .exact SeqAt.EqAt.of_refs hac (eC.rc I hu h).1
termination_by n=>2*n+1
end
def VG(K:W.Frag):R2:=λx y H Q=>Uc x y H Q\/∃b a c,x = .ref a/\y = .ref c/\eC K H 12 x y b/\Q (.bl b) H
def VI(K:W.Frag):R2:=λx y H Q=>Uj x y H Q\/∃b a c,x = .ref a/\y = .ref c/\eC K H 12 x y b/\Q (.bl (!b)) H
theorem JS(hu:X.A.units+12<cLine):bH X (compareOp .Eq) (VG X.K):=by
 intro pins s U H x y v u Q I rx ry h;rcases h with h|⟨b,a,c,rfl,rfl,h,q⟩
 .exact JR pins s U H x y v u Q I rx ry h
 .cases rx;cases ry;exact(eC.rc I hu h).1 _ _ _ _ ⟨.bl b,H,I,rfl,q⟩
theorem KH(hu:X.A.units+12<cLine):bH X (compareOp .NotEq) (VI X.K):=by
 intro pins s U H x y v u Q I rx ry h;rcases h with h|⟨b,a,c,rfl,rfl,h,q⟩
 .exact KG pins s U H x y v u Q I rx ry h
 .cases rx;cases ry;exact(eC.rc I hu h).2 _ _ _ _ ⟨.bl (!b),H,I,rfl,q⟩
end
section
variable {X:Cx}
def VH:R2:=λx y H Q=>∃a v,x = .ref a/\fN H a y (some v)/\Q v H
theorem GW(hu:X.A.units+1<cLine):iI X VH:=by
 intro value slice pins s U H x y o i Q I rx ry h hs;obtain⟨a,v,rfl,g,q⟩:=h;cases rx;have hT:=Zo I g;have hl:=PySem.F.slot_dict_getitem.lookup;have h2:wpAny (model X.prog X.w) X.A (getItem (.ref a) i) (EP X pins U Q) X.xe s:=Zd hu I g ry λw' s3 I3 rw'=>⟨v,H,I3,rw',q⟩;unfold subscriptTail;refine wpAny_bind ?_;rw[getitemInPython_of_ne hT.not_modules];refine wpAny_bind (wpAny_specialOf hT hl ?_);have aL:wpAny (model X.prog X.w) X.A (subscripted slice false (.ref a) i) (λr s₃=>wpAny (model X.prog X.w) X.A (letTemporaryGo value (.ref a) r>>=λ_=>pure r) (EP X pins U Q) X.xe s₃) X.xe s:=by rw[hs];exact wpAny_operating (wpAny_mono h2 (λr s₃ h₃=>wpAny_bind (wpAny_letTemporaryGo (wpAny_pure h₃))) λ_ _ x=>x)
 first
  |exact wpAny_pure (wpAny_bind aL)|exact wpAny_bind (wpAny_pure (wpAny_bind aL))|exact wpAny_bind aL
def Ue(neg:Bool):R2:=λy x H Q=>∃a o,x = .ref a/\fN H a y o/\Q (.bl (if neg then !o.isSome else o.isSome)) H
theorem JW(hu:X.A.units+1<cLine):bH X (compareOp .In) (Ue false):=by intro pins s U H x y v u Q I rx ry h;obtain⟨a,o,rfl,g,q⟩:=h;cases ry;exact Ze hu I g rx λs3 I3=>⟨.bl o.isSome,H,I3,rfl,q⟩
theorem KI(hu:X.A.units+1<cLine):bH X (compareOp .NotIn) (Ue true):=by intro pins s U H x y v u Q I rx ry h;obtain⟨a,o,rfl,g,q⟩:=h;cases ry;exact Zf hu I g rx λs3 I3=>⟨.bl (!o.isSome),H,I3,rfl,q⟩
def VJ:V->V->V->Hp->(Hp->Prop)->Prop:=λo i v H Q=>∃a H',o = .ref a/\eu H a i v H'/\Q H'
theorem YQ(hu:X.A.units+1<cLine):zv X (λo i v H Q=>Uk o i v H Q\/VJ o i v H Q):=by
 intro pins s U H o i v ov iv u Q I ro ri rv h;rcases h with h|⟨a,H',rfl,g,q⟩
 .exact YR pins s U H o i v ov iv u Q I ro ri rv h
 .cases ro;exact Zg hu I g ri rv λs4 I4=>⟨_,I4,q⟩
end
theorem FR{prog:Program}{w:World}{A:Around}{E:Value->Shared->Prop}{s:Shared}{Q:Int->Shared->Prop}(h:Q 4238894112 { s with toks:=s.toks+1 }):wpAny (model prog w) A (pyHash .none) Q E s:=by show wpAny _ A (pyHashByItsType .none) Q E s;refine W.pyHash_slot (typeIs_none s) PySem.F.slot_NoneType_hash PySem.F.entry_NoneType_hash (by unfold argsOk;rfl) rfl (.inl rfl) ?_;unfold Builtin.«NoneType.__hash__»;refine wpAny_bind ?_;refine wpAny_pure ?_;have:=wpAny_ret_mkInt (M:=model prog w) (A:=A.in1) (E:=E) (s:=s) (i:=4238894112) (Q:=λv s'=>∃n t,v=Value.int n t/\Q (reduceHash n) s') ⟨_,_,rfl,h⟩;exact aM this λaL s' ⟨v,e1,n,t,e2,q⟩=>⟨n,t,by rw[e1,e2],q⟩
def gm:Option aK->Value->Bool
 |none,.none=>true
 |none,_=>false
 |some k,v=>tE k v
theorem mO{v:Value}(h:gm none v=true):v = .none:=by cases v<;>first|rfl|cases h
theorem HK(a b:aK):decide (some a=some b)=decide (a=b):=by simp
def Qa(prog:Program)(w:World):PySem.KeyKind prog w (Option aK) where
 is:=gm
 hash:=λk=>match k with
  |none=>4238894112
  |some k=>Pe w k
 inj:=λv a b ha hb=>by
  cases a with
  |none=>cases b with
   |none=>rfl|some b=>cases mO ha;rcases gR hb with⟨i,t,rfl,e⟩|⟨x,t,rfl,e⟩<;>exact nomatch e
  |some a=>cases b with
   |none=>cases mO hb;rcases gR ha with⟨i,t,rfl,e⟩|⟨x,t,rfl,e⟩<;>exact nomatch e
   |some b=>rw[(dO prog w).inj v a b ha hb]
 byValue:=λk v h=>by
  cases k with
  |none=>cases mO h;rfl|some k=>exact(dO prog w).byValue k v h
 pyHash:=λ{A E s k v Q} hv h=>by
  cases k with
  |none=>cases mO hv;exact FR h|some k=>exact(dO prog w).pyHash (k:=k) hv h
 eqBool:=λ{A E s a b u v Q} hu hv h=>by
  cases a with
  |none=>cases b with
   |none=>cases mO hu;cases mO hv;exact SeqAt.EqAt.same Value.none _ _ _ _ h|some b=>
    cases mO hu;rcases gR hv with⟨j,u,rfl,rfl⟩|⟨y,u,rfl,rfl⟩
    .exact SeqAt.EqAt.none_int j u _ _ _ _ h
    .exact SeqAt.EqAt.none_str y u _ _ _ _ h
  |some a=>cases b with
   |none=>
    cases mO hv;rcases gR hu with⟨j,u,rfl,rfl⟩|⟨y,u,rfl,rfl⟩
    .exact SeqAt.EqAt.int_none j u _ _ _ _ h
    .exact SeqAt.EqAt.str_none y u _ _ _ _ h
   |some b=>rw[HK]at h;exact(dO prog w).eqBool (a:=a) (b:=b) hu hv h
 «strs»:=λk x t v h=>by
  cases k with
  |none=>cases h|some k=>exact(dO prog w).strs k x t v h
theorem II{prog:Program}{w:World}{h:Heap}{a:Addr}{vs:List (aK×Value)}(dd:h.DictOf (dO prog w) a vs):∃f,f none=none/\Heap.MapOf (Qa prog w) h a f:=by
 obtain⟨o,es,ep,h1,h2,h3,h4,h5⟩:=dd.mapOf;refine⟨λk=>findBy gm es k,?_,o,es,ep,h1,h2,h3,λe he=>?_,λ_=>rfl⟩
 .have:es.find? (λe=>gm none e.key)=none:=by rw[Array.find?_eq_none];intro e he hn;obtain⟨k,hk,_⟩:=h4 e he;rw[mO hn]at hk;rcases gR hk with⟨i,t,rfl,e⟩|⟨x,t,rfl,e⟩<;>exact nomatch e
  show Option.map _ (es.find? (λe=>gm none e.key))=none;rw[this];rfl
 .obtain⟨k,hk,hh⟩:=h4 e he;exact⟨some k,hk,hh⟩
section
variable {X:Cx}
def Ub:V->List V->Hp->VK->Prop:=λx vs H Q=>(∃a y o,x = .ref a/\fN H a y o/\((vs=[y]/\Q (o.getD .aB) H)\/∃z,vs=[y,z]/\Q (o.getD z) H))\/∃a kvs,x = .ref a/\H a=some (.dK kvs)/\vs=[.aB]/\Q .aB H
theorem IV(hu:X.A.units+1<cLine):zt X "dict.get" Ub:=by
 intro pins s U H x vs v us Q I rx rv h;rcases h with⟨a,y,o,rfl,g,h⟩|⟨a,kvs,rfl,g,rfl,q⟩
 .cases rx;rcases h with⟨rfl,q⟩|⟨z,rfl,q⟩
  .obtain⟨u,rfl,ru⟩:=rv.one;exact Zb hu I g ru λw' s3 I3 rw'=>⟨_,H,I3,rw',q⟩
  .obtain⟨u1,u2,rfl,r1,r2⟩:=dk rv;exact Zc hu I g r1 r2 λw' s3 I3 rw'=>⟨_,H,I3,rw',q⟩
 .cases rx;obtain⟨u,rfl,ru⟩:=rv.one;cases(show u=Value.none from ru);obtain⟨z,hd,vs,rel,dd⟩:=Me I.aN g;obtain⟨f,hf,m⟩:=II dd;refine call_meetsIn PySem.F.slot_dict_get dd.typeIs PySem.F.entry_dict_get (PySem.F.args_dict_get_2 _ _) (meets_dict_get (Qa X.prog X.w) a (k:=none) rfl hd) ⟨f,m,.aB,H,I.tok _,?_,q⟩;rw[hf];rfl
end
theorem Wa{bs:List Bool}:∀{us:List Value},Vals (bs.map V.bl) us->us=bs.map Value.bool:=by
 induction bs with
 |nil=>intro us r;cases r;rfl|cons b bs ih=>
  intro us r;cases r with
  |cons h t=>have h':_=Value.bool b:=h;subst h';rw[ih t];rfl
theorem Wb{ns:List Int}:∀{us:List Value},Vals (ns.map V.int) us->IntsAre us ns:=by
 induction ns with
 |nil=>intro us r;cases r;exact .nil|cons n ns ih=>
  intro us r;cases r with
  |cons h t=>obtain⟨k,rfl⟩:=(show∃k,_=Value.int n k from h);exact .cons n k (ih t)
theorem Ou:∀{us:List Value} {ns:List Int},IntsAre us ns->Vals (ns.map V.int) us
 |_,_,.nil=>.nil
 |_,_,.cons n t r=>.cons ⟨t,rfl⟩ (Ou r)
theorem VO(bs:List Bool):(List.range bs.length).any (λi=>(bs[i]?).getD false)=bs.any id:=by
 rw[Bool.eq_iff_iff,List.any_eq_true,List.any_eq_true];constructor
 .rintro ⟨i,hi,h⟩
  have hi':=List.mem_range.mp hi;rw[List.getElem?_eq_getElem hi']at h;exact⟨bs[i],List.getElem_mem hi',h⟩
 .rintro ⟨b,hb,h⟩
  obtain⟨i,hi,e⟩:=List.getElem_of_mem hb;exact⟨i,List.mem_range.mpr hi,by rw[List.getElem?_eq_getElem hi,e];exact h⟩
def cz(rev:Bool)(ns:List Int):List Int:=ns.mergeSort (λa b=>if rev then decide (b<=a) else decide (a<=b))
theorem ZM{rev:Bool}{ns ns':List Int}(hp:ns'.Perm ns)(ho:Ordered rev ns'):ns'=cz rev ns:=by
 have hs:List.Pairwise (λa b=>(if rev then decide (b<=a) else decide (a<=b))=true) (cz rev ns):=by
  refine List.pairwise_mergeSort ?_ ?_ ns
  .intro a b c;cases rev<;>simp<;>omega
  .intro a b;cases rev<;>simp<;>omega
 refine List.Perm.eq_of_pairwise (le:=λa b=>(if rev then decide (b<=a) else decide (a<=b))=true) ?_ ?_ hs (hp.trans (List.mergeSort_perm _ _).symm)
 .intro a b _ _;cases rev<;>simp<;>omega
 .unfold Ordered at ho;cases rev with
  |true=>exact List.Pairwise.imp (λh=>by simpa using h) (by simpa using ho)|false=>exact List.Pairwise.imp (λh=>by simpa using h) (by simpa using ho)
section
variable {X:Cx}{pins:List (Addr×Obj)}{U:L2.St}{H:Hp}{s:Shared}
theorem Xz(hc:X.calm=true):eB X (.builtin "any") (λxs H Q=>∃(a:Addr) (bs:List Bool),xs=[.ref a]/\bO X.K H a (bs.map V.bl)/\Q (.bl (bs.any id)) H):=by
 intro pins s U H xs us Q I r h;obtain⟨a,bs,rfl,hq,q⟩:=h;obtain⟨u,rfl,ru⟩:=r.one;cases ru;obtain⟨its,rv,p,hz⟩:=I.list hq;have e:=Wa rv;subst e;have hh:X.A.in1.handled=none:=I.ok.hd hc;obtain⟨ob,h1,h2,n,h3⟩:=p.isList;refine call_any_walk (wpAny_pyIter_list p.isList ?_);refine⟨s.heap.objs.size,_,_,_,_,_,λi=>(bs[i]?).getD false,rfl,Walks.list hh s.heap.objs.size a (Nat.ne_of_lt (Heap.lt_size h1)) (bs.map Value.bool).toArray,⟨⟨_,Heap.get?_push_size _ rfl,rfl,rfl⟩,⟨ob,Heap.get?_push_of_some _ h1,h2,n,h3⟩⟩,λi v s' Q' E' hP hQ=>?_,λh' tk k=>?_⟩
 .dsimp only at hP hQ;rw[List.getElem?_toArray,List.getElem?_map]at hP;cases e:bs[i]? with
  |none=>rw[e]at hP;cases hP|some b=>rw[e]at hP hQ;have hP':Value.bool b=v:=Option.some.inj hP;subst hP';exact wpAny_truthy_bool hQ
 .have hl:(bs.map Value.bool).toArray.size=bs.length:=by simp
  rw[hl,VO];refine⟨.bl _,H,I.kept (t':=tk) λb o e=>k b o ?_ (Heap.get?_push_of_some _ e),rfl,q⟩;intro hb;have e':b=s.heap.objs.size:=by simpa using hb
  subst e';exact absurd (Heap.lt_size e) (Nat.lt_irrefl _)
theorem Yl(b:Bool){l:Addr}{ns:List Int}{Q:VK}(I:Inv X pins U H s)(hq:bO X.K H l (ns.map V.int))(hn:ns.length<64)(q:∀D,H D=none->Q (.ref D) (aR H D (.lst ((cz b ns).map V.int)))) :
  wpAny (model X.prog X.w) X.A (call (.builtin "sorted") [.ref l] [(Str.ofString "reverse",.bool b)]) (EP X pins U Q) X.xe s:=by
 obtain⟨its,rv,p,hz⟩:=I.list hq;have hl:its.length=ns.length:=by have:=rv.length;simpa using this.symm
 refine sorted_ints_rev p.isList (Wb rv) (by omega) λout ns' ia hp ho=>?_;have e:=ZM hp ho;subst e;obtain⟨e2,h2⟩:=sortedAll_at s.heap its out;refine⟨.ref _,_,I.laid (o:=.lst ((cz b ns).map V.int)) (t':=s.toks) (λb u z=>sortedAll_old z) (Nat.le_succ _) ⟨?_,out.toList,e2,Ou ia,by rw[h2]⟩,rfl,q _ (I.aN.fresh (Nat.le_succ _))⟩;have:=hp.length_eq;rw[List.length_map,this];have:(64:Nat)<=sizeLine:=by decide
 omega
theorem IP(l:Addr)(d:Value):Builtin.min { pos:=[.ref l],kw:=[(Str.ofString "default",d)] }=(do
   let it <- pyIter (.ref l)
   let S <- newList []
   again (.builtin "min.loop" { pos:=[it,.none,S],kw:=[(Str.ofString "default",d)] })):=by
  with_unfolding_all rfl
theorem Yo(a d:Value):checkBuiltinCall "min" { pos:=[a],kw:=[(Str.ofString "default",d)] }=pure ():=by with_unfolding_all rfl
theorem IQ(I S:Addr)(d:Value)(n:Str):∃k:Option (Array Value)->Sem PySem.Fin,Builtin.«min.loop» { pos:=[.ref I,.none,.ref S],kw:=[(n,d)] }=(seqItems? (.ref S)>>=k) /\
  ∃(h:Value->Sem (Option Value)) (k2:Option Value->Sem PySem.Fin),k (some #[])=((tryCatch (pyNext (.ref I)) h)>>=k2)/\k2 none=(rule "min.default">>=λ_=>ret d):=by
 refine⟨_,by with_unfolding_all rfl,_,_,by with_unfolding_all rfl,by with_unfolding_all rfl⟩
theorem Yk(hc:X.calm=true){l:Addr}{d:Value}{v:V}{Q:VK}(I:Inv X pins U H s)(hq:bO X.K H l [])(rd:RelV v d)(q:Q v H) :
  wpAny (model X.prog X.w) X.A (call (.builtin "min") [.ref l] [(Str.ofString "default",d)]) (EP X pins U Q) X.xe s:=by
 obtain⟨its,rv,p,hz⟩:=I.list hq;cases rv;have hh:X.A.handled=none:=I.ok.hd hc;obtain⟨ob,h1,h2,n,h3⟩:=p.isList;refine wpAny_call (codeAny_call_builtin PySem.F.plain_min PySem.F.entry_min ?_);rw[Yo];refine wpAny_pure ?_;rw[IP];refine wpAny_bind (wpAny_pyIter_list p.isList (wpAny_bind (wpAny_newList ?_)));refine wpAny_pure ⟨Code.quiet_builtin _ (by decide +kernel),codeAny_builtin PySem.F.entry_min_loop ?_⟩;obtain⟨k,e1,hd,k2,e2,e3⟩:=IQ s.heap.objs.size (s.heap.push { cls:=.type "list_iterator",data:=.fields #[.ref l,.int 0 0] }).objs.size d (Str.ofString "default");rw[e1];refine wpAny_bind (wpAny_seqItems (Heap.get?_push_size _ rfl) rfl ?_);show wpAny _ _ (k (some #[])) _ _ _;rw[e2];refine wpAny_bind (wpAny_tryCatch (wpAny_pyNext_list_end (items:=#[]) (l:=l) (i:=0) hh ?_ ?_ rfl λh' eb=>?_))
 .exact⟨_,Heap.get?_push_of_some _ (Heap.get?_push_size _ rfl),rfl,rfl⟩
 .exact⟨ob,Heap.get?_push_of_some _ (Heap.get?_push_of_some _ h1),h2,n,h3⟩
 .rw[e3];refine wpAny_bind (wpAny_rule (wpAny_pure ?_));refine⟨v,H,I.kept (t':=s.toks) λb o e=>eb b o ?_ (Heap.get?_push_of_some _ (Heap.get?_push_of_some _ e)),rd,q⟩;intro hb;subst hb;exact absurd (Heap.lt_size e) (Nat.lt_irrefl _)
theorem Qs{x nm:Str}{id:String}{p pos kp:Pos}{e kc:Expr}{t:TE}{z:V}{r:V->Hp->VK->Prop}(hc:∀pins s U H v u zu Q,Inv X pins U H s->RelV v u->RelV z zu->r v H Q->wpAny (model X.prog X.w) X.A (call (.builtin id) [u] [(nm,zu)]) (EP X pins U Q) X.xe s)
  (hg:Gl X x) (hm:X.mg x=none) (hv:bootBuiltins x=some (.builtin id)) (ha:PE X e t) (hk:PE X kc (tC z)) (hs:starEach [e] X.env=[(false,eval e X.env)]) (hn:x≠"__name__":=by decide) (hdb:(x==("__debug__":Str))=false:=by decide) :
  PE X (.Call (.Name x p) [e] [⟨some nm,kc,kp⟩] pos) (λU H Q=>t U H λv H1=>r v H1 Q):=by
 intro pins s U H Q I h;refine wpAny_Call_Name_kw (wK I hg hm hv ?_ hn hdb);have pa:PA X [e] (yt t rQ):=iU ha mS hs;have pk:PK X [⟨some nm,kc,kp⟩] (yt (tC z) rQ):=NI hk NJ;obtain⟨y,rest,hs'⟩:∃y rest,backTo pos (starEach [e] X.env)=(false,y)::rest:=by rw[hs];exact⟨_,_,rfl⟩
 have ha1:(backTo pos (starEach [e] X.env)).any (·.1)=false:=by rw[hs];rfl
 refine callWith_builtin_kwB ha1 rfl ?_;have h1:=pa pos pins s U H (λvs H1=>match vs with
  |[v]=>r v H1 Q
  |_=>False) I h
 rw[hs']at h1 ⊢;refine evalArgs_kw rfl ?_;refine aM h1 λus s1 ⟨vs,H1,I1,r1,q1⟩=>?_;obtain⟨v,rfl⟩:∃v,vs=[v]:=by
  match vs,q1 with
  |[v],_=>exact⟨v,rfl⟩
 obtain⟨u,rfl,ru⟩:=r1.one;refine aM (pk pos pins s1 U H1 (λzs H2=>zs=[z]/\H2=H1) I1 ⟨rfl,rfl⟩) λws s2 ⟨zs,H2,I2,rz,ez,eH⟩=>?_;subst ez eH;obtain⟨zu,rfl,rzu⟩:=rz.one;exact hc pins s2 U H2 v u zu Q I2 ru rzu q1
end
section
variable {X:Cx}{pins:List (Addr×Obj)}{U:L2.St}{H:Hp}{s:Shared}{a b c d:Expr}{ta tb tc td:TE}{pos:Pos}
def Hc(r:R2)(x:V)(tb:TE)(tk:V->TE):TE:=λU H Q=>tb U H λy H2=>r x y H2 λz H3=>∃k,z = .bl k/\(if k=true then tk y U H3 Q else Q (.bl false) H3)
def Ha(r r' r'':R2)(ta tb tc td:TE):TE:=λU H Q=>ta U H λx H1=>Hc r x tb (λy=>Hc r' y tc λu U H Q=>td U H λv H4=>r'' u v H4 Q) U H1 Q
theorem ME{op op' op'':CmpOp}{r r' r'':R2}(ho:bH X (compareOp op) r)(ho':bH X (compareOp op') r')(ho'':bH X (compareOp op'') r'')(ha:PE X a ta)(hb:PE X b tb)(hc:PE X c tc)(hd:PE X d td)
  (hm:lastMarks [op,op',op''] [b,c,d]=false):PE X (.Compare a [op,op',op''] [b,c,d] pos) (Ha r r' r'' ta tb tc td):=by
 intro pins s U H Q I h;refine Compare_chain (aM (ha pins s U H _ I h) λv s1 ⟨x,H1,I1,r1,q1⟩=>chain_link (aM (hb pins s1 U H1 _ I1 q1) λu s2 ⟨y,H2,I2,r2,q2⟩=>aM (ho pins s2 U H2 x y v u _ I2 r1 r2 q2) λe s3 ⟨z,H3,I3,r3,k,e,q3⟩=>?_)) hm
 subst e;cases r3;refine wpAny_truthy_bool ?_;cases k with
 |false=>exact ite_ff ⟨.bl false,H3,I3,rfl,q3⟩|true=>
  refine ite_tt (chain_link (aM (hc pins s3 U H3 _ I3 q3) λu' s4 ⟨y',H4,I4,r4,q4⟩=>aM (ho' pins s4 U H4 y y' u u' _ I4 r2 r4 q4) λe s5 ⟨z,H5,I5,r5,k,e,q5⟩=>?_));subst e;cases r5;refine wpAny_truthy_bool ?_;cases k with
  |false=>exact ite_ff ⟨.bl false,H5,I5,rfl,q5⟩|true=>exact ite_tt (chain_last (aM (hd pins s5 U H5 _ I5 q5) λw' s6 ⟨z',H6,I6,r6,q6⟩=>ho'' pins s6 U H6 y' z' u' w' Q I6 r4 r6 q6))
theorem OJ{op op' op'':CmpOp}{r r' r'':R2}(ho:bH X (compareOp op) r)(ho':bH X (compareOp op') r')(ho'':bH X (compareOp op'') r'')(ha:PE X a ta)(hb:PE X b tb)(hc:PE X c tc)(hd:PE X d td)
  (hm:lastMarks [op,op',op''] [b,c,d]=false):PT X (.Compare a [op,op',op''] [b,c,d] pos) (He (Ha r r' r'' ta tb tc td)):=by
 intro pins s U H Q I h;refine isTrue_chain (aM (ha pins s U H _ I h) λv s1 ⟨x,H1,I1,r1,q1⟩=>test_link (aM (hb pins s1 U H1 _ I1 q1) λu s2 ⟨y,H2,I2,r2,q2⟩=>aM (ho pins s2 U H2 x y v u _ I2 r1 r2 q2) λe s3 ⟨z,H3,I3,r3,k,e,q3⟩=>?_)) hm
 subst e;cases r3;refine wpAny_truthy_bool ?_;cases k with
 |false=>obtain⟨k',e',q'⟩:=q3;cases e';exact ite_ff ⟨H3,I3,q'⟩|true=>
  refine ite_tt (test_link (aM (hc pins s3 U H3 _ I3 q3) λu' s4 ⟨y',H4,I4,r4,q4⟩=>aM (ho' pins s4 U H4 y y' u u' _ I4 r2 r4 q4) λe s5 ⟨z,H5,I5,r5,k,e,q5⟩=>?_));subst e;cases r5;refine wpAny_truthy_bool ?_;cases k with
  |false=>obtain⟨k',e',q'⟩:=q5;cases e';exact ite_ff ⟨H5,I5,q'⟩|true=>refine ite_tt (test_last (aM (hd pins s5 U H5 _ I5 q5) λw' s6 ⟨z',H6,I6,r6,q6⟩=>aM (ho'' pins s6 U H6 y' z' u' w' _ I6 r4 r6 q6) λd' s7 ⟨z2,H7,I7,r7,k2,e2,q7⟩=>?_));subst e2;cases r7;exact wpAny_truthy_bool ⟨H7,I7,q7⟩
theorem VN(bs:List Bool):(List.range bs.length).all (λi=>(bs[i]?).getD false)=bs.all id:=by
 rw[Bool.eq_iff_iff,List.all_eq_true,List.all_eq_true];constructor
 .intro h b hb;obtain⟨i,hi,e⟩:=List.getElem_of_mem hb;have:=h i (List.mem_range.mpr hi);rw[List.getElem?_eq_getElem hi,e]at this;exact this
 .intro h i hi;have hi':=List.mem_range.mp hi;rw[List.getElem?_eq_getElem hi'];exact h _ (List.getElem_mem hi')
theorem Xy(hc:X.calm=true):eB X (.builtin "all") (λxs H Q=>∃(a:Addr) (bs:List Bool),xs=[.ref a]/\bO X.K H a (bs.map V.bl)/\Q (.bl (bs.all id)) H):=by
 intro pins s U H xs us Q I r h;obtain⟨a,bs,rfl,hq,q⟩:=h;obtain⟨u,rfl,ru⟩:=r.one;cases ru;obtain⟨its,rv,p,hz⟩:=I.list hq;have e:=Wa rv;subst e;have hh:X.A.in1.handled=none:=I.ok.hd hc;obtain⟨ob,h1,h2,n,h3⟩:=p.isList;refine call_all_walk (wpAny_pyIter_list p.isList ?_);refine⟨s.heap.objs.size,_,_,_,_,_,λi=>(bs[i]?).getD false,rfl,Walks.list hh s.heap.objs.size a (Nat.ne_of_lt (Heap.lt_size h1)) (bs.map Value.bool).toArray,⟨⟨_,Heap.get?_push_size _ rfl,rfl,rfl⟩,⟨ob,Heap.get?_push_of_some _ h1,h2,n,h3⟩⟩,λi v s' Q' E' hP hQ=>?_,λh' tk k=>?_⟩
 .dsimp only at hP hQ;rw[List.getElem?_toArray,List.getElem?_map]at hP;cases e:bs[i]? with
  |none=>rw[e]at hP;cases hP|some b=>rw[e]at hP hQ;have hP':Value.bool b=v:=Option.some.inj hP;subst hP';exact wpAny_truthy_bool hQ
 .have hl:(bs.map Value.bool).toArray.size=bs.length:=by simp
  rw[hl,VN];refine⟨.bl _,H,I.kept (t':=tk) λb o e=>k b o ?_ (Heap.get?_push_of_some _ e),rfl,q⟩;intro hb;have e':b=s.heap.objs.size:=by simpa using hb
  subst e';exact absurd (Heap.lt_size e) (Nat.lt_irrefl _)
def iR:List Int->Int
 |[]=>0
 |n::r=>r.foldl (λm x=>if x > m then x else m) n
theorem Cm:∀(r:List Int) (n:Int),(r.foldl (λm x=>if x > m then x else m) n∈n::r)/\∀a∈n::r,a<=r.foldl (λm x=>if x > m then x else m) n
 |[],n=>by simp
 |x::r,n=>by
  obtain⟨h1,h2⟩:=Cm r (if x > n then x else n);rw[List.foldl_cons];refine⟨?_,λa ha=>?_⟩
  .rcases List.mem_cons.mp h1 with e|e
   .rw[e];split<;>simp
   .exact List.mem_cons_of_mem _ (List.mem_cons_of_mem _ e)
  .have h3:=h2 _ (List.mem_cons_self ..);have h4:x<=(if x > n then x else n)/\n<=(if x > n then x else n):=by split<;>omega
   rcases List.mem_cons.mp ha with rfl|ha
   .exact Int.le_trans h4.2 h3
   .rcases List.mem_cons.mp ha with rfl|ha
    .exact Int.le_trans h4.1 h3
    .exact h2 a (List.mem_cons_of_mem _ ha)
theorem IL{ns:List Int}(h:ns≠[]):iR ns∈ns:=by
 cases ns with
 |nil=>exact absurd rfl h|cons n r=>exact(Cm r n).1
theorem Ce{ns:List Int}{a:Int}(h:a∈ns):a<=iR ns:=by
 cases ns with
 |nil=>cases h|cons n r=>exact(Cm r n).2 a h
theorem IK{ns:List Int}{M:Int}(h1:M∈ns)(h2:∀a∈ns,a<=M):M=iR ns:=by have h3:=Ce h1;have h4:=h2 _ (IL (List.ne_nil_of_mem h1));omega
theorem Yi(hc:X.calm=true):eB X (.builtin "max") (λxs H Q=>∃(a:Addr) (ns:List Int),xs=[.ref a]/\bO X.K H a (ns.map V.int)/\ns≠[]/\Q (.int (iR ns)) H):=by
 intro pins s U H xs us Q I r h;obtain⟨l,ns,rfl,hq,hne,q⟩:=h;obtain⟨u,rfl,ru⟩:=r.one;cases ru;obtain⟨its,rv,p,hz⟩:=I.list hq;have hi:=Wb rv;have hh:X.A.handled=none:=I.ok.hd hc;obtain⟨xs,e⟩:=hi.allInts.items;have hns:ns=xs.toList.map (·.1):=by rw[<- hi.numsOf,<- nums_intItems,<- e]
 have hsz:0<xs.size:=by have:ns.length≠0:=λz=>hne (List.eq_nil_of_length_eq_zero z);rw[hns,List.length_map,Array.length_toList]at this;omega
 have hl:s.heap.IsList l (intItems xs):=by rw[<- e];exact p.isList
 refine max_intList hh hl hsz λv h' tk hP hk=>?_;obtain⟨t,rfl⟩:=intItems_at hP;obtain⟨b1,b2⟩:=argBest_gt (numAt xs) (xs.size-1);have em:numAt xs (argBest (λi j=>decide (numAt xs i > numAt xs j)) (xs.size-1))=iR ns:=by
  refine IK ?_ λa ha=>?_
  .rw[hns,numAt_eq];exact getD_mem (by rw[List.length_map,Array.length_toList];omega)
  .rw[hns]at ha;obtain⟨j,hj,rfl⟩:=mem_getD ha;rw[List.length_map,Array.length_toList]at hj;rw[<- numAt_eq];exact b2 j (by omega)
 rw[em];exact⟨.int (iR ns),H,I.kept (t':=tk) λb o e=>hk b o e,⟨t,rfl⟩,q⟩
end
inductive AV where
 |aB|bl (b:Bool)|int (i:Int)|str (x:Str)|tup (xs:List AV)|ref (n:Nat)|lI (kvs:List (Str×Int))
 deriving Inhabited
inductive dG where
 |lst (mu:Bool) (xs:List AV)
 |aO (kvs:List (aK×AV))
 |ins (c:Nat) (fs:List (Str×AV))
 |xo (c:Nat)
def dG.mu:dG->Bool
 |.lst m _=>m
 |_=>true
structure AH where
 nx:Nat
 ob:Nat->Option dG
def AH.put(h:AH)(n:Nat)(o:dG):AH:=⟨h.nx,λm=>if m=n then some o else h.ob m⟩
def AH.new(h:AH)(o:dG):AH:=⟨h.nx+1,λm=>if m=h.nx then some o else h.ob m⟩
inductive Res(α:Type) where
 |ok (a:α) (h:AH)
 |exc (c:Nat) (x:AV) (h:AH)
 |bad
abbrev M(α:Type):=AH->Res α
def M.ret{α:Type}(a:α):M α:=λh=>.ok a h
def M.bad{α:Type}:M α:=λ_=>.bad
def M.bind{α β:Type}(m:M α)(k:α->M β):M β:=λh=>match m h with
 |.ok a h'=>k a h'
 |.exc c x h'=>.exc c x h'
 |.bad=>.bad
def M.guard{α:Type}(p:Prop) [Decidable p] (m:M α):M α:=λh=>if p then m h else .bad
structure Tab where
 K:W.Frag
 G:List (Str×Int)->Addr->Prop
 C:Nat->Option Addr
mutual
inductive aJ(T:Tab)(Z:List Addr)(H:Hp):AV->V->Prop where
 |aB:aJ T Z H .aB .aB
 |bl (b:Bool):aJ T Z H (.bl b) (.bl b)
 |int (i:Int):aJ T Z H (.int i) (.int i)
 |str (x:Str):aJ T Z H (.str x) (.str x)
 |tup {a:Addr} {xs:List AV} {ys:List V} (hq:bZ T.K H a ys) (hr:aT T Z H xs ys):aJ T Z H (.tup xs) (.ref a)
 |ref {n:Nat} {a:Addr} (e:Z[n]?=some a):aJ T Z H (.ref n) (.ref a)
 |lI {kvs:List (Str×Int)} {a:Addr} (e:T.G kvs a):aJ T Z H (.lI kvs) (.ref a)
inductive aT(T:Tab)(Z:List Addr)(H:Hp):List AV->List V->Prop where
 |nil:aT T Z H [] []
 |cons {x:AV} {y:V} {xs:List AV} {ys:List V} (h:aJ T Z H x y) (hs:aT T Z H xs ys):aT T Z H (x::xs) (y::ys)
end
structure Ext(Z:List Addr)(H:Hp)(Z':List Addr)(H':Hp):Prop where
 pre:∀(n:Nat) a,Z[n]?=some a->Z'[n]?=some a
 tup:∀b xs,H b=some (.tup xs)->H' b=some (.tup xs)
 cT:∀b o u,H b=some (.cT o u)->H' b=some (.cT o u)
theorem Ext.refl{Z:List Addr}{H:Hp}:Ext Z H Z H:=⟨λ_ _ e=>e,λ_ _ e=>e,λ_ _ _ e=>e⟩
theorem Ext.trans{Z Z1 Z2:List Addr}{H H1 H2:Hp}(a:Ext Z H Z1 H1)(b:Ext Z1 H1 Z2 H2):Ext Z H Z2 H2:=
 ⟨λn x e=>b.pre n x (a.pre n x e),λn x e=>b.tup n x (a.tup n x e),λn x u e=>b.cT n x u (a.cT n x u e)⟩
theorem Ext.Vf{K:W.Frag}{Z Z':List Addr}{H H':Hp}(e:Ext Z H Z' H'){a:Addr}{xs:List V}(h:bZ K H a xs):bZ K H' a xs:=by
 rcases h with(h|⟨o,h⟩)|h
 .exact .inl (.inl (e.tup _ _ h))
 .exact .inl (.inr ⟨o,e.cT _ _ _ h⟩)
 .exact .inr h
mutual
theorem aJ.ext{T:Tab}{Z Z':List Addr}{H H':Hp}(e:Ext Z H Z' H'):∀{x:AV} {y:V},aJ T Z H x y->aJ T Z' H' x y
 |_,_,.aB=>.aB
 |_,_,.bl b=>.bl b
 |_,_,.int i=>.int i
 |_,_,.str x=>.str x
 |_,_,.tup hq hr=>.tup (e.Vf hq) (aT.ext e hr)
 |_,_,.ref q=>.ref (e.pre _ _ q)
 |_,_,.lI q=>.lI q
theorem aT.ext{T:Tab}{Z Z':List Addr}{H H':Hp}(e:Ext Z H Z' H'):∀{xs:List AV} {ys:List V},aT T Z H xs ys->aT T Z' H' xs ys
 |_,_,.nil=>.nil
 |_,_,.cons h hs=>.cons (aJ.ext e h) (aT.ext e hs)
end
theorem aT.length{T:Tab}{Z:List Addr}{H:Hp}:∀{xs:List AV} {ys:List V},aT T Z H xs ys->xs.length=ys.length
 |_,_,.nil=>rfl|_,_,.cons _ hs=>congrArg (·+1) hs.length
theorem aT.get{T:Tab}{Z:List Addr}{H:Hp}:∀{xs:List AV} {ys:List V} {i:Nat} {x:AV},aT T Z H xs ys->xs[i]?=some x->∃y,ys[i]?=some y/\aJ T Z H x y
 |_,_,_,_,.nil,e=>by simp at e
 |_,_,0,_,.cons h _,e=>by simp at e;subst e;exact⟨_,rfl,h⟩
 |_,_,i+1,x,.cons _ hs,e=>by obtain⟨y,h1,h2⟩:=aT.get (i:=i) (x:=x) hs (by simpa using e);exact⟨y,by simpa using h1,h2⟩
theorem aT.append{T:Tab}{Z:List Addr}{H:Hp}:∀{xs zs:List AV} {ys ws:List V},aT T Z H xs ys->aT T Z H zs ws->aT T Z H (xs++zs) (ys++ws)
 |_,_,_,_,.nil,s=>s
 |_,_,_,_,.cons h hs,s=>.cons h (aT.append hs s)
theorem aT.set{T:Tab}{Z:List Addr}{H:Hp}{x:AV}{y:V}(r:aJ T Z H x y):∀{xs:List AV} {ys:List V} (i:Nat),aT T Z H xs ys->aT T Z H (xs.set i x) (ys.set i y)
 |_,_,_,.nil=>.nil
 |_,_,0,.cons _ t=>.cons r t
 |_,_,i+1,.cons q t=>.cons q (aT.set r i t)
theorem aT.take{T:Tab}{Z:List Addr}{H:Hp}:∀{xs:List AV} {ys:List V} (n:Nat),aT T Z H xs ys->aT T Z H (xs.take n) (ys.take n)
 |_,_,0,_=>.nil
 |_,_,_+1,.nil=>.nil
 |_,_,n+1,.cons r t=>.cons r (aT.take n t)
theorem aT.drop{T:Tab}{Z:List Addr}{H:Hp}:∀{xs:List AV} {ys:List V} (n:Nat),aT T Z H xs ys->aT T Z H (xs.drop n) (ys.drop n)
 |_,_,0,r=>r
 |_,_,_+1,.nil=>.nil
 |_,_,n+1,.cons _ t=>aT.drop n t
theorem aT.ints{T:Tab}{Z:List Addr}{H:Hp}:∀(ns:List Int),aT T Z H (ns.map AV.int) (ns.map V.int)
 |[]=>.nil
 |n::ns=>.cons (.int n) (aT.ints ns)
def mB(K:W.Frag)(H:Hp)(a:Addr)(xs:List V):Prop:=
 (∃o,H a=some (.cT o (.lst xs))) \/
  ∃(o:Obj) (its:Array Value) (n:Nat),K.lookup a=some o/\o.cls = .type "list"/\o.dict=none/\o.data = .seq its n/\its.size<=sizeLine/\Vals xs its.toList
theorem mB.sq{K:W.Frag}{H:Hp}{a:Addr}{xs:List V}(h:mB K H a xs):bO K H a xs:=by
 rcases h with h|h
 .exact .inl (.inr h)
 .exact .inr h
theorem mB.ext{K:W.Frag}{Z Z':List Addr}{H H':Hp}{a:Addr}{xs:List V}(e:Ext Z H Z' H')(h:mB K H a xs):mB K H' a xs:=by
 rcases h with⟨o,h⟩|h
 .exact .inl ⟨o,e.cT _ _ _ h⟩
 .exact .inr h
def mC(T:Tab)(Z:List Addr)(H:Hp)(a:Addr):dG->Prop
 |.lst true xs=>∃ys,H a=some (.lst ys)/\aT T Z H xs ys
 |.lst false xs=>∃ys,mB T.K H a ys/\aT T Z H xs ys
 |.aO kvs=>∃ks ys,H a=some (.dK (ks.zip ys))/\ks=kvs.map (·.1)/\aT T Z H (kvs.map (·.2)) ys
 |.ins c fs=>∃C dx ks ys,T.C c=some C/\H a=some (.ins C dx (ks.zip ys))/\ks=fs.map (·.1)/\aT T Z H (fs.map (·.2)) ys
 |.xo c=>∃C,T.C c=some C/\H a=some (.ext (D7 a (.ref C)))
theorem mC.ext{T:Tab}{Z Z':List Addr}{H H':Hp}{a:Addr}{o:dG}(r:mC T Z H a o)(e:Ext Z H Z' H')(k:o.mu=true->H' a=H a):mC T Z' H' a o:=by
 cases o with
 |lst m xs=>
  cases m with
  |true=>obtain⟨ys,h,r⟩:=r;exact⟨ys,by rw[k rfl];exact h,r.ext e⟩|false=>obtain⟨ys,h,r⟩:=r;exact⟨ys,h.ext e,r.ext e⟩
 |aO kvs=>obtain⟨ks,ys,h,e1,r⟩:=r;exact⟨ks,ys,by rw[k rfl];exact h,e1,r.ext e⟩|ins c fs=>obtain⟨C,dx,ks,ys,hc,h,e1,r⟩:=r;exact⟨C,dx,ks,ys,hc,by rw[k rfl];exact h,e1,r.ext e⟩|xo c=>obtain⟨C,hc,h⟩:=r;exact⟨C,hc,by rw[k rfl];exact h⟩
structure aQ(T:Tab)(Z:List Addr)(h:AH)(H:Hp):Prop where
 len:Z.length=h.nx
 pU:∀(n:Nat) o,h.ob n=some o->n<h.nx
 obj:∀(n:Nat) o a,h.ob n=some o->Z[n]?=some a->mC T Z H a o
 inj:∀(n m:Nat) a o u,h.ob n=some o->h.ob m=some u->o.mu=true->u.mu=true->Z[n]?=some a->Z[m]?=some a->n=m
section
variable {T:Tab}{Z:List Addr}{h:AH}{H H':Hp}
theorem Cr{a:Addr}{o:dG}(r:mC T Z H a o)(m:o.mu=true):∃u,H a=some u:=by
 cases o with
 |lst k xs=>
  cases k with
  |true=>obtain⟨ys,h,_⟩:=r;exact⟨_,h⟩|false=>cases m
 |aO kvs=>obtain⟨ks,ys,h,_⟩:=r;exact⟨_,h⟩|ins c fs=>obtain⟨C,dx,ks,ys,_,h,_⟩:=r;exact⟨_,h⟩|xo c=>obtain⟨C,_,h⟩:=r;exact⟨_,h⟩
theorem Ext.gG{a:Addr}{o:HO}(hn:H a=none):Ext Z H Z (aR H a o):=
 ⟨λ_ _ e=>e,λb xs e=>by rw[bP (eL e hn)];exact e,λb u xs e=>by rw[bP (eL e hn)];exact e⟩
theorem aQ.keep(R:aQ T Z h H){a:Addr}{o:HO}(hn:H a=none):aQ T Z h (aR H a o):=
 ⟨R.len,R.pU,λn u b e q=>(R.obj n u b e q).ext (.gG hn) λm=>by obtain⟨w,hw⟩:=Cr (R.obj n u b e q) m;rw[bP (eL hw hn)],R.inj⟩
theorem aQ.alloc(R:aQ T Z h H){a:Addr}{o:dG}{O:HO}(hn:H a=none)(ho:mC T (Z++[a]) (aR H a O) a o):aQ T (Z++[a]) (h.new o) (aR H a O)/\Ext Z H (Z++[a]) (aR H a O):=by
 have ex:Ext Z H (Z++[a]) (aR H a O):=⟨λn x e=>by have hl:=(List.getElem?_eq_some_iff.mp e).1;rw[List.getElem?_append_left hl];exact e,(Ext.gG (Z:=Z) hn).tup,(Ext.gG (Z:=Z) hn).cT⟩
 have old:∀{n:Nat} {b:Addr},n<h.nx->(Z++[a])[n]?=some b->Z[n]?=some b:=λ{n b} hl e=>by rw[List.getElem?_append_left (by rw[R.len];exact hl)]at e;exact e
 have at_:∀{b:Addr},(Z++[a])[h.nx]?=some b->b=a:=λ{b} e=>by rw[<- R.len]at e;simp at e;exact e.symm
 refine⟨⟨by simp[AH.new,R.len],λn u e=>?_,λn u b e q=>?_,λn m b u v e1 e2 m1 m2 q1 q2=>?_⟩,ex⟩
 .simp only[AH.new]at e ⊢;by_cases hx:n=h.nx
  .omega
  .rw[if_neg hx]at e;have:=R.pU n u e;omega
 .simp only[AH.new]at e;by_cases hx:n=h.nx
  .rw[if_pos hx]at e;cases e;subst hx;rw[at_ q];exact ho
  .rw[if_neg hx]at e;have q':=old (R.pU n u e) q;refine(R.obj n u b e q').ext ex λm=>?_;obtain⟨w,hw⟩:=Cr (R.obj n u b e q') m;rw[bP (eL hw hn)]
 .simp only[AH.new]at e1 e2;have no:∀{k:Nat} {y:dG},h.ob k=some y->y.mu=true->(Z++[a])[k]?=some b->b≠a:=λ{k y} e m q=>by obtain⟨w,hw⟩:=Cr (R.obj k y b e (old (R.pU k y e) q)) m;exact eL hw hn
  by_cases hx:n=h.nx
  .subst hx;by_cases hy:m=h.nx
   .exact hy.symm
   .rw[if_neg hy]at e2;exact absurd (at_ q1) (no e2 m2 q2)
  .rw[if_neg hx]at e1;by_cases hy:m=h.nx
   .subst hy;exact absurd (at_ q2) (no e1 m1 q1)
   .rw[if_neg hy]at e2;exact R.inj n m b u v e1 e2 m1 m2 (old (R.pU n u e1) q1) (old (R.pU m v e2) q2)
theorem aQ.write(R:aQ T Z h H){n:Nat}{a:Addr}{o o':dG}{O O':HO}(e:h.ob n=some o)(m:o.mu=true)(m':o'.mu=true)(q:Z[n]?=some a)(hO:H a=some O)(nt:∀xs,O ≠ .tup xs)(nf:∀x u,O ≠ .cT x u)
  (ho:mC T Z (aR H a O') a o'):aQ T Z (h.put n o') (aR H a O')/\Ext Z H Z (aR H a O'):=by
 have ex:Ext Z H Z (aR H a O'):=⟨λ_ _ z=>z,λb xs z=>by
   rw[bP (mQ z hO λw=>nt xs w.symm)];exact z,λb x u z=>by
   rw[bP (mQ z hO λw=>nf x u w.symm)];exact z⟩
 refine⟨⟨R.len,λk u z=>?_,λk u b z w=>?_,λk l b u v z1 z2 m1 m2 w1 w2=>?_⟩,ex⟩
 .simp only[AH.put]at z;by_cases hx:k=n
  .subst hx;exact R.pU _ _ e
  .rw[if_neg hx]at z;exact R.pU k u z
 .simp only[AH.put]at z;by_cases hx:k=n
  .rw[if_pos hx]at z;cases z;subst hx;rw[q]at w;cases w;exact ho
  .rw[if_neg hx]at z;refine(R.obj k u b z w).ext ex λmu=>?_;rw[bP];rintro rfl
   exact hx (R.inj k n b u o z e mu m w q)
 .simp only[AH.put]at z1 z2;have back:∀{j:Nat} {y:dG},(if j=n then some o' else h.ob j)=some y->y.mu=true->∃y',h.ob j=some y'/\y'.mu=true:=λ{j y} z mu=>by
   by_cases hx:j=n
   .subst hx;exact⟨o,e,m⟩
   .rw[if_neg hx]at z;exact⟨y,z,mu⟩
  obtain⟨u',g1,k1⟩:=back z1 m1;obtain⟨v',g2,k2⟩:=back z2 m2;exact R.inj k l b u' v' g1 g2 k1 k2 w1 w2
end
abbrev Rl(α β:Type):=List Addr->Hp->α->β->Prop
def W{α β:Type}(T:Tab)(Rp:Rl α β)(r:Res α)(Z:List Addr)(H:Hp)(Q:β->Hp->Prop)(E:XK):Prop:=match r with
 |.ok a h=>∀Z' b H',Ext Z H Z' H'->aQ T Z' h H'->Rp Z' H' a b->Q b H'
 |.exc c _ h=>∀Z' H',Ext Z H Z' H'->aQ T Z' h H'->∃C,T.C c=some C/\E (.ref C) none H'
 |.bad=>False
section
variable {T:Tab}{α β γ δ:Type}{Rp:Rl α β}{Rq:Rl γ δ}{Z Z':List Addr}{H H':Hp}{E:XK}{Q:β->Hp->Prop}{h:AH}
theorem W.ext{r:Res α}(w:W T Rp r Z H Q E)(e:Ext Z H Z' H'):W T Rp r Z' H' Q E:=by
 cases r with
 |ok a h=>exact λZ2 b H2 x R q=>w Z2 b H2 (e.trans x) R q|exc c x h=>exact λZ2 H2 x R=>w Z2 H2 (e.trans x) R|bad=>exact w
theorem W.bind{m:M α}{k:α->M γ}{Q2:δ->Hp->Prop}(w:W T Rq (M.bind m k h) Z H Q2 E)
  (f:∀Z1 x y h1 H1,Ext Z H Z1 H1->aQ T Z1 h1 H1->Rp Z1 H1 x y->W T Rq (k x h1) Z1 H1 Q2 E->Q y H1):W T Rp (m h) Z H Q E:=by
 unfold M.bind at w;cases e:m h with
 |ok a h1=>rw[e]at w;exact λZ1 y H1 x R q=>f Z1 a y h1 H1 x R q (w.ext x)
 |exc c x h1=>rw[e]at w;exact w|bad=>rw[e]at w;exact w
theorem W.ok{a:α}{b:β}(w:W T Rp (.ok a h) Z H Q E)(e:Ext Z H Z' H')(R:aQ T Z' h H')(q:Rp Z' H' a b):Q b H':=w Z' b H' e R q
theorem W.here{a:α}{b:β}(w:W T Rp (.ok a h) Z H Q E)(R:aQ T Z h H)(q:Rp Z H a b):Q b H:=w Z b H .refl R q
end
abbrev aE:=List (Option AV)
def bK(T:Tab)(Z:List Addr)(H:Hp)(U:aE)(U':L2.St):Prop:=U.length=U'.length/\∀(i:Nat) v,U[i]?=some (some v)->∃v',U'[i]?=some (some v')/\aJ T Z H v v'
theorem bK.ext{T:Tab}{Z Z':List Addr}{H H':Hp}{U:aE}{U':L2.St}(S:bK T Z H U U')(e:Ext Z H Z' H'):bK T Z' H' U U':=
 ⟨S.1,λi v q=>let ⟨v',a,b⟩:=S.2 i v q;⟨v',a,b.ext e⟩⟩
theorem bK.set{T:Tab}{Z:List Addr}{H:Hp}{U:aE}{U':L2.St}(S:bK T Z H U U'){v:AV}{v':V}(r:aJ T Z H v v')(i:Nat):bK T Z H (U.set i (some v)) (U'.set i (some v')):=by
 refine⟨by simp[S.1],λj u q=>?_⟩;by_cases hj:i=j
 .subst hj;by_cases hl:i<U.length
  .rw[List.getElem?_set_self hl]at q;cases q;exact⟨v',List.getElem?_set_self (by rw[<- S.1];exact hl),r⟩
  .rw[List.getElem?_eq_none (by simpa using hl)]at q;cases q
 .rw[List.getElem?_set_ne hj]at q;obtain⟨w,a,b⟩:=S.2 j u q;exact⟨w,by rw[List.getElem?_set_ne hj];exact a,b⟩
def QE(X:Cx)(T:Tab)(E:XK)(e:Expr)(m:aE->M AV):Prop:=
 ∃t,PE X e t/\∀Z U U' h H Q,aQ T Z h H->bK T Z H U U'->W T (aJ T) (m U h) Z H Q E->t U' H Q
def QA(X:Cx)(T:Tab)(E:XK)(es:List Expr)(m:aE->M (List AV)):Prop:=
 ∃t,PA X es t/\∀Z U U' h H Q,aQ T Z h H->bK T Z H U U'->W T (aT T) (m U h) Z H Q E->t U' H Q
abbrev RB:Rl Bool Bool:=λ_ _ a b=>a=b
def QT(X:Cx)(T:Tab)(E:XK)(e:Expr)(m:aE->M Bool):Prop:=
 ∃t,PT X e t/\∀Z U U' h H Q,aQ T Z h H->bK T Z H U U'->W T RB (m U h) Z H Q E->t U' H Q
def QW(X:Cx)(T:Tab)(E:XK)(e:Expr)(m:aE->M Bool):Prop:=
 ∃t,PW X e t/\∀Z U U' h H Q,aQ T Z h H->bK T Z H U U'->W T RB (m U h) Z H Q E->t U' H Q
theorem QW.qt{X:Cx}{T:Tab}{E:XK}{e:Expr}{m:aE->M Bool}(h:QW X T E e m):QT X T E e m:=let ⟨t,a,b⟩:=h;⟨t,a.pt,b⟩
def bU(X:Cx)(T:Tab)(E:XK)(f:Value->Value->Sem Value)(g:AV->AV->M AV):Prop:=
 ∃r,bH X f r/\∀Z h H x y x' y' Q,aQ T Z h H->aJ T Z H x x'->aJ T Z H y y'->W T (aJ T) (g x y h) Z H Q E->r x' y' H Q
def Ii(X:Cx)(T:Tab)(E:XK)(f:Value->Sem Value)(g:AV->M AV):Prop:=
 ∃r,ot X f r/\∀Z h H x x' Q,aQ T Z h H->aJ T Z H x x'->W T (aJ T) (g x h) Z H Q E->r x' H Q
def oo(X:Cx)(T:Tab)(E:XK)(g:AV->AV->M AV):Prop:=
 ∃r,iI X r/\∀Z h H x y x' y' Q,aQ T Z h H->aJ T Z H x x'->aJ T Z H y y'->W T (aJ T) (g x y h) Z H Q E->r x' y' H Q
def kY(X:Cx)(T:Tab)(E:XK)(f:Value)(g:List AV->M AV):Prop:=
 ∃r,eB X f r/\∀Z h H xs bS Q,aQ T Z h H->aT T Z H xs bS->W T (aJ T) (g xs h) Z H Q E->r bS H Q
def wM(i j:Int):Bool:=decide (i.natAbs<2 ^ 64)||decide (j.natAbs<2 ^ 64)||(decide (i.natAbs<2 ^ 1000)&&decide (j.natAbs<2 ^ 1000))
def iL(j:Int):Bool:=decide (0<j)&&decide (j<2 ^ 1000)
def qO(i j:Int):Bool:=decide (0<=j)&&decide (j<=1000000)&&decide (i.natAbs<2 ^ 64)
def fX:AV->AV->M AV
 |.int i,.int j=>M.ret (.int (i+j))
 |.str i,.str j=>M.guard (i.length+j.length<=sizeLine) (M.ret (.str (i++j)))
 |.tup xs,.tup ys=>M.guard (xs.length+ys.length<=sizeLine) (M.ret (.tup (xs++ys)))
 |.ref n,.ref m=>λh=>match h.ob n,h.ob m with
  |some (.lst true xs),some (.lst true ys)=>if xs.length+ys.length<=sizeLine then .ok (.ref h.nx) (h.new (.lst true (xs++ys))) else .bad
  |_,_=>.bad
 |_,_=>M.bad
def gO(p:Int->Int->Bool)(f:Int->Int->Int):AV->AV->M AV
 |.int i,.int j=>λh=>if p i j=true then .ok (.int (f i j)) h else .bad
 |_,_=>M.bad
def rn:AV->AV->M AV:=gO (λ_ _=>true) HSub.hSub
def Oe:AV->AV->M AV:=gO wM HMul.hMul
def Nu:AV->AV->M AV:=gO (λ_ j=>iL j) HDiv.hDiv
def Od:AV->AV->M AV:=gO (λ_ j=>decide (0<j)) HMod.hMod
def Oi:AV->AV->M AV:=gO qO λi j=>i ^ j.toNat
def Oj:AV->AV->M AV:=gO qO λi j=>i*2 ^ j.toNat
def Ol:AV->AV->M AV:=gO (λ_ j=>decide (0<=j)) λi j=>i / 2 ^ j.toNat
def Nt:AV->AV->M AV:=gO (λ_ _=>true) Builtin.bitAnd
def Oh:AV->AV->M AV:=gO (λ_ _=>true) Builtin.bitOr
def Om:AV->AV->M AV:=gO (λ_ _=>true) Builtin.bitXor
def gg(f:Int->Int->Bool):AV->AV->M AV
 |.int i,.int j=>M.ret (.bl (f i j))
 |_,_=>M.bad
def Oa:AV->AV->M AV:=gg λi j=>decide (i<j)
def Nz:AV->AV->M AV:=gg λi j=>decide (i<=j)
def Nw:AV->AV->M AV:=gg λi j=>decide (j<i)
def Nv:AV->AV->M AV:=gg λi j=>decide (j<=i)
def dY:AV->AV->Option Bool
 |.aB,.aB=>some true | .aB,.int _=>some false | .int _,.aB=>some false | .aB,.bl _=>some false | .bl _,.aB=>some false | .aB,.str _=>some false | .str _,.aB=>some false
 |.int i,.int j=>some (decide (i=j)) | .bl i,.bl j=>some (decide (i=j)) | .str i,.str j=>some (decide (i=j))
 |.int _,.str _=>some false | .str _,.int _=>some false | .bl _,.str _=>some false | .str _,.bl _=>some false
 |_,_=>none
def bY:AV->Bool
 |.aB=>true | .bl _=>true | .int _=>true | .str _=>true
 |_=>false
def iB:AV->AV->Bool
 |.aB,.aB=>true
 |.bl a,.bl b=>a==b
 |.bl a,.int b=>(if a then 1 else 0)==b
 |.int a,.bl b=>a==(if b then 1 else 0)
 |.int a,.int b=>a==b
 |.str a,.str b=>a==b
 |_,_=>false
def dJ(h:AH):AV->Option (Bool×List AV)
 |.tup xs=>some (false,xs)
 |.ref n=>match h.ob n with
  |some (.lst _ xs)=>some (true,xs)
  |_=>none
 |_=>none
def eP(f:AV->AV->Option Bool):List AV->List AV->Option Bool
 |[],_=>some true
 |_::_,[]=>some true
 |x::xs,y::ys=>match f x y,eP f xs ys with
  |some a,some b=>some (a&&b)
  |_,_=>none
def tQ:AV->AV->Bool
 |.aB,.tup _=>true
 |.tup _,.aB=>true
 |_,_=>false
def bV(h:AH):Nat->AV->AV->Option Bool
 |0,_,_=>none
 |n+1,x,y=>if bY x=true/\bY y=true then some (iB x y) else
  if tQ x y=true then some false else
  match dJ h x,dJ h y with
  |some (k,xs),some (k',ys)=>if k=k' then
    if k=true/\xs.length≠ys.length then some false else(eP (bV h n) xs ys).map λb=>b&&decide (xs.length=ys.length)
   else some false
  |_,_=>none
def eqT(h:AH)(x y:AV):Option Bool:=match dJ h x,dJ h y with
 |some _,some _=>bV h 12 x y
 |_,_=>none
def sS(x y:AV):M AV:=λh=>match dY x y with
 |some b=>.ok (.bl b) h
 |none=>match eqT h x y with
  |some b=>.ok (.bl b) h
  |none=>.bad
def sX(x y:AV):M AV:=λh=>match dY x y with
 |some b=>.ok (.bl (!b)) h
 |none=>match eqT h x y with
  |some b=>.ok (.bl (!b)) h
  |none=>.bad
def fK:AV->Bool
 |.aB=>true
 |_=>false
def Bs(x y:AV):M AV:=if fK y=true then M.ret (.bl (fK x)) else M.bad
def Bt(x y:AV):M AV:=if fK y=true then M.ret (.bl (!fK x)) else M.bad
def mM(x:AV)(xs:List AV):Bool:=xs.any λy=>iB y x
def cV(h:AH):AV->Option (List AV)
 |.tup xs=>some xs
 |.ref n=>match h.ob n with
  |some (.lst _ xs)=>some xs
  |_=>none
 |_=>none
def fL:AV->Option aK
 |.int i=>some (.inl i)
 |.str s=>some (.inr s)
 |_=>none
def dS(h:AH):AV->Option (List (aK×AV))
 |.ref n=>match h.ob n with
  |some (.aO kvs)=>some kvs
  |_=>none
 |_=>none
def bC(kvs:List (aK×AV))(k:aK):Option AV:=(kvs.find? λkv=>decide (kv.1=k)).map (·.2)
def dZ(kvs:List (aK×AV))(k:aK)(v:AV):List (aK×AV):=
 if(kvs.any λkv=>decide (kv.1=k))=true then kvs.map (λkv=>if kv.1=k then(kv.1,v) else kv) else kvs++[(k,v)]
def E7(kvs:List (aK×AV))(k:aK):List (aK×AV):=kvs.filter λkv=>decide (kv.1≠k)
def pX(neg:Bool)(x y:AV):M AV:=λh=>match cV h y with
 |some xs=>if(bY x&&xs.all bY)=true then .ok (.bl (if neg then !mM x xs else mM x xs)) h else .bad
 |none=>.bad
def pW(neg:Bool)(x y:AV):M AV:=λh=>match dS h y with
 |some kvs=>match fL x with
  |some k=>.ok (.bl (if neg then !(bC kvs k).isSome else(bC kvs k).isSome)) h
  |none=>.bad
 |none=>pX neg x y h
def Og:AV->M AV
 |.int i=>M.ret (.int (-i))
 |_=>M.bad
def wG(x y:AV):M AV:=λh=>match y with
 |.int i=>match x with
  |.str z=>if z.length<=sizeLine then match cW z.cps.toList i with
   |some c=>.ok (.str ⟨#[c]⟩) h
   |none=>.bad
   else .bad
  |x=>match (cV h x).bind λxs=>cW xs i with
   |some v=>.ok v h
   |none=>.bad
 |_=>.bad
noncomputable abbrev Ny:=wG
def sW(x y:AV):M AV:=λh=>match dS h x with
 |some kvs=>match (fL y).bind (bC kvs) with
  |some v=>.ok v h
  |none=>.bad
 |none=>Ny x y h
def dh(h:AH):AV->Option Bool
 |.aB=>some false
 |.bl b=>some b
 |.int i=>some (i != 0)
 |.str y=>if y.length<=sizeLine then some ((y.length:Int) != 0) else none
 |.tup xs=>some (!xs.isEmpty)
 |.ref n=>match h.ob n with
  |some (.lst _ xs)=>some (!xs.isEmpty)
  |some (.aO kvs)=>some (!kvs.isEmpty)
  |_=>none
 |_=>none
def cA(x:AV):M Bool:=λh=>match dh h x with
 |some b=>.ok b h
 |none=>.bad
section
variable {X:Cx}{T:Tab}{E:XK}(hK:X.K=T.K)
theorem pZ{α β:Type}{Rp:Rl α β}{p:Prop} [Decidable p] {m:M α}{Z:List Addr}{H:Hp}{h:AH}{Q:β->Hp->Prop}(w:W T Rp (M.guard p m h) Z H Q E):p/\W T Rp (m h) Z H Q E:=by
 unfold M.guard at w;by_cases hp:p
 .rw[if_pos hp]at w;exact⟨hp,w⟩
 .rw[if_neg hp]at w;exact w.elim
theorem lM{f:Value->Value->Sem Value}{C:Int->Int->Prop}{p:Int->Int->Bool}{g:Int->Int->Int}(ho:bH X f (rI C λi j=>.int (g i j)))(hc:∀i j,p i j=true->C i j):bU X T E f (gO p g):=by
 refine⟨_,ho,λZ h H x y x' y' Q R rx ry w=>?_⟩;cases x with
 |int i=>
  cases y with
  |int j=>
   cases rx;cases ry;simp only[gO]at w;by_cases hp:p i j=true
   .rw[if_pos hp]at w;exact⟨i,j,rfl,rfl,hc i j hp,w.here R (.int _)⟩
   .rw[if_neg hp]at w;exact w.elim
  |_=>exact w.elim
 |_=>exact w.elim
theorem ug{f:Value->Value->Sem Value}{g:Int->Int->Bool}(ho:bH X f (hE λi j=>.bl (g i j))):bU X T E f (gg g):=by
 refine⟨_,ho,λZ h H x y x' y' Q R rx ry w=>?_⟩;cases x with
 |int i=>
  cases y with
  |int j=>cases rx;cases ry;exact⟨i,j,rfl,rfl,W.here w R (.bl _)⟩
  |_=>exact w.elim
 |_=>exact w.elim
theorem yg{f:Value->Value->Sem Value}{g:Int->Int->V}(h:bH X f (hE g)):bH X f (rI (λ_ _=>True) g):=
 λpins s U H x y v u Q I rx ry ⟨i,j,a,b,_,q⟩=>h pins s U H x y v u Q I rx ry ⟨i,j,a,b,q⟩
theorem LV:bU X T E (binaryOp .Sub) rn:=lM (yg KR) λ_ _ _=>trivial
theorem KY:bU X T E (binaryOp .BitAnd) Nt:=lM (yg JN) λ_ _ _=>trivial
theorem LQ:bU X T E (binaryOp .BitOr) Oh:=lM (yg KN) λ_ _ _=>trivial
theorem LW:bU X T E (binaryOp .BitXor) Om:=lM (yg KS) λ_ _ _=>trivial
theorem LL:bU X T E (binaryOp .Mod) Od:=lM KC λ_ _ h=>of_decide_eq_true h
theorem Qw{i j:Int}(h:qO i j=true):zm i j:=by simp only[qO,Bool.and_eq_true,decide_eq_true_eq]at h;exact⟨h.1.1,h.1.2,h.2⟩
theorem LR:bU X T E (binaryOp .Pow) Oi:=lM KO λ_ _ h=>Qw h
theorem LS:bU X T E (binaryOp .LShift) Oj:=lM KP λ_ _ h=>Qw h
theorem LU:bU X T E (binaryOp .RShift) Ol:=lM KQ λ_ _ h=>of_decide_eq_true h
theorem IW{i j:Int}(h:wM i j=true):IntMulOk i j:=by
 simp only[wM,Bool.or_eq_true,Bool.and_eq_true,decide_eq_true_eq]at h;rcases h with(h|h)|⟨h1,h2⟩
 .exact .of_left (intBits_le h)
 .exact .of_right (intBits_le h)
 .exact .of_bits (Nat.le_trans (intBits_le h1) (by decide)) (Nat.le_trans (intBits_le h2) (by decide))
theorem KD:bH X (binaryOp .Mult) (rI IntMulOk λi j=>.int (i*j)):=wN λ_ _ _ _ _ _ _ hc q=>mul_int q hc
theorem LM:bU X T E (binaryOp .Mult) Oe:=lM KD λ_ _ h=>IW h
theorem log2_lt{j:Int}(h:j<2 ^ 1000)(h0:0<j):j.natAbs.log2<9000:=by
 have hn:j.natAbs<2 ^ 1000:=by omega
 have:j.natAbs.log2<1000:=(Nat.log2_lt (by omega)).mpr hn;omega
theorem JT:bH X (binaryOp .FloorDiv) (rI (λ_ j=>0<j/\j<2 ^ 1000) λi j=>.int (i / j)):=wN λi j _ _ _ _ _ hc q=>by have h1:(0:Int)<j:=hc.1;exact floordiv_int (by omega) (by rw[Int.fdiv_eq_ediv_of_nonneg i (by omega)];exact q) (.inl (PyProof.noPylong_of_log2 (log2_lt hc.2 hc.1)))
theorem Mc{j:Int}(h:iL j=true):0<j/\j<2 ^ 1000:=by simp only[iL,Bool.and_eq_true,decide_eq_true_eq]at h;exact h
theorem LB:bU X T E (binaryOp .FloorDiv) Nu:=lM JT λ_ _ h=>Mc h
theorem LK:bU X T E (compareOp .Lt) Oa:=ug KA
theorem LJ:bU X T E (compareOp .LtE) Nz:=ug JZ
theorem LD:bU X T E (compareOp .Gt) Nw:=ug JV
theorem LC:bU X T E (compareOp .GtE) Nv:=ug JU
theorem Mu{Z:List Addr}{H:Hp}{x y:AV}{x' y':V}{b:Bool}(rx:aJ T Z H x x')(ry:aJ T Z H y y')(e:dY x y=some b):yi x' y'=true/\decide (x'=y')=b:=by cases rx<;>cases ry<;>simp[dY]at e<;>(subst e)<;>simp[yi]
theorem gc{Z:List Addr}{H:Hp}{x:AV}{x':V}(r:aJ T Z H x x')(f:bY x=true):fU x'=true:=by cases r<;>first|rfl|cases f
theorem Bm{Z:List Addr}{H:Hp}:∀{xs:List AV} {ys:List V},aT T Z H xs ys->xs.all bY=true->ys.all fU=true
 |_,_,.nil,_=>rfl|_,_,.cons h hs,f=>by rw[List.all_cons,Bool.and_eq_true]at f ⊢;exact⟨gc h f.1,Bm hs f.2⟩
theorem Mr{Z:List Addr}{H:Hp}{x y:AV}{x' y':V}(rx:aJ T Z H x x')(ry:aJ T Z H y y')(fx:bY x=true)(fy:bY y=true):iC x' y'=iB x y:=by
 cases rx<;>first|cases fx;done|skip
 all_goals (cases ry<;>first|rfl|cases fy)
theorem de(hK:X.K=T.K){Z:List Addr}{h:AH}{H:Hp}{x:AV}{x':V}{k:Bool}{xs:List AV}(R:aQ T Z h H)(r:aJ T Z H x x')(e:dJ h x=some (k,xs)):∃a ys,x' = .ref a/\aT T Z H xs ys/\(k=true->bO X.K H a ys)/\(k=false->bZ X.K H a ys):=by
 cases r with
 |tup hq hr=>cases e;exact⟨_,_,rfl,hr,(λz=>by cases z),λ_=>by rw[hK];exact hq⟩
 |@ref n a q=>
  simp only[dJ]at e;cases o:h.ob n with
  |none=>rw[o]at e;cases e|some u=>
   rw[o]at e;cases u with
   |lst m ys=>
    cases e;cases m with
    |true=>obtain⟨zs,h1,h2⟩:=R.obj n _ a o q;exact⟨_,_,rfl,h2,λ_=>.inl (.inl h1),λz=>by cases z⟩|false=>obtain⟨zs,h1,h2⟩:=R.obj n _ a o q;exact⟨_,_,rfl,h2,λ_=>by rw[hK];exact h1.sq,λz=>by cases z⟩
   |_=>cases e
 |_=>cases e
theorem Mn{f:AV->AV->Option Bool}:∀{xs ys:List AV} {b:Bool},eP f xs ys=some b->∃e:Nat->Bool,(∀j x y,xs[j]?=some x->ys[j]?=some y->f x y=some (e j))/\b=(List.range (min xs.length ys.length)).all e
 |[],_,b,h=>by cases h;exact⟨λ_=>true,λj x y z=>by simp at z,by simp⟩
 |_::_,[],b,h=>by cases h;exact⟨λ_=>true,λj x y _ z=>by simp at z,by simp⟩
 |x::xs,y::ys,b,h=>by
  simp only[eP]at h;cases h1:f x y with
  |none=>rw[h1]at h;cases h|some a=>
   cases h2:eP f xs ys with
   |none=>rw[h1,h2]at h;cases h|some c=>
    rw[h1,h2]at h;cases h;obtain⟨e,g1,g2⟩:=Mn h2;refine⟨λj=>match j with|0=>a|j+1=>e j,λj p q z1 z2=>?_,?_⟩
    .cases j with
     |zero=>cases z1;cases z2;exact h1|succ j=>exact g1 j p q z1 z2
    .rw[g2,List.length_cons,List.length_cons,Nat.succ_min_succ,List.range_succ_eq_map,List.all_cons,List.all_map];rfl
theorem Gm{Z:List Addr}{H:Hp}:∀{xs:List AV} {ys:List V} {j:Nat} {y:V},aT T Z H xs ys->ys[j]?=some y->∃x,xs[j]?=some x/\aJ T Z H x y
 |_,_,_,_,.nil,e=>by simp at e
 |_,_,0,_,.cons h _,e=>by cases e;exact⟨_,rfl,h⟩
 |_,_,j+1,y,.cons _ hs,e=>by obtain⟨x,h1,h2⟩:=Gm (j:=j) (y:=y) hs (by simpa using e);exact⟨x,by simpa using h1,h2⟩
theorem Ml(hK:X.K=T.K){Z:List Addr}{h:AH}{H:Hp}(R:aQ T Z h H):∀{n:Nat} {x y:AV} {x' y':V} {b:Bool},aJ T Z H x x'->aJ T Z H y y'->bV h n x y=some b->eC X.K H n x' y' b
 |0,_,_,_,_,_,_,_,e=>by cases e
 |n+1,x,y,x',y',b,rx,ry,e=>by
  simp only[bV]at e;by_cases hf:bY x=true/\bY y=true
  .rw[if_pos hf]at e;cases e;exact .inl ⟨gc rx hf.1,gc ry hf.2,(Mr rx ry hf.1 hf.2).symm⟩
  .rw[if_neg hf]at e;by_cases hn:tQ x y=true
   .rw[if_pos hn]at e;cases e;refine .inr (.inl ⟨rfl,?_⟩);cases x with
    |aB=>cases y with
     |tup ys=>obtain⟨c,vs,rfl,r2,l2,t2⟩:=de hK R ry (show dJ h (.tup ys)=some (false,ys) from rfl);cases rx;exact⟨c,vs,t2 rfl,.inl ⟨rfl,rfl⟩⟩
     |_=>cases hn
    |tup xs=>cases y with
     |aB=>obtain⟨c,vs,rfl,r2,l2,t2⟩:=de hK R rx (show dJ h (.tup xs)=some (false,xs) from rfl);cases ry;exact⟨c,vs,t2 rfl,.inr ⟨rfl,rfl⟩⟩
     |_=>cases hn
    |_=>cases hn
   rw[if_neg hn]at e;cases h1:dJ h x with
   |none=>rw[h1]at e;cases e|some p=>
    obtain⟨k,xs⟩:=p;cases h2:dJ h y with
    |none=>rw[h1,h2]at e;cases e|some q=>
     obtain⟨k',ys⟩:=q;rw[h1,h2]at e;dsimp only at e;obtain⟨a,us,rfl,r1,l1,t1⟩:=de hK R rx h1;obtain⟨c,vs,rfl,r2,l2,t2⟩:=de hK R ry h2;refine .inr (.inr ⟨a,c,us,vs,rfl,rfl,?_⟩);have items:∀{b:Bool},eP (bV h n) xs ys=some b->∃f:Nat->Bool,(∀j p q,us[j]?=some p->vs[j]?=some q->eC X.K H n p q (f j))/\b=(List.range (min us.length vs.length)).all f:=λ{b} he=>by obtain⟨f,g1,g2⟩:=Mn he;refine⟨f,λj p q z1 z2=>?_,by rw[<- r1.length,<- r2.length];exact g2⟩;obtain⟨x1,w1,w2⟩:=Gm r1 z1;obtain⟨y1,w3,w4⟩:=Gm r2 z2;exact Ml hK R w2 w4 (g1 j x1 y1 w1 w3)
     by_cases hk:k=k'
     .subst hk;rw[if_pos rfl]at e;by_cases hl:k=true/\xs.length≠ys.length
      .rw[if_pos hl]at e;cases e;exact .inl ⟨l1 hl.1,l2 hl.1,.inl ⟨by rw[<- r1.length,<- r2.length];exact hl.2,rfl⟩⟩
      .rw[if_neg hl]at e;cases he:eP (bV h n) xs ys with
       |none=>rw[he]at e;cases e|some d=>
        rw[he]at e;cases e;obtain⟨f,g1,g2⟩:=items he;cases k with
        |true=>
         have hz:xs.length=ys.length:=Classical.byContradiction λz=>hl ⟨rfl,z⟩;have hz':us.length=vs.length:=by rw[<- r1.length,<- r2.length];exact hz
         refine .inl ⟨l1 rfl,l2 rfl,.inr ⟨hz',f,g1,?_⟩⟩;rw[g2,<- hz',Nat.min_self,decide_eq_true hz];exact Bool.and_true _
        |false=>refine .inr (.inl ⟨t1 rfl,t2 rfl,f,g1,?_⟩);rw[g2,<- r1.length,<- r2.length];congr 1
     .rw[if_neg hk]at e;cases e;cases k with
      |true=>
       cases k' with
       |true=>exact absurd rfl hk|false=>exact .inr (.inr (.inl ⟨l1 rfl,t2 rfl,rfl⟩))
      |false=>
       cases k' with
       |true=>exact .inr (.inr (.inr ⟨t1 rfl,l2 rfl,rfl⟩))|false=>exact absurd rfl hk
theorem Mw(hK:X.K=T.K){Z:List Addr}{h:AH}{H:Hp}(R:aQ T Z h H){x y:AV}{x' y':V}{b:Bool}(rx:aJ T Z H x x')(ry:aJ T Z H y y')(e:eqT h x y=some b):∃a c,x' = .ref a/\y' = .ref c/\eC X.K H 12 x' y' b:=by
 unfold eqT at e;cases h1:dJ h x with
 |none=>rw[h1]at e;cases e|some p=>
  cases h2:dJ h y with
  |none=>rw[h1,h2]at e;cases e|some q=>rw[h1,h2]at e;obtain⟨a,us,e1,_⟩:=de hK R rx h1;obtain⟨c,vs,e2,_⟩:=de hK R ry h2;exact⟨a,c,e1,e2,Ml hK R rx ry e⟩
theorem LA(hK:X.K=T.K)(hu:X.A.units+12<cLine):bU X T E (compareOp .Eq) sS:=by
 refine⟨_,JS hu,λZ h H x y x' y' Q R rx ry w=>?_⟩;unfold sS at w;cases e:dY x y with
 |none=>
  simp only[e]at w;cases e2:eqT h x y with
  |none=>simp only[e2]at w;exact w.elim|some b=>simp only[e2]at w;obtain⟨a,c,e3,e4,q⟩:=Mw hK R rx ry e2;exact .inr ⟨b,a,c,e3,e4,q,W.here w R (.bl _)⟩
 |some b=>simp only[e]at w;obtain⟨h1,h2⟩:=Mu rx ry e;exact .inl ⟨h1,by rw[h2];exact W.here w R (.bl _)⟩
theorem LN(hK:X.K=T.K)(hu:X.A.units+12<cLine):bU X T E (compareOp .NotEq) sX:=by
 refine⟨_,KH hu,λZ h H x y x' y' Q R rx ry w=>?_⟩;unfold sX at w;cases e:dY x y with
 |none=>
  simp only[e]at w;cases e2:eqT h x y with
  |none=>simp only[e2]at w;exact w.elim|some b=>simp only[e2]at w;obtain⟨a,c,e3,e4,q⟩:=Mw hK R rx ry e2;exact .inr ⟨b,a,c,e3,e4,q,W.here w R (.bl _)⟩
 |some b=>simp only[e]at w;obtain⟨h1,h2⟩:=Mu rx ry e;exact .inl ⟨h1,by rw[h2];exact W.here w R (.bl _)⟩
theorem si{Z:List Addr}{H:Hp}{x:AV}{x':V}(r:aJ T Z H x x'):decide (x' = .aB)=fK x:=by cases r<;>simp[fK]
theorem LH:bU X T E (compareOp .Is) Bs:=by
 refine⟨_,JY,λZ h H x y x' y' Q R rx ry w=>?_⟩;unfold Bs at w;by_cases e:fK y=true
 .rw[if_pos e]at w;rw[<- si ry]at e;exact⟨of_decide_eq_true e,by rw[si rx];exact W.here w R (.bl _)⟩
 .rw[if_neg e]at w;exact w.elim
theorem LI:bU X T E (compareOp .IsNot) Bt:=by
 refine⟨_,KL,λZ h H x y x' y' Q R rx ry w=>?_⟩;unfold Bt at w;by_cases e:fK y=true
 .rw[if_pos e]at w;rw[<- si ry]at e;exact⟨of_decide_eq_true e,by rw[si rx];exact W.here w R (.bl _)⟩
 .rw[if_neg e]at w;exact w.elim
theorem m5:Ii X T E (unaryOp .USub) Og:=by
 refine⟨_,l0,λZ h H x x' Q R rx w=>?_⟩;cases x with
 |int i=>cases rx;exact⟨i,rfl,W.here w R (.int _)⟩|_=>exact w.elim
theorem Ca{Z:List Addr}{H:Hp}{x:AV}{x':V}(rx:aJ T Z H x x')(fx:bY x=true):∀{xs:List AV} {ys:List V},aT T Z H xs ys->xs.all bY=true->sg x' ys=mM x xs
 |_,_,.nil,_=>rfl|_,_,.cons h hs,f=>by rw[List.all_cons,Bool.and_eq_true]at f;have:=Ca rx fx hs f.2;unfold sg mM at this ⊢;rw[List.any_cons,List.any_cons,this,Mr h rx f.1 fx]
theorem mP{Z:List Addr}{h:AH}{H:Hp}{n:Nat}{m:Bool}{xs:List AV}{a:Addr}(R:aQ T Z h H)(e:h.ob n=some (.lst m xs))(q:Z[n]?=some a):∃ys,bO T.K H a ys/\aT T Z H xs ys:=by
 have r:=R.obj n _ a e q;cases m with
 |true=>obtain⟨ys,h1,h2⟩:=r;exact⟨ys,.of h1,h2⟩|false=>obtain⟨ys,h1,h2⟩:=r;exact⟨ys,h1.sq,h2⟩
theorem cx{Z:List Addr}{h:AH}{H:Hp}{x:AV}{x':V}{xs:List AV}(R:aQ T Z h H)(r:aJ T Z H x x')(e:cV h x=some xs):∃p ys,x' = .ref p/\(bO T.K H p ys\/bZ T.K H p ys)/\aT T Z H xs ys:=by
 cases r with
 |tup hq hr=>cases e;exact⟨_,_,rfl,.inr hq,hr⟩|@ref n a q=>
  simp only[cV]at e;cases o:h.ob n with
  |none=>rw[o]at e;cases e|some u=>
   rw[o]at e;cases u with
   |lst m ys=>cases e;obtain⟨zs,h1,h2⟩:=mP R o q;exact⟨_,zs,rfl,.inl h1,h2⟩
   |aO kvs=>cases e|ins c fs=>cases e|xo c=>cases e
 |_=>cases e
inductive eJ(T:Tab)(Z:List Addr)(H:Hp):List (aK×AV)->List (aK×V)->Prop where
 |nil:eJ T Z H [] []
 |cons {k:aK} {v:AV} {y:V} {xs:List (aK×AV)} {ys:List (aK×V)} (h:aJ T Z H v y) (t:eJ T Z H xs ys):eJ T Z H ((k,v)::xs) ((k,y)::ys)
theorem Us{Z:List Addr}{H:Hp}:∀{kvs:List (aK×AV)} {ys:List V},aT T Z H (kvs.map (·.2)) ys->eJ T Z H kvs ((kvs.map (·.1)).zip ys)
 |[],_,.nil=>.nil
 | (k,v)::kvs,_,.cons h t=>.cons h (Us t)
theorem VY{Z:List Addr}{H:Hp}{kvs:List (aK×AV)}{us:List (aK×V)}(r:eJ T Z H kvs us):∃ys,us=(kvs.map (·.1)).zip ys/\aT T Z H (kvs.map (·.2)) ys:=by
 induction r with
 |nil=>exact⟨[],rfl,.nil⟩|cons h t ih=>obtain⟨ys,e,r⟩:=ih;exact⟨_::ys,by rw[e];rfl,.cons h r⟩
theorem VZ{Z:List Addr}{H:Hp}{kvs:List (aK×AV)}{us:List (aK×V)}(r:eJ T Z H kvs us):kvs.length=us.length:=by
 induction r with
 |nil=>rfl|cons h t ih=>rw[List.length_cons,List.length_cons,ih]
theorem Gp{Z:List Addr}{H:Hp}{kvs:List (aK×AV)}{us:List (aK×V)}{k:aK}(r:eJ T Z H kvs us):(∀v,bC kvs k=some v->∃y,eV us k=some y/\aJ T Z H v y)/\(bC kvs k=none->eV us k=none):=by
 induction r with
 |nil=>exact⟨(λv h=>by cases h),λ_=>rfl⟩|@cons k' v y xs ys h t ih=>
  by_cases e:k'=k
  .subst e;refine⟨λv' h'=>?_,λh'=>?_⟩
   .simp[bC]at h';subst h';exact⟨y,by simp[eV],h⟩
   .simp[bC]at h'
  .have e1:bC ((k',v)::xs) k=bC xs k:=by simp[bC,e]
   have e2:eV ((k',y)::ys) k=eV ys k:=by simp[eV,e]
   rw[e1,e2];exact ih
theorem Ur{Z:List Addr}{H:Hp}{kvs:List (aK×AV)}{us:List (aK×V)}{k:aK}(r:eJ T Z H kvs us):(eV us k).isSome=(bC kvs k).isSome:=by
 obtain⟨h1,h2⟩:=Gp (k:=k) r;cases e:bC kvs k with
 |none=>rw[h2 e];rfl|some v=>obtain⟨y,e2,_⟩:=h1 v e;rw[e2];rfl
theorem VW{Z:List Addr}{H:Hp}{kvs:List (aK×AV)}{us:List (aK×V)}{k:aK}(r:eJ T Z H kvs us):(kvs.any λkv=>decide (kv.1=k))=us.any λkv=>decide (kv.1=k):=by
 induction r with
 |nil=>rfl|cons h t ih=>rw[List.any_cons,List.any_cons,ih]
theorem VX{Z:List Addr}{H:Hp}{kvs:List (aK×AV)}{us:List (aK×V)}{k:aK}{v:AV}{y:V}(r:eJ T Z H kvs us)(h:aJ T Z H v y):eJ T Z H (kvs++[(k,v)]) (us++[(k,y)]):=by
 induction r with
 |nil=>exact .cons h .nil|cons h' t ih=>exact .cons h' ih
theorem WA{Z:List Addr}{H:Hp}{kvs:List (aK×AV)}{us:List (aK×V)}{k:aK}{v:AV}{y:V}(r:eJ T Z H kvs us)(h:aJ T Z H v y):eJ T Z H (kvs.map λkv=>if kv.1=k then(kv.1,v) else kv) (us.map λkv=>if kv.1=k then(kv.1,y) else kv):=by
 induction r with
 |nil=>exact .nil|@cons k' v' y' xs ys h' t ih=>
  by_cases e:k'=k
  .simp only[List.map_cons,e,if_true];exact .cons h ih
  .simp only[List.map_cons,e,if_false];exact .cons h' ih
theorem WB{Z:List Addr}{H:Hp}{kvs:List (aK×AV)}{us:List (aK×V)}{k:aK}{v:AV}{y:V}(r:eJ T Z H kvs us)(h:aJ T Z H v y):eJ T Z H (dZ kvs k v) (gF us k y):=by
 unfold dZ gF;rw[VW r];split
 .exact WA r h
 .exact VX r h
theorem eJ.ext{Z Z':List Addr}{H H':Hp}{kvs:List (aK×AV)}{us:List (aK×V)}(r:eJ T Z H kvs us)(e:Ext Z H Z' H'):eJ T Z' H' kvs us:=by
 induction r with
 |nil=>exact .nil|cons h t ih=>exact .cons (h.ext e) ih
theorem wC{Z:List Addr}{h:AH}{H:Hp}{x:AV}{x':V}{kvs:List (aK×AV)}(R:aQ T Z h H)(r:aJ T Z H x x')(e:dS h x=some kvs):∃n a us,x = .ref n/\Z[n]?=some a/\h.ob n=some (.aO kvs)/\x' = .ref a/\H a=some (.dK us)/\eJ T Z H kvs us:=by
 cases r with
 |@ref n a q=>
  simp only[dS]at e;cases o:h.ob n with
  |none=>rw[o]at e;cases e|some u=>
   rw[o]at e;cases u with
   |aO kvs'=>cases e;obtain⟨ks,ys,h1,rfl,h3⟩:=R.obj n _ a o q;exact⟨n,a,_,rfl,q,o,rfl,h1,Us h3⟩
   |_=>cases e
 |_=>cases e
theorem Zh{Z:List Addr}{H:Hp}{a:Addr}{kvs:List (aK×AV)}{us:List (aK×V)}(e:H a=some (.dK us))(r:eJ T Z H kvs us):mC T Z H a (.aO kvs):=by obtain⟨ys,e2,r2⟩:=VY r;subst e2;exact⟨_,ys,e,rfl,r2⟩
theorem wH{Z:List Addr}{H:Hp}{x:AV}{x':V}{k:aK}(r:aJ T Z H x x')(e:fL x=some k):x'=kV k:=by cases r<;>simp[fL]at e<;>(subst e)<;>rfl
include hK in
theorem LG:bU X T E (compareOp .In) (pX false):=by
 refine⟨_,JX,λZ h H x y x' y' Q R rx ry w=>?_⟩;unfold pX at w;cases e:cV h y with
 |none=>rw[e]at w;exact w.elim
 |some xs=>
  rw[e]at w;by_cases f:(bY x&&xs.all bY)=true
  .simp only[if_pos f]at w;rw[Bool.and_eq_true]at f;obtain⟨p,ys,e1,h1,h2⟩:=cx R ry e;refine⟨p,ys,e1,by rw[hK];exact h1,gc rx f.1,Bm h2 f.2,?_⟩;rw[Ca rx f.1 h2 f.2];exact w.here R (.bl _)
  .simp only[if_neg f]at w;exact w.elim
include hK in
theorem LP:bU X T E (compareOp .NotIn) (pX true):=by
 refine⟨_,KJ,λZ h H x y x' y' Q R rx ry w=>?_⟩;unfold pX at w;cases e:cV h y with
 |none=>rw[e]at w;exact w.elim
 |some xs=>
  rw[e]at w;by_cases f:(bY x&&xs.all bY)=true
  .simp only[if_pos f]at w;rw[Bool.and_eq_true]at f;obtain⟨p,ys,e1,h1,h2⟩:=cx R ry e;refine⟨p,ys,e1,by rw[hK];exact h1,gc rx f.1,Bm h2 f.2,?_⟩;rw[Ca rx f.1 h2 f.2];exact w.here R (.bl _)
  .simp only[if_neg f]at w;exact w.elim
theorem Xi{Z:List Addr}{H:Hp}{xs:List AV}{ys:List V}{i:Int}{v:AV}(r:aT T Z H xs ys)(e:cW xs i=some v):∃v',cW ys i=some v'/\aJ T Z H v v':=by
 unfold cW at e ⊢;rw[<- r.length];cases q:gA xs.length i with
 |none=>rw[q]at e;cases e|some j=>rw[q]at e;exact r.get e
include hK in
theorem HC:oo X T E wG:=by
 refine⟨_,GY,λZ h H x y x' y' Q R rx ry w=>?_⟩;cases y with
 |int i=>
  cases ry;have seqc:∀(xs:List AV) (v:AV),cV h x=some xs->cW xs i=some v->(W T (aJ T) (.ok v h) Z H Q E)->Gk X.K x' (.int i) H Q:=λxs v e1 e2 w=>by
   obtain⟨p,ys,rfl,hq,hr⟩:=cx R rx e1;obtain⟨v',e3,rv⟩:=Xi hr e2;rcases hq with hq|hq
   .exact .inl ⟨p,ys,i,v',rfl,rfl,by rw[hK];exact hq,e3,w.here R rv⟩
   .exact .inr (.inl ⟨p,ys,i,v',rfl,rfl,by rw[hK];exact hq,e3,w.here R rv⟩)
  have go:(match (cV h x).bind λxs=>cW xs i with
   |some v=>Res.ok v h
   |none=>Res.bad)=wG x (.int i) h->Gk X.K x' (.int i) H Q:=λe=>by
    rw[<- e]at w;cases s:cV h x with
    |none=>rw[s]at w;exact w.elim|some xs=>
     rw[s]at w;simp only[Option.bind_some]at w;cases q:cW xs i with
     |none=>rw[q]at w;exact w.elim|some v=>rw[q]at w;exact seqc xs v s q w
  cases x with
  |str z=>
   cases rx;simp only[wG]at w;by_cases hz:z.length<=sizeLine
   .rw[if_pos hz]at w;cases q:cW z.cps.toList i with
    |none=>rw[q]at w;exact w.elim|some c=>rw[q]at w;exact .inr (.inr ⟨z,i,c,rfl,rfl,hz,q,w.here R (.str _)⟩)
   .rw[if_neg hz]at w;exact w.elim
  |aB=>exact go rfl|bl b=>exact go rfl|int j=>exact go rfl|tup xs=>exact go rfl|ref n=>exact go rfl|lI n=>exact go rfl
 |_=>exact w.elim
include hK in
theorem LF(hu:X.A.units+1<cLine):bU X T E (compareOp .In) (pW false):=by
 obtain⟨r0,p0,q0⟩:=(LG hK:bU X T E (compareOp .In) (pX false));refine⟨_,p0.or (JW hu),λZ h H x y x' y' Q R rx ry w=>?_⟩;unfold pW at w;cases d:dS h y with
 |none=>simp only[d]at w;exact .inl (q0 Z h H _ _ _ _ Q R rx ry w)|some kvs=>
  simp only[d]at w;cases k:fL x with
  |none=>simp only[k]at w;exact w.elim|some k'=>simp only[k]at w;obtain⟨n,a,us,rfl,_,_,rfl,g,r⟩:=wC R ry d;refine .inr ⟨a,_,rfl,(wH rx k)▸fN.k g,?_⟩;rw[Ur r];exact W.here w R (.bl _)
include hK in
theorem LO(hu:X.A.units+1<cLine):bU X T E (compareOp .NotIn) (pW true):=by
 obtain⟨r0,p0,q0⟩:=(LP hK:bU X T E (compareOp .NotIn) (pX true));refine⟨_,p0.or (KI hu),λZ h H x y x' y' Q R rx ry w=>?_⟩;unfold pW at w;cases d:dS h y with
 |none=>simp only[d]at w;exact .inl (q0 Z h H _ _ _ _ Q R rx ry w)|some kvs=>
  simp only[d]at w;cases k:fL x with
  |none=>simp only[k]at w;exact w.elim|some k'=>simp only[k]at w;obtain⟨n,a,us,rfl,_,_,rfl,g,r⟩:=wC R ry d;refine .inr ⟨a,_,rfl,(wH rx k)▸fN.k g,?_⟩;rw[Ur r];exact W.here w R (.bl _)
include hK in
theorem HB(hu:X.A.units+1<cLine):oo X T E sW:=by
 obtain⟨r0,p0,q0⟩:=(HC hK:oo X T E wG);refine⟨_,p0.or (GW hu),λZ h H x y x' y' Q R rx ry w=>?_⟩;unfold sW at w;cases d:dS h x with
 |none=>simp only[d]at w;exact .inl (q0 Z h H _ _ _ _ Q R rx ry w)|some kvs=>
  simp only[d]at w;cases k:fL y with
  |none=>simp only[k,Option.bind_none]at w;exact w.elim|some k'=>
   simp only[k,Option.bind_some]at w;cases l:bC kvs k' with
   |none=>simp only[l]at w;exact w.elim|some v=>simp only[l]at w;obtain⟨n,a,us,rfl,_,_,rfl,g,r⟩:=wC R rx d;obtain⟨y1,l2,ry2⟩:=(Gp (k:=k') r).1 v l;refine .inr ⟨a,y1,rfl,?_,W.here w R ry2⟩;rw[wH ry k,<- l2];exact fN.k g
def VF(K:W.Frag):R2:=λx y H Q=>∃a b ys,x = .ref a/\y = .ref b/\bZ K H a []/\bZ K H b ys/\Q (.ref b) H
theorem JQ:bH X (binaryOp .Add) (VF X.K):=by
 intro pins s U H x y v u Q I rx ry h;obtain⟨a,b,ys,rfl,rfl,ha,hb,q⟩:=h;cases rx;cases ry;obtain⟨its,r1,p1,_⟩:=I.tuple ha;obtain⟨its2,r2,p2,_⟩:=I.tuple hb;cases r1;obtain⟨⟨cls,dd,data,sl⟩,ho,hc,n,hd⟩:=id p1;obtain⟨⟨cls2,dd2,data2,sl2⟩,ho2,hc2,n2,hd2⟩:=id p2;simp only at hc hd hc2 hd2;subst hc hd hc2 hd2;exact concat_meets ⟨_,ho,rfl⟩ ⟨_,ho2,rfl⟩ noFill_tuple_add seq_tuple_add PySem.F.slot_tuple_add PySem.F.entry_tuple_add (PySem.F.args_tuple_add_2 _ _)
  (tuple_addW0 a b _ _ n n2 dd dd2 sl sl2 (by simp)) ⟨ho,ho2,⟨.ref b,H,I,rfl,q⟩⟩
include hK in
theorem KW:bU X T E (binaryOp .Add) fX:=by
 refine⟨_,JL.or (JM.or (JP.or (JQ.or JO))),λZ h H x y x' y' Q R rx ry w=>?_⟩;cases x with
 |int i=>
  cases y with
  |int j=>cases rx;cases ry;exact .inl ⟨i,j,rfl,rfl,W.here w R (.int _)⟩|_=>exact w.elim
 |str i=>
  cases y with
  |str j=>cases rx;cases ry;obtain⟨hz,w⟩:=pZ w;exact .inr (.inl ⟨i,j,rfl,rfl,hz,W.here w R (.str _)⟩)
  |_=>exact w.elim
 |tup xs=>
  cases y with
  |tup ys=>
   obtain⟨h2,w⟩:=pZ w;cases rx with
   |@tup a _ bS hq hr=>
    cases ry with
    |@tup b _ ys' hq2 hr2=>
     have l1:=hr.length;have l2:=hr2.length;by_cases h1:xs.length=0
     .have e0:xs=[]:=List.eq_nil_of_length_eq_zero h1;subst e0;have e0:bS=[]:=List.eq_nil_of_length_eq_zero l1.symm;subst e0;exact .inr (.inr (.inr (.inl ⟨a,b,ys',rfl,rfl,by rw[hK];exact hq,by rw[hK];exact hq2,W.here w R (.tup hq2 hr2)⟩)))
     refine .inr (.inr (.inl ⟨a,b,bS,ys',rfl,rfl,by rw[hK];exact hq,by rw[hK];exact hq2,λz=>?_,by omega,λz=>?_,λz p hp=>?_⟩))
     .rw[z]at l1;exact h1 l1
     .subst z;have e0:ys=[]:=by cases ys with|nil=>rfl|cons _ _=>cases l2
      subst e0;rw[List.append_nil]at w;exact W.here w R (.tup hq hr)
     .refine W.ok w (.gG hp) (R.keep hp) (.tup (.of fQ) ?_);exact((hr.append hr2).ext (.gG hp))
  |_=>exact w.elim
 |ref n=>
  cases y with
  |ref m=>
   cases rx with
   |@ref _ a q=>
    cases ry with
    |@ref _ b q2=>
     have go:∀xs ys,h.ob n=some (.lst true xs)->h.ob m=some (.lst true ys)->Ua (.ref a) (.ref b) H Q:=λxs ys e1 e2=>by
      simp only[fX,e1,e2]at w;by_cases hz:xs.length+ys.length<=sizeLine
      .rw[if_pos hz]at w;obtain⟨bS,g1,r1⟩:=R.obj n _ a e1 q;obtain⟨ys',g2,r2⟩:=R.obj m _ b e2 q2;have l1:=r1.length;have l2:=r2.length;refine⟨a,b,bS,ys',rfl,rfl,g1,g2,by omega,λp hp=>?_⟩;have ho:mC T (Z++[p]) (aR H p (.lst (bS++ys'))) p (.lst true (xs++ys)):=⟨_,fQ,(r1.append r2).ext ⟨λk z e=>by have hl:=(List.getElem?_eq_some_iff.mp e).1;rw[List.getElem?_append_left hl];exact e,(Ext.gG (Z:=Z) hp).tup,(Ext.gG (Z:=Z) hp).cT⟩⟩
       obtain⟨R',ex⟩:=R.alloc hp ho;exact W.ok w ex R' (.ref (by rw[<- R.len];simp))
      .rw[if_neg hz]at w;exact w.elim
     refine .inr (.inr (.inr (.inr ?_)));cases e1:h.ob n with
     |none=>simp only[fX,e1]at w;exact w.elim|some u=>
      cases e2:h.ob m with
      |none=>simp only[fX,e1,e2]at w;cases u with
       |lst k xs=>cases k<;>exact w.elim|_=>exact w.elim
      |some v=>
       cases u with
       |lst k xs=>
        cases v with
        |lst k2 ys=>
         cases k with
         |true=>
          cases k2 with
          |true=>exact go xs ys e1 e2|false=>simp only[fX,e1,e2]at w;exact w.elim
         |false=>simp only[fX,e1,e2]at w;exact w.elim
        |aO _=>simp only[fX,e1,e2]at w;cases k<;>exact w.elim|ins _ _=>simp only[fX,e1,e2]at w;cases k<;>exact w.elim|xo _=>simp only[fX,e1,e2]at w;cases k<;>exact w.elim
       |aO _=>simp only[fX,e1,e2]at w;exact w.elim|ins _ _=>simp only[fX,e1,e2]at w;exact w.elim|xo _=>simp only[fX,e1,e2]at w;exact w.elim
  |_=>exact w.elim
 |_=>exact w.elim
theorem Vx(hK:X.K=T.K){Z:List Addr}{h:AH}{H:Hp}{x:AV}{x':V}{b:Bool}(R:aQ T Z h H)(r:aJ T Z H x x')(e:dh h x=some b):sC X.K x' H b:=by
 have emp:∀{xs:List AV} {ys:List V},aT T Z H xs ys->(!xs.isEmpty) = !ys.isEmpty:=λr=>by cases r<;>rfl
 cases r with
 |aB=>cases e;rfl|bl c=>cases e;rfl|int i=>cases e;rfl|str y=>
  simp only[dh]at e;by_cases hy:y.length<=sizeLine
  .rw[if_pos hy]at e;cases e;exact⟨hy,rfl⟩
  .rw[if_neg hy]at e;cases e
 |tup hq hr=>cases e;exact .inr (.inl ⟨_,by rw[hK];exact hq,emp hr⟩)|@ref n a q=>
  simp only[dh]at e;cases o:h.ob n with
  |none=>rw[o]at e;cases e|some u=>
   rw[o]at e;cases u with
   |lst m ys=>cases e;obtain⟨zs,h1,h2⟩:=mP R o q;exact .inl ⟨zs,by rw[hK];exact h1,emp h2⟩
   |aO kvs=>
    cases e;obtain⟨ks,ys,h1,h2,h3⟩:=R.obj n _ a o q;refine .inr (.inr ⟨_,h1,?_⟩);subst h2;cases kvs with
    |nil=>rfl|cons p r=>cases h3;rfl
   |ins c fs=>cases e|xo c=>cases e
 |lI q=>cases e
end
def sZ(i:Nat):aE->M AV:=λU h=>match U[i]? with
 |some (some v)=>.ok v h
 |_=>.bad
def Il(m k:M AV):M AV:=m.bind λx=>(cA x).bind λb=>if b=true then k else M.ret x
def Ql(m k:M AV):M AV:=m.bind λx=>(cA x).bind λb=>if b=true then M.ret x else k
def Ik(m k:M Bool):M Bool:=m.bind λb=>if b=true then k else M.ret false
def Qk(m k:M Bool):M Bool:=m.bind λb=>if b=true then M.ret true else k
def sm{α:Type}(c:M Bool)(a b:M α):M α:=c.bind λt=>if t=true then a else b
def vV:AV->Option Bool
 |.bl b=>some b
 |_=>none
def vY(g g':AV->AV->M AV)(a b c:M AV):M AV:=a.bind λx=>b.bind λy=>(g x y).bind λz h=>match vV z with
 |some true=>(c.bind λw=>g' y w) h
 |some false=>.ok (.bl false) h
 |none=>.bad
def Cf(g:AV->AV->M AV)(x:AV)(b:M AV)(k:AV->M AV):M AV:=b.bind λy=>(g x y).bind λz h=>match vV z with
 |some true=>k y h
 |some false=>.ok (.bl false) h
 |none=>.bad
def vX(g g' g'':AV->AV->M AV)(a b c d:M AV):M AV:=a.bind λx=>Cf g x b λy=>Cf g' y c λu=>d.bind λv=>g'' u v
def Lq(a:M AV)(r:M (List AV)):M (List AV):=a.bind λx=>r.bind λxs=>M.ret (x::xs)
def Hl(r:M (List AV)):M AV:=r.bind λxs=>M.guard (xs.length<=sizeLine) (M.ret (.tup xs))
def gB(xs:List AV):M AV:=λh=>.ok (.ref h.nx) (h.new (.lst true xs))
def tI(r:M (List AV)):M AV:=r.bind λxs=>M.guard (xs.length<=sizeLine) (gB xs)
def mR(g:AV->AV->M AV)(a b:M AV):M AV:=a.bind λx=>b.bind λy=>g x y
def aY:Expr->Bool
 |.Name ..=>true | .Constant ..=>true | .BinOp ..=>true | .UnaryOp ..=>true | .Compare ..=>true | .BoolOp ..=>true | .IfExp ..=>true
 |.Tuple ..=>true | .List ..=>true | .Subscript ..=>true | .Call ..=>true | .Attribute ..=>true | .ListComp ..=>true
 |.Dict ..=>true
 |_=>false
def mN:Expr->Bool
 |.ListComp ..=>true
 |_=>false
def uj:Expr->Bool
 |.Name ..=>true | .Constant ..=>true | .BinOp ..=>true | .Subscript ..=>true | .Call ..=>true | .Attribute ..=>true | .Tuple ..=>true | .List ..=>true | .ListComp ..=>true
 |.Dict ..=>true
 |_=>false
theorem cZ{e:Expr}{es:List Expr}{env:Env}(h:aY e=true):starEach (e::es) env=(false,eval e env)::starEach es env:=by cases e<;>first|rfl|cases h
theorem YV{e:Expr}(h:aY e=true):zx e:=λo i=>by cases e<;>first|rfl|cases h
theorem Uz{e:Expr}{t:Option Expr}{n:Nat}{env:Env}(h:aY e=true)(hl:mN e=false):swapsWith e t n env=pure false:=by cases e<;>first|rfl|(cases hl;done)|(cases h;done)
theorem Gu{e:Expr}{env:Env}{x:Value}(h:aY e=true):foldedSetIterable e env x=pure x:=by cases e<;>first|rfl|cases h
theorem cy{e:Expr}{op:CmpOp}(h:aY e=true):behindInMarks op e=false:=by cases e<;>first|rfl|cases h
theorem NL{e:Expr}{env:Env}(h:uj e=true):∀whole,isTrue e env whole=(do let v <- whole;standAt e.pos;holding [v] (truthy v)):=λ_=>by cases e<;>first|rfl|cases h
theorem nE{es:List Expr}{pos:Pos}{env:Env}(h:es.all aY=true):(backTo pos (starEach es env)).any (·.1)=false:=by
 induction es with
 |nil=>rfl|cons e es ih=>rw[List.all_cons,Bool.and_eq_true]at h;rw[cZ h.1];have:=ih h.2;simp only[backTo,List.map_cons,List.any_cons]at this ⊢;rw[Bool.false_or];exact this
section
variable {X:Cx}{T:Tab}{E:XK}{a b c e:Expr}{es:List Expr}{ma mb mc m:aE->M AV}{mr:aE->M (List AV)}{mt mu:aE->M Bool}{pos:Pos}
theorem QP{i:Nat} {x:Str} (hN:X.N[i]?=some x) (hv:ou X.env.scope x) (hd:(x==("__debug__":Str))=false) (hcd:(x==("__classdict__":Str))=false):QE X T E (.Name x pos) (sZ i):=by
 refine⟨_,MX hN hv hd hcd,λZ U U' h H Q R S w=>?_⟩;unfold sZ at w;cases q:U[i]? with
 |none=>rw[q]at w;exact w.elim|some o=>
  cases o with
  |none=>rw[q]at w;exact w.elim|some v=>rw[q]at w;obtain⟨v',e1,r⟩:=S.2 i v q;exact⟨v',e1,w.here R r⟩
theorem mT{v:AV}{v':V}(hp:PE X e (tC v'))(r:∀Z H,aJ T Z H v v'):QE X T E e (λ_=>M.ret v):=
 ⟨_,hp,λZ _ _ h H Q R _ w=>W.here w R (r Z H)⟩
theorem OY:QE X T E e (λ_=>M.bad):=⟨λ_ _ _=>False,λ_ _ _ _ _ _ h=>h.elim,λ_ _ _ _ _ _ _ _ w=>w⟩
theorem Gd:QT X T E e (λ_=>M.bad):=⟨λ_ _ _=>False,λ_ _ _ _ _ _ h=>h.elim,λ_ _ _ _ _ _ _ _ w=>w⟩
theorem di{α β:Type}{Rp:Rl α β}{ta tb:TE}(ra:∀Z U U' h H Q,aQ T Z h H->bK T Z H U U'->W T (aJ T) (ma U h) Z H Q E->ta U' H Q)(rb:∀Z U U' h H Q,aQ T Z h H->bK T Z H U U'->W T (aJ T) (mb U h) Z H Q E->tb U' H Q)
  {Z:List Addr} {U:aE} {U':L2.St} {h:AH} {H:Hp} {g:AV->AV->M α} {Q:β->Hp->Prop} {F:V->V->Hp->Prop} (R:aQ T Z h H) (S:bK T Z H U U') (w:W T Rp ((ma U).bind (λx=>(mb U).bind λy=>g x y) h) Z H Q E)
  (f:∀Z2 x y x' y' h2 H2,Ext Z H Z2 H2->aQ T Z2 h2 H2->aJ T Z2 H2 x x'->aJ T Z2 H2 y y'->bK T Z2 H2 U U'->W T Rp (g x y h2) Z2 H2 Q E->F x' y' H2):ta U' H λx H1=>tb U' H1 λy H2=>F x y H2:=
 ra Z U U' h H _ R S (W.bind w λZ1 x x' h1 H1 e1 R1 q1 w1=>rb Z1 U U' h1 H1 _ R1 (S.ext e1) (W.bind w1 λZ2 y y' h2 H2 e2 R2 q2 w2=>f Z2 x y x' y' h2 H2 (e1.trans e2) R2 (q1.ext e2) q2 ((S.ext e1).ext e2) w2))
theorem QH{op:Operator}{g:AV->AV->M AV}(ho:bU X T E (binaryOp op) g)(ha:QE X T E a ma)(hb:QE X T E b mb):QE X T E (.BinOp a op b pos) (λU=>mR g (ma U) (mb U)):=by obtain⟨r,hr,hg⟩:=ho;obtain⟨ta,pa,ra⟩:=ha;obtain⟨tb,pb,rb⟩:=hb;exact⟨_,MS hr pa pb,λZ U U' h H Q R S w=>di ra rb R S w λZ2 x y x' y' h2 H2 _ R2 q1 q2 _ w2=>hg Z2 h2 H2 x y x' y' Q R2 q1 q2 w2⟩
theorem PU{g:AV->AV->M AV}(ho:oo X T E g)(ha:QE X T E a ma)(hb:QE X T E b mb)(hs:zx b):QE X T E (.Subscript a b pos) (λU=>mR g (ma U) (mb U)):=by obtain⟨r,hr,hg⟩:=ho;obtain⟨ta,pa,ra⟩:=ha;obtain⟨tb,pb,rb⟩:=hb;exact⟨_,MK hr pa pb hs,λZ U U' h H Q R S w=>di ra rb R S w λZ2 x y x' y' h2 H2 _ R2 q1 q2 _ w2=>hg Z2 h2 H2 x y x' y' Q R2 q1 q2 w2⟩
theorem PH{op:CmpOp}{g:AV->AV->M AV}(ho:bU X T E (compareOp op) g)(ha:QE X T E a ma)(hb:QE X T E b mb)(hm:behindInMarks op b=false):QE X T E (.Compare a [op] [b] pos) (λU=>mR g (ma U) (mb U)):=by obtain⟨r,hr,hg⟩:=ho;obtain⟨ta,pa,ra⟩:=ha;obtain⟨tb,pb,rb⟩:=hb;exact⟨_,MF hr pa pb hm,λZ U U' h H Q R S w=>di ra rb R S w λZ2 x y x' y' h2 H2 _ R2 q1 q2 _ w2=>hg Z2 h2 H2 x y x' y' Q R2 q1 q2 w2⟩
theorem QN{op:PySem.UnaryOp}{g:AV->M AV}(ho:Ii X T E (unaryOp op) g)(ha:QE X T E a ma):QE X T E (.UnaryOp op a pos) (λU=>(ma U).bind g):=by obtain⟨r,hr,hg⟩:=ho;obtain⟨ta,pa,ra⟩:=ha;exact⟨_,MW hr pa,λZ U U' h H Q R S w=>ra Z U U' h H _ R S (W.bind w λZ1 x x' h1 H1 e1 R1 q1 w1=>hg Z1 h1 H1 x x' Q R1 q1 w1)⟩
theorem Bu(hK:X.K=T.K){γ δ:Type}{Rq:Rl γ δ}{Z:List Addr}{h:AH}{H:Hp}{x:AV}{x':V}{k:Bool->M γ}{Q:δ->Hp->Prop}(R:aQ T Z h H)(r:aJ T Z H x x')(w:W T Rq ((cA x).bind k h) Z H Q E) :
  ∃d,sC X.K x' H d/\W T Rq (k d h) Z H Q E:=by
 unfold M.bind cA at w;cases e:dh h x with
 |none=>rw[e]at w;exact w.elim|some d=>rw[e]at w;exact⟨d,Vx hK R r e,w⟩
theorem PN(hc:QT X T E c mt)(ha:QE X T E a ma)(hb:QE X T E b mb):QE X T E (.IfExp c a b pos) (λU=>sm (mt U) (ma U) (mb U)):=by
 obtain⟨tc,pc,rc⟩:=hc;obtain⟨ta,pa,ra⟩:=ha;obtain⟨tb,pb,rb⟩:=hb;refine⟨_,MJ pc pa pb,λZ U U' h H Q R S w=>rc Z U U' h H _ R S (W.bind w λZ1 d d' h1 H1 e1 R1 q1 w1=>?_)⟩;have q1':d=d':=q1;subst q1';cases d with
 |true=>exact ra Z1 U U' h1 H1 Q R1 (S.ext e1) w1|false=>exact rb Z1 U U' h1 H1 Q R1 (S.ext e1) w1
def a5(K:W.Frag)(ta tb:TE):TE:=λU H Q=>ta U H λx H1=>∃c,sC K x H1 c/\if c=true then tb U H1 Q else Q x H1
def d7(K:W.Frag)(ta tb:TE):TE:=λU H Q=>ta U H λx H1=>∃c,sC K x H1 c/\if c=true then Q x H1 else tb U H1 Q
def d0(K:W.Frag)(ta:TE):TE:=λU H Q=>ta U H λx H1=>∃c,sC K x H1 c/\Q (.bl (!c)) H1
variable {ta tb:TE}{rest:List Expr}
theorem LX(ha:PE X a ta)(hb:PE X (.BoolOp .And (b::rest) pos) tb):PE X (.BoolOp .And (a::b::rest) pos) (a5 X.K ta tb):=by
 intro pins s U H Q I h;refine BoolOp_and (aM (ha pins s U H _ I h) λv s1 ⟨x,H1,I1,r1,c,ht,q1⟩=>?_);refine aM (yz pins s1 U H1 x v (λd H2=>d=c/\H2=H1) I1 r1 ⟨c,ht,rfl,rfl⟩) λd s2 ⟨H2,I2,e1,e2⟩=>?_;subst e1;subst e2;cases d with
 |true=>exact hb pins s2 U H2 Q I2 q1|false=>exact⟨x,H2,I2,r1,q1⟩
theorem MT(ha:PE X a ta)(hb:PE X (.BoolOp .Or (b::rest) pos) tb):PE X (.BoolOp .Or (a::b::rest) pos) (d7 X.K ta tb):=by
 intro pins s U H Q I h;refine BoolOp_or (aM (ha pins s U H _ I h) λv s1 ⟨x,H1,I1,r1,c,ht,q1⟩=>?_);refine aM (yz pins s1 U H1 x v (λd H2=>d=c/\H2=H1) I1 r1 ⟨c,ht,rfl,rfl⟩) λd s2 ⟨H2,I2,e1,e2⟩=>?_;subst e1;subst e2;cases d with
 |false=>exact hb pins s2 U H2 Q I2 q1|true=>exact⟨x,H2,I2,r1,q1⟩
theorem MQ(ha:PE X a ta):PE X (.UnaryOp .Not a pos) (d0 X.K ta):=by intro pins s U H Q I h;refine UnaryOp_ (aM (ha pins s U H _ I h) λv s1 ⟨x,H1,I1,r1,c,ht,q1⟩=>?_);refine not_of (aM (yz pins s1 U H1 x v (λd H2=>d=c/\H2=H1) I1 r1 ⟨c,ht,rfl,rfl⟩) λd s2 ⟨H2,I2,e1,e2⟩=>?_);subst e1;subst e2;exact⟨.bl (!d),H2,I2,rfl,q1⟩
theorem Rh{op:PySem.BoolOp}(ha:QE X T E a ma):QE X T E (.BoolOp op [a] pos) ma:=let ⟨t,p,r⟩:=ha;⟨t,MR p,r⟩
theorem OV(hK:X.K=T.K)(ha:QE X T E a ma)(hb:QE X T E (.BoolOp .And (b::rest) pos) mb):QE X T E (.BoolOp .And (a::b::rest) pos) (λU=>Il (ma U) (mb U)):=by
 obtain⟨ta,pa,ra⟩:=ha;obtain⟨tb,pb,rb⟩:=hb;refine⟨_,LX pa pb,λZ U U' h H Q R S w=>ra Z U U' h H _ R S (W.bind w λZ1 x x' h1 H1 e1 R1 q1 w1=>?_)⟩;obtain⟨d,td,w2⟩:=Bu hK R1 q1 w1;refine⟨d,td,?_⟩;cases d with
 |true=>exact rb Z1 U U' h1 H1 Q R1 (S.ext e1) w2|false=>exact W.here w2 R1 q1
theorem QJ(hK:X.K=T.K)(ha:QE X T E a ma)(hb:QE X T E (.BoolOp .Or (b::rest) pos) mb):QE X T E (.BoolOp .Or (a::b::rest) pos) (λU=>Ql (ma U) (mb U)):=by
 obtain⟨ta,pa,ra⟩:=ha;obtain⟨tb,pb,rb⟩:=hb;refine⟨_,MT pa pb,λZ U U' h H Q R S w=>ra Z U U' h H _ R S (W.bind w λZ1 x x' h1 H1 e1 R1 q1 w1=>?_)⟩;obtain⟨d,td,w2⟩:=Bu hK R1 q1 w1;refine⟨d,td,?_⟩;cases d with
 |false=>exact rb Z1 U U' h1 H1 Q R1 (S.ext e1) w2|true=>exact W.here w2 R1 q1
theorem QF(hK:X.K=T.K)(ha:QE X T E a ma):QE X T E (.UnaryOp .Not a pos) (λU=>(ma U).bind λx=>(cA x).bind λb=>M.ret (.bl (!b))):=by obtain⟨ta,pa,ra⟩:=ha;refine⟨_,MQ pa,λZ U U' h H Q R S w=>ra Z U U' h H _ R S (W.bind w λZ1 x x' h1 H1 e1 R1 q1 w1=>?_)⟩;obtain⟨d,td,w2⟩:=Bu hK R1 q1 w1;exact⟨d,td,W.here w2 R1 (.bl _)⟩
theorem Ld{r r':R2}{g g':AV->AV->M AV}{tc:TE}
  (hg:∀Z h H x y x' y' Q,aQ T Z h H->aJ T Z H x x'->aJ T Z H y y'->W T (aJ T) (g x y h) Z H Q E->r x' y' H Q)
  (hg':∀Z h H x y x' y' Q,aQ T Z h H->aJ T Z H x x'->aJ T Z H y y'->W T (aJ T) (g' x y h) Z H Q E->r' x' y' H Q)
  (ra:∀Z U U' h H Q,aQ T Z h H->bK T Z H U U'->W T (aJ T) (ma U h) Z H Q E->ta U' H Q) (rb:∀Z U U' h H Q,aQ T Z h H->bK T Z H U U'->W T (aJ T) (mb U h) Z H Q E->tb U' H Q)
  (rc:∀Z U U' h H Q,aQ T Z h H->bK T Z H U U'->W T (aJ T) (mc U h) Z H Q E->tc U' H Q) {Z:List Addr} {U:aE} {U':L2.St} {h:AH} {H:Hp} {Q:VK} (R:aQ T Z h H) (S:bK T Z H U U')
  (w:W T (aJ T) (vY g g' (ma U) (mb U) (mc U) h) Z H Q E):Gz r r' ta tb tc U' H Q:=by
 refine di ra rb R S w λZ2 x y x' y' h2 H2 _ R2 q1 q2 S2 w2=>?_;refine hg Z2 h2 H2 x y x' y' _ R2 q1 q2 (W.bind w2 λZ3 z z' h3 H3 e3 R3 q3 w3=>?_);have w4:W T (aJ T) (match vV z with
  |some true=>((mc U).bind λw=>g' y w) h3
  |some false=>Res.ok (.bl false) h3
  |none=>.bad) Z3 H3 Q E:=w3
 cases z with
 |bl d=>
  cases q3;refine⟨d,rfl,?_⟩;cases d with
  |true=>exact rc Z3 U U' h3 H3 _ R3 (S2.ext e3) (W.bind (k:=λw=>g' y w) w4 λZ4 u u' h4 H4 e4 R4 q4 w5=>hg' Z4 h4 H4 y u y' u' Q R4 ((q2.ext e3).ext e4) q4 w5)|false=>exact W.here w4 R3 (.bl _)
 |_=>exact w4.elim
theorem PC{op op':CmpOp}{g g':AV->AV->M AV}(ho:bU X T E (compareOp op) g)(ho':bU X T E (compareOp op') g')(ha:QE X T E a ma)(hb:QE X T E b mb)(hc:QE X T E c mc)
  (hm:lastMarks [op,op'] [b,c]=false):QE X T E (.Compare a [op,op'] [b,c] pos) (λU=>vY g g' (ma U) (mb U) (mc U)):=by
 obtain⟨r,hr,hg⟩:=ho;obtain⟨r',hr',hg'⟩:=ho';obtain⟨ta,pa,ra⟩:=ha;obtain⟨tb,pb,rb⟩:=hb;obtain⟨tc,pc,rc⟩:=hc;exact⟨_,MD hr hr' pa pb pc hm,λZ U U' h H Q R S w=>Ld hg hg' ra rb rc R S w⟩
theorem Pm{r:R2}{g:AV->AV->M AV}{tk:V->TE}{k:AV->M AV}
  (hg:∀Z h H x y x' y' Q,aQ T Z h H->aJ T Z H x x'->aJ T Z H y y'->W T (aJ T) (g x y h) Z H Q E->r x' y' H Q)
  (rb:∀Z U U' h H Q,aQ T Z h H->bK T Z H U U'->W T (aJ T) (mb U h) Z H Q E->tb U' H Q) {Z:List Addr} {U:aE} {U':L2.St} {h:AH} {H:Hp} {Q:VK} {x:AV} {x':V} (R:aQ T Z h H) (S:bK T Z H U U') (rx:aJ T Z H x x')
  (w:W T (aJ T) (Cf g x (mb U) k h) Z H Q E) (f:∀Z3 y y' h3 H3,aQ T Z3 h3 H3->bK T Z3 H3 U U'->aJ T Z3 H3 y y'->W T (aJ T) (k y h3) Z3 H3 Q E->tk y' U' H3 Q):Hc r x' tb tk U' H Q:=by
 refine rb Z U U' h H _ R S (W.bind w λZ1 y y' h1 H1 e1 R1 q1 w1=>?_);refine hg Z1 h1 H1 x y x' y' _ R1 (rx.ext e1) q1 (W.bind w1 λZ3 z z' h3 H3 e3 R3 q3 w3=>?_);have w4:W T (aJ T) (match vV z with
  |some true=>k y h3
  |some false=>Res.ok (.bl false) h3
  |none=>.bad) Z3 H3 Q E:=w3
 cases z with
 |bl d=>
  cases q3;refine⟨d,rfl,?_⟩;cases d with
  |true=>exact f Z3 y y' h3 H3 R3 ((S.ext e1).ext e3) (q1.ext e3) w4|false=>exact W.here w4 R3 (.bl _)
 |_=>exact w4.elim
theorem Lc{r r' r'':R2}{g g' g'':AV->AV->M AV}{tc td:TE}{md:aE->M AV}
  (hg:∀Z h H x y x' y' Q,aQ T Z h H->aJ T Z H x x'->aJ T Z H y y'->W T (aJ T) (g x y h) Z H Q E->r x' y' H Q)
  (hg':∀Z h H x y x' y' Q,aQ T Z h H->aJ T Z H x x'->aJ T Z H y y'->W T (aJ T) (g' x y h) Z H Q E->r' x' y' H Q)
  (hg'':∀Z h H x y x' y' Q,aQ T Z h H->aJ T Z H x x'->aJ T Z H y y'->W T (aJ T) (g'' x y h) Z H Q E->r'' x' y' H Q)
  (ra:∀Z U U' h H Q,aQ T Z h H->bK T Z H U U'->W T (aJ T) (ma U h) Z H Q E->ta U' H Q) (rb:∀Z U U' h H Q,aQ T Z h H->bK T Z H U U'->W T (aJ T) (mb U h) Z H Q E->tb U' H Q)
  (rc:∀Z U U' h H Q,aQ T Z h H->bK T Z H U U'->W T (aJ T) (mc U h) Z H Q E->tc U' H Q) (rd:∀Z U U' h H Q,aQ T Z h H->bK T Z H U U'->W T (aJ T) (md U h) Z H Q E->td U' H Q) {Z:List Addr} {U:aE} {U':L2.St} {h:AH} {H:Hp} {Q:VK} (R:aQ T Z h H) (S:bK T Z H U U')
  (w:W T (aJ T) (vX g g' g'' (ma U) (mb U) (mc U) (md U) h) Z H Q E):Ha r r' r'' ta tb tc td U' H Q:=by
 refine ra Z U U' h H _ R S (W.bind w λZ1 x x' h1 H1 e1 R1 q1 w1=>?_);refine Pm hg rb R1 (S.ext e1) q1 w1 λZ2 y y' h2 H2 R2 S2 q2 w2=>?_;refine Pm hg' rc R2 S2 q2 w2 λZ3 u u' h3 H3 R3 S3 q3 w3=>?_;exact rd Z3 U U' h3 H3 _ R3 S3 (W.bind w3 λZ4 v v' h4 H4 e4 R4 q4 w4=>hg'' Z4 h4 H4 u v u' v' Q R4 (q3.ext e4) q4 w4)
theorem PD{op op' op'':CmpOp}{g g' g'':AV->AV->M AV}{d:Expr}{md:aE->M AV}(ho:bU X T E (compareOp op) g)(ho':bU X T E (compareOp op') g')(ho'':bU X T E (compareOp op'') g'')(ha:QE X T E a ma)(hb:QE X T E b mb)(hc:QE X T E c mc)(hd:QE X T E d md)
  (hm:lastMarks [op,op',op''] [b,c,d]=false):QE X T E (.Compare a [op,op',op''] [b,c,d] pos) (λU=>vX g g' g'' (ma U) (mb U) (mc U) (md U)):=by
 obtain⟨r,hr,hg⟩:=ho;obtain⟨r',hr',hg'⟩:=ho';obtain⟨r'',hr'',hg''⟩:=ho'';obtain⟨ta,pa,ra⟩:=ha;obtain⟨tb,pb,rb⟩:=hb;obtain⟨tc,pc,rc⟩:=hc;obtain⟨td,pd,rd⟩:=hd;exact⟨_,ME hr hr' hr'' pa pb pc pd hm,λZ U U' h H Q R S w=>Lc hg hg' hg'' ra rb rc rd R S w⟩
theorem iW(hK:X.K=T.K)(ha:QE X T E a ma)(he:uj a=true):QT X T E a (λU=>(ma U).bind cA):=by
 obtain⟨ta,pa,ra⟩:=ha;refine⟨_,OM pa (NL he),λZ U U' h H Q R S w=>ra Z U U' h H _ R S (W.bind w λZ1 x x' h1 H1 e1 R1 q1 w1=>?_)⟩;unfold cA at w1;cases e:dh h1 x with
 |none=>rw[e]at w1;exact w1.elim|some d=>rw[e]at w1;exact⟨d,Vx hK R1 q1 e,w1.here R1 rfl⟩
theorem Ai{Z:List Addr}{h:AH}{H:Hp}{z:AV}{z':V}{Q:Bool->Hp->Prop}(R:aQ T Z h H)(r:aJ T Z H z z')(w:W T RB (match vV z with
  |some d=>Res.ok d h
  |none=>.bad) Z H Q E):∃k,z' = .bl k/\Q k H:=by
 cases z with
 |bl d=>cases r;exact⟨d,rfl,W.here w R rfl⟩|_=>exact w.elim
def wF(z:AV):M Bool:=λh=>match vV z with
 |some d=>.ok d h
 |none=>.bad
theorem UT{op:CmpOp}{g:AV->AV->M AV}(ho:bU X T E (compareOp op) g)(ha:QE X T E a ma)(hb:QE X T E b mb)(hm:behindInMarks op b=false):QT X T E (.Compare a [op] [b] pos) (λU=>(mR g (ma U) (mb U)).bind wF):=by obtain⟨r,hr,hg⟩:=ho;obtain⟨ta,pa,ra⟩:=ha;obtain⟨tb,pb,rb⟩:=hb;refine⟨_,OK hr pa pb hm,λZ U U' h H Q R S w=>?_⟩;have w':W T (aJ T) (mR g (ma U) (mb U) h) Z H (λx H'=>∃k,x = .bl k/\Q k H') E:=W.bind w λZ1 z z' h1 H1 e1 R1 q1 w1=>Ai R1 q1 w1;exact di ra rb R S w' λZ2 x y x' y' h2 H2 _ R2 q1 q2 _ w2=>hg Z2 h2 H2 x y x' y' _ R2 q1 q2 w2
theorem UR{op op':CmpOp}{g g':AV->AV->M AV}(ho:bU X T E (compareOp op) g)(ho':bU X T E (compareOp op') g')(ha:QE X T E a ma)(hb:QE X T E b mb)(hc:QE X T E c mc)
  (hm:lastMarks [op,op'] [b,c]=false):QT X T E (.Compare a [op,op'] [b,c] pos) (λU=>(vY g g' (ma U) (mb U) (mc U)).bind wF):=by
 obtain⟨r,hr,hg⟩:=ho;obtain⟨r',hr',hg'⟩:=ho';obtain⟨ta,pa,ra⟩:=ha;obtain⟨tb,pb,rb⟩:=hb;obtain⟨tc,pc,rc⟩:=hc;refine⟨_,OI hr hr' pa pb pc hm,λZ U U' h H Q R S w=>?_⟩;have w':W T (aJ T) (vY g g' (ma U) (mb U) (mc U) h) Z H (λx H'=>∃k,x = .bl k/\Q k H') E:=W.bind w λZ1 z z' h1 H1 e1 R1 q1 w1=>Ai R1 q1 w1;exact Ld hg hg' ra rb rc R S w'
theorem US{op op' op'':CmpOp}{g g' g'':AV->AV->M AV}{d:Expr}{md:aE->M AV}(ho:bU X T E (compareOp op) g)(ho':bU X T E (compareOp op') g')(ho'':bU X T E (compareOp op'') g'')(ha:QE X T E a ma)(hb:QE X T E b mb)(hc:QE X T E c mc)(hd:QE X T E d md)
  (hm:lastMarks [op,op',op''] [b,c,d]=false):QT X T E (.Compare a [op,op',op''] [b,c,d] pos) (λU=>(vX g g' g'' (ma U) (mb U) (mc U) (md U)).bind wF):=by
 obtain⟨r,hr,hg⟩:=ho;obtain⟨r',hr',hg'⟩:=ho';obtain⟨r'',hr'',hg''⟩:=ho'';obtain⟨ta,pa,ra⟩:=ha;obtain⟨tb,pb,rb⟩:=hb;obtain⟨tc,pc,rc⟩:=hc;obtain⟨td,pd,rd⟩:=hd;refine⟨_,OJ hr hr' hr'' pa pb pc pd hm,λZ U U' h H Q R S w=>?_⟩;have w':W T (aJ T) (vX g g' g'' (ma U) (mb U) (mc U) (md U) h) Z H (λx H'=>∃k,x = .bl k/\Q k H') E:=W.bind w λZ1 z z' h1 H1 e1 R1 q1 w1=>Ai R1 q1 w1;exact Lc hg hg' hg'' ra rb rc rd R S w'
theorem UU(ha:QT X T E a mt):QT X T E (.UnaryOp .Not a pos) (λU=>(mt U).bind λb=>M.ret (!b)):=by obtain⟨ta,pa,ra⟩:=ha;refine⟨_,OL pa,λZ U U' h H Q R S w=>ra Z U U' h H _ R S (W.bind w λZ1 x x' h1 H1 e1 R1 q1 w1=>?_)⟩;have q1':x=x':=q1;subst q1';exact W.here w1 R1 rfl
theorem UX(ha:QT X T E a mt):QW X T E (.BoolOp .And [a] pos) mt:=let ⟨t,p,r⟩:=ha;⟨t,OP p,r⟩
theorem UZ(ha:QT X T E a mt):QW X T E (.BoolOp .Or [a] pos) mt:=let ⟨t,p,r⟩:=ha;⟨t,OR p,r⟩
theorem UW(ha:QT X T E a mt)(hb:QW X T E (.BoolOp .And (b::rest) pos) mu):QW X T E (.BoolOp .And (a::b::rest) pos) (λU=>Ik (mt U) (mu U)):=by
 obtain⟨ta,pa,ra⟩:=ha;obtain⟨tb,pb,rb⟩:=hb;refine⟨_,OO pa pb,λZ U U' h H Q R S w=>ra Z U U' h H _ R S (W.bind w λZ1 x x' h1 H1 e1 R1 q1 w1=>?_)⟩;have q1':x=x':=q1;subst q1';cases x with
 |true=>exact rb Z1 U U' h1 H1 Q R1 (S.ext e1) w1|false=>exact W.here w1 R1 rfl
theorem UY(ha:QT X T E a mt)(hb:QW X T E (.BoolOp .Or (b::rest) pos) mu):QW X T E (.BoolOp .Or (a::b::rest) pos) (λU=>Qk (mt U) (mu U)):=by
 obtain⟨ta,pa,ra⟩:=ha;obtain⟨tb,pb,rb⟩:=hb;refine⟨_,OQ pa pb,λZ U U' h H Q R S w=>ra Z U U' h H _ R S (W.bind w λZ1 x x' h1 H1 e1 R1 q1 w1=>?_)⟩;have q1':x=x':=q1;subst q1';cases x with
 |true=>exact W.here w1 R1 rfl|false=>exact rb Z1 U U' h1 H1 Q R1 (S.ext e1) w1
theorem OT:QA X T E [] (λ_=>M.ret []):=⟨_,mS,λZ _ _ h H Q R _ w=>W.here w R .nil⟩
theorem OS(ha:QE X T E e m)(hr:QA X T E es mr)(hs:aY e=true):QA X T E (e::es) (λU=>Lq (m U) (mr U)):=by obtain⟨ta,pa,ra⟩:=ha;obtain⟨tr,pr,rr⟩:=hr;refine⟨_,iU pa pr (cZ hs),λZ U U' h H Q R S w=>ra Z U U' h H _ R S (W.bind w λZ1 x x' h1 H1 e1 R1 q1 w1=>?_)⟩;exact rr Z1 U U' h1 H1 _ R1 (S.ext e1) (W.bind w1 λZ2 xs bS h2 H2 e2 R2 q2 w2=>W.here w2 R2 (.cons (q1.ext e2) q2))
theorem NP{Z:List Addr}{p:Addr}{H:Hp}{O:HO}(hp:H p=none):Ext Z H (Z++[p]) (aR H p O):=⟨λk z e=>by have hl:=(List.getElem?_eq_some_iff.mp e).1;rw[List.getElem?_append_left hl];exact e,(Ext.gG (Z:=Z) hp).tup,(Ext.gG (Z:=Z) hp).cT⟩
theorem ib{Z:List Addr}{h:AH}{H:Hp}{xs:List AV}{bS:List V}{Q:VK}{p:Addr}(R:aQ T Z h H)(r:aT T Z H xs bS)(hp:H p=none)(w:W T (aJ T) (gB xs h) Z H Q E):Q (.ref p) (aR H p (.lst bS)):=by obtain⟨R',ex⟩:=R.alloc (o:=.lst true xs) (O:=.lst bS) hp ⟨_,fQ,r.ext (NP hp)⟩;exact W.ok w ex R' (.ref (by rw[<- R.len];simp))
theorem ua{Z:List Addr}{h:AH}{H:Hp}{xs:List AV}{bS:List V}{Q:VK}{p:Addr}(R:aQ T Z h H)(r:aT T Z H xs bS)(hp:H p=none)(w:W T (aJ T) (.ok (.tup xs) h) Z H Q E):Q (.ref p) (aR H p (.tup bS)):=
 W.ok w (.gG hp) (R.keep hp) (.tup (.of fQ) (r.ext (.gG hp)))
theorem QM{k:Nat}(h:QA X T E es mr):QE X T E (.Tuple es k pos) (λU=>Hl (mr U)):=by obtain⟨tr,pr,rr⟩:=h;refine⟨_,MV pr,λZ U U' h H Q R S w=>rr Z U U' h H _ R S (W.bind w λZ1 xs bS h1 H1 e1 R1 q1 w1=>?_)⟩;obtain⟨hz,w1⟩:=pZ w1;exact⟨by rw[<- q1.length];exact hz,λp hp=>ua R1 q1 hp w1⟩
theorem PV(h:QA X T E es mr):QE X T E (.List es pos) (λU=>tI (mr U)):=by obtain⟨tr,pr,rr⟩:=h;refine⟨_,ML pr,λZ U U' h H Q R S w=>rr Z U U' h H _ R S (W.bind w λZ1 xs bS h1 H1 e1 R1 q1 w1=>?_)⟩;obtain⟨hz,w1⟩:=pZ w1;exact⟨by rw[<- q1.length];exact hz,λp hp=>ib R1 q1 hp w1⟩
def lU(T:Tab)(g:List AV->M AV):Sp:=λvs H Q E=>∃Z h args,aQ T Z h H/\aT T Z H args vs/\W T (aJ T) (g args h) Z H Q E
structure Fn(X:Cx)(T:Tab)(E:XK)(x:Str)(g:List AV->M AV):Prop where
 ex:∃(k:Nat) (f:Addr) (fd:FuncData) (ps:List Str),dX X.prog X.w X.K X.mg X.base (eI X.prog X.w) k f fd ps (lU T g)/\cR (k+1) X.A/\X.mg x=some (.ref f)/\W.keepIn X.K (.ref f)=true/\Binds X.K fd ps []/\lA (eI X.prog X.w) X E
theorem PB{x:Str} {p:Pos} {g:List AV->M AV} (F:Fn X T E x g) (hg:Gl X x) (hd:(x==("__debug__":Str))=false):QE X T E (.Call (.Name x p) [] [] pos) (λ_=>g []):=by obtain⟨k,f,fd,ps,F,hr,hm,hk,hb,hx⟩:=F.ex;exact⟨_,MB F (hr.mono (Nat.le_succ _)) hg hm hk hb .nil hx hd,λZ U U' h H Q R S w=>⟨Z,h,[],R,.nil,w⟩⟩
theorem OZ{x:Str} {p:Pos} {g:List AV->M AV} (F:Fn X T E x g) (hg:Gl X x) (ha:QA X T E (e::es) mr) (hs:(e::es).all aY=true) (hd:(x==("__debug__":Str))=false):QE X T E (.Call (.Name x p) (e::es) [] pos) (λU=>(mr U).bind g):=by obtain⟨k,f,fd,ps,F,hr,hm,hk,hb,hx⟩:=F.ex;obtain⟨tr,pr,rr⟩:=ha;rw[List.all_cons,Bool.and_eq_true]at hs;refine⟨_,MA F (hr.mono (Nat.le_succ _)) hg hm hk hb .nil hx pr hd (cZ hs.1) (nE hs.2),λZ U U' h H Q R S w=>rr Z U U' h H _ R S (W.bind w λZ1 xs bS h1 H1 e1 R1 q1 w1=>?_)⟩;rw[List.append_nil];exact⟨Z1,h1,xs,R1,q1,w1⟩
end
inductive Out where
 |nx (U:aE)|ret (v:AV)|brk (U:aE)|cnt (U:aE)
inductive dR where
 |nx (U:L2.St)|ret (v:V)|brk (U:L2.St)|cnt (U:L2.St)
def RO(T:Tab):Rl Out dR:=λZ H a b=>match a,b with
 |.nx U,.nx U'=>bK T Z H U U'
 |.ret v,.ret v'=>aJ T Z H v v'
 |.brk U,.brk U'=>bK T Z H U U'
 |.cnt U,.cnt U'=>bK T Z H U U'
 |_,_=>False
def eG(D:Ends):dR->Hp->Prop
 |.nx U=>D.nx U
 |.ret v=>D.rt v
 |.brk U=>D.bk U
 |.cnt U=>D.ct U
def QS(X:Cx)(T:Tab)(E:XK)(st:Stmt)(m:aE->M Out):Prop:=
 ∃t,PS X st t/\∀Z U U' h H D,aQ T Z h H->bK T Z H U U'->W T (RO T) (m U h) Z H (eG D) E->t D U' H
def nL(X:Cx)(T:Tab)(E:XK)(st:List Stmt)(m:aE->M Out):Prop:=
 ∃t,kZ X st t/\∀Z U U' h H D,aQ T Z h H->bK T Z H U U'->W T (RO T) (m U h) Z H (eG D) E->t D U' H
def QG(X:Cx)(T:Tab)(E:XK)(tg:Expr)(g:AV->aE->M aE):Prop:=
 ∃t,PG X tg t/\∀Z v v' U U' h H Q,aQ T Z h H->bK T Z H U U'->aJ T Z H v v'->W T (bK T) (g v U h) Z H Q E->t v' U' H Q
def vO(X:Cx)(T:Tab)(E:XK)(mw:List Expr)(g:List AV->aE->M aE):Prop:=
 ∃t,fe X mw t/\∀Z vs vs' U U' h H Q,aQ T Z h H->bK T Z H U U'->aT T Z H vs vs'->W T (bK T) (g vs U h) Z H Q E->t vs' U' H Q
def Ux(m:M Out)(k:aE->M Out):M Out:=m.bind λo=>match o with
 |.nx U=>k U
 |.ret v=>M.ret (.ret v)
 |.brk U=>M.ret (.brk U)
 |.cnt U=>M.ret (.cnt U)
section
variable {X:Cx}{T:Tab}{E:XK}{a b c e tg:Expr}{es:List Expr}{ma mb mc m:aE->M AV}{mt:aE->M Bool}{ms mk:aE->M Out}{pos:Pos}{st:Stmt}{sts rest:List Stmt}{g:AV->aE->M aE}{gs:List AV->aE->M aE}
theorem eT:QS X T E st (λ_=>M.bad):=⟨_,NY,λ_ _ _ _ _ _ _ _ w=>w⟩
theorem UQ:nL X T E [] (λU=>M.ret (.nx U)):=⟨_,OH,λZ U U' h H D R S w=>W.here (b:=dR.nx U') w R S⟩
theorem UP(h1:QS X T E st ms)(h2:nL X T E rest mk):nL X T E (st::rest) (λU=>Ux (ms U) mk):=by
 obtain⟨t,p,r⟩:=h1;obtain⟨u,q,s⟩:=h2;refine⟨_,OG p q,λZ U U' h H D R S w=>r Z U U' h H _ R S (W.bind w λZ1 o o' h1 H1 e1 R1 q1 w1=>?_)⟩;cases o with
 |nx U1=>cases o' with
  |nx U1'=>exact s Z1 U1 U1' h1 H1 D R1 q1 w1|_=>exact q1.elim
 |ret v=>cases o' with
  |ret v'=>exact(W.here (Q:=eG D) (b:=dR.ret v') w1 R1 q1:D.rt v' H1)|_=>exact q1.elim
 |brk U1=>cases o' with
  |brk U1'=>exact(W.here (Q:=eG D) (b:=dR.brk U1') w1 R1 q1:D.bk U1' H1)|_=>exact q1.elim
 |cnt U1=>cases o' with
  |cnt U1'=>exact(W.here (Q:=eG D) (b:=dR.cnt U1') w1 R1 q1:D.ct U1' H1)|_=>exact q1.elim
theorem UL:QS X T E (.Pass pos) (λU=>M.ret (.nx U)):=⟨_,OB,λZ U U' h H D R S w=>W.here (b:=dR.nx U') w R S⟩
theorem UC:QS X T E (.Break pos) (λU=>M.ret (.brk U)):=⟨_,NS,λZ U U' h H D R S w=>W.here (b:=dR.brk U') w R S⟩
theorem UD:QS X T E (.Continue pos) (λU=>M.ret (.cnt U)):=⟨_,NT,λZ U U' h H D R S w=>W.here (b:=dR.cnt U') w R S⟩
theorem UE(he:QE X T E e m)(hs:aY e=true)(hlc:mN e=false):QS X T E (.Expr e pos) (λU=>(m U).bind λ_=>M.ret (.nx U)):=by obtain⟨t,p,r⟩:=he;exact⟨_,NU p (Uz hs hlc),λZ U U' h H D R S w=>r Z U U' h H _ R S (W.bind w λZ1 x x' h1 H1 e1 R1 q1 w1=>W.here (b:=dR.nx U') w1 R1 (S.ext e1))⟩
theorem UM(he:QE X T E e m):QS X T E (.Return (some e) pos) (λU=>(m U).bind λv=>M.ret (.ret v)):=by obtain⟨t,p,r⟩:=he;exact⟨_,OC p,λZ U U' h H D R S w=>r Z U U' h H _ R S (W.bind w λZ1 x x' h1 H1 e1 R1 q1 w1=>W.here (b:=dR.ret x') w1 R1 q1)⟩
theorem UN:QS X T E (.Return none pos) (λ_=>M.ret (.ret .aB)):=⟨_,OD,λZ U U' h H D R S w=>W.here (b:=dR.ret .aB) w R .aB⟩
theorem UI(hc:QT X T E c mt)(ha:nL X T E sts ms)(hb:nL X T E rest mk):QS X T E (.If c sts rest pos) (λU=>sm (mt U) (ms U) (mk U)):=by
 obtain⟨tc,pc,rc⟩:=hc;obtain⟨ta,pa,ra⟩:=ha;obtain⟨tb,pb,rb⟩:=hb;refine⟨_,NX pc pa pb,λZ U U' h H D R S w=>rc Z U U' h H _ R S (W.bind w λZ1 d d' h1 H1 e1 R1 q1 w1=>?_)⟩;have q1':d=d':=q1;subst q1';cases d with
 |true=>exact ra Z1 U U' h1 H1 D R1 (S.ext e1) w1|false=>exact rb Z1 U U' h1 H1 D R1 (S.ext e1) w1
theorem mU:QG X T E tg (λ_ _=>M.bad):=⟨λ_ _ _ _=>False,λ_ _ _ _ _ _ _ _ _ h=>h.elim,λ_ _ _ _ _ _ _ _ _ _ _ w=>w⟩
theorem Dk{i:Nat}{x:Str}(hN:X.N.Nodup)(hi:X.N[i]?=some x)(hx:fb X.env.scope x)(hf:X.fn x=true\/X.env.scope.names.lookup x=some .local):QG X T E (.Name x pos) (λv U=>M.ret (U.set i (some v))):=
 ⟨_,MY hN hi hx hf,λZ v v' U U' h H Q R S r w=>W.here w R (S.set r i)⟩
def Bx(vs:List AV)(U:aE):M aE:=match vs with
 |[]=>M.ret U
 |_=>M.bad
def Bw(g:AV->aE->M aE)(gs:List AV->aE->M aE)(vs:List AV)(U:aE):M aE:=match vs with
 |v::r=>(g v U).bind λU1=>gs r U1
 |[]=>M.bad
def F0(n:Nat)(gs:List AV->aE->M aE)(v:AV)(U:aE):M aE:=λh=>match v with
 |.tup xs=>if xs.length=n then gs xs U h else .bad
 |.ref k=>match h.ob k with
  |some (.lst _ xs)=>if xs.length=n then gs xs U h else .bad
  |_=>.bad
 |_=>.bad
theorem Rk:vO X T E [] Bx:=⟨_,NC,λZ vs vs' U U' h H Q R S r w=>by
 cases r with
 |nil=>exact⟨rfl,W.here w R S⟩|cons _ _=>exact w.elim⟩
def gU:Expr->Bool
 |.Name ..=>true | .Tuple ..=>true | .Subscript ..=>true | .Attribute ..=>true
 |_=>false
theorem Hf{t:Expr}{ts:List Expr}{env:Env}(h:gU t=true):assignEach (t::ts) env=(false,assign t env)::assignEach ts env:=by cases t<;>first|rfl|cases h
theorem Rj(h1:QG X T E tg g)(h2:vO X T E es gs)(ht:gU tg=true):vO X T E (tg::es) (Bw g gs):=by
 obtain⟨t,p,r⟩:=h1;obtain⟨u,q,s⟩:=h2;refine⟨_,NB p q (by rw[Hf ht];rfl),λZ vs vs' U U' h H Q R S rv w=>?_⟩;cases rv with
 |nil=>exact w.elim|cons r1 rs=>exact⟨_,_,rfl,r Z _ _ U U' h H _ R S r1 (W.bind w λZ1 U1 U1' h1 H1 e1 R1 q1 w1=>s Z1 _ _ U1 U1' h1 H1 Q R1 q1 (rs.ext e1) w1)⟩
theorem CD{ts:List Expr}{env:Env}(h:ts.all gU=true):(assignEach ts env).length=ts.length/\(assignEach ts env).findIdx? (·.1)=none:=by
 induction ts with
 |nil=>exact⟨rfl,rfl⟩|cons t ts ih=>rw[List.all_cons,Bool.and_eq_true]at h;rw[Hf h.1];obtain⟨h1,h2⟩:=ih h.2;refine⟨by rw[List.length_cons,List.length_cons,h1],?_⟩;rw[List.findIdx?_cons,h2];rfl
end
section
variable {prog:Program}{w:World}{A:Around}{E:Value->Shared->Prop}{s:Shared}
theorem Mf{it l:Addr}{items:Array Value}(hne:l≠it):∀(n i:Nat) (s:Shared) (Q:List Value->Shared->Prop),s.heap.IsListIter it l i->s.heap.IsList l items->i+n<=items.size ->
  (∀h',h'.IsListIter it l (i+n)->Heap.SameBut it s.heap h'->Q ((items.toList.drop i).take n) { s with heap:=h' })->wpAny (model prog w) A (draw (.ref it) n) Q E s
 |0,i,s,Q,hit,_,_,hQ=>by show wpAny _ _ (pure []) Q E s;exact wpAny_pure (by simpa using hQ s.heap hit (Heap.SameBut.refl ..))
 |n+1,i,s,Q,hit,ht,hle,hQ=>by
  have hlt:i<items.size:=by omega
  show wpAny _ _ (pyNext (.ref it)>>=_) Q E s;refine wpAny_bind (wpAny_pyNext_list_item hit ht (x:=items[i]) (by simp[hlt]) λh₁ hit₁ hs₁=>?_);refine wpAny_bind (wpAny_holding (Mf hne n (i+1) _ _ hit₁ (ht.extBut hs₁.extBut hne) (by omega) λh₂ hit₂ hs₂=>wpAny_pure ?_));have hd:items.toList.drop i=items[i]::items.toList.drop (i+1):=by simp[List.drop_eq_getElem_cons,hlt]
  have:=hQ h₂ (by rw[show i+(n+1)=i+1+n by omega];exact hit₂) (hs₁.trans hs₂);rw[hd,List.take_succ_cons]at this;exact this
theorem l8{t:Addr}{items:Array Value}{Q:List Value->Shared->Prop}(hh:A.handled=none)(ht:s.heap.IsList t items)
  (hQ:∀h',Heap.ExtBut s.heap.objs.size s.heap h'->Q items.toList { s with heap:=h' }):wpAny (model prog w) A (unpackItems (.ref t) items.size none) Q E s:=by
 have hlt:t≠s.heap.objs.size:=by obtain⟨o,ho,_⟩:=ht;exact Nat.ne_of_lt (Heap.lt_size ho)
 unfold unpackItems;refine wpAny_bind ?_
 .unfold notIterableAtAll;refine wpAny_bind (wpAny_specialOf ht.typeIs PySem.slot_list_iter.lookup ?_);refine wpAny_pure ?_;simp only[Bool.false_eq_true,if_false];refine wpAny_bind (wpAny_holding (wpAny_pyIter_list ht ?_));have ht0:(s.heap.push { cls:=.type "list_iterator",data:=.fields #[.ref t,.int 0 0] }).IsList t items:=ht.at λo e=>Heap.get?_push_of_some _ e;refine wpAny_bind (wpAny_holding (Mf hlt items.size 0 _ _ ⟨_,Heap.get?_push_size _ rfl,rfl,rfl⟩ ht0 (by omega) λh₁ hit₁ hs₁=>?_));have hall:List.take items.size (List.drop 0 items.toList)=items.toList:=by rw[List.drop_zero];exact List.take_of_length_le (by simp)
  rw[hall];rw[if_neg (by simp)];have ht₁:h₁.IsList t items:=ht0.extBut hs₁.extBut hlt;refine wpAny_bind (wpAny_holding (wpAny_pyNext_list_end hh hit₁ ht₁ (by simp) λh₂ he₂=>?_));simp only[Option.isSome_none,Bool.false_eq_true,if_false];refine wpAny_pure (hQ h₂ λb o hb e=>he₂ b o hb (hs₁.extBut b o hb (Heap.get?_push_of_some _ e)))
theorem Xh{env:Env}{elts:List Expr}{x1}{pos:Pos}{t:Addr}{items:Array Value}{Q:Unit->Shared->Prop}(hh:A.handled=none)(ht:s.heap.IsList t items)
  (hn:(assignEach elts env).length=items.size) (hstar:(assignEach elts env).findIdx? (·.1)=none)
  (h:∀h',Heap.ExtBut s.heap.objs.size s.heap h'->wpAny (model prog w) A (assignInOrder ((assignEach elts env).map (·.2)) items.toList) Q E { s with heap:=h' }) :
  wpAny (model prog w) A (assign (.Tuple elts x1 pos) env (.ref t)) Q E s:=by
 rw[assign_Tuple];refine wpAny_bind (wpAny_standAt ?_);unfold unpack;rw[hn,hstar];exact wpAny_bind (wpAny_holding (l8 hh ht h))
end
section
variable {X:Cx}{T:Tab}{E:XK}{a b c e tg:Expr}{es:List Expr}{ma mb mc m:aE->M AV}{mt:aE->M Bool}{ms mk:aE->M Out}{pos:Pos}{st:Stmt}{sts rest:List Stmt}{g:AV->aE->M aE}{gs:List AV->aE->M aE}
def FD(K:W.Frag)(n:Nat)(t:sA):TG:=λv U H Q=>∃a xs,v = .ref a/\(bO K H a xs\/bZ K H a xs)/\xs.length=n/\t xs U H Q
theorem MZ{k:Nat}{t:sA}(hc:X.calm=true)(h:fe X es t)(hs:es.all gU=true):PG X (.Tuple es k pos) (FD X.K es.length t):=by
 obtain⟨hn,hst⟩:=CD (env:=X.env) hs;intro pins s U H v u Q I r hw;obtain⟨a,xs,e1,hq,hl,hw⟩:=hw;subst e1;cases r;rcases hq with hq|hq
 .obtain⟨its,rv,ht,hz⟩:=I.list hq;refine Xh (I.ok.hd hc) ht.isList (by simp[hn,<- hl,rv.length]) hst λh' hx=>?_;have I1:Inv X pins U H { s with heap:=h' }:=I.kept (t':=s.toks) λb o e=>hx b o (Nat.ne_of_lt (Heap.lt_size e)) e;exact h pins _ U H xs _ Q I1 (by simpa using rv) hw
 .obtain⟨its,rv,ht,hz⟩:=I.tuple hq;refine assign_Tuple_tuple (I.ok.hd hc) ht (by simp[hn,<- hl,rv.length]) hst λh' hx=>?_;have I1:Inv X pins U H { s with heap:=h' }:=I.kept (t':=s.toks) λb o e=>hx b o (Nat.ne_of_lt (Heap.lt_size e)) e;exact h pins _ U H xs _ Q I1 (by simpa using rv) hw
def sY(n:Nat)(gs:List AV->aE->M aE)(v:AV)(U:aE):M aE:=λh=>match cV h v with
 |some xs=>if xs.length=n then gs xs U h else .bad
 |none=>.bad
theorem Ri(hK:X.K=T.K)(hc:X.calm=true){k:Nat}(h:vO X T E es gs)(hs:es.all gU=true):QG X T E (.Tuple es k pos) (sY es.length gs):=by
 obtain⟨t,p,r⟩:=h;refine⟨_,MZ hc p hs,λZ v v' U U' h H Q R S rv w=>?_⟩;unfold sY at w;cases q:cV h v with
 |none=>rw[q]at w;exact w.elim|some xs=>
  rw[q]at w;by_cases hl:xs.length=es.length
  .simp only[if_pos hl]at w;obtain⟨p,ys,rfl,hq,hr⟩:=cx R rv q;exact⟨p,ys,rfl,by rw[hK];exact hq,by rw[<- hr.length];exact hl,r Z xs ys U U' h H Q R S hr w⟩
  .simp only[if_neg hl]at w;exact w.elim
def iQ(o i v:AV):M Unit:=λh=>match o,i with
 |.ref n,.int k=>match h.ob n with
  |some (.lst true xs)=>match gA xs.length k with
   |some j=>.ok () (h.put n (.lst true (xs.set j v)))
   |none=>.bad
  |_=>.bad
 |_,_=>.bad
def mK(o i v:AV):M Unit:=λh=>match dS h o with
 |some kvs=>match o,fL i with
  |.ref n,some k=>if kvs.length<sizeLine then .ok () (h.put n (.aO (dZ kvs k v))) else .bad
  |_,_=>.bad
 |none=>iQ o i v h
theorem QQ(hu:X.A.units+1<cLine)(ha:QE X T E a ma)(hb:QE X T E b mb)(hs:aY b=true):QG X T E (.Subscript a b pos) (λv U=>(ma U).bind λo=>(mb U).bind λi=>(mK o i v).bind λ_=>M.ret U):=by
 obtain⟨ta,pa,ra⟩:=ha;obtain⟨tb,pb,rb⟩:=hb;refine⟨_,NA pa pb (YQ hu) (by intro v;cases b<;>first|rfl|cases hs),λZ v v' U U' h H Q R S rv w=>?_⟩;refine di ra rb R S w λZ2 x y x' y' h2 H2 e2 R2 q1 q2 S2 w2=>?_;have rv2:=rv.ext e2;cases d:dS h2 x with
 |some kvs=>
  refine .inr ?_;obtain⟨n,a,us,rfl,q,o,rfl,g,r⟩:=wC R2 q1 d;cases k:fL y with
  |none=>simp only[M.bind,mK,d,k]at w2;exact w2.elim|some k'=>
   by_cases hz:kvs.length<sizeLine
   .simp only[M.bind,mK,d,k,if_pos hz]at w2;have ex:Ext Z2 H2 Z2 (aR H2 a (.dK (gF us k' v'))):=⟨λ_ _ z=>z,λb xs z=>by
     rw[bP (mQ z g λw=>by cases w)];exact z,λb x u z=>by
     rw[bP (mQ z g λw=>by cases w)];exact z⟩
    obtain⟨R3,e3⟩:=R2.write (o':=.aO (dZ kvs k' v)) (O':=.dK (gF us k' v')) o rfl rfl q g (λ_ z=>by cases z) (λ_ _ z=>by cases z) (Zh fQ ((WB r rv2).ext ex));refine⟨a,_,rfl,?_,W.ok w2 e3 R3 (S2.ext e3)⟩;rw[wH q2 k];exact eu.k g (by rw[<- VZ r];exact hz)
   .simp only[M.bind,mK,d,k,if_neg hz]at w2;exact w2.elim
 |none=>
 refine .inl ?_;have w2:W T (bK T) (((iQ x y v).bind λ_=>M.ret U) h2) Z2 H2 Q E:=by
  have e:(mK x y v) h2=iQ x y v h2:=by simp only[mK,d]
  simp only[M.bind,e]at w2 ⊢;exact w2
 cases x with
 |ref n=>
  cases y with
  |int k=>
   cases q2;cases q1 with
   |@ref _ p q=>
    cases o:h2.ob n with
    |none=>simp only[M.bind,iQ,o]at w2;exact w2.elim|some u=>
     cases u with
     |lst mu xs=>
      cases mu with
      |true=>
       obtain⟨ys,g1,r1⟩:=R2.obj n _ p o q;cases j:gA xs.length k with
       |none=>simp only[M.bind,iQ,o,j]at w2;exact w2.elim|some jj=>
        simp only[M.bind,iQ,o,j]at w2;obtain⟨R3,e3⟩:=R2.write (o':=.lst true (xs.set jj v)) (O':=.lst (ys.set jj v')) o rfl rfl q g1 (λ_ z=>by cases z) (λ_ _ z=>by cases z) ⟨_,fQ,by
         have:Ext Z2 H2 Z2 (aR H2 p (.lst (ys.set jj v'))):=⟨λ_ _ z=>z,λb xs z=>by
          rw[bP (mQ z g1 λw=>by cases w)];exact z,λb x u z=>by
          rw[bP (mQ z g1 λw=>by cases w)];exact z⟩
         exact(aT.set rv2 jj r1).ext this⟩
        exact⟨p,ys,k,jj,rfl,rfl,g1,by rw[<- r1.length];exact j,W.ok w2 e3 R3 (S2.ext e3)⟩
      |false=>simp only[M.bind,iQ,o]at w2;exact w2.elim
     |aO _=>simp only[M.bind,iQ,o]at w2;exact w2.elim|ins _ _=>simp only[M.bind,iQ,o]at w2;exact w2.elim|xo _=>simp only[M.bind,iQ,o]at w2;exact w2.elim
  |_=>exact w2.elim
 |_=>exact w2.elim
theorem ZY{env:Env}{tg:Expr}(h:∀es k p,tg = .Tuple es k p->∀vs k2 p2,e ≠ .Tuple vs k2 p2)(h2:gU tg=true):swappedStores [tg] e env=pure none:=by
 cases tg with
 |Tuple es k p=>
  cases e with
  |Tuple vs k2 p2=>exact absurd rfl (h es k p rfl vs k2 p2)|_=>rfl
 |_=>first|cases h2;done|(cases e<;>rfl)
theorem Gb(he:QE X T E e m)(hg:QG X T E tg g)(hs:aY e=true)(hlc:mN e=false)(ht:gU tg=true)(hw:swappedStores [tg] e X.env=pure none):QS X T E (.Assign [tg] e pos) (λU=>(m U).bind λv=>(g v U).bind λU1=>M.ret (.nx U1)):=by obtain⟨te,p,r⟩:=he;obtain⟨t,q,s⟩:=hg;refine⟨_,NR p q (Uz hs hlc) hw (by rw[Hf ht];rfl),λZ U U' h H D R S w=>r Z U U' h H _ R S (W.bind w λZ1 x x' h1 H1 e1 R1 q1 w1=>?_)⟩;exact s Z1 x x' U U' h1 H1 _ R1 (S.ext e1) q1 (W.bind w1 λZ2 U2 U2' h2 H2 e2 R2 q2 w2=>W.here (Q:=eG D) (b:=dR.nx U2') w2 R2 q2)
theorem UB(he:QE X T E e m)(hg:QG X T E tg g)(hs:aY e=true)(hlc:mN e=false)(ht:gU tg=true)(hw:∀es k p,tg = .Tuple es k p->∀vs k2 p2,e ≠ .Tuple vs k2 p2):QS X T E (.Assign [tg] e pos) (λU=>(m U).bind λv=>(g v U).bind λU1=>M.ret (.nx U1)):=Gb he hg hs hlc ht (ZY hw ht)
abbrev dW:=Nat->AH->Option (Option AV)
def RI(T:Tab):Rl dW It:=λZ H it J=>∀Z' h' H' i,Ext Z H Z' H'->aQ T Z' h' H' ->
 (it i h'=some none->J.stop i H')/\∀v,it i h'=some (some v)->J.go i H'/\∀x H2,J.oe i H' x H2->∃Z2,Ext Z' H' Z2 H2/\aQ T Z2 h' H2/\aJ T Z2 H2 v x
def QI(X:Cx)(T:Tab)(E:XK)(tg bQ:Expr)(mi:aE->M dW):Prop:=
 ∃wi,PI X tg bQ wi/\∀Z U U' h H R,aQ T Z h H->bK T Z H U U'->W T (RI T) (mi U h) Z H R E->wi U' H R
def gN(it:dW)(g:AV->aE->M aE)(body:aE->M Out):Nat->Nat->aE->M Out
 |0,_,_=>M.bad
 |f+1,i,U=>λh=>match it i h with
  |none=>.bad
  |some none=>.ok (.nx U) h
  |some (some v)=>((g v U).bind λU1=>(body U1).bind λo=>match o with
   |.nx U2=>gN it g body f (i+1) U2
   |.cnt U2=>gN it g body f (i+1) U2
   |.brk U2=>M.ret (.nx U2)
   |.ret v=>M.ret (.ret v)) h
def FU:Nat:=1000000
theorem UH{bQ:Expr}{mi:aE->M dW}(hp:PassesOwn (model X.prog X.w) X.A X.env X.xe)(hc:X.calm=true)(hi:QI X T E tg bQ mi)(hg:QG X T E tg g)(hb:nL X T E sts ms)(hs:aY bQ=true) :
  QS X T E (.For tg bQ sts [] pos) (λU=>(mi U).bind λit=>gN it g ms FU 0 U):=by
 obtain⟨wi,pi,ri⟩:=hi;obtain⟨t,q,s⟩:=hg;obtain⟨u,pb,rb⟩:=hb;refine⟨_,NW hp hc pi q pb (λx=>Gu hs),λZ0 U0 U0' h0 H0 D R0 S0 w0=>ri Z0 U0 U0' h0 H0 _ R0 S0 (W.bind w0 λZ1 it J h1 H1 e1 R1 q1 w1=>?_)⟩;refine⟨λi m U' H=>∃Z U h,Ext Z1 H1 Z H/\aQ T Z h H/\bK T Z H U U'/\W T (RO T) (gN it g ms m i U h) Z H (eG D) E,⟨FU,Z1,U0,h1,.refl,R1,S0.ext e1,w1⟩,?_⟩;rintro i m U' H ⟨Z,U,h,e,R,S,w⟩
 cases m with
 |zero=>exact w.elim|succ f=>
  simp only[gN]at w;cases hit:it i h with
  |none=>rw[hit]at w;exact w.elim|some o=>
   cases o with
   |none=>rw[hit]at w;exact .inl ⟨(q1 Z h H i e R).1 hit,W.here (Q:=eG D) (b:=dR.nx U') w R S⟩
   |some v=>
    rw[hit]at w;obtain⟨go,yl⟩:=(q1 Z h H i e R).2 v hit;refine .inr ⟨go,λU2' H2=>∃Z2 U2 h2,Ext Z1 H1 Z2 H2/\aQ T Z2 h2 H2/\bK T Z2 H2 U2 U2'/\W T (RO T) (gN it g ms f (i+1) U2 h2) Z2 H2 (eG D) E,λU2' H2 z=>⟨f,Nat.lt_succ_self f,z⟩,λx H2 y=>?_⟩;obtain⟨Z2,e2,R2,rv⟩:=yl x H2 y;refine s Z2 v x U U' h H2 _ R2 (S.ext e2) rv (W.bind (w.ext e2) λZ3 U3 U3' h3 H3 e3 R3 S3 w3=>?_);refine rb Z3 U3 U3' h3 H3 _ R3 S3 (W.bind w3 λZ4 o o' h4 H4 e4 R4 q4 w4=>?_);have eE:=((e.trans e2).trans e3).trans e4;cases o with
    |nx U4=>cases o' with
     |nx U4'=>exact⟨Z4,U4,h4,eE,R4,q4,w4⟩|_=>exact q4.elim
    |cnt U4=>cases o' with
     |cnt U4'=>exact⟨Z4,U4,h4,eE,R4,q4,w4⟩|_=>exact q4.elim
    |brk U4=>cases o' with
     |brk U4'=>exact(W.here (Q:=eG D) (b:=dR.nx U4') w4 R4 q4:D.nx U4' H4)|_=>exact q4.elim
    |ret v=>cases o' with
     |ret v'=>exact(W.here (Q:=eG D) (b:=dR.ret v') w4 R4 q4:D.rt v' H4)|_=>exact q4.elim
def kW(c:aE->M Bool)(body:aE->M Out):Nat->aE->M Out
 |0,_=>M.bad
 |f+1,U=>(c U).bind λb=>if b=true then((body U).bind λo=>match o with
  |.nx U2=>kW c body f U2
  |.cnt U2=>kW c body f U2
  |.brk U2=>M.ret (.nx U2)
  |.ret v=>M.ret (.ret v)) else M.ret (.nx U)
theorem UO(hp:PassesOwn (model X.prog X.w) X.A X.env X.xe)(hc:QT X T E c mt)(hb:nL X T E sts ms):QS X T E (.While c sts [] pos) (λU=>kW mt ms FU U):=by
 obtain⟨tc,pc,rc⟩:=hc;obtain⟨u,pb,rb⟩:=hb;refine⟨_,OF hp pc pb,λZ0 U0 U0' h0 H0 D R0 S0 w0=>?_⟩;refine⟨λm U' H=>∃Z U h,aQ T Z h H/\bK T Z H U U'/\W T (RO T) (kW mt ms m U h) Z H (eG D) E,⟨FU,Z0,U0,h0,R0,S0,w0⟩,?_⟩;rintro m U' H ⟨Z,U,h,R,S,w⟩
 cases m with
 |zero=>exact w.elim|succ f=>
  simp only[kW]at w;refine rc Z U U' h H _ R S (W.bind w λZ1 d d' h1 H1 e1 R1 q1 w1=>?_);have q1':d=d':=q1;subst q1';cases d with
  |false=>exact(W.here (Q:=eG D) (b:=dR.nx U') w1 R1 (S.ext e1):D.nx U' H1)|true=>
   rw[if_pos rfl]at w1 ⊢;refine⟨λU2' H2=>∃Z2 U2 h2,aQ T Z2 h2 H2/\bK T Z2 H2 U2 U2'/\W T (RO T) (kW mt ms f U2 h2) Z2 H2 (eG D) E,λU2' H2 z=>⟨f,Nat.lt_succ_self f,z⟩,?_⟩;refine rb Z1 U U' h1 H1 _ R1 (S.ext e1) (W.bind w1 λZ4 o o' h4 H4 e4 R4 q4 w4=>?_);cases o with
   |nx U4=>cases o' with
    |nx U4'=>exact⟨Z4,U4,h4,R4,q4,w4⟩|_=>exact q4.elim
   |cnt U4=>cases o' with
    |cnt U4'=>exact⟨Z4,U4,h4,R4,q4,w4⟩|_=>exact q4.elim
   |brk U4=>cases o' with
    |brk U4'=>exact(W.here (Q:=eG D) (b:=dR.nx U4') w4 R4 q4:D.nx U4' H4)|_=>exact q4.elim
   |ret v=>cases o' with
    |ret v'=>exact(W.here (Q:=eG D) (b:=dR.ret v') w4 R4 q4:D.rt v' H4)|_=>exact q4.elim
end
def fP(n:Nat):dW:=λi h=>match h.ob n with
 |some (.lst _ xs)=>some xs[i]?
 |_=>none
def lY(xs:List AV):dW:=λi _=>some xs[i]?
def iX(lo:Int)(n:Nat):dW:=λi _=>some (if i<n then some (.int (lo+i)) else none)
def lG(it:dW):dW:=λi h=>match it i h with
 |some (some v)=>some (some (.tup [.int i,v]))
 |some none=>some none
 |none=>none
def gh(v:AV):M dW:=λh=>match v with
 |.tup xs=>.ok (lY xs) h
 |.ref n=>match h.ob n with
  |some (.lst _ _)=>.ok (fP n) h
  |_=>.bad
 |_=>.bad
noncomputable abbrev sU:=gh
def nB(j:Int):Bool:=decide (-(2 ^ 62)<=j)&&decide (j<2 ^ 62)
def rm(xs:List AV):M dW:=λh=>match xs with
 |[.int j]=>if nB j=true then .ok (iX 0 j.toNat) h else .bad
 |_=>.bad
def qz(v:AV):M dW:=λh=>match v with
 |.ref n=>match h.ob n with
  |some (.lst _ _)=>.ok (lG (fP n)) h
  |_=>.bad
 |_=>.bad
section
variable {X:Cx}{T:Tab}{E:XK}{a b c e tg l:Expr}{es:List Expr}{ma mb mc m:aE->M AV}{mr:aE->M (List AV)}{pos p:Pos}{tl:TE}
theorem Uq{Z:List Addr}{H:Hp}{n:Nat}{a:Addr}(q:Z[n]?=some a):RI T Z H (fP n) (zq T.K a):=by
 intro Z' h' H' i e R;have q':=e.pre n a q;unfold fP;cases o:h'.ob n with
 |none=>exact⟨λz=>(by cases z),λv z=>(by cases z)⟩|some u=>
  cases u with
  |lst m xs=>
   obtain⟨ys,h1,r⟩:=mP R o q';refine⟨λz=>⟨ys,h1,?_⟩,λv z=>?_⟩
   .have z':xs[i]?=none:=Option.some.inj z;rw[<- r.length];exact List.getElem?_eq_none_iff.mp z'
   .have z':xs[i]?=some v:=Option.some.inj z;obtain⟨y,h2,rv⟩:=r.get z';refine⟨⟨ys,y,h1,h2⟩,λx H2 yl=>?_⟩;obtain⟨e2,k⟩:=yl;subst e2;have:=k ys h1;rw[h2]at this;cases this;exact⟨Z',.refl,R,rv⟩
  |aO _=>exact⟨λz=>(by cases z),λv z=>(by cases z)⟩|ins _ _=>exact⟨λz=>(by cases z),λv z=>(by cases z)⟩|xo _=>exact⟨λz=>(by cases z),λv z=>(by cases z)⟩
theorem VT{Z:List Addr}{H:Hp}{a:Addr}{xs:List AV}{ys:List V}(hq:bZ T.K H a ys)(r:aT T Z H xs ys):RI T Z H (lY xs) (zr T.K a):=by
 intro Z' h' H' i e R;have r':=r.ext e;have hq':=e.Vf hq;unfold lY;refine⟨λz=>⟨ys,hq',?_⟩,λv z=>?_⟩
 .have z':xs[i]?=none:=Option.some.inj z;rw[<- r.length];exact List.getElem?_eq_none_iff.mp z'
 .have z':xs[i]?=some v:=Option.some.inj z;obtain⟨y,h2,rv⟩:=r'.get z';refine⟨⟨ys,y,hq',h2⟩,λx H2 yl=>?_⟩;obtain⟨e2,k⟩:=yl;subst e2;have:=k ys hq';rw[h2]at this;cases this;exact⟨Z',.refl,R,rv⟩
theorem VS{Z:List Addr}{H:Hp}{lo:Int}{n:Nat}:RI T Z H (iX lo n) (oj lo n):=by
 intro Z' h' H' i e R;unfold iX;by_cases hi:i<n
 .rw[if_pos hi];refine⟨λz=>(by cases z),λv z=>⟨hi,λx H2 yl=>?_⟩⟩;cases z;obtain⟨e2,e3⟩:=yl;subst e2;subst e3;exact⟨Z',.refl,R,.int _⟩
 .rw[if_neg hi];exact⟨λ_=>(by show n<=i;omega),λv z=>(by cases z)⟩
def GA(K:W.Frag)(tl:TE):TI:=λU H R=>tl U H λx H1=>
 ∃a,x = .ref a/\(((∃xs,bO K H1 a xs)/\R (zq K a) H1)\/((∃xs,bZ K H1 a xs)/\R (zr K a) H1))
theorem NG(hl:PE X l tl):PI X tg l (GA X.K tl):=by
 intro pins s U H R I h;refine aM (hl pins s U H _ I h) λv s1 ⟨x,H1,I1,r1,q1⟩=>?_;obtain⟨a,e,q⟩:=q1;subst e;cases r1;rcases q with⟨⟨xs,hq⟩,q⟩|⟨⟨xs,hq⟩,q⟩
 .obtain⟨its,rv,p,hz⟩:=I1.list hq;refine wpAny_pyIter_list p.isList ?_;refine⟨s1.heap.objs.size,[s1.heap.objs.size],_,_,H1,rfl,I1.kept (t':=s1.toks) λb o e=>Heap.get?_push_of_some _ e,i7 a _,⟨_,Heap.get?_push_size _ rfl,rfl,rfl⟩,λb hb=>?_,q⟩;have e:b=s1.heap.objs.size:=by simpa using hb
  subst e;exact I1.sP (Nat.le_refl _) (I1.aN.fresh (Nat.le_refl _))
 .obtain⟨its,rv,p,hz⟩:=I1.tuple hq;refine wpAny_pyIter_tuple (show s1.heap.IsTuple a its.toArray from p) ?_;refine⟨s1.heap.objs.size,[s1.heap.objs.size],_,_,H1,rfl,I1.kept (t':=s1.toks) λb o e=>Heap.get?_push_of_some _ e,j4 a _,⟨_,Heap.get?_push_size _ rfl,rfl,rfl⟩,λb hb=>?_,q⟩;have e:b=s1.heap.objs.size:=by simpa using hb
  subst e;exact I1.sP (Nat.le_refl _) (I1.aN.fresh (Nat.le_refl _))
theorem iu:QI X T E tg e (λ_=>M.bad):=⟨λ_ _ _=>False,λ_ _ _ _ _ _ h=>h.elim,λ_ _ _ _ _ _ _ _ w=>w⟩
theorem Rm(hK:X.K=T.K)(ha:QE X T E l m):QI X T E tg l (λU=>(m U).bind sU):=by
 obtain⟨tl,pl,rl⟩:=ha;refine⟨_,NG pl,λZ U U' h H Q R S w=>rl Z U U' h H _ R S (W.bind w λZ1 x x' h1 H1 e1 R1 q1 w1=>?_)⟩;cases x with
 |tup xs=>
  cases q1 with
  |tup hq hr=>exact⟨_,rfl,.inr ⟨⟨_,by rw[hK];exact hq⟩,by rw[hK];exact W.here w1 R1 (VT hq hr)⟩⟩
 |ref n=>
  cases q1 with
  |@ref _ a q=>
   simp only[sU,gh]at w1;cases o:h1.ob n with
   |none=>rw[o]at w1;exact w1.elim|some u=>
    rw[o]at w1;cases u with
    |lst mu xs=>obtain⟨ys,g1,r1⟩:=mP R1 o q;exact⟨a,rfl,.inl ⟨⟨ys,by rw[hK];exact g1⟩,by rw[hK];exact W.here w1 R1 (Uq q)⟩⟩
    |aO _=>exact w1.elim|ins _ _=>exact w1.elim|xo _=>exact w1.elim
 |_=>exact w1.elim
theorem WC{j:Int}(h:nB j=true):-(2 ^ 62)<=j/\j<2 ^ 62:=by simp only[nB,Bool.and_eq_true,decide_eq_true_eq]at h;exact h
theorem QU(hg:Gl X "range") (hm:X.mg "range"=none) (ha:QA X T E [a] mr) (hs:aY a=true):QI X T E tg (.Call (.Name "range" p) [a] [] pos) (λU=>(mr U).bind rm):=by
 obtain⟨tr,pr,rr⟩:=ha;refine⟨_,NF hg hm pr (by rw[cZ hs];rfl),λZ U U' h H Q R S w=>rr Z U U' h H _ R S (W.bind w λZ1 xs bS h1 H1 e1 R1 q1 w1=>?_)⟩;cases q1 with
 |nil=>exact w1.elim|cons r1 rs=>
  cases rs with
  |nil=>
   cases r1 with
   |int j=>
    simp only[rm]at w1;by_cases hj:nB j=true
    .rw[if_pos hj]at w1;obtain⟨h1,h2⟩:=WC hj;exact⟨j,rfl,h1,h2,W.here w1 R1 VS⟩
    .rw[if_neg hj]at w1;exact w1.elim
   |_=>exact w1.elim
  |cons r2 rs2=>cases r1<;>exact w1.elim
def zp(K:W.Frag)(a:Addr):It:=
 ⟨λi H=>∃xs x,bO K H a xs/\xs[i]?=some x,λi H x H'=>∃T y,H T=none/\x = .ref T/\H'=aR H T (.tup [.int i,y])/\∀xs,bO K H a xs->xs[i]?=some y,λi H=>∃xs,bO K H a xs/\xs.length<=i⟩
theorem j7{pins:List (Addr×Obj)}{U:L2.St}{H:Hp}{s:Shared}{h':Heap}{tk:Nat}{ch:List Addr}{Tt:Addr}{ys:List V}{its:List Value}(I:Inv X pins U H s)(hf:∀b∈ch,eZ X pins H b)
  (k:∀b o,b∉ch->s.heap.get? b=some o->h'.get? b=some o) (th:∀b∈ch,∃o,h'.get? b=some o) (hT:s.heap.objs.size<=Tt) (ht:IsTup h' Tt its.toArray) (rv:Vals ys its) (hz:ys.length<=sizeLine) :
  Inv X pins U (aR H Tt (.tup ys)) { s with heap:=h',toks:=tk }:=by
 have hn:H Tt=none:=I.aN.fresh hT;have nch:∀b u,H b=some u->b∉ch:=λb u e hb=>by rw[(hf b hb).1]at e;cases e
 have lch:X.env.locals∉ch:=λhb=>(hf _ hb).2.1 rfl;refine I.step (g':=s.gens) (d':=s.drawn) (ch:=ch) (λb hb=>⟨(hf b hb).2.2.2.1,(hf b hb).2.1,(hf b hb).2.2.2.2.1,(hf b hb).2.2.2.2.2⟩) (λb o _ _ hc e _=>k b o hc e) (λb o _ _ hc e _=>⟨o.slots,k b o hc e⟩)
  (λb o _ e n=>by rw[bP (Nat.ne_of_lt (Nat.lt_of_lt_of_le (Heap.lt_size e) hT))];exact n) (λb o hc e=>⟨o,k b o hc e⟩)
  (λb xs e=>by rw[bP (eL e hn)];exact e) (λb o u e=>by rw[bP (eL e hn)];exact e) (λb ps e=>⟨#[],by rw[bP (eL e hn),e];simp⟩) (λm hm=>?_) (λb u e=>?_) I.bare
 .obtain⟨o,es,ep,ho,r⟩:=hm;exact⟨o,es,ep,k _ o lch ho,r⟩
 .by_cases hb:b=Tt
  .subst hb;rw[fQ]at e;cases e;exact⟨hz,its,rv,ht⟩
  .rw[bP hb]at e;refine(I.aN b u e).nF (λc v hc q=>k c v ?_ q) (λc q=>by rw[bP (eL q hn)];exact q) λc xs q=>by rw[bP (eL q hn)];exact q
   rcases hc with rfl|hc
   .exact nch _ _ e
   .exact nch _ _ hc
theorem j6{pins:List (Addr×Obj)}{U:L2.St}{H:Hp}{s:Shared}{h':Heap}{tk:Nat}{ch:List Addr}(I:Inv X pins U H s)(hf:∀b∈ch,eZ X pins H b)
  (k:∀b o,b∉ch->s.heap.get? b=some o->h'.get? b=some o):Inv X pins U H { s with heap:=h',toks:=tk }:=by
 have nch:∀b u,H b=some u->b∉ch:=λb u e hb=>by rw[(hf b hb).1]at e;cases e
 have lch:X.env.locals∉ch:=λhb=>(hf _ hb).2.1 rfl;refine I.step (g':=s.gens) (d':=s.drawn) (ch:=ch) (λb hb=>⟨(hf b hb).2.2.2.1,(hf b hb).2.1,(hf b hb).2.2.2.2.1,(hf b hb).2.2.2.2.2⟩) (λb o _ _ hc e _=>k b o hc e) (λb o _ _ hc e _=>⟨o.slots,k b o hc e⟩)
  (λb o _ e n=>n) (λb o hc e=>⟨o,k b o hc e⟩) (λb xs e=>e) (λb o u e=>e) (λb ps e=>⟨#[],by rw[e];simp⟩) (λm hm=>?_) (λb u e=>?_) I.bare
 .obtain⟨o,es,ep,ho,r⟩:=hm;exact⟨o,es,ep,k _ o lch ho,r⟩
 .refine(I.aN b u e).nF (λc v hc q=>k c v ?_ q) (λc q=>q) λc xs q=>q;rcases hc with rfl|hc
  .exact nch _ _ e
  .exact nch _ _ hc
theorem i6{P:Program}{w:World}{K:W.Frag}{elts:List Expr}{k:Nat}{tp:Pos}(a en it:Addr)(h1:en≠it)(h2:a≠en)(h3:a≠it) :
  Turn P w K (.Tuple elts k tp) (zp K a) [en,it] en (λi h=>(∃old,IsEnum h en it i old)/\h.IsListIter it a i) where
 mem:=by simp
 obj:=λi h st b hb=>by
  obtain⟨⟨old,he⟩,o,e,c,d⟩:=st;rcases List.mem_cons.mp hb with rfl|hb
  .exact⟨_,he,λv z=>by cases z⟩
  .have e':b=it:=by simpa using hb
   subst e';exact⟨o,e,λv z=>by rw[d]at z;cases z⟩
 keep:=λi h h' st k=>by obtain⟨⟨old,he⟩,hit⟩:=st;exact⟨⟨old,k en (by simp) _ he⟩,hit.at λo e=>k it (by simp) o e⟩
 item:=by
  intro X hP hw hK hc i pins s U H E I hf st hg;subst hP hw hK;obtain⟨xs,x,hq,hx⟩:=hg;obtain⟨its,rv,p,hz⟩:=I.list hq;obtain⟨u,hu,ru⟩:=rv.get hx;have hi:i<its.toArray.size:=by have:=(List.getElem?_eq_some_iff.mp hu).1;simpa using this
  have W:=WalksT.enumerate (prog:=X.prog) (w:=X.w) (I.ok.hd hc) en it a h1 h2 h3 its.toArray;refine W.item i s _ _ hi ⟨st.1,st.2,p.isList⟩ λTt vals h' tk hv hT htup hmid kk=>?_;obtain⟨t,x',hx',rfl⟩:=hv;have ex:x'=u:=by
   have:its.toArray[i]?=some u:=by simpa using hu
   rw[this]at hx';exact(Option.some.inj hx').symm
  subst ex;refine⟨.ref Tt,rfl,?_⟩;refine W.go elts k tp i Tt { s with heap:=h',toks:=tk } _ _ hmid λh'' hst kk2=>?_;obtain⟨he2,hit2,hl2⟩:=hst;have keep2:∀b o,b∉[en,it]->s.heap.get? b=some o->h''.get? b=some o:=λb o hb e=>kk2 b o hb (kk b o hb e);have htup2:IsTup h'' Tt #[.int i t,x']:=by obtain⟨o,e,r⟩:=htup;exact⟨o,kk2 _ _ (W.apart i Tt _ hmid) e,r⟩
  have I2:Inv X pins U (aR H Tt (.tup [.int i,x])) { s with heap:=h'',toks:=tk }:=j7 (its:=[.int i t,x']) I hf keep2 (λb hb=>by
   obtain⟨⟨old,he⟩,o,e,_⟩:=(⟨he2,hit2⟩:(∃old,IsEnum h'' en it (i+1) old)/\h''.IsListIter it a (i+1));rcases List.mem_cons.mp hb with rfl|hb
   .exact⟨_,he⟩
   .have e':b=it:=by simpa using hb
    subst e';exact⟨o,e⟩) hT htup2 (.cons ⟨t,rfl⟩ (.cons ru .nil)) (by show 2<=sizeLine;decide)
  have hn:H Tt=none:=I.aN.fresh hT;refine⟨.ref Tt,_,I2,rfl,⟨Tt,x,hn,rfl,rfl,λzs hzs=>by rw[I.Pn hzs hq];exact hx⟩,⟨he2,hit2⟩,λb hb=>?_⟩;have hb':b<s.heap.objs.size:=by
   obtain⟨⟨old,he⟩,o,e,_⟩:=id st;rcases List.mem_cons.mp hb with rfl|hb
   .exact Heap.lt_size he
   .have e':b=it:=by simpa using hb
    subst e';exact Heap.lt_size e
  rw[bP (Nat.ne_of_lt (Nat.lt_of_lt_of_le hb' hT))];exact(hf b hb).1
 done:=by intro X hP hw hK hc i pins s U H E I hf st hg;subst hP hw hK;obtain⟨xs,hq,hx⟩:=hg;obtain⟨its,rv,p,hz⟩:=I.list hq;have hl:=rv.length;obtain⟨⟨old,he⟩,hit⟩:=st;exact wpAny_pyNext_enum_end (I.ok.hd hc) he hit p.isList (by simp;omega) λh' eb=>⟨rfl,j6 (tk:=s.toks) I hf λb o hb e=>eb b o (λz=>hb (by simp[z])) e⟩
 self:=λA i s Q E st h=>by obtain⟨⟨old,he⟩,_⟩:=st;exact wpAny_pyIter_enum he h
def FY(K:W.Frag)(ta:TA):TI:=λU H R=>ta U H λvs H1=>∃a,vs=[.ref a]/\(∃xs,bO K H1 a xs)/\R (zp K a) H1
theorem ND{elts:List Expr} {k:Nat} {tp:Pos} {ta:TA} (hg:Gl X "enumerate") (hm:X.mg "enumerate"=none) (ha:PA X [a] ta) (hs:starEach [a] X.env=[(false,eval a X.env)]):PI X (.Tuple elts k tp) (.Call (.Name "enumerate" p) [a] [] pos) (FY X.K ta):=by
 intro pins s U H R I h;refine Call_ (wK I hg hm boot_enumerate (PyProof.Rows.callWith_type1 (aM (ha pos pins s U H _ I h) λus s1 ⟨vs,H1,I1,r1,q1⟩=>?_) hs rfl));obtain⟨a,e,⟨xs,hq⟩,q⟩:=q1;subst e;cases r1 with
 |cons r rr=>
  cases rr;cases r;obtain⟨its,rv,p,hz⟩:=I1.list hq;have ha:a<s1.heap.objs.size:=by obtain⟨o,_,e,_⟩:=p;exact Heap.lt_size e
  refine call_enumerate_list p.isList λh' he hit hsz kk=>?_;have I2:Inv X pins U H1 { s1 with heap:=h' }:=I1.kept (t':=s1.toks) kk;refine wpAny_pyIter_enum he ?_;refine⟨s1.heap.objs.size+1,[s1.heap.objs.size+1,s1.heap.objs.size],_,_,H1,rfl,I2,i6 a _ _ (Nat.ne_of_gt (Nat.lt_succ_self _)) (Nat.ne_of_lt (Nat.lt_succ_of_lt ha)) (Nat.ne_of_lt ha),⟨⟨_,he⟩,hit⟩,λb hb=>?_,q⟩;rcases List.mem_cons.mp hb with rfl|hb
  .exact I1.sP (Nat.le_succ _) (I1.aN.fresh (Nat.le_succ _))
  .have e':b=s1.heap.objs.size:=by simpa using hb
   subst e';exact I1.sP (Nat.le_refl _) (I1.aN.fresh (Nat.le_refl _))
theorem VR{Z:List Addr}{H:Hp}{n:Nat}{a:Addr}(q:Z[n]?=some a):RI T Z H (lG (fP n)) (zp T.K a):=by
 intro Z' h' H' i e R;obtain⟨h1,h2⟩:=Uq (T:=T) (H:=H) q Z' h' H' i e R;unfold lG;cases o:fP n i h' with
 |none=>exact⟨λz=>(by cases z),λv z=>(by cases z)⟩|some u=>
  cases u with
  |none=>exact⟨λ_=>h1 o,λv z=>(by cases z)⟩|some v=>refine⟨λz=>(by cases z),λv' z=>?_⟩;cases z;obtain⟨g1,g2⟩:=h2 v o;refine⟨g1,λx H2 yl=>?_⟩;obtain⟨Tt,y,hn,rfl,rfl,k⟩:=yl;obtain⟨Z2,e2,R2,rv⟩:=g2 y H' ⟨rfl,k⟩;exact⟨Z2,⟨e2.pre,(Ext.gG (Z:=Z') hn).tup,(Ext.gG (Z:=Z') hn).cT⟩,R2.keep hn,.tup (.of fQ) (.cons (.int _) (.cons (rv.ext (.gG hn)) .nil))⟩
theorem QR{elts:List Expr} {k:Nat} {tp:Pos} (hK:X.K=T.K) (hg:Gl X "enumerate") (hm:X.mg "enumerate"=none) (ha:QE X T E a m) (hs:aY a=true) :
  QI X T E (.Tuple elts k tp) (.Call (.Name "enumerate" p) [a] [] pos) (λU=>(m U).bind qz):=by
 obtain⟨ta,pa,ra⟩:=ha;refine⟨_,ND hg hm (iU pa mS (cZ hs)) (by rw[cZ hs];rfl),λZ U U' h H Q R S w=>ra Z U U' h H _ R S (W.bind w λZ1 x x' h1 H1 e1 R1 q1 w1=>?_)⟩;cases x with
 |ref n=>
  cases q1 with
  |@ref _ a q=>
   simp only[qz]at w1;cases o:h1.ob n with
   |none=>rw[o]at w1;exact w1.elim|some u=>
    rw[o]at w1;cases u with
    |lst mu xs=>obtain⟨ys,g1,r1⟩:=mP R1 o q;exact⟨a,rfl,⟨ys,by rw[hK];exact g1⟩,by rw[hK];exact W.here w1 R1 (VR q)⟩
    |aO _=>exact w1.elim|ins _ _=>exact w1.elim|xo _=>exact w1.elim
 |_=>exact w1.elim
def gL(xs:List AV)(lo hi:Option Int):List AV:=(xs.drop (HT.aZ xs.length 0 lo)).take (HT.aZ xs.length xs.length hi-HT.aZ xs.length 0 lo)
theorem Lv{Z:List Addr}{H:Hp}{xs:List AV}{ys:List V}(r:aT T Z H xs ys)(lo hi:Option Int):aT T Z H (gL xs lo hi) (nQ ys lo hi):=by unfold gL nQ;rw[<- r.length];exact(r.drop _).take _
def lH(x:AV)(lo hi:Option Int):M AV:=λh=>match x with
 |.ref n=>match h.ob n with
  |some (.lst _ xs)=>gB (gL xs lo hi) h
  |_=>.bad
 |.tup xs=>if HT.aZ xs.length 0 lo=0/\HT.aZ xs.length xs.length hi=xs.length then .bad else .ok (.tup (gL xs lo hi)) h
 |_=>.bad
def Xa:Rl (Option Int) (Option Int):=λ_ _ a b=>a=b
def QO(X:Cx)(T:Tab)(E:XK)(o:Option Expr)(m:aE->M (Option Int)):Prop:=
 ∃t,PO X o t/\∀Z U U' h H Q,aQ T Z h H->bK T Z H U U'->W T Xa (m U h) Z H Q E->t U' H Q
def pY(v:AV):M (Option Int):=λh=>match v with
 |.int i=>.ok (some i) h
 |_=>.bad
theorem TQ:QO X T E none (λ_=>M.ret none):=⟨_,NM,λZ U U' h H Q R S w=>W.here w R rfl⟩
theorem TR(ha:QE X T E a m):QO X T E (some a) (λU=>(m U).bind pY):=by
 obtain⟨ta,pa,ra⟩:=ha;refine⟨_,NN pa,λZ U U' h H Q R S w=>ra Z U U' h H _ R S (W.bind w λZ1 x x' h1 H1 e1 R1 q1 w1=>?_)⟩;cases x with
 |int i=>cases q1;exact⟨i,rfl,W.here w1 R1 rfl⟩|_=>exact w1.elim
theorem QK(hK:X.K=T.K){lo hi:Option Expr}{p2:Pos}{ml mh:aE->M (Option Int)}(ha:QE X T E a m)(hl:QO X T E lo ml)(hh:QO X T E hi mh) :
  QE X T E (.Subscript a (.Slice lo hi none p2) pos) (λU=>(m U).bind λx=>(ml U).bind λl=>(mh U).bind λu=>lH x l u):=by
 obtain⟨ta,pa,ra⟩:=ha;obtain⟨tl,pl,rl⟩:=hl;obtain⟨th,ph,rh⟩:=hh;refine⟨_,MU (YW.or YX) pa pl ph,λZ U U' h H Q R S w=>ra Z U U' h H _ R S (W.bind w λZ1 x x' h1 H1 e1 R1 q1 w1=>?_)⟩;refine rl Z1 U U' h1 H1 _ R1 (S.ext e1) (W.bind w1 λZ2 l l' h2 H2 e2 R2 q2 w2=>?_);refine rh Z2 U U' h2 H2 _ R2 ((S.ext e1).ext e2) (W.bind w2 λZ3 u u' h3 H3 e3 R3 q3 w3=>?_);cases(show l=l' from q2);cases(show u=u' from q3);have q1':=(q1.ext e2).ext e3;cases x with
 |ref n=>
  cases q1' with
  |@ref _ a q=>
   simp only[lH]at w3;cases o:h3.ob n with
   |none=>rw[o]at w3;exact w3.elim|some ob=>
    rw[o]at w3;cases ob with
    |lst mu xs=>obtain⟨ys,g1,r1⟩:=mP R3 o q;exact .inl ⟨a,ys,rfl,by rw[hK];exact g1,λp hp=>ib R3 (Lv r1 l u) hp w3⟩
    |aO _=>exact w3.elim|ins _ _=>exact w3.elim|xo _=>exact w3.elim
 |tup xs=>
  cases q1' with
  |@tup a _ ys hq hr=>
   simp only[lH]at w3;by_cases hw:HT.aZ xs.length 0 l=0/\HT.aZ xs.length xs.length u=xs.length
   .rw[if_pos hw]at w3;exact w3.elim
   .rw[if_neg hw]at w3;refine .inr ⟨a,ys,rfl,by rw[hK];exact hq,by rw[<- hr.length];exact hw,λp hp=>ua R3 (Lv hr l u) hp w3⟩
 |_=>exact w3.elim
def gi(xs:List AV):M AV:=λh=>match xs with
 |[.str z]=>if z.length<=sizeLine then .ok (.int z.length) h else .bad
 |[x]=>match cV h x with
  |some ys=>.ok (.int ys.length) h
  |none=>.bad
 |_=>.bad
def Nx(xs:List AV):M AV:=λh=>match xs with
 |[.int i]=>.ok (.int i) h
 |[.bl k]=>.ok (.int (if k then 1 else 0)) h
 |_=>.bad
def qE:List AV->Option (Int×Int)
 |[.int i,.int j]=>some (i,j)
 |_=>none
def qN:List AV->Option AV
 |[x]=>some x
 |_=>none
def Oc(xs:List AV):M AV:=λh=>match qE xs with
 |some (i,j)=>.ok (.int (if j<i then j else i)) h
 |none=>.bad
def Ob(xs:List AV):M AV:=λh=>match qE xs with
 |some (i,j)=>.ok (.int (if j > i then j else i)) h
 |none=>.bad
def qy(xs:List AV):M AV:=λh=>match qE xs with
 |some (i,j)=>if iL j=true then .ok (.tup [.int (i / j),.int (i%j)]) h else .bad
 |none=>.bad
def HD:aK->AV
 |.inl i=>.int i
 |.inr x=>.str x
def E4(h:AH):AV->Option (List AV)
 |.ref n=>match h.ob n with
  |some (.aO kvs)=>some (kvs.map λp=>HD p.1)
  |_=>none
 |_=>none
def rq(xs:List AV):M AV:=λh=>match (qN xs).bind (cV h) with
 |some ys=>.ok (.tup ys) h
 |none=>.bad
def rj(xs:List AV):M AV:=λh=>match (qN xs).bind (cV h) with
 |some ys=>gB ys h
 |none=>.bad
theorem GK{xs:List AV}{i j:Int}(h:qE xs=some (i,j)):xs=[.int i,.int j]:=by
 unfold qE at h;split at h
 .cases h;rfl
 .cases h
theorem JJ{xs:List AV}{x:AV}(h:qN xs=some x):xs=[x]:=by
 unfold qN at h;split at h
 .cases h;rfl
 .cases h
theorem Yu(hK:X.K=T.K):kY X T E (.builtin "len") gi:=by
 refine⟨_,Ye.or Yf,λZ h H xs bS Q R r w=>?_⟩;cases r with
 |nil=>exact w.elim|@cons x x' _ _ r1 rs=>
  cases rs with
  |nil=>
   have go:(∀z,x ≠ .str z)->(∃p ys,[x']=[.ref p]/\(bO X.K H p ys\/bZ X.K H p ys)/\Q (.int ys.length) H):=λnz=>by
    have w':W T (aJ T) (match cV h x with
     |some ys=>Res.ok (.int ys.length) h
     |none=>.bad) Z H Q E:=by
      cases x with
      |str z=>exact absurd rfl (nz z)|_=>exact w
    cases o:cV h x with
    |none=>rw[o]at w';exact w'.elim|some ys=>rw[o]at w';obtain⟨p,zs,e,hq,hr⟩:=cx R r1 o;refine⟨p,zs,by rw[e],by rw[hK];exact hq,?_⟩;rw[<- hr.length];exact w'.here R (.int _)
   cases x with
   |str z=>
    cases r1;simp only[gi]at w;by_cases hz:z.length<=sizeLine
    .rw[if_pos hz]at w;exact .inr ⟨z,rfl,hz,w.here R (.int _)⟩
    .rw[if_neg hz]at w;exact w.elim
   |_=>exact .inl (go λz e=>by cases e)
  |cons r2 rs2=>cases x<;>exact w.elim
theorem Yt:kY X T E (.type "int") Nx:=by
 refine⟨_,Yb,λZ h H xs bS Q R r w=>?_⟩;cases r with
 |nil=>exact w.elim|cons r1 rs=>
  cases rs with
  |nil=>
   cases r1 with
   |int i=>exact .inl ⟨i,rfl,W.here w R (.int _)⟩
   |bl k=>exact .inr ⟨k,rfl,W.here w R (.int _)⟩
   |_=>exact w.elim
  |cons r2 rs2=>cases r1<;>exact w.elim
theorem Ba{f:Value}{k:Int->Int->M AV}{r:List V->Hp->VK->Prop}(hr:eB X f r)
  (hw:∀Z h H i j Q,aQ T Z h H->W T (aJ T) (k i j h) Z H Q E->r [.int i,.int j] H Q):kY X T E f (λxs h=>match qE xs with
   |some (i,j)=>k i j h
   |none=>.bad):=by
 refine⟨_,hr,λZ h H xs bS Q R rr w=>?_⟩;cases o:qE xs with
 |none=>simp only[o]at w;exact w.elim|some q=>
  obtain⟨i,j⟩:=q;simp only[o]at w;have e:=GK o;subst e;cases rr with
  |cons r1 rs=>
   cases r1;cases rs with
   |cons r2 rs2=>cases r2;cases rs2;exact hw Z h H i j Q R w
theorem Yx(hc:X.calm=true):kY X T E (.builtin "min") Oc:=Ba (k:=λi j h=>.ok (.int (if j<i then j else i)) h) (Yj hc) λZ h H i j Q R w=>⟨i,j,rfl,W.here w R (.int _)⟩
theorem Yw(hc:X.calm=true):kY X T E (.builtin "max") Ob:=Ba (k:=λi j h=>.ok (.int (if j > i then j else i)) h) (Yh hc) λZ h H i j Q R w=>⟨i,j,rfl,W.here w R (.int _)⟩
theorem Ya:eB X (.builtin "divmod") (λxs H Q=>∃i j,xs=[.int i,.int j]/\(0<j/\j<2 ^ 1000)/\∀p,H p=none->Q (.ref p) (aR H p (.tup [.int (i / j),.int (i%j)]))):=by intro pins s U H xs us Q I r h;obtain⟨i,j,rfl,⟨h1,h2⟩,q⟩:=h;obtain⟨u,w',rfl,⟨t,rfl⟩,⟨t',rfl⟩⟩:=dk r;refine divmod_int (by omega) ?_ (.inl (PyProof.noPylong_of_log2 (log2_lt h2 h1)));rw[Int.fdiv_eq_ediv_of_nonneg i (by omega),Int.fmod_eq_emod_of_nonneg i (by omega)];have hn:H s.heap.objs.size=none:=I.aN.fresh (Nat.le_refl _);refine⟨.ref s.heap.objs.size,_,?_,rfl,q _ hn⟩;refine I.laid (λb o e=>Heap.get?_push_of_some _ e) (Nat.le_refl _) ⟨by simp only[List.length_cons,List.length_nil];rw[sizeLine_eq];decide,[.int (i / j) s.toks,.int (i%j) (s.toks+1)],.cons ⟨_,rfl⟩ (.cons ⟨_,rfl⟩ .nil),?_⟩;exact⟨_,Heap.get?_push_size s.heap rfl,rfl,0,rfl⟩
theorem Ys:kY X T E (.builtin "divmod") qy:=Ba (k:=λi j h=>if iL j=true then .ok (.tup [.int (i / j),.int (i%j)]) h else .bad) Ya λZ h H i j Q R w=>by
 by_cases hj:iL j=true
 .simp only[if_pos hj]at w;exact⟨i,j,rfl,Mc hj,λp hp=>ua R (.cons (.int _) (.cons (.int _) .nil)) hp w⟩
 .simp only[if_neg hj]at w;exact w.elim
theorem Qj{Z:List Addr}{h:AH}{H:Hp}{xs:List AV}{bS:List V}{Q:VK}{k:List AV->M AV}(R:aQ T Z h H)(r:aT T Z H xs bS)(w:W T (aJ T) ((match (qN xs).bind (cV h) with
  |some ys=>k ys h
  |none=>.bad:Res AV)) Z H Q E):∃p ys zs,bS=[.ref p]/\(bO T.K H p zs\/bZ T.K H p zs)/\aT T Z H ys zs/\W T (aJ T) (k ys h) Z H Q E:=by
 cases o1:qN xs with
 |none=>rw[o1]at w;exact w.elim|some x=>
  rw[o1]at w;simp only[Option.bind_some]at w;have e:=JJ o1;subst e;cases r with
  |cons r1 rs=>
   cases rs;cases o:cV h x with
   |none=>rw[o]at w;exact w.elim|some ys=>rw[o]at w;obtain⟨p,zs,e,hq,hr⟩:=cx R r1 o;exact⟨p,ys,zs,by rw[e],hq,hr,w⟩
theorem Yy(hK:X.K=T.K):kY X T E (.type "tuple") rq:=by
 refine⟨_,Ym,λZ h H xs bS Q R r w=>?_⟩;obtain⟨p,ys,zs,rfl,hq,hr,w'⟩:=Qj (k:=λys h=>.ok (.tup ys) h) R r w;rcases hq with hq|hq
 .exact⟨p,zs,rfl,.inl ⟨by rw[hK];exact hq,λl hl=>ua R hr hl w'⟩⟩
 .exact⟨p,zs,rfl,.inr ⟨by rw[hK];exact hq,W.here w' R (.tup hq hr)⟩⟩
theorem Yv(hK:X.K=T.K)(hc:X.calm=true):kY X T E (.type "list") rj:=by refine⟨_,Yg,λZ h H xs bS Q R r w=>?_⟩;obtain⟨p,ys,zs,rfl,hq,hr,w'⟩:=Qj (k:=λys h=>gB ys h) R r w;exact⟨p,zs,rfl,by rw[hK];exact hq,λl hl=>ib R hr hl w'⟩
theorem um{x:Str} {id:String} {g:List AV->M AV} (hc:kY X T E (.builtin id) g) (hg:Gl X x) (hm:X.mg x=none) (hv:bootBuiltins x=some (.builtin id)) (ha:QA X T E (e::es) mr) (hs:(e::es).all aY=true) (hn:x≠"__name__") (hd:(x==("__debug__":Str))=false) :
  QE X T E (.Call (.Name x p) (e::es) [] pos) (λU=>(mr U).bind g):=by
 obtain⟨r,hr,hgg⟩:=hc;obtain⟨tr,pr,rr⟩:=ha;rw[List.all_cons,Bool.and_eq_true]at hs;exact⟨_,wO hr hg hm hv pr hn hd (cZ hs.1) (nE hs.2),λZ U U' h H Q R S w=>rr Z U U' h H _ R S (W.bind w λZ1 xs bS h1 H1 e1 R1 q1 w1=>hgg Z1 h1 H1 xs bS Q R1 q1 w1)⟩
theorem Dj{x:Str} {id:String} {g:List AV->M AV} (hc:kY X T E (.type id) g) (hg:Gl X x) (hm:X.mg x=none) (hv:bootBuiltins x=some (.type id)) (ha:QA X T E (e::es) mr) (hs:(e::es).all aY=true) (hn:x≠"__name__") (hd:(x==("__debug__":Str))=false) :
  QE X T E (.Call (.Name x p) (e::es) [] pos) (λU=>(mr U).bind g):=by
 obtain⟨r,hr,hgg⟩:=hc;obtain⟨tr,pr,rr⟩:=ha;rw[List.all_cons,Bool.and_eq_true]at hs;exact⟨_,MC hr hg hm hv pr hn hd (cZ hs.1) (nE hs.2),λZ U U' h H Q R S w=>rr Z U U' h H _ R S (W.bind w λZ1 xs bS h1 H1 e1 R1 q1 w1=>hgg Z1 h1 H1 xs bS Q R1 q1 w1)⟩
end
section
variable {X:Cx}{T:Tab}{E:XK}{a b c e tg l:Expr}{es:List Expr}{ma mb m:aE->M AV}{mr:aE->M (List AV)}{pos p:Pos}
def D8(it jt:dW):dW:=λi h=>match it i h,jt i h with
 |some (some u),some (some v)=>some (some (.tup [u,v]))
 |some none,some _=>some none
 |some _,some none=>some none
 |_,_=>none
def F1(xs:List AV):M dW:=λh=>match xs with
 |[x,y]=>match gh x h,gh y h with
  |.ok it _,.ok jt _=>.ok (D8 it jt) h
  |_,_=>.bad
 |_=>.bad
end
def fM{α:Type}(m:M α):M α:=λh=>match m h with
 |.ok a h1=>.ok a h1
 |_=>.bad
theorem Cv{T:Tab}{α β:Type}{Rp:Rl α β}{m:M α}{h:AH}{Z:List Addr}{H:Hp}{Q:β->Hp->Prop}{E E':XK}(w:W T Rp (fM m h) Z H Q E):W T Rp (m h) Z H Q E':=by
 unfold fM at w;cases e:m h with
 |ok a h1=>rw[e]at w;exact w|exc c x h1=>rw[e]at w;exact w.elim|bad=>rw[e]at w;exact w.elim
theorem M.bind_assoc{α β γ:Type}(m:M α)(k:α->M β)(l:β->M γ):(m.bind k).bind l=m.bind λx=>(k x).bind l:=by
 funext h
 unfold M.bind;cases m h<;>rfl
def cO(it:dW)(g:AV->aE->M aE)(mt:aE->M Bool)(me:aE->M AV):Nat->Nat->List AV->aE->M (List AV)
 |0,_,_,_=>M.bad
 |f+1,i,ys,U=>λh=>match it i h with
  |none=>.bad
  |some none=>.ok ys h
  |some (some v)=>((fM (g v U)).bind λU1=>(fM (mt U1)).bind λb=>if b=true then(fM (me U1)).bind λy=>M.guard (ys.length<sizeLine) (cO it g mt me f (i+1) (ys++[y]) U1) else cO it g mt me f (i+1) ys U1) h
def gW{α:Type}(imp:List (Option Nat))(U:List (Option α)):List (Option α):=imp.map λo=>match o with
 |some j=>(U[j]?).getD none
 |none=>none
def sG(mi:M dW)(g:AV->aE->M aE)(mt:aE->M Bool)(me:aE->M AV)(imp:List (Option Nat))(U:aE):M AV:=mi.bind λit=>(cO it g mt me FU 0 [] (gW imp U)).bind gB
def Vo(T:Tab)(m:aE->M AV):TE:=λU' H Q=>∃Z U h,aQ T Z h H/\bK T Z H U U'/\W T (aJ T) (m U h) Z H Q E0
def Vq(T:Tab)(m:aE->M Bool):TT:=λU' H Q=>∃Z U h,aQ T Z h H/\bK T Z H U U'/\W T RB (m U h) Z H Q E0
def Vp(T:Tab)(g:AV->aE->M aE):TG:=λv' U' H Q=>∃Z v U h,aQ T Z h H/\bK T Z H U U'/\aJ T Z H v v'/\W T (bK T) (g v U h) Z H Q E0
section
variable {X:Cx}{T:Tab}{E:XK}{elt tg bQ:Expr}{ct:Option Expr}{me:aE->M AV}{mt:aE->M Bool}{mi:aE->M dW}{g:AV->aE->M aE}{imp:List (Option Nat)}{N':List Str}{scope:Scope}{pos:Pos}
theorem QE.canon{e:Expr}{m:aE->M AV}(h:QE X T E0 e m):PE X e (Vo T m):=let ⟨t,p,r⟩:=h;λpins s U' H Q I ⟨Z,U,h,R,S,w⟩=>p pins s U' H Q I (r Z U U' h H Q R S w)
theorem QT.canon{e:Expr}{m:aE->M Bool}(h:QT X T E0 e m):PT X e (Vq T m):=let ⟨t,p,r⟩:=h;λpins s U' H Q I ⟨Z,U,h,R,S,w⟩=>p pins s U' H Q I (r Z U U' h H Q R S w)
theorem QG.canon{e:Expr}{g:AV->aE->M aE}(h:QG X T E0 e g):PG X e (Vp T g):=let ⟨t,p,r⟩:=h;λpins s U' H v' u Q I ru ⟨Z,v,U,h,R,S,rv,w⟩=>p pins s U' H v' u Q I ru (r Z v v' U U' h H Q R S rv w)
theorem se{α:Type}(U:List (Option α)):(gW imp U).length=imp.length:=by simp[gW]
theorem Bz{α:Type}{U:List (Option α)}{i:Nat}{v:α}(h:(gW imp U)[i]?=some (some v)):∃j,imp[i]?=some (some j)/\U[j]?=some (some v):=by
 unfold gW at h;rw[List.getElem?_map]at h;cases e:imp[i]? with
 |none=>rw[e]at h;cases h|some o=>
  rw[e]at h;cases o with
  |none=>cases h|some j=>
   refine⟨j,rfl,?_⟩;have h':(U[j]?).getD none=some v:=Option.some.inj h;cases q:U[j]? with
   |none=>rw[q]at h';cases h'|some w=>rw[q]at h';exact congrArg some h'
theorem bK.GH{Z:List Addr}{H:Hp}{U:aE}{U':L2.St}(S:bK T Z H U U'):bK T Z H (gW imp U) (gW imp U'):=by refine⟨by rw[se,se],λi v e=>?_⟩;obtain⟨j,h1,h2⟩:=Bz e;obtain⟨v',h3,r⟩:=S.2 j v h2;refine⟨v',?_,r⟩;unfold gW;rw[List.getElem?_map,h1];show some ((U'[j]?).getD none)=_;rw[h3];rfl
theorem Ln{wi:TI}(ri:∀Z U U' h H R,aQ T Z h H->bK T Z H U U'->W T (RI T) (mi U h) Z H R E->wi U' H R){Z:List Addr}{U:aE}{U':L2.St}{h:AH}{H:Hp}{Q:VK}(R:aQ T Z h H)(S:bK T Z H U U')
  (w:W T (aJ T) (sG (mi U) g mt me imp U h) Z H Q E):Hb wi (gW imp) (Vp T g) (Vq T mt) (Vo T me) U' H Q:=by
 refine ri Z U U' h H _ R S (W.bind w λZ1 it J h1 H1 e1 R1 q1 w1=>?_);refine⟨λi m ys' U' H=>∃Z ys U h,Ext Z1 H1 Z H/\aQ T Z h H/\bK T Z H U U'/\aT T Z H ys ys'/\W T (aJ T) (((cO it g mt me m i ys U).bind gB) h) Z H Q E,FU,⟨Z1,[],_,h1,.refl,R1,(S.ext e1).GH,.nil,w1⟩,?_⟩;rintro i m ys' U' H ⟨Z,ys,U,h,e,R,S,rys,w⟩
 cases m with
 |zero=>exact w.elim|succ f=>
  cases hit:it i h with
  |none=>
   have w':W T (aJ T) Res.bad Z H Q E:=by simp only[cO,M.bind,hit]at w;exact w
   exact w'.elim
  |some o=>
   cases o with
   |none=>
    have w':W T (aJ T) (gB ys h) Z H Q E:=by simp only[cO,M.bind,hit]at w;exact w
    exact .inl ⟨(q1 Z h H i e R).1 hit,λD hD=>ib R rys hD w'⟩
   |some v=>
    have w':W T (aJ T) ((((fM (g v U)).bind λU1=>(fM (mt U1)).bind λb=>if b=true then(fM (me U1)).bind λy=>M.guard (ys.length<sizeLine) (cO it g mt me f (i+1) (ys++[y]) U1) else cO it g mt me f (i+1) ys U1).bind gB) h) Z H Q E:=by
     have e1:∀k:List AV->M AV,((cO it g mt me (f+1) i ys U).bind k) h=((((fM (g v U)).bind λU1=>(fM (mt U1)).bind λb=>if b=true then(fM (me U1)).bind λy=>M.guard (ys.length<sizeLine) (cO it g mt me f (i+1) (ys++[y]) U1) else cO it g mt me f (i+1) ys U1).bind k) h):=λk=>by unfold M.bind;simp only[cO,hit];rfl
     rw[e1]at w;exact w
    rw[M.bind_assoc]at w';obtain⟨go,yl⟩:=(q1 Z h H i e R).2 v hit;refine .inr ⟨go,λx H2 y=>?_⟩;obtain⟨Z2,e2,R2,rv⟩:=yl x H2 y;refine⟨Z2,v,U,h,R2,S.ext e2,rv,Cv (E:=E) (W.bind (w'.ext e2) λZ3 U3 U3' h3 H3 e3 R3 S3 w3=>?_)⟩;rw[M.bind_assoc]at w3;refine⟨Z3,U3,h3,R3,S3,Cv (E:=E) (W.bind w3 λZ4 d d' h4 H4 e4 R4 q4 w4=>?_)⟩;have q4':d=d':=q4;subst q4';cases d with
    |true=>
     rw[if_pos rfl]at w4 ⊢;rw[M.bind_assoc]at w4;refine⟨Z4,U3,h4,R4,S3.ext e4,Cv (E:=E) (W.bind w4 λZ5 y y' h5 H5 e5 R5 q5 w5=>?_)⟩;by_cases hz:ys.length<sizeLine
     .have w6:W T (aJ T) (((cO it g mt me f (i+1) (ys++[y]) U3).bind gB) h5) Z5 H5 Q E:=by
       have e6:((M.guard (ys.length<sizeLine) (cO it g mt me f (i+1) (ys++[y]) U3)).bind gB) h5=((cO it g mt me f (i+1) (ys++[y]) U3).bind gB) h5:=by unfold M.bind M.guard;rw[if_pos hz]
       rw[e6]at w5;exact w5
      have eE:=(((e.trans e2).trans e3).trans e4).trans e5;exact⟨by rw[<- rys.length];exact hz,f,Nat.lt_succ_self f,Z5,ys++[y],U3,h5,eE,R5,(S3.ext e4).ext e5,(rys.ext (((e2.trans e3).trans e4).trans e5)).append (.cons q5 .nil),w6⟩
     .have e6:((M.guard (ys.length<sizeLine) (cO it g mt me f (i+1) (ys++[y]) U3)).bind gB) h5 = .bad:=by unfold M.bind M.guard;rw[if_neg hz]
      rw[e6]at w5;exact w5.elim
    |false=>rw[if_neg Bool.false_ne_true]at w4 ⊢;exact⟨f,Nat.lt_succ_self f,Z4,ys,U3,h4,((e.trans e2).trans e3).trans e4,R4,S3.ext e4,rys.ext ((e2.trans e3).trans e4),w4⟩
theorem Rf(hsc:hJ X N' scope)(hcalm:X.calm=true)(hi:QI X T E tg bQ mi)(hg:∀s H C fp,QG (X.comp N' scope s H C fp) T E0 tg g)(hct:∀c,ct=some c->∀s H C fp,QT (X.comp N' scope s H C fp) T E0 c mt)
  (hct0:ct=none->mt=λ_=>M.ret true) (he:∀s H C fp,QE (X.comp N' scope s H C fp) T E0 elt me) (himp:imp.length=N'.length)
  (hU:∀(i j:Nat) x,N'[i]?=some x->imp[i]?=some (some j)->scope.names.lookup x=some .free/\(x,NameKind.free)∈scope.names/\X.N[j]?=some x) (hs:aY bQ=true) :
  QE X T E (.ListComp elt [⟨tg,bQ,ct.toList,0⟩] scope pos) (λU=>sG (mi U) g mt me imp U):=by
 obtain⟨wi,pi,ri⟩:=hi;refine⟨_,MG (imp:=gW imp) hsc hcalm pi (λs H C fp=>(hg s H C fp).canon) (λc e s H C fp=>(hct c e s H C fp).canon) (λe U H Q=>?_) (λs H C fp=>(he s H C fp).canon) (λU=>by rw[se,himp]) (λU i x v e1 e2=>?_) λx=>Gu hs,λZ U U' h H Q R S w=>Ln ri R S w⟩
 .rintro ⟨Z,U,h,R,S,w⟩
  rw[hct0 e]at w;exact W.here (Rp:=RB) w R rfl
 .obtain⟨j,h1,h2⟩:=Bz e2;obtain⟨a,b,c⟩:=hU i j x e1 h1;exact⟨a,b,j,c,h2⟩
theorem Tw{i:Nat}{y:Str}{py spos:Pos}(hN:X.N.Nodup)(hi':X.N[i]?=some y)(hy:X.env.scope.names.lookup y=some .local)
  (hsw:swapsWith (.ListComp elt [⟨tg,bQ,ct.toList,0⟩] scope pos) (some (.Name y py)) spos.line X.env=pure true) (hsc:hJ X N' scope) (hcalm:X.calm=true) (hi:QI X T E tg bQ mi) (hg:∀s H C fp,QG (X.comp N' scope s H C fp) T E0 tg g) (hct:∀c,ct=some c->∀s H C fp,QT (X.comp N' scope s H C fp) T E0 c mt)
  (hct0:ct=none->mt=λ_=>M.ret true) (he:∀s H C fp,QE (X.comp N' scope s H C fp) T E0 elt me) (himp:imp.length=N'.length)
  (hU:∀(i j:Nat) x,N'[i]?=some x->imp[i]?=some (some j)->scope.names.lookup x=some .free/\(x,NameKind.free)∈scope.names/\X.N[j]?=some x) (hs:aY bQ=true) :
  QS X T E (.Assign [.Name y py] (.ListComp elt [⟨tg,bQ,ct.toList,0⟩] scope pos) spos) (λU=>(sG (mi U) g mt me imp U).bind λv=>(M.ret (U.set i (some v))).bind λU1=>M.ret (.nx U1)):=by
 obtain⟨wi,pi,ri⟩:=hi;refine⟨_,OE (imp:=gW imp) hN hi' hy hsw hsc hcalm pi (λs H C fp=>(hg s H C fp).canon) (λc e s H C fp=>(hct c e s H C fp).canon) (λe U H Q=>?_) (λs H C fp=>(he s H C fp).canon) (λU=>by rw[se,himp]) (λU i x v e1 e2=>?_) λx=>Gu hs,
  λZ U U' h H D R S w=>Ln ri R S (W.bind w λZ1 x x' h1 H1 e1 R1 q1 w1=>W.here (Q:=eG D) (b:=dR.nx (U'.set i (some x'))) w1 R1 ((S.ext e1).set q1 i))⟩
 .rintro ⟨Z,U,h,R,S,w⟩
  rw[hct0 e]at w;exact W.here (Rp:=RB) w R rfl
 .obtain⟨j,h1,h2⟩:=Bz e2;obtain⟨a,b,c⟩:=hU i j x e1 h1;exact⟨a,b,j,c,h2⟩
end
inductive Kc where
 |any|srt (b:Bool)|Cq
 |all|mx
def lD:List AV->Option (List Bool)
 |[]=>some []
 |.bl b::r=>(lD r).map (b::·)
 |_=>none
def lJ:List AV->Option (List Int)
 |[]=>some []
 |.int b::r=>(lJ r).map (b::·)
 |_=>none
theorem Kt:∀bs:List Bool,lD (bs.map AV.bl)=some bs
 |[]=>rfl|b::bs=>by simp[lD,Kt bs]
theorem Ot:∀bs:List Int,lJ (bs.map AV.int)=some bs
 |[]=>rfl|b::bs=>by simp[lJ,Ot bs]
def Kc.gl:Kc->List AV->M AV
 |.any,xs=>λh=>match lD xs with
  |some bs=>.ok (.bl (bs.any id)) h
  |none=>.bad
 |.all,xs=>λh=>match lD xs with
  |some bs=>.ok (.bl (bs.all id)) h
  |none=>.bad
 |.mx,xs=>λh=>match lJ xs with
  |some ns=>if ns.isEmpty=true then .bad else .ok (.int (iR ns)) h
  |none=>.bad
 |.srt b,xs=>λh=>match lJ xs with
  |some ns=>if ns.length<64 then gB ((cz b ns).map AV.int) h else .bad
  |none=>.bad
 |.Cq,xs=>λh=>match xs with
  |[]=>.ok .aB h
  |_=>.bad
def Kc.g(k:Kc)(x:AV):M AV:=λh=>match x with
 |.ref n=>match h.ob n with
  |some (.lst _ xs)=>k.gl xs h
  |_=>.bad
 |_=>.bad
section
variable {X:Cx}{T:Tab}{E:XK}{a:Expr}{m:aE->M AV}{p pos:Pos}
theorem Ag{Z:List Addr}{H:Hp}:∀{xs:List AV} {ys:List V} {bs:List Bool},aT T Z H xs ys->lD xs=some bs->ys=bs.map V.bl
 |_,_,_,.nil,e=>by cases e;rfl
 |_,_,_,.cons (x:=x) (xs:=xs) h t,e=>by
  cases h with
  |bl b=>
   simp only[lD]at e;cases q:lD xs with
   |none=>rw[q]at e;cases e|some bs=>rw[q]at e;cases e;rw[Ag t q];rfl
  |_=>cases e
theorem Cb{Z:List Addr}{H:Hp}:∀{xs:List AV} {ys:List V} {bs:List Int},aT T Z H xs ys->lJ xs=some bs->ys=bs.map V.int
 |_,_,_,.nil,e=>by cases e;rfl
 |_,_,_,.cons (x:=x) (xs:=xs) h t,e=>by
  cases h with
  |int b=>
   simp only[lJ]at e;cases q:lJ xs with
   |none=>rw[q]at e;cases e|some bs=>rw[q]at e;cases e;rw[Cb t q];rfl
  |_=>cases e
theorem gq(hK:X.K=T.K){k:Kc}
  {Z:List Addr} {h:AH} {H:Hp} {x:AV} {x':V} {Q:VK} (R:aQ T Z h H) (r:aJ T Z H x x') (w:W T (aJ T) (k.g x h) Z H Q E) :
  ∃(l:Addr) (xs:List AV) (ys:List V),x' = .ref l/\bO X.K H l ys/\aT T Z H xs ys/\W T (aJ T) (k.gl xs h) Z H Q E:=by
 unfold Kc.g at w;cases x with
 |ref n=>
  cases r with
  |@ref _ l q=>
   dsimp only at w;cases o:h.ob n with
   |none=>rw[o]at w;exact w.elim|some u=>
    rw[o]at w;cases u with
    |lst b xs=>obtain⟨ys,h1,h2⟩:=mP R o q;exact⟨l,xs,ys,rfl,by rw[hK];exact h1,h2,w⟩
    |_=>exact w.elim
 |_=>exact w.elim
theorem OW(hK:X.K=T.K) (hc:X.calm=true) (hg:Gl X "any") (hm:X.mg "any"=none) (ha:QE X T E a m) (hs:aY a=true):QE X T E (.Call (.Name "any" p) [a] [] pos) (λU=>(m U).bind (Kc.any.g)):=by
 obtain⟨ta,pa,ra⟩:=ha;refine⟨_,wO (Xz hc) hg hm (by decide +kernel) (iU pa mS (cZ hs)) (by decide) (by decide) (cZ hs) rfl,λZ U U' h H Q R S w=>?_⟩;refine ra Z U U' h H _ R S (W.bind w λZ1 x x' h1 H1 e1 R1 q1 w1=>?_);obtain⟨l,xs,ys,rfl,hq,hr,w2⟩:=gq hK
  R1 q1 w1
 simp only[Kc.gl]at w2;cases q:lD xs with
 |none=>rw[q]at w2;exact w2.elim|some bs=>rw[q]at w2;have e:=Ag hr q;subst e;exact⟨l,bs,rfl,hq,w2.here R1 (.bl _)⟩
theorem OU(hK:X.K=T.K) (hc:X.calm=true) (hg:Gl X "all") (hm:X.mg "all"=none) (ha:QE X T E a m) (hs:aY a=true):QE X T E (.Call (.Name "all" p) [a] [] pos) (λU=>(m U).bind (Kc.all.g)):=by
 obtain⟨ta,pa,ra⟩:=ha;refine⟨_,wO (Xy hc) hg hm (by decide +kernel) (iU pa mS (cZ hs)) (by decide) (by decide) (cZ hs) rfl,λZ U U' h H Q R S w=>?_⟩;refine ra Z U U' h H _ R S (W.bind w λZ1 x x' h1 H1 e1 R1 q1 w1=>?_);obtain⟨l,xs,ys,rfl,hq,hr,w2⟩:=gq hK
  R1 q1 w1
 simp only[Kc.gl]at w2;cases q:lD xs with
 |none=>rw[q]at w2;exact w2.elim|some bs=>rw[q]at w2;have e:=Ag hr q;subst e;exact⟨l,bs,rfl,hq,w2.here R1 (.bl _)⟩
theorem QD(hK:X.K=T.K) (hc:X.calm=true) (hg:Gl X "max") (hm:X.mg "max"=none) (ha:QE X T E a m) (hs:aY a=true):QE X T E (.Call (.Name "max" p) [a] [] pos) (λU=>(m U).bind (Kc.mx.g)):=by
 obtain⟨ta,pa,ra⟩:=ha;refine⟨_,wO (Yi hc) hg hm (by decide +kernel) (iU pa mS (cZ hs)) (by decide) (by decide) (cZ hs) rfl,λZ U U' h H Q R S w=>?_⟩;refine ra Z U U' h H _ R S (W.bind w λZ1 x x' h1 H1 e1 R1 q1 w1=>?_);obtain⟨l,xs,ys,rfl,hq,hr,w2⟩:=gq hK
  R1 q1 w1
 simp only[Kc.gl]at w2;cases q:lJ xs with
 |none=>rw[q]at w2;exact w2.elim|some ns=>
  rw[q]at w2;have e:=Cb hr q;subst e;dsimp only at w2;by_cases hn:ns.isEmpty=true
  .rw[if_pos hn]at w2;exact w2.elim
  .rw[if_neg hn]at w2;exact⟨l,ns,rfl,hq,λz=>hn (by rw[z];rfl),w2.here R1 (.int _)⟩
theorem QL(hK:X.K=T.K) {b:Bool} {k:Nat} {kp kq:Pos} (hg:Gl X "sorted") (hm:X.mg "sorted"=none) (ha:QE X T E a m) (hs:aY a=true) :
  QE X T E (.Call (.Name "sorted" p) [a] [⟨some "reverse",.Constant (.bool b) k kq,kp⟩] pos) (λU=>(m U).bind ((Kc.srt b).g)):=by
 obtain⟨ta,pa,ra⟩:=ha;refine⟨_,Qs (z:=.bl b) (r:=λv H Q=>∃l ns,v = .ref l/\bO X.K H l (ns.map V.int)/\ns.length<64/\∀D,H D=none->Q (.ref D) (aR H D (.lst ((cz b ns).map V.int)))) ?_ hg hm boot_sorted pa Dc (cZ hs) (by decide) (by decide),λZ U U' h H Q R S w=>?_⟩
 .intro pins s U H v u zu Q I rv rz ⟨l,ns,ev,hq,hn,q⟩;subst ev;cases rv;have rz':zu=Value.bool b:=rz;subst rz';exact Yl b I hq hn q
 refine ra Z U U' h H _ R S (W.bind w λZ1 x x' h1 H1 e1 R1 q1 w1=>?_);obtain⟨l,xs,ys,rfl,hq,hr,w2⟩:=gq hK
  R1 q1 w1
 simp only[Kc.gl]at w2;cases q:lJ xs with
 |none=>rw[q]at w2;exact w2.elim|some ns=>
  rw[q]at w2;dsimp only at w2;have e:=Cb hr q;subst e;by_cases hn:ns.length<64
  .rw[if_pos hn]at w2;exact⟨l,ns,rfl,hq,hn,λD hD=>ib R1 (aT.ints _) hD w2⟩
  .rw[if_neg hn]at w2;exact w2.elim
theorem QC(hK:X.K=T.K) (hc:X.calm=true) {k:Nat} {kp kq:Pos} (hg:Gl X "min") (hm:X.mg "min"=none) (ha:QE X T E a m) (hs:aY a=true) :
  QE X T E (.Call (.Name "min" p) [a] [⟨some "default",.Constant .none k kq,kp⟩] pos) (λU=>(m U).bind (Kc.Cq.g)):=by
 obtain⟨ta,pa,ra⟩:=ha;refine⟨_,Qs (z:=.aB) (r:=λv H Q=>∃l,v = .ref l/\bO X.K H l []/\Q .aB H) ?_ hg hm (show bootBuiltins "min"=some (.builtin "min") from by decide +kernel) pa Dh (cZ hs) (by decide) (by decide),λZ U U' h H Q R S w=>?_⟩
 .intro pins s U H v u zu Q I rv rz ⟨l,ev,hq,q⟩;subst ev;cases rv;exact Yk hc I hq rz q
 refine ra Z U U' h H _ R S (W.bind w λZ1 x x' h1 H1 e1 R1 q1 w1=>?_);obtain⟨l,xs,ys,rfl,hq,hr,w2⟩:=gq hK
  R1 q1 w1
 cases xs with
 |nil=>cases hr;exact⟨l,rfl,hq,W.here w2 R1 .aB⟩|cons _ _=>exact w2.elim
end
inductive BT where
 |aB|bl|int|str|tup|lst|aO
 deriving DecidableEq
def BT.nm:BT->String
 |.aB=>"NoneType" |.bl=>"bool" |.int=>"int" |.str=>"str" |.tup=>"tuple" |.lst=>"list" |.aO=>"dict"
def BT.sub(s t:BT):Bool:=decide (s=t)||(decide (s = .bl)&&decide (t = .int))
theorem tG{K:W.Frag}(s t:BT):W.kitOne K (.type s.nm) (.type t.nm)=some (s.sub t):=by cases s<;>cases t<;>first|rfl|(with_unfolding_all rfl)|decide +kernel
inductive mD(K:W.Frag)(H:Hp):V->BT->Prop where
 |aB:mD K H .aB .aB
 |bl (x:Bool):mD K H (.bl x) .bl
 |int (i:Int):mD K H (.int i) .int
 |str (x:Str):mD K H (.str x) .str
 |lst {a:Addr} {xs:List V} (e:bO K H a xs):mD K H (.ref a) .lst
 |tup {a:Addr} {xs:List V} (e:bZ K H a xs):mD K H (.ref a) .tup
 |aO {a:Addr} {kvs:List (aK×V)} (e:H a=some (.dK kvs)):mD K H (.ref a) .aO
def pj(h:AH):AV->Option BT
 |.aB=>some .aB
 |.bl _=>some .bl
 |.int _=>some .int
 |.str _=>some .str
 |.tup _=>some .tup
 |.ref n=>match h.ob n with
  |some (.lst _ _)=>some .lst
  |some (.aO _)=>some .aO
  |_=>none
 |_=>none
def rf(t:BT)(x:AV):M AV:=λh=>match pj h x with
 |some s=>.ok (.bl (s.sub t)) h
 |none=>.bad
section
variable {X:Cx}{T:Tab}{E:XK}{a b c e tg l o:Expr}{es:List Expr}{ma mb mc m:aE->M AV}{mr:aE->M (List AV)}{pos p apos:Pos}
theorem Yc(t:BT):eB X (.builtin "isinstance") (λxs H Q=>∃x s,xs=[x,.ty t.nm]/\mD X.K H x s/\Q (.bl (s.sub t)) H):=by
 intro pins st U H xs us Q I r h;obtain⟨x,s,rfl,ty,q⟩:=h;obtain⟨u,w',rfl,ru,rw'⟩:=dk r;obtain rfl:w'=Value.type t.nm:=rw';have aL:∀tk,EP X pins U Q (.bool (s.sub t)) { st with toks:=tk }:=λtk=>⟨.bl _,H,I.tok tk,rfl,q⟩;cases ty with
 |aB=>cases ru;exact W.kia_one W.kitx_none I.cB True.intro (tG .aB t) (λz=>nomatch z) aL|bl y=>cases ru;exact W.kia_one W.kitx_bool I.cB True.intro (tG .bl t) (λz=>nomatch z) aL|int i=>obtain⟨tk,rfl⟩:=ru;exact W.kia_one W.kitx_int I.cB True.intro (tG .int t) (λz=>nomatch z) aL|str y=>obtain⟨tk,rfl⟩:=ru;exact W.kia_one W.kitx_str I.cB True.intro (tG .str t) (λz=>nomatch z) aL|lst e=>cases ru;obtain⟨_,_,⟨ob,n,h1,h2,_⟩,_⟩:=I.list e;exact W.kia_one W.kitx_list I.cB ⟨ob,h1,h2⟩ (tG .lst t) (λz=>nomatch z) aL
 |tup e=>cases ru;obtain⟨_,_,⟨ob,h1,h2,_⟩,_⟩:=I.tuple e;exact W.kia_one W.kitx_tuple I.cB ⟨ob,h1,h2⟩ (tG .tup t) (λz=>nomatch z) aL
 |@aO a kvs e=>cases ru;obtain⟨_,_,vs,_,ob,es,ep,h1,h2,_⟩:=(show cQ X.prog X.w H st.heap a (.dK kvs) from I.aN a _ e);exact W.kia_one W.kitx_dict I.cB ⟨ob,h1,h2.1⟩ (tG .aO t) (λz=>nomatch z) aL
theorem Xv(hK:X.K=T.K){Z:List Addr}{h:AH}{H:Hp}{x:AV}{x':V}{s:BT}(R:aQ T Z h H)(r:aJ T Z H x x')(e:pj h x=some s):mD X.K H x' s:=by
 cases r with
 |aB=>cases e;exact .aB|bl b=>cases e;exact .bl b|int i=>cases e;exact .int i|str y=>cases e;exact .str y|tup hq hr=>cases e;exact .tup (by rw[hK];exact hq)|@ref n a q=>
  simp only[pj]at e;cases o:h.ob n with
  |none=>rw[o]at e;cases e|some u=>
   rw[o]at e;cases u with
   |lst m xs=>cases e;obtain⟨ys,h1,_⟩:=mP R o q;exact .lst (by rw[hK];exact h1)
   |aO kvs=>cases e;obtain⟨ks,ys,h1,_⟩:=R.obj n _ a o q;exact .aO h1
   |ins _ _=>cases e|xo _=>cases e
 |lI q=>cases e
theorem PQ(hK:X.K=T.K) {y:Str} {p2:Pos} (t:BT) (hg:Gl X "isinstance") (hm:X.mg "isinstance"=none) (hg2:Gl X y) (hm2:X.mg y=none) (hv2:bootBuiltins y=some (.type t.nm)) (hn2:y≠"__name__") (hd2:(y==("__debug__":Str))=false)
  (ha:QE X T E a m) (hs:aY a=true):QE X T E (.Call (.Name "isinstance" p) [a,.Name y p2] [] pos) (λU=>(m U).bind (rf t)):=by
 obtain⟨ta,pa,ra⟩:=ha;refine⟨_,wO (Yc t) hg hm boot_isinstance (iU pa (iU (LZ (v:=.ty t.nm) hg2 hm2 hv2 rfl hn2 hd2) mS) (cZ hs)) (by decide) (by decide) (cZ hs) rfl,λZ U U' h H Q R S w=>?_⟩;refine ra Z U U' h H _ R S (W.bind w λZ1 x x' h1 H1 e1 R1 q1 w1=>?_);unfold rf at w1;cases o:pj h1 x with
 |none=>rw[o]at w1;exact w1.elim|some s=>rw[o]at w1;exact⟨x',s,rfl,Xv hK R1 q1 o,w1.here R1 (.bl _)⟩
def sQ(x v:AV):M AV:=λh=>match x with
 |.ref n=>match h.ob n with
  |some (.lst true xs)=>if xs.length<sizeLine then .ok .aB (h.put n (.lst true (xs++[v]))) else .bad
  |_=>.bad
 |_=>.bad
def gP(h:AH):AV->Bool
 |.ref n=>match h.ob n with
  |some (.lst _ _)=>true
  |_=>false
 |_=>false
def Ab(a b:M AV):M AV:=a.bind λx h=>if gP h x=true then(b.bind λy=>sQ x y) h else .bad
def gI:Expr->Bool
 |.Name ..=>true | .Attribute ..=>true | .Subscript ..=>true
 |.Call (.Attribute ..) _ _ _=>true
 |.Call (.Name ..) (_::_) _ _=>true
 |_=>false
theorem vT{o:Expr}{f:Str}{env:Env}{whole:Sem Value}(h:gI o=true):attributeBase o f env whole=whole:=by
 cases o with
 |Name=>rfl|Attribute=>rfl|Subscript=>rfl|Call g es ks p=>
  cases g with
  |Attribute=>rfl|Name=>
   cases es with
   |nil=>cases h|cons=>rfl
  |_=>cases h
 |_=>cases h
theorem Wu{Z:List Addr}{H:Hp}{p:Addr}{O O':HO}(g1:H p=some O)(nt:∀xs,O ≠ .tup xs)(nf:∀x u,O ≠ .cT x u):Ext Z H Z (aR H p O'):=⟨λ_ _ z=>z,λb xs z=>by
 rw[bP (mQ z g1 λw=>nt xs w.symm)];exact z,λb x u z=>by
 rw[bP (mQ z g1 λw=>nf x u w.symm)];exact z⟩
theorem OX(hK:X.K=T.K)(ho:QE X T E o ma)(ha:QE X T E a mb)(hb:gI o=true)(hs:aY a=true)(hl:(apos.endLine==pos.line)=true) :
  QE X T E (.Call (.Attribute o "append" apos) [a] [] pos) (λU=>Ab (ma U) (mb U)):=by
 obtain⟨ta,pa,ra⟩:=ho;obtain⟨tb,pb,rb⟩:=ha;refine⟨_,Qr PySem.F.plainAttrs_list PySem.F.slot_list_append PySem.F.type_list_append IU pa (iU pb mS (cZ hs)) (vT hb) (by rw[cZ hs];rfl) hl (cZ hs) rfl,λZ U U' h H Q R S w=>?_⟩;refine ra Z U U' h H _ R S (W.bind w λZ1 x x' h1 H1 e1 R1 q1 w1=>?_);have w1':W T (aJ T) (if gP h1 x=true then((mb U).bind λy=>sQ x y) h1 else .bad) Z1 H1 Q E:=w1;by_cases hL:gP h1 x=true
 case neg=>rw[if_neg hL]at w1';exact w1'.elim
 rw[if_pos hL]at w1';cases x with
 |ref n=>
  cases q1 with
  |@ref _ p q=>
   have aL:∀Z2 y y' h2 H2,Ext Z1 H1 Z2 H2->aQ T Z2 h2 H2->aJ T Z2 H2 y y'->W T (aJ T) (sQ (.ref n) y h2) Z2 H2 Q E->Tz (.ref p) [y'] H2 Q:=λZ2 y y' h2 H2 e2 R2 q2 w2=>by
    have q':=e2.pre n p q;simp only[sQ]at w2;cases ob:h2.ob n with
    |none=>rw[ob]at w2;exact w2.elim|some u=>
     rw[ob]at w2;cases u with
     |lst mu xs=>
      cases mu with
      |true=>
       obtain⟨ys,g1,r1⟩:=R2.obj n _ p ob q';by_cases hz:xs.length<sizeLine
       .simp only[if_pos hz]at w2;obtain⟨R3,e3⟩:=R2.write (o':=.lst true (xs++[y])) (O':=.lst (ys++[y'])) ob rfl rfl q' g1 (λ_ z=>by cases z) (λ_ _ z=>by cases z)
         ⟨_,fQ,(r1.append (.cons q2 .nil)).ext (Wu g1 (λ_ z=>by cases z) (λ_ _ z=>by cases z))⟩
        exact⟨p,ys,y',rfl,rfl,g1,by rw[<- r1.length];exact hz,W.ok w2 e3 R3 .aB⟩
       .simp only[if_neg hz]at w2;exact w2.elim
      |false=>exact w2.elim
     |aO _=>exact w2.elim|ins _ _=>exact w2.elim|xo _=>exact w2.elim
   refine⟨.inl ⟨rfl,?_⟩,rb Z1 U U' h1 H1 _ R1 (S.ext e1) (W.bind w1' λZ2 y y' h2 H2 e2 R2 q2 w2=>aL Z2 y y' h2 H2 e2 R2 q2 w2)⟩;simp only[gP]at hL;cases ob:h1.ob n with
   |none=>rw[ob]at hL;cases hL|some u=>
    cases u with
    |lst mu xs=>obtain⟨ys,g1,_⟩:=mP R1 ob q;exact⟨ys,by rw[hK];exact g1⟩
    |aO _=>rw[ob]at hL;cases hL|ins _ _=>rw[ob]at hL;cases hL|xo _=>rw[ob]at hL;cases hL
 |_=>cases hL
def Ie(P:Program)(w:World)(K:W.Frag)(a:Addr)(kvs:List (Str×Int)):Prop:=∀h:Heap,K.In h->StrTab P w h a (kvs.map λp=>(PyData.str p.1,PyData.int p.2))
def getOf(kvs:List (Str×Int))(x:Str)(z:Int):Int:=(kvs.lookup x).getD z
def g6:AV->Option (List (Str×Int))
 |.lI kvs=>some kvs
 |_=>none
def ZS:List AV->Option (Str×Int)
 |[.str s,.int z]=>some (s,z)
 |_=>none
def F2(o:M AV)(r:M (List AV)):M AV:=o.bind λx h=>match g6 x with
 |some kvs=>(r.bind λxs h2=>match ZS xs with
  |some (s,z)=>.ok (.int (getOf kvs s z)) h2
  |none=>.bad) h
 |none=>.bad
end
section
variable {X:Cx}{T:Tab}{E:XK}{o v:Expr}{ma mb:aE->M AV}{f:Str}{pos pos':Pos}{Z:List Addr}{H:Hp}
theorem Nl{v:AV}:∀{fs:List (Str×AV)} {ys:List V},aT T Z H (fs.map (·.2)) ys->fs.lookup f=some v->∃y,((fs.map (·.1)).zip ys).lookup f=some y/\aJ T Z H v y
 |[],_,_,l=>by cases l
 | (k,x)::fs,_,.cons h hs,l=>by
  rw[List.lookup_cons]at l;rw[List.map_cons,List.zip_cons_cons,List.lookup_cons];cases hb:(f==k) with
  |true=>simp only[hb]at l ⊢;cases l;exact⟨_,rfl,h⟩
  |false=>simp only[hb]at l ⊢;exact Nl hs l
def sT(cs:List Nat)(f:Str)(x:AV):M AV:=λh=>match x with
 |.ref n=>match h.ob n with
  |some (.ins c fs)=>if cs.contains c=true then match fs.lookup f with
   |some v=>.ok v h
   |none=>.bad
   else .bad
  |_=>.bad
 |_=>.bad
def og(K:W.Frag)(T:Tab)(cs:List Nat)(f:Str):Prop:=∀c C,cs.contains c=true->T.C c=some C->hG K C/\rX K C f
theorem PM{cs:List Nat}(hC:og X.K T cs f)(ho:QE X T E o ma)(hb:gI o=true):QE X T E (.Attribute o f pos) (λU=>(ma U).bind (sT cs f)):=by
 obtain⟨ta,pa,ra⟩:=ho;refine⟨_,MI pa (vT hb),λZ U U' h H Q R S w=>ra Z U U' h H _ R S (W.bind w λZ1 x x' h1 H1 e1 R1 q1 w1=>?_)⟩;cases x with
 |ref n=>
  cases q1 with
  |@ref _ p q=>
   simp only[sT]at w1;cases ob:h1.ob n with
   |none=>rw[ob]at w1;exact w1.elim|some u=>
    rw[ob]at w1;cases u with
    |ins c fs=>
     obtain⟨C,dx,ks,ys,hc,g,rfl,r⟩:=R1.obj n _ p ob q;by_cases hm:cs.contains c=true
     case neg=>simp only[if_neg hm]at w1;exact w1.elim
     simp only[if_pos hm]at w1;cases l:fs.lookup f with
     |none=>rw[l]at w1;exact w1.elim|some v=>rw[l]at w1;obtain⟨y,l2,ry⟩:=Nl r l;obtain⟨h1,h2⟩:=hC c C hm hc;exact⟨p,C,dx,_,y,rfl,g,h1,h2,l2,W.here w1 R1 ry⟩
    |_=>exact w1.elim
 |_=>exact w1.elim
def cH(f:Str)(v:AV):List (Str×AV)->List (Str×AV)
 |[]=>[(f,v)]
 | (g,x)::r=>if g=f then(g,v)::r else(g,x)::cH f v r
theorem Rb{v:AV}{y:V}(rv:aJ T Z H v y):∀{fs:List (Str×AV)} {ys:List V},aT T Z H (fs.map (·.2)) ys->∃ys',eS f y ((fs.map (·.1)).zip ys)=((cH f v fs).map (·.1)).zip ys'/\aT T Z H ((cH f v fs).map (·.2)) ys'
 |[],_,.nil=>⟨[y],rfl,.cons rv .nil⟩
 | (k,x)::fs,_,.cons (y:=z) (ys:=zs) h hs=>by
  obtain⟨ys',e,r⟩:=Rb rv hs;by_cases hk:k=f
  .refine⟨y::zs,?_,?_⟩
   .simp only[cH,if_pos hk,List.map_cons,List.zip_cons_cons,eS]
   .simp only[cH,if_pos hk,List.map_cons];exact .cons rv hs
  .refine⟨z::ys',?_,?_⟩
   .simp only[cH,if_neg hk,List.map_cons,List.zip_cons_cons,eS,e]
   .simp only[cH,if_neg hk,List.map_cons];exact .cons h r
def mf(cs:List Nat)(f:Str)(x v:AV)(h:AH):Option AH:=match x with
 |.ref n=>match h.ob n with
  |some (.ins c fs)=>if cs.contains c=true/\fs.length<1000 then some (h.put n (.ins c (cH f v fs))) else none
  |_=>none
 |_=>none
def Nk(cs:List Nat)(f:Str)(a b:M AV)(U:aE):M Out:=b.bind λv=>a.bind λx h=>match mf cs f x v h with
 |some h'=>.ok (.nx U) h'
 |none=>.bad
theorem UG{cs:List Nat}(hC:og X.K T cs f)(ho:QE X T E o ma)(hv:QE X T E v mb)(hs:swapsWith v (some (.Attribute o f pos')) pos.line X.env=pure false) :
  QS X T E (.Assign [.Attribute o f pos'] v pos) (λU=>Nk cs f (ma U) (mb U) U):=by
 obtain⟨ta,pa,ra⟩:=ho;obtain⟨tb,pb,rb⟩:=hv;refine⟨_,NV pa pb hs,λZ U U' h H D R S w=>rb Z U U' h H _ R S (W.bind w λZ1 y y' h1 H1 e1 R1 q1 w1=>ra Z1 U U' h1 H1 _ R1 (S.ext e1) (W.bind w1 λZ2 x x' h2 H2 e2 R2 q2 w2=>?_))⟩;have w3:W T (RO T) (match mf cs f x y h2 with
  |some h'=>.ok (.nx U) h'
  |none=>.bad) Z2 H2 (eG D) E:=w2
 cases x with
 |ref n=>
  cases q2 with
  |@ref _ p q=>
   simp only[mf]at w3;cases ob:h2.ob n with
   |none=>simp only[ob]at w3;exact w3.elim|some u=>
    simp only[ob]at w3;cases u with
    |ins c fs=>
     obtain⟨C,dx,ks,ys,hc,g,rfl,r⟩:=R2.obj n _ p ob q;by_cases hm:cs.contains c=true/\fs.length<1000
     case neg=>simp only[if_neg hm]at w3;exact w3.elim
     simp only[if_pos hm]at w3;obtain⟨c1,c2⟩:=hC c C hm.1 hc;have rv:=q1.ext e2;obtain⟨ys',ez,rz⟩:=Rb (f:=f) rv r;have ex:=Wu (Z:=Z2) (p:=p) (O':=.ins C dx (((cH f y fs).map (·.1)).zip ys')) g (λ_ z=>by cases z) (λ_ _ z=>by cases z);obtain⟨R3,e3⟩:=R2.write (o':=.ins c (cH f y fs)) (O':=.ins C dx (((cH f y fs).map (·.1)).zip ys')) ob rfl rfl q g (λ_ z=>by cases z) (λ_ _ z=>by cases z)
      ⟨C,dx,_,ys',hc,fQ,rfl,rz.ext ex⟩
     refine⟨p,C,dx,_,rfl,g,c1,c2,?_,?_⟩
     .rw[List.length_zip,List.length_map];omega
     .rw[ez];exact W.ok (Q:=eG D) (b:=dR.nx U') w3 e3 R3 ((S.ext e1).ext (e2.trans e3))
    |_=>exact w3.elim
 |_=>exact w3.elim
structure rW(X:Cx)(T:Tab)(EE:L2.St->XK)(C:Addr)(m:Str)(g:List AV->M AV):Prop where
 ex:∃(k:Nat) (f:Addr) (fd:FuncData) (ps:List Str),dX X.prog X.w X.K X.mg X.base (eI X.prog X.w) k f fd ps (lU T g)/\cR k X.A/\hG X.K C/\Meth X.K C m f/\Binds X.K fd ps []/\Ih (eI X.prog X.w) X EE
def Vm(X:Cx)(T:Tab)(m:Str)(EE:L2.St->XK)(ta:TE)(t:TA):TE:=λU H Q=>ta U H λx H1=>∃(a C dx:Addr) (fs:List (Str×V)) (g:List AV->M AV),x = .ref a/\H1 a=some (.ins C dx fs)/\fs.lookup m=none/\rW X T EE C m g /\
 t U H1 λvs H2=>lU T g (x::vs) H2 Q (EE U)
variable {EE:L2.St->XK}
variable {e:Expr}{es:List Expr}{m:Str}{apos:Pos}{mr:aE->M (List AV)}{ta:TE}{t:TA}
theorem Ax{env:Env}{args:List Expr}{A:Around}{Xe:Value->Shared->Prop}{s:Shared}{Q:Value->Shared->Prop}(h0:attributeBase o m env (eval o env)=eval o env)
  (h1:methodCallForm (args.length+([]:List Keyword).length) (backTo pos (starEach args env)) (backToKw pos (keywordEach [] env))=true) (h2:(apos.endLine==pos.line)=true)
  (h:wpAny (model X.prog X.w) A (eval o env) (λov s1=>∀pl,wpAny (model X.prog X.w) A (getMethod ov m pl) (λfx s2=>wpAny (model X.prog X.w) A (callWith pos fx.1 fx.2 (backTo pos (starEach args env)) (backToKw pos (keywordEach [] env))) Q Xe s2) Xe s1) Xe s) :
  wpAny (model X.prog X.w) A (eval (.Call (.Attribute o m apos) args [] pos) env) Q Xe s:=by
 have h3:methodCallPos true o env apos pos=pure pos:=by unfold methodCallPos;simp[h2]
 rw[arm_eval_Call,h0];refine wpAny_bind (aM h λov s1 z=>wpAny_bind (wpAny_standAt ?_));unfold methodCall;rw[h1];refine wpAny_bind (wpAny_holding (aM (z _) λfx s2 y=>?_));exact wpAny_bind (wpAny_of_eq h3 y)
theorem Bq{args:List Expr}{env:Env}(hs:args.all aY=true)(hn:args.length<30):methodCallForm (args.length+([]:List Keyword).length) (backTo pos (starEach args env)) (backToKw pos (keywordEach [] env))=true:=by unfold methodCallForm;rw[<- List.not_any_eq_all_not,nE hs];simpa[keywordEach,backToKw]using hn
theorem MO(he:PE X o ta)(ha:PA X (e::es) t)(hb:gI o=true)(hs:(e::es).all aY=true)(hn:(e::es).length<30)(hl:(apos.endLine==pos.line)=true):PE X (.Call (.Attribute o m apos) (e::es) [] pos) (Vm X T m EE ta t):=by
 intro pins s U H Q I h;have hs':=hs;rw[List.all_cons,Bool.and_eq_true]at hs;refine Ax (vT hb) ?_ hl (aM (he pins s U H _ I h) λu s1 ⟨x,H1,I1,rx,a,C,dx,fs,g,ex,ea,l,F,q⟩ pl=>?_)
 .exact Bq hs' hn
 subst ex;obtain rfl:u=Value.ref a:=rx;obtain⟨k,f,fd,ps,F,hr,c,hm,hbi,hx⟩:=F.ex;refine Oo I1 ea c hm l ?_;refine W.callWith_K (first:=[.ref a]) (h₀:=X.base) I.ok.mod.wI hm.kp (aM (ha pos pins s1 U H1 _ I1 q) λus s2 ⟨vs,H2,I2,r,q2⟩=>⟨I2.cB,?_⟩) (cZ hs.1) (nE hs.2);exact Uu (us:=.ref a::us) (vs:=.ref a::vs) F hr hbi hx I2 (.cons rfl r) q2
theorem MP(he:PE X o ta)(hb:gI o=true)(hl:(apos.endLine==pos.line)=true):PE X (.Call (.Attribute o m apos) [] [] pos) (Vm X T m EE ta rQ):=by intro pins s U H Q I h;refine Ax (vT hb) (Bq rfl (by decide)) hl (aM (he pins s U H _ I h) λu s1 ⟨x,H1,I1,rx,a,C,dx,fs,g,ex,ea,l,F,q⟩ pl=>?_);subst ex;obtain rfl:u=Value.ref a:=rx;obtain⟨k,f,fd,ps,F,hr,c,hm,hbi,hx⟩:=F.ex;refine Oo I1 ea c hm l ?_;exact W.callWith_K0 (first:=[.ref a]) I1.cB hm.kp (Uu (us:=[.ref a]) (vs:=[.ref a]) F hr hbi hx I1 (.cons rfl .nil) q)
def gz(dp:Nat->Option (List AV->M AV))(m:Str)(r:M (List AV))(x:AV):M AV:=λh=>match x with
 |.ref n=>match h.ob n with
  |some (.ins c fs)=>match dp c,fs.lookup m with
   |some g,none=>(r.bind λxs=>g (.ref n::xs)) h
   |_,_=>.bad
  |_=>.bad
 |_=>.bad
def tf(dp:Nat->Option (List AV->M AV))(m:Str)(a:M AV)(r:M (List AV)):M AV:=a.bind (gz dp m r)
theorem Nm:∀{fs:List (Str×AV)} {ys:List V},aT T Z H (fs.map (·.2)) ys->fs.lookup f=none->((fs.map (·.1)).zip ys).lookup f=none
 |[],_,.nil,_=>rfl
 | (k,x)::fs,_,.cons h hs,l=>by
  rw[List.lookup_cons]at l;rw[List.map_cons,List.zip_cons_cons,List.lookup_cons];cases hb:(f==k) with
  |true=>simp only[hb]at l;cases l|false=>simp only[hb]at l ⊢;exact Nm hs l
theorem Pz{dp:Nat->Option (List AV->M AV)}{r:M (List AV)}{x:AV}{x':V}{h:AH}{Q:VK}{U':L2.St}(hM:∀c C g,dp c=some g->T.C c=some C->rW X T EE C m g)(R:aQ T Z h H)(q:aJ T Z H x x')
  (w:W T (aJ T) (gz dp m r x h) Z H Q (EE U')) (rr:∀Q',W T (aT T) (r h) Z H Q' (EE U')->t U' H Q') :
  ∃(a C dx:Addr) (fs:List (Str×V)) (g:List AV->M AV),x' = .ref a/\H a=some (.ins C dx fs)/\fs.lookup m=none/\rW X T EE C m g/\t U' H λvs H2=>lU T g (x'::vs) H2 Q (EE U'):=by
 unfold gz at w;cases x with
 |ref n=>
  cases q with
  |@ref _ p q=>
   cases ob:h.ob n with
   |none=>simp only[ob]at w;exact w.elim|some u=>
    simp only[ob]at w;cases u with
    |ins c fs=>
     obtain⟨C,dx,ks,ys,hc,g1,rfl,r1⟩:=R.obj n _ p ob q;cases hd:dp c with
     |none=>simp only[hd]at w;exact w.elim|some g=>
      cases l:fs.lookup m with
      |some v=>simp only[hd,l]at w;exact w.elim|none=>simp only[hd,l]at w;exact⟨p,C,dx,_,g,rfl,g1,Nm r1 l,hM c C g hd hc,rr _ (W.bind w λZ2 xs bS h2 H2 e2 R2 q2 w2=>⟨Z2,h2,.ref n::xs,R2,.cons (.ref (e2.pre n p q)) q2,w2⟩)⟩
    |_=>exact w.elim
 |_=>exact w.elim
theorem PZ{dp:Nat->Option (List AV->M AV)}(hM:∀c C g,dp c=some g->T.C c=some C->rW X T (λ_=>E) C m g)(ho:QE X T E o ma)(ha:QA X T E (e::es) mr)(hb:gI o=true)(hs:(e::es).all aY=true)
  (hn:(e::es).length<30) (hl:(apos.endLine==pos.line)=true):QE X T E (.Call (.Attribute o m apos) (e::es) [] pos) (λU=>tf dp m (ma U) (mr U)):=by
 obtain⟨ta,pa,ra⟩:=ho;obtain⟨tr,pr,rr⟩:=ha;exact⟨_,MO (T:=T) (EE:=λ_=>E) pa pr hb hs hn hl,λZ U U' h H Q R S w=>ra Z U U' h H _ R S (W.bind w λZ1 x x' h1 H1 e1 R1 q1 w1=>Pz hM R1 q1 w1 λQ' w2=>rr Z1 U U' h1 H1 _ R1 (S.ext e1) w2)⟩
theorem QB{dp:Nat->Option (List AV->M AV)}(hM:∀c C g,dp c=some g->T.C c=some C->rW X T (λ_=>E) C m g)(ho:QE X T E o ma)(hb:gI o=true)(hl:(apos.endLine==pos.line)=true) :
  QE X T E (.Call (.Attribute o m apos) [] [] pos) (λU=>tf dp m (ma U) (M.ret [])):=by
 obtain⟨ta,pa,ra⟩:=ho;exact⟨_,MP (T:=T) (EE:=λ_=>E) pa hb hl,λZ U U' h H Q R S w=>ra Z U U' h H _ R S (W.bind w λZ1 x x' h1 H1 e1 R1 q1 w1=>Pz (t:=rQ) hM R1 q1 w1 λQ' w2=>W.here w2 R1 .nil)⟩
structure zl(X:Cx)(T:Tab)(E:XK)(x:Str)(c:Nat)(dv:List AV)(g:List AV->M AV):Prop where
 ex:∃(k:Nat) (C f:Addr) (fd:FuncData) (ps:List Str) (ds:List Value) (dvs:List V),T.C c=some C/\Mk X.K C f/\dX X.prog X.w X.K X.mg X.base (eI X.prog X.w) k f fd ps (lU T g)/\cR (k+1) X.A/\X.mg x=some (.ref C)/\Binds X.K fd ps ds /\
  Vals dvs ds/\(∀Z H,aT T Z H dv dvs)/\lA (eI X.prog X.w) X E
def Cc:AV->Bool
 |.aB=>true
 |_=>false
def sx(c:Nat)(dv:List AV)(g:List AV->M AV)(r:M (List AV)):M AV:=r.bind λxs h=>((g (.ref h.nx::(xs++dv))).bind λv=>if Cc v=true then M.ret (.ref h.nx) else M.bad) (h.new (.ins c []))
theorem Px{c:Nat}{C a dx:Addr}{g:List AV->M AV}{xs:List AV}{ys:List V}{h:AH}{Q:VK}(hc:T.C c=some C)(R:aQ T Z h H)(r:aT T Z H xs ys)(h1:H a=none)(h2:H dx=none)(h3:dx≠a)
  (w:W T (aJ T) (((g (.ref h.nx::xs)).bind λv=>if Cc v=true then M.ret (.ref h.nx) else M.bad) (h.new (.ins c []))) Z H Q E) :
  lU T g (.ref a::ys) (aR (aR H dx (.own a)) a (.ins C dx [])) (λv H2=>v = .aB/\Q (.ref a) H2) E:=by
 have R1:=R.keep (a:=dx) (o:=.own a) h2;have e1:Ext Z H Z (aR H dx (.own a)):=.gG h2;have hn:(aR H dx (.own a)) a=none:=by rw[bP (Ne.symm h3)];exact h1
 obtain⟨R2,e2⟩:=R1.alloc (a:=a) (o:=.ins c []) (O:=.ins C dx []) hn ⟨C,dx,[],[],hc,fQ,rfl,.nil⟩;have e:=e1.trans e2;have hq:(Z++[a])[h.nx]?=some a:=by rw[<- R.len];simp
 refine⟨Z++[a],h.new (.ins c []),.ref h.nx::xs,R2,.cons (.ref hq) (r.ext e),W.bind (w.ext e) λZ3 v v' h3 H3 e3 R3 q3 w3=>?_⟩;cases v with
 |aB=>cases q3;exact⟨rfl,W.here w3 R3 (.ref (e3.pre _ _ hq))⟩
 |_=>exact w3.elim
theorem PX{x:Str} {p:Pos} {c:Nat} {dv:List AV} {g:List AV->M AV} (F:zl X T E x c dv g) (hg:Gl X x) (ha:QA X T E (e::es) mr) (hs:(e::es).all aY=true) (hd:(x==("__debug__":Str))=false) :
  QE X T E (.Call (.Name x p) (e::es) [] pos) (λU=>sx c dv g (mr U)):=by
 obtain⟨k,C,f,fd,ps,ds,dvs,hc,K,F,hr,hm,hb,hv,hdv,hx⟩:=F.ex;obtain⟨tr,pr,rr⟩:=ha;rw[List.all_cons,Bool.and_eq_true]at hs;refine⟨_,MM K F hr hg hm hb hv hx pr hd (cZ hs.1) (nE hs.2),λZ U U' h H Q R S w=>rr Z U U' h H _ R S (W.bind w λZ1 xs bS h1 H1 e1 R1 q1 w1=>λa dx n1 n2 n3=>?_)⟩;exact Px hc R1 (q1.append (hdv _ _)) n1 n2 n3 w1
theorem PY{x:Str} {p:Pos} {c:Nat} {dv:List AV} {g:List AV->M AV} (F:zl X T E x c dv g) (hg:Gl X x) (hd:(x==("__debug__":Str))=false) :
  QE X T E (.Call (.Name x p) [] [] pos) (λU=>sx c dv g (M.ret [])):=by
 obtain⟨k,C,f,fd,ps,ds,dvs,hc,K,F,hr,hm,hb,hv,hdv,hx⟩:=F.ex;exact⟨_,MN K F hr hg hm hb hv hx hd,λZ U U' h H Q R S w=>λa dx n1 n2 n3=>Px hc R (hdv _ _) n1 n2 n3 w⟩
def Xl(f:Str)(n c:Nat)(i:Int)(U:aE)(y:AV):M Out:=λh=>match y with
 |.int j=>match h.ob n with
  |some (.ins c' fs)=>if c'=c/\fs.length<1000 then .ok (.nx U) (h.put n (.ins c (cH f (.int (i+j)) fs))) else .bad
  |_=>.bad
 |_=>.bad
def E2(cs:List Nat)(f:Str)(a b:M AV)(U:aE):M Out:=a.bind λx h=>match x with
 |.ref n=>match h.ob n with
  |some (.ins c fs)=>if cs.contains c=true then match fs.lookup f with
   |some (.int i)=>(b.bind (Xl f n c i U)) h
   |_=>.bad
   else .bad
  |_=>.bad
 |_=>.bad
structure oi(K:W.Frag)(C:Addr):Prop where
 cl:hG K C
 ha:W.findIn K (.ref C) "__class__"=some (some (.builtin "object.__class__"))
 hn:W.specialIn K (.builtin "object.__class__") "__get__"=some (some (.builtin "getset_descriptor.__get__"))
 ht:W.takesIn K (.builtin "object.__class__")=some true
 hm:W.mroIn K C (.type "object")=some true
theorem Yd{vd:V}{d:Value}(hv:∀u,RelV vd u->u=d):eB X (.builtin "isinstance") (λxs H Q=>∃(a C dx:Addr) (fs:List (Str×V)) (b:Bool),xs=[.ref a,vd]/\H a=some (.ins C dx fs)/\oi X.K C/\W.kitOne X.K (.ref C) d=some b/\Q (.bl b) H):=by intro pins st U H xs us Q I r h;obtain⟨a,C,dx,fs,b,rfl,g,c,hk,q⟩:=h;obtain⟨u,u2,rfl,r1,r2⟩:=dk r;obtain rfl:=hv u2 r2;exact GV I r1 (.ins g c.cl c.ha c.hn c.ht c.hm) hk λtk=>⟨.bl _,H,I.tok tk,rfl,q⟩
def rg(cs:List (Nat×Bool))(x:AV):M AV:=λh=>match x with
 |.ref n=>match h.ob n with
  |some (.ins c _)=>match cs.lookup c with
   |some b=>.ok (.bl b) h
   |none=>.bad
  |_=>.bad
 |_=>.bad
theorem PR{y:Str} {p p2:Pos} {vd:V} {d:Value} {cs:List (Nat×Bool)} (hv:∀u,RelV vd u->u=d) (hg:Gl X "isinstance") (hm:X.mg "isinstance"=none) (py:PE X (.Name y p2) (tC vd))
  (hcs:∀k b,cs.lookup k=some b->∃C,T.C k=some C/\oi X.K C/\W.kitOne X.K (.ref C) d=some b) (ha:QE X T E o ma) (hs:aY o=true) :
  QE X T E (.Call (.Name "isinstance" p) [o,.Name y p2] [] pos) (λU=>(ma U).bind (rg cs)):=by
 obtain⟨ta,pa,ra⟩:=ha;refine⟨_,wO (Yd hv) hg hm boot_isinstance (iU pa (iU py mS) (cZ hs)) (by decide) (by decide) (cZ hs) rfl,λZ U U' h H Q R S w=>?_⟩;refine ra Z U U' h H _ R S (W.bind w λZ1 x x' h1 H1 e1 R1 q1 w1=>?_);unfold rg at w1;cases x with
 |ref n=>
  dsimp only at w1;cases q1 with
  |@ref _ p q=>
   cases ob:h1.ob n with
   |none=>rw[ob]at w1;exact w1.elim|some u=>
    rw[ob]at w1;cases u with
    |ins c fs=>
     dsimp only at w1;cases l:cs.lookup c with
     |none=>rw[l]at w1;exact w1.elim|some b=>rw[l]at w1;obtain⟨C,dx,ks,ys,hc,g1,_,_⟩:=R1.obj n _ p ob q;obtain⟨C',hc',hx,hk⟩:=hcs c b l;rw[hc]at hc';cases hc';exact⟨p,C,dx,_,b,rfl,g1,hx,hk,w1.here R1 (.bl _)⟩
    |_=>exact w1.elim
 |_=>exact w1.elim
def E3(sub:Bool)(i:Nat)(b:M AV)(U:aE):M Out:=match U[i]? with
 |some (some (.int a))=>b.bind λy=>match y with
  |.int j=>M.ret (.nx (U.set i (some (.int (if sub=true then a-j else a+j)))))
  |_=>M.bad
 |_=>M.bad
structure Ib(X:Cx)(T:Tab)(E:XK)(x m:Str)(g:List AV->M AV):Prop where
 ex:∃(k:Nat) (C f:Addr) (fd:FuncData) (ps:List Str),X.mg x=some (.ref C)/\dX X.prog X.w X.K X.mg X.base (eI X.prog X.w) k f fd ps (lU T g)/\cR k X.A/\W.keepIn X.K (.ref f)=true /\
  W.specialIn X.K (.ref C) "__getattribute__"=some (some (.builtin "type.__getattribute__"))/\W.readsIn X.K C (.type "type")=true/\W.findCls X.K (.ref C) (.type "type") m=some (.val (.ref f))/\W.handedIn (.ref f)=true /\
  Binds X.K fd ps []/\lA (eI X.prog X.w) X E
theorem PF{x:Str} {p:Pos} {g:List AV->M AV} (B:Ib X T E x m g) (hg:Gl X x) (hd:(x==("__debug__":Str))=false) (ha:QA X T E (e::es) mr) (hs:(e::es).all aY=true) (hn:(e::es).length<30)
  (hl:(apos.endLine==pos.line)=true):QE X T E (.Call (.Attribute (.Name x p) m apos) (e::es) [] pos) (λU=>(mr U).bind g):=by
 obtain⟨k,C,f,fd,ps,hm,F,hr,kp,h1,h2,h3,h4,hb,hx⟩:=B.ex;obtain⟨tr,pr,rr⟩:=ha;refine⟨λU H Q=>tr U H λvs H2=>lU T g vs H2 Q E,?_,λZ U U' h H Q R S w=>rr Z U U' h H _ R S (W.bind w λZ1 xs bS h1 H1 e1 R1 q1 w1=>⟨Z1,h1,xs,R1,q1,w1⟩)⟩;intro pins s U H Q I h;have hs':=hs;rw[List.all_cons,Bool.and_eq_true]at hs;refine Ax (vT rfl) (Bq hs' hn) hl (aM ((Dg (v:=.ref C) hg hm rfl hd) pins s U H (λy H1=>y = .ref C/\tr U H1 λvs H2=>lU T g vs H2 Q E) I ⟨rfl,h⟩) λu s1 ⟨y,H1,I1,ry,ey,q⟩ pl=>?_);subst ey;obtain rfl:u=Value.ref C:=ry;refine W.method_cls I1.cB h1 (W.cls_value I1.cB h2 h3 h4 ?_);refine W.callWith_K (first:=[]) (h₀:=X.base) I.ok.mod.wI kp (aM (pr pos pins _ U H1 _ (I1.tok _) q) λus s2 ⟨vs,H2,I2,r,q2⟩=>⟨I2.cB,?_⟩) (cZ hs.1) (nE hs.2);exact Gq (us:=us) (vs:=vs) (dvs:=[]) F hr hb .nil hx I2 r (by rw[List.append_nil];exact q2)
end
section
variable {X:Cx}{T:Tab}{E:XK}{o:Expr}{ma:aE->M AV}{pos apos:Pos}
def E8(x:AV):M AV:=λh=>match x with
 |.ref n=>match h.ob n with
  |some (.lst true _)=>.ok .aB (h.put n (.lst true []))
  |_=>.bad
 |_=>.bad
def E9(x:AV):M AV:=λh=>match x with
 |.ref n=>match h.ob n with
  |some (.lst true xs)=>match xs[xs.length-1]? with
   |some y=>.ok y (h.put n (.lst true xs.dropLast))
   |none=>.bad
  |_=>.bad
 |_=>.bad
def Bd:M AV:=λh=>.ok (.ref h.nx) (h.new (.aO []))
theorem PL:QE X T E (.Dict [] [] pos) (λ_=>Bd):=by refine⟨_,MH,λZ U U' h H Q R S w p hp=>?_⟩;obtain⟨R1,e1⟩:=R.alloc (a:=p) (o:=.aO []) (O:=.dK []) hp ⟨[],[],fQ,rfl,.nil⟩;refine W.ok (a:=AV.ref h.nx) (b:=V.ref p) w e1 R1 (.ref ?_);rw[<- R.len];simp
def ql(g:AV->List AV->M AV)(a:M AV)(r:M (List AV)):M AV:=a.bind λx h=>if(dS h x).isSome=true then(r.bind λxs=>g x xs) h else .bad
variable {e:Expr}{es:List Expr}{mr:aE->M (List AV)}
theorem PJ{m:Str} {id:String} {r:V->List V->Hp->VK->Prop} {g:AV->List AV->M AV} (slot:Slot "dict" m id) (hty:typeOf (.builtin id)=pure (.type "method_descriptor")) (hm:zt X id r)
  (hg:∀Z h H x x' xs bS Q,aQ T Z h H->aJ T Z H x x'->aT T Z H xs bS->W T (aJ T) (g x xs h) Z H Q E->r x' bS H Q)
  (ho:QE X T E o ma) (ha:QA X T E (e::es) mr) (hb:gI o=true) (hs:(e::es).all aY=true) (hn:(e::es).length<29) (hl:(apos.endLine==pos.line)=true) :
  QE X T E (.Call (.Attribute o m apos) (e::es) [] pos) (λU=>ql g (ma U) (mr U)):=by
 obtain⟨ta,pa,ra⟩:=ho;obtain⟨tr,pr,rr⟩:=ha;have hs':=hs;rw[List.all_cons,Bool.and_eq_true]at hs;have hany:=nE (env:=X.env) (pos:=pos) hs';refine⟨_,Qr PySem.F.plainAttrs_dict slot hty hm pa pr (vT hb) ?_ hl (cZ hs.1) (nE hs.2),λZ U U' h H Q R S w=>?_⟩
 .rw[<- List.not_any_eq_all_not,hany];simp only[keywordEach,backToKw,List.map_nil,List.all_nil,List.length_nil,List.isEmpty_nil,if_true,Bool.not_false,Bool.true_and,decide_eq_true_eq];omega
 refine ra Z U U' h H _ R S (W.bind w λZ1 x x' h1 H1 e1 R1 q1 w1=>?_);have w1':W T (aJ T) (if(dS h1 x).isSome=true then((mr U).bind λxs=>g x xs) h1 else .bad) Z1 H1 Q E:=w1;by_cases hd:(dS h1 x).isSome=true
 case neg=>rw[if_neg hd]at w1';exact w1'.elim
 rw[if_pos hd]at w1';obtain⟨kvs,hd⟩:=Option.isSome_iff_exists.mp hd;obtain⟨n,a,us,rfl,q,ob,rfl,gd,rk⟩:=wC R1 q1 hd;refine⟨.inr (.inr (.inl ⟨rfl,.inl ⟨us,gd⟩⟩)),rr Z1 U U' h1 H1 _ R1 (S.ext e1) (W.bind w1' λZ2 xs bS h2 H2 e2 R2 q2 w2=>?_)⟩;exact hg Z2 h2 H2 _ _ xs bS Q R2 (.ref (e2.pre n a q)) q2 w2
def sR(x:AV)(xs:List AV):M AV:=λh=>match dS h x with
 |some kvs=>match xs with
  |[y]=>match fL y with
   |some k=>.ok ((bC kvs k).getD .aB) h
   |none=>
    if fK y=true then .ok .aB h else
    .bad
  |[y,z]=>match fL y with
   |some k=>.ok ((bC kvs k).getD z) h
   |none=>.bad
  |_=>.bad
 |none=>.bad
def F3:AV->Nat
 |.ref n=>n
 |_=>0
theorem Zn(Z:List Addr)(h:AH)(H:Hp)(x:AV)(x':V)(xs:List AV)(bS:List V)(Q:VK)(R:aQ T Z h H)(rx:aJ T Z H x x')(rs:aT T Z H xs bS)(w:W T (aJ T) (sR x xs h) Z H Q E):Ub x' bS H Q:=by
 unfold sR at w;cases d:dS h x with
 |none=>simp only[d]at w;exact w.elim|some kvs=>
  simp only[d]at w;obtain⟨n,a,us,rfl,q,ob,rfl,gd,rk⟩:=wC R rx d;cases rs with
  |nil=>exact w.elim|@cons y y' ys ys' ry rs=>
   have aL:∀{k:aK} {z:AV} {z':V},aJ T Z H z z'->aJ T Z H ((bC kvs k).getD z) ((eV us k).getD z'):=λ{k z z'} rz=>by
    obtain⟨g1,g2⟩:=Gp (k:=k) rk;cases l:bC kvs k with
    |none=>rw[g2 l];exact rz|some v=>obtain⟨y1,e1,r1⟩:=g1 v l;rw[e1];exact r1
   cases rs with
   |nil=>
    dsimp only at w;cases k:fL y with
    |none=>
     simp only[k]at w;by_cases hn:fK y=true
     .rw[if_pos hn]at w;have ey:y = .aB:=by cases y<;>first|rfl|cases hn
      subst ey;cases ry;exact .inr ⟨a,_,rfl,gd,rfl,W.here w R .aB⟩
     rw[if_neg hn]at w;exact w.elim
    |some k'=>simp only[k]at w;have ek:=wH ry k;subst ek;refine .inl ?_;exact⟨a,_,_,rfl,fN.k gd,.inl ⟨rfl,W.here w R (aL .aB)⟩⟩
   |@cons z z' zs zs' rz rs=>
    cases rs with
    |nil=>
     dsimp only at w;cases k:fL y with
     |none=>simp only[k]at w;exact w.elim|some k'=>simp only[k]at w;have ek:=wH ry k;subst ek;refine .inl ?_;exact⟨a,_,_,rfl,fN.k gd,.inr ⟨z',rfl,W.here w R (aL rz)⟩⟩
    |cons _ _=>exact w.elim
inductive Dm where
 |get
def Dm.g:Dm->AV->List AV->M AV
 |.get=>sR
def qm(m:Str):Option Dm:=if m="get" then some .get else
 none
theorem Rg{m:Str}{f:Dm}(hf:qm m=some f)(hu:X.A.units+1<cLine)(ho:QE X T E o ma)(ha:QA X T E (e::es) mr)(hb:gI o=true)(hs:(e::es).all aY=true)(hn:(e::es).length<29)(hl:(apos.endLine==pos.line)=true) :
  QE X T E (.Call (.Attribute o m apos) (e::es) [] pos) (λU=>ql f.g (ma U) (mr U)):=by
 unfold qm at hf;split at hf
 case isTrue h=>cases hf;subst h;exact PJ PySem.F.slot_dict_get PySem.F.type_dict_get (IV hu) Zn ho ha hb hs hn hl
 cases hf
end
inductive Op where
 |add|sub|mul|fdiv|mod|pow|shl|shr|band|bor|bxor|ix
def Op.g:Op->AV->AV->M AV
 |.add=>fX | .sub=>rn | .mul=>Oe | .fdiv=>Nu | .mod=>Od | .pow=>Oi | .shl=>Oj | .shr=>Ol | .band=>Nt | .bor=>Oh | .bxor=>Om | .ix=>sW
inductive Cp where
 |eq|ne|lt|le|gt|ge|gQ|isn|qD|nin
def Cp.g:Cp->AV->AV->M AV
 |.eq=>sS | .ne=>sX | .lt=>Oa | .le=>Nz | .gt=>Nw | .ge=>Nv | .gQ=>Bs | .isn=>Bt | .qD=>pW false | .nin=>pW true
inductive Bi where
 |len|int|min|max|divmod|tuple|list
def Bi.g:Bi->List AV->M AV
 |.len=>gi | .int=>Nx | .min=>Oc | .max=>Ob | .divmod=>qy | .tuple=>rq | .list=>rj
inductive CT where
 |bad
 |nm (i:Nat)
 |tup (is:List Nat)
def ox:List Nat->List AV->aE->M aE
 |[]=>Bx
 |i::is=>Bw (λv U=>M.ret (U.set i (some v))) (ox is)
def lB:CT->AV->aE->M aE
 |.bad,_,_=>M.bad
 |.nm i,v,U=>M.ret (U.set i (some v))
 |.tup is,v,U=>sY is.length (ox is) v U
mutual
inductive Ex where
 |gK (imp:List (Option Nat)) (t:CT) (it:Ir) (e:Ex)
 |wA (imp:List (Option Nat)) (t:CT) (it:Ir) (c e:Ex)
 |bad|no
 |var (i:Nat)
 |val (v:AV)
 |op (o:Op) (a b:Ex)
 |cmp (o:Cp) (a b:Ex)
 |chain (o o':Cp) (a b c:Ex)
 |fo (o o' o'':Cp) (a b c d:Ex)
 |neg (a:Ex)
 |not (a:Ex)
 |and (a b:Ex)
 |or (a b:Ex)
 |ite (c a b:Ex)
 |tup (es:dB)
 |lst (es:dB)
 |slice (a lo hi:Ex)
 |call (f:Nat) (es:dB)
 |bi (f:Bi) (es:dB)
 |tB (t:BT) (a:Ex)
 |kc (k:Kc) (a:Ex)
 |fld (cs:List Nat) (f:Str) (o:Ex)
 |gy (m:Str) (dp:List (Nat×Nat)) (o:Ex) (es:dB)
 |make (c i:Nat) (dv:List AV) (es:dB)
 |eR (cs:List (Nat×Bool)) (a:Ex)
 |Ay (i:Nat) (es:dB)
 |mH
 |dm (f:Dm) (o:Ex) (es:dB)
 |app (o a:Ex)
inductive dB where
 |nil
 |cons (e:Ex) (es:dB)
inductive Ir where
 |bad
 |seq (e:Ex)
 |nA (es:dB)
 |enum (e:Ex)
end
abbrev dN:=Nat->List AV->M AV
def gE(e:Ex)(m:M AV):M (Option Int):=match e with
 |.no=>M.ret none
 |_=>m.bind pY
mutual
noncomputable def aG(F:dN):Ex->aE->M AV
 |.bad,_=>M.bad
 |.no,_=>M.bad
 |.var i,U=>sZ i U
 |.val v,_=>M.ret v
 |.op o a b,U=>mR o.g (aG F a U) (aG F b U)
 |.cmp o a b,U=>mR o.g (aG F a U) (aG F b U)
 |.chain o o' a b c,U=>vY o.g o'.g (aG F a U) (aG F b U) (aG F c U)
 |.fo o o' o'' a b c d,U=>vX o.g o'.g o''.g (aG F a U) (aG F b U) (aG F c U) (aG F d U)
 |.neg a,U=>(aG F a U).bind Og
 |.not a,U=>(aG F a U).bind λx=>(cA x).bind λb=>M.ret (.bl (!b))
 |.and a b,U=>Il (aG F a U) (aG F b U)
 |.or a b,U=>Ql (aG F a U) (aG F b U)
 |.ite c a b,U=>sm (cC F c U) (aG F a U) (aG F b U)
 |.tup es,U=>Hl (cK F es U)
 |.lst es,U=>tI (cK F es U)
 |.slice a lo hi,U=>(aG F a U).bind λx=>(gE lo (aG F lo U)).bind λl=>(gE hi (aG F hi U)).bind λu=>lH x l u
 |.call f es,U=>(cK F es U).bind (F f)
 |.bi f es,U=>(cK F es U).bind f.g
 |.tB t a,U=>(aG F a U).bind (rf t)
 |.kc k a,U=>(aG F a U).bind k.g
 |.fld cs f o,U=>(aG F o U).bind (sT cs f)
 |.gy m dp o es,U=>tf (λc=>(dp.lookup c).map F) m (aG F o U) (cK F es U)
 |.make c i dv es,U=>sx c dv (F i) (cK F es U)
 |.eR cs a,U=>(aG F a U).bind (rg cs)
 |.Ay i es,U=>(cK F es U).bind (F i)
 |.mH,_=>Bd
 |.dm f o es,U=>ql f.g (aG F o U) (cK F es U)
 |.app o a,U=>Ab (aG F o U) (aG F a U)
 |.gK imp t it e,U=>sG (bQ F it U) (lB t) (λ_=>M.ret true) (aG F e) imp U
 |.wA imp t it c e,U=>sG (bQ F it U) (lB t) (cC F c) (aG F e) imp U
noncomputable def cC(F:dN):Ex->aE->M Bool
 |.bad,_=>M.bad
 |.no,_=>M.bad
 |.ite _ _ _,_=>M.bad
 |.var i,U=>(sZ i U).bind cA
 |.val v,_=>cA v
 |.op o a b,U=>(mR o.g (aG F a U) (aG F b U)).bind cA
 |.cmp o a b,U=>(mR o.g (aG F a U) (aG F b U)).bind wF
 |.chain o o' a b c,U=>(vY o.g o'.g (aG F a U) (aG F b U) (aG F c U)).bind wF
 |.fo o o' o'' a b c d,U=>(vX o.g o'.g o''.g (aG F a U) (aG F b U) (aG F c U) (aG F d U)).bind wF
 |.neg a,_=>M.bad
 |.not a,U=>(cC F a U).bind λb=>M.ret (!b)
 |.and a b,U=>Ik (cC F a U) (cC F b U)
 |.or a b,U=>Qk (cC F a U) (cC F b U)
 |.tup es,U=>(Hl (cK F es U)).bind cA
 |.lst es,U=>(tI (cK F es U)).bind cA
 |.slice a lo hi,U=>((aG F a U).bind λx=>(gE lo (aG F lo U)).bind λl=>(gE hi (aG F hi U)).bind λu=>lH x l u).bind cA
 |.call f es,U=>((cK F es U).bind (F f)).bind cA
 |.bi f es,U=>((cK F es U).bind f.g).bind cA
 |.tB t a,U=>((aG F a U).bind (rf t)).bind cA
 |.kc k a,U=>((aG F a U).bind k.g).bind cA
 |.fld cs f o,U=>((aG F o U).bind (sT cs f)).bind cA
 |.gy m dp o es,U=>(tf (λc=>(dp.lookup c).map F) m (aG F o U) (cK F es U)).bind cA
 |.make c i dv es,U=>(sx c dv (F i) (cK F es U)).bind cA
 |.eR cs a,U=>((aG F a U).bind (rg cs)).bind cA
 |.Ay i es,U=>((cK F es U).bind (F i)).bind cA
 |.mH,_=>Bd.bind cA
 |.dm f o es,U=>(ql f.g (aG F o U) (cK F es U)).bind cA
 |.app o a,U=>(Ab (aG F o U) (aG F a U)).bind cA
 |.gK imp t it e,U=>(sG (bQ F it U) (lB t) (λ_=>M.ret true) (aG F e) imp U).bind cA
 |.wA imp t it c e,U=>(sG (bQ F it U) (lB t) (cC F c) (aG F e) imp U).bind cA
noncomputable def cK(F:dN):dB->aE->M (List AV)
 |.nil,_=>M.ret []
 |.cons e es,U=>Lq (aG F e U) (cK F es U)
noncomputable def bQ(F:dN):Ir->aE->M dW
 |.bad,_=>M.bad
 |.seq e,U=>(aG F e U).bind sU
 |.nA es,U=>(cK F es U).bind rm
 |.enum e,U=>(aG F e U).bind qz
end
structure Cn where
 N:List Str
 sc:Scope
 fns:List Str
 gj:List (Str×AV)
 eK:List Str
 Wx:List (Str×Nat)
 cat:List (Str×List (Nat×Bool))
 Oy:List (Str×List (Nat×Bool))
 top:Bool:=true
 gM:List (Str×List Nat):=[]
 iF:List (Str×List (Nat×Nat)):=[]
 iE:List ((Str×Nat)×(Nat×Nat×List AV)):=[]
 eR:List (Str×List (Nat×Bool)):=[]
 iA:List (Str×List (Str×Nat)):=[]
def Cn.gl(C:Cn)(x:Str):Bool:=decide (C.sc.names.lookup x=some .globalImplicit)
def qM(x:Str):Bool:=!(x==("__debug__":Str)) && !(x==("__classdict__":Str)) && !(x==("__name__":Str))
def Cn.loc(C:Cn)(x:Str):Bool:=decide (C.sc.names.lookup x=some .local)||decide (C.sc.names.lookup x=some .cell)
def Cn.name(C:Cn)(x:Str):Ex:=if qM x then
  if C.loc x then match C.N.idxOf? x with
   |some i=>.var i
   |none=>.bad
  else if C.gl x then match C.gj.lookup x with
   |some v=>.val v
   |none=>.bad
  else .bad
 else .bad
def Lr:Const->Ex
 |.none=>.val .aB
 |.bool b=>.val (.bl b)
 |.int i=>.val (.int i)
 |.str x=>.val (.str x)
 |_=>.bad
def Kn:Operator->Option Op
 |.Add=>some .add | .Sub=>some .sub | .Mult=>some .mul | .FloorDiv=>some .fdiv | .Mod=>some .mod | .Pow=>some .pow
 |.LShift=>some .shl | .RShift=>some .shr | .BitAnd=>some .band | .BitOr=>some .bor | .BitXor=>some .bxor
 |_=>none
def sJ:CmpOp->Cp
 |.Eq=>.eq | .NotEq=>.ne | .Lt=>.lt | .LtE=>.le | .Gt=>.gt | .GtE=>.ge | .Is=>.gQ | .IsNot=>.isn | .In=>.qD | .NotIn=>.nin
def Am(op:Operator)(a b:Ex):Ex:=match Kn op with
 |some o=>.op o a b
 |none=>.bad
def nO(k:Ex->Ex->Ex):List Ex->Ex
 |[]=>.bad
 |[a]=>a
 |a::r=>k a (nO k r)
def iM:List Ex->dB
 |[]=>.nil
 |e::es=>.cons e (iM es)
def Ku(x:Str):Option BT:=
 if x="int" then some .int else if x="bool" then some .bl else if x="str" then some .str else if x="tuple" then some .tup else if x="list" then some .lst else if x="dict" then some .aO else none
def Km(x:Str):Option Bi:=
 if x="len" then some .len else if x="int" then some .int else if x="min" then some .min else if x="max" then some .max else if x="divmod" then some .divmod else if x="tuple" then some .tuple else if x="list" then some .list else
  none
def Cn.bl(C:Cn)(x:Str):Bool:=C.gl x&&C.eK.contains x&&qM x
def ie:Expr->Option Str
 |.Name x _=>some x
 |_=>none
def Cn.qc(C:Cn)(x:Str)(es:List Expr)(cs:List Ex):Ex:=if qM x&&es.all aY then match C.fns.idxOf? x with
    |some i=>if C.gl x then .call i (iM cs) else .bad
    |none=>match C.iE.lookup (x,es.length) with
     |some (c,i,dv)=>if C.gl x then .make c i dv (iM cs) else .bad
     |none=>match Km x with
      |some f=>if C.bl x && !es.isEmpty then .bi f (iM cs) else .bad
      |none=>if decide (x="isinstance")&&C.bl x then match es,cs with
          |[_,t],[a,_]=>match (ie t).bind λy=>if C.bl y then Ku y else none with
            |some bt=>.tB bt a
            |none=>match (ie t).bind λy=>if qM y&&C.gl y then C.eR.lookup y else none with
              |some cs=>.eR cs a
              |none=>.bad
          |_,_=>.bad
        else .bad
  else .bad
def EF:Nat:=40
def Cn.slot(C:Cn)(x:Str):Option Nat:=if C.loc x then C.N.idxOf? x else none
def cI(C:Cn)(f:Expr->Ex)(tg:Expr)(e:Expr):Ir:=match e with
 |.Call (.Name x _) es [] _=>
  if decide (x="range")&&C.bl x then match es with
   |[a]=>if aY a then .nA (iM ([a].map f)) else .bad
   |_=>.bad
  else if decide (x="enumerate")&&C.bl x then match es,tg with
   |[a],.Tuple _ _ _=>if aY a then .enum (f a) else .bad
   |_,_=>.bad
  else .seq (f e)
 |e=>if aY e then .seq (f e) else .bad
def sI(scope:Scope):List Str:=(scope.names.filter λx=>(x.2==NameKind.local&&x.1 != (".0":Str))||x.2==NameKind.free).map (·.1)
def Um(scope sc:Scope):Scope:=
 { scope with names:=scope.names.map λ(n,k)=>if(k == .free&&sc.kind == .function&&sc.names.lookup n==some .cell) then(n,.cell) else(n,k) }
def Cn.comp(C:Cn)(scope:Scope):Cn:={ C with N:=sI scope,sc:=Um scope C.sc,top:=false }
def Cn.imp(C:Cn)(scope:Scope):List (Option Nat):=(sI scope).map λx=>if decide (scope.names.lookup x=some .free) then C.N.idxOf? x else none
def Cn.mE(C:Cn)(scope:Scope):Bool:=decide (scope.kind = .function)&&scope.names.all (λy=>decide (y.2 ≠ .cell))&&scope.names.all (λy=>decide (y.2 = .local->scope.names.lookup y.1=some .local)) &&
 scope.names.all (λy=>decide (y.2 = .free->C.sc.names.lookup y.1=some .cell))&&decide (sI scope).Nodup
def qh(C:Cn):List Expr->Option (List Nat)
 |[]=>some []
 |.Name x _::r=>if decide (C.sc.names.lookup x=some .local) then match C.N.idxOf? x,qh C r with
   |some i,some l=>some (i::l)
   |_,_=>none
  else none
 |_=>none
def vW(C:Cn)(e:Expr):CT:=match e with
 |.Name x _=>if decide (C.sc.names.lookup x=some .local) then match C.N.idxOf? x with
   |some i=>.nm i
   |none=>.bad
  else .bad
 |.Tuple es _ _=>match qh C es with
  |some l=>.tup l
  |none=>.bad
 |_=>.bad
def tq(o:Expr)(m:Str)(eo:Ex):Ex:=
 .bad
def tu(o:Expr)(m:Str)(eo ea:Ex):Ex:=
 if decide (m="append")&&gI o then .app eo ea else
 if gI o then(match qm m with
  |some f=>.dm f eo (.cons ea .nil)
  |none=>.bad) else
 .bad
def tw(o:Expr)(m:Str)(eo ea eb:Ex):Ex:=
 if gI o then(match qm m with
  |some f=>.dm f eo (.cons ea (.cons eb .nil))
  |none=>.bad) else
 .bad
def Ah(o:Expr)(m:Str)(eo:Ex):List Ex->Ex
 |[]=>tq o m eo
 |[a]=>tu o m eo a
 |[a,b]=>tw o m eo a b
 |_=>.bad
def Cn.Lj(C:Cn)(o:Expr)(m:Str):Option Nat:=(ie o).bind λx=>if qM x&&C.gl x then(C.iA.lookup x).bind (·.lookup m) else none
def Cn.tj(C:Cn)(o:Expr)(m:Str)(apos pos:Pos)(es:List Expr)(eo:Ex)(cs:List Ex):Ex:=
 if es.all aY&&(apos.endLine==pos.line) then
  match C.Lj o m with
  |some i=>if !es.isEmpty&&decide (es.length<30) then .Ay i (iM cs) else .bad
  |none=>match C.iF.lookup m with
   |some dp=>if gI o&&decide (es.length<30) then .gy m dp eo (iM cs) else .bad
   |none=>Ah o m eo cs
 else .bad
def Aw(op:UnaryOp)(a:Ex):Ex:=match op with
 |.USub=>.neg a
 |.Not=>.not a
 |_=>.bad
def Ap(f:Expr->Ex)(a:Expr)(os:List CmpOp)(bs:List Expr):Ex:=match os,bs with
 |[o],[b]=>if aY b then .cmp (sJ o) (f a) (f b) else .bad
 |[o,o'],[b,c]=>if aY c then .chain (sJ o) (sJ o') (f a) (f b) (f c) else .bad
 |[o,o',o''],[b,c,d]=>if aY d then .fo (sJ o) (sJ o') (sJ o'') (f a) (f b) (f c) (f d) else .bad
 |_,_=>.bad
def An(op:BoolOp)(vs:List Ex):Ex:=match op with
 |.And=>nO .and vs
 |.Or=>nO .or vs
def Av(C:Cn)(f:Expr->Ex)(a s:Expr):Ex:=match s with
 |.Slice lo hi none _=>.slice (f a) (lo.elim .no f) (hi.elim .no f)
 |b=>if aY b then .op .ix (f a) (f b) else .bad
def Ao(C:Cn)(f:Expr->Ex)(g:Expr)(es:List Expr)(ks:List Keyword)(pos:Pos):Ex:=match ks with
 |[]=>match g with
  |.Name x _=>C.qc x es (es.map f)
  |.Attribute o m apos=>C.tj o m apos pos es (f o) (es.map f)
  |_=>.bad
 |_=>.bad
def Au(C:Cn)(r:Cn->Expr->Ex)(elt:Expr)(gs:List Comprehension)(scope:Scope):Ex:=match gs with
 |[⟨t,it,cs,0⟩]=>if C.mE scope&&aY it then match cs with
   |[]=>.gK (C.imp scope) (vW (C.comp scope) t) (cI C (r C) t it) (r (C.comp scope) elt)
   |[c]=>.wA (C.imp scope) (vW (C.comp scope) t) (cI C (r C) t it) (r (C.comp scope) c) (r (C.comp scope) elt)
   |_=>.bad
  else .bad
 |_=>.bad
def Aj(C:Cn)(o:Expr)(f:Str)(eo:Ex):Ex:=if gI o then match C.gM.lookup f with
  |some cs=>.fld cs f eo
  |none=>.bad
 else .bad
def Aq(f:Expr->Ex)(ks:List (Option Expr))(vs:List Expr):Ex:=match ks,vs with
 |[],[]=>.mH
 |_,_=>.bad
def Pc(x:Str)(ks:List Keyword):Option Kc:=match ks with
 |[]=>if x="any" then some .any else
  if x="all" then some .all else
  if x="max" then some .mx else
  none
 |[⟨some nm,kc,_⟩]=>match kc with
  |.Constant (.bool b) _ _=>if x="sorted"/\nm="reverse" then some (.srt b) else none
  |.Constant .none _ _=>if x="min"/\nm="default" then some .Cq else none
  |_=>none
 |_=>none
def fm(C:Cn)(f:Expr->Ex)(g:Expr)(es:List Expr)(ks:List Keyword):Option Ex:=match g,es with
 |.Name x _,[a]=>match Pc x ks with
  |some k=>if C.bl x&&aY a then some (.kc k (f a)) else none
  |none=>none
 |_,_=>none
def cE:Cn->Nat->Expr->Ex
 |_,0,_=>.bad
 |C,n+1,e=>match e with
  |.Name x _=>C.name x
  |.Constant c _ _=>Lr c
  |.BinOp a op b _=>Am op (cE C n a) (cE C n b)
  |.UnaryOp op a _=>Aw op (cE C n a)
  |.Compare a os bs _=>Ap (cE C n) a os bs
  |.BoolOp op vs _=>An op (vs.map (cE C n))
  |.IfExp c a b _=>.ite (cE C n c) (cE C n a) (cE C n b)
  |.Tuple es _ _=>if es.all aY then .tup (iM (es.map (cE C n))) else .bad
  |.List es _=>if es.all aY then .lst (iM (es.map (cE C n))) else .bad
  |.Subscript a s _=>Av C (cE C n) a s
  |.Call g es ks pos=>match fm C (cE C n) g es ks with
   |some y=>y
   |none=>Ao C (cE C n) g es ks pos
  |.Dict ks vs _=>Aq (cE C n) ks vs
  |.Attribute o f _=>Aj C o f (cE C n o)
  |.ListComp elt gs scope _=>Au C (λC' e'=>cE C' n e') elt gs scope
  |_=>.bad
structure Lk(X:Cx)(T:Tab)(E:XK)(C:Cn)(F:dN):Prop where
 K:X.K=T.K
 N:X.N=C.N
 sc:X.env.scope=C.sc
 nd:C.N.Nodup
 fn:C.top=true->∀x,X.fn x=true
 calm:X.calm=true
 po:PassesOwn (model X.prog X.w) X.A X.env X.xe
 gv:∀x v,C.gj.lookup x=some v->∃u v',X.mg x=some u/\RelV v' u/\∀Z H,aJ T Z H v v'
 fns:∀(i:Nat) x,C.fns[i]?=some x->Fn X T E x (F i)
 eK:∀x,C.eK.contains x=true->X.mg x=none
 tab:∀kvs a,T.G kvs a->Ie X.prog X.w X.K a kvs
 un:X.A.units+64<cLine
 gM:∀f cs,C.gM.lookup f=some cs->og X.K T cs f
 iF:∀m dp,C.iF.lookup m=some dp->∀c D g,(dp.lookup c).map F=some g->T.C c=some D->rW X T (λ_=>E) D m g
 iE:∀x n c i dv,C.iE.lookup (x,n)=some (c,i,dv)->zl X T E x c dv (F i)
 eR:∀y cs,C.eR.lookup y=some cs->∃D:Addr,X.mg y=some (.ref D)/\∀k b,cs.lookup k=some b->∃D':Addr,T.C k=some D'/\oi X.K D'/\W.kitOne X.K (.ref D') (.ref D)=some b
 iA:∀x m i,(C.iA.lookup x).bind (·.lookup m)=some i->Ib X T E x m (F i)
 dg:C.top=true->X.stack=X.env::X.outer
 fr:C.top=true->X.env.frame=some X.env.locals
section
variable {X:Cx}{T:Tab}{E:XK}{C:Cn}{F:dN}(L:Lk X T E C F)
theorem ij{x:Str}(h:qM x=true):(x==("__debug__":Str))=false/\(x==("__classdict__":Str))=false/\x≠"__name__":=by simp only[qM,Bool.and_eq_true,Bool.not_eq_true',beq_eq_false_iff_ne]at h;exact⟨beq_eq_false_iff_ne.mpr h.1.1,beq_eq_false_iff_ne.mpr h.1.2,h.2⟩
theorem qA{x:Str}{l:List Str}{i:Nat}(h:l.idxOf? x=some i):l[i]?=some x:=by unfold List.idxOf? at h;obtain⟨h1,h2,_⟩:=List.findIdx?_eq_some_iff_getElem.mp h;rw[List.getElem?_eq_getElem h1];exact congrArg some (eq_of_beq h2)
include L in
theorem Lk.gl{x:Str}(h:C.gl x=true):Gl X x:=by have h':C.sc.names.lookup x=some .globalImplicit:=of_decide_eq_true h;rw[<- L.sc]at h';exact h'
def Q2(X:Cx)(T:Tab)(E:XK)(F:dN)(e:Expr)(x:Ex):Prop:=QE X T E e (aG F x)/\QT X T E e (cC F x)
theorem bX{e:Expr}:Q2 X T E F e .bad:=⟨OY,Gd⟩
include L in
theorem ZL(x:Str)(pos:Pos):Q2 X T E F (.Name x pos) (C.name x):=by
 unfold Cn.name;split
 case isFalse=>exact bX
 case isTrue ok=>
  obtain⟨h1,h2,h3⟩:=ij ok;split
  case isTrue hl=>
   split
   case h_1 i hi=>
    have hv:ou X.env.scope x:=by
     rw[L.sc];simp only[Cn.loc,Bool.or_eq_true,decide_eq_true_eq]at hl;rcases hl with hl|hl
     .exact .inl hl
     .exact .inr (.inl hl)
    have q:QE X T E (.Name x pos) (sZ i):=QP (by rw[L.N];exact qA hi) hv h1 h2;exact⟨q,iW L.K q rfl⟩
   case h_2=>exact bX
  case isFalse=>
   split
   case isFalse=>exact bX
   case isTrue hg=>
    split
    case h_1 v hv=>obtain⟨u,v',e1,r,rp⟩:=L.gv x v hv;have q:QE X T E (.Name x pos) (λ_=>M.ret v):=mT (Dg (L.gl hg) e1 r h1) rp;exact⟨q,iW L.K q rfl⟩
    case h_2=>exact bX
include L in
theorem ZI(c:Const)(k:Nat)(pos:Pos):Q2 X T E F (.Constant c k pos) (Lr c):=by
 cases c with
 |none=>exact⟨mT Dh λ_ _=>.aB,iW L.K (mT Dh λ_ _=>.aB) rfl⟩|bool b=>exact⟨mT Dc λ_ _=>.bl b,iW L.K (mT Dc λ_ _=>.bl b) rfl⟩|int i=>exact⟨mT Qt λ_ _=>.int i,iW L.K (mT Qt λ_ _=>.int i) rfl⟩|str x=>exact⟨mT Qu λ_ _=>.str x,iW L.K (mT Qu λ_ _=>.str x) rfl⟩|_=>exact bX
include L in
theorem KZ{op:Operator}{o:Op}(h:Kn op=some o):bU X T E (binaryOp op) o.g:=by
 cases op<;>cases h
 .exact KW L.K
 .exact LV
 .exact LM
 .exact LL
 .exact LR
 .exact LS
 .exact LU
 .exact LQ
 .exact LW
 .exact KY
 .exact LB
include L in
theorem iG(op:CmpOp):bU X T E (compareOp op) (sJ op).g:=by
 cases op
 .exact LA L.K (by have:=L.un;omega)
 .exact LN L.K (by have:=L.un;omega)
 .exact LK
 .exact LJ
 .exact LD
 .exact LC
 .exact LH
 .exact LI
 .exact LF L.K (by have:=L.un;omega)
 .exact LO L.K (by have:=L.un;omega)
theorem iN{es:List Expr}{f:Expr->Ex}(hs:es.all aY=true)(h:∀e,Q2 X T E F e (f e)):QA X T E es (cK F (iM (es.map f))):=by
 induction es with
 |nil=>exact OT|cons e es ih=>rw[List.all_cons,Bool.and_eq_true]at hs;exact OS (h e).1 (ih hs.2) hs.1
include L in
theorem Io{pos:Pos}{f:Expr->Ex}(h:∀e,Q2 X T E F e (f e)):∀(e:Expr) (es:List Expr),QE X T E (.BoolOp .And (e::es) pos) (aG F (nO .and ((e::es).map f)))/\QW X T E (.BoolOp .And (e::es) pos) (cC F (nO .and ((e::es).map f)))
 |e,[]=>⟨Rh (h e).1,UX (h e).2⟩
 |e,b::rest=>by obtain⟨h1,h2⟩:=Io h b rest;exact⟨OV L.K (h e).1 h1,UW (h e).2 h2⟩
include L in
theorem Qn{pos:Pos}{f:Expr->Ex}(h:∀e,Q2 X T E F e (f e)):∀(e:Expr) (es:List Expr),QE X T E (.BoolOp .Or (e::es) pos) (aG F (nO .or ((e::es).map f)))/\QW X T E (.BoolOp .Or (e::es) pos) (cC F (nO .or ((e::es).map f)))
 |e,[]=>⟨Rh (h e).1,UZ (h e).2⟩
 |e,b::rest=>by obtain⟨h1,h2⟩:=Qn h b rest;exact⟨QJ L.K (h e).1 h1,UY (h e).2 h2⟩
theorem Qq{o:Option Expr}{f:Expr->Ex}(h:∀e,Q2 X T E F e (f e))(hn:∀e,f e ≠ .no):QO X T E o (λU=>gE (o.elim .no f) (aG F (o.elim .no f) U)):=by
 cases o with
 |none=>exact TQ|some e=>
  have q:QO X T E (some e) (λU=>(aG F (f e) U).bind pY):=TR (h e).1;have e1:∀m,gE (f e) m=m.bind pY:=λm=>by
   unfold gE;split
   .rename_i z;exact absurd z (hn e)
   .rfl
  simp only[Option.elim,e1];exact q
theorem Ky{k:Ex->Ex->Ex}(hk:∀a b,k a b ≠ .no):∀{l:List Ex},(∀x∈l,x ≠ .no)->nO k l ≠ .no
 |[],_=>by intro z;cases z
 |[a],h=>h a (by simp)
 |a::b::r,_=>hk _ _
theorem Xw{f:Expr->Ex}{g:Expr}{es:List Expr}{ks:List Keyword}{y:Ex}(h:fm C f g es ks=some y):y ≠ .no:=by
 unfold fm at h;split at h
 .split at h
  .split at h
   .cases h;intro z;cases z
   .cases h
  .cases h
 .cases h
theorem Ar:∀(n:Nat) (e:Expr),cE C n e ≠ .no
 |0,e=>by intro z;cases z
 |n+1,e=>by
  have ih:=Ar n;unfold cE;split
  .unfold Cn.name;(repeat' split)<;>(intro z;cases z;done)
  .rename_i c _ _;cases c<;>(intro z;cases z;done)
  .unfold Am;split<;>(intro z;cases z;done)
  .unfold Aw;split<;>(intro z;cases z;done)
  .unfold Ap;(repeat' split)<;>(intro z;cases z;done)
  .rename_i op vs _;have:∀x∈vs.map (cE C n),x ≠ .no:=λx hx=>by obtain⟨y,_,rfl⟩:=List.mem_map.mp hx;exact ih y
   unfold An;split
   .exact Ky (λ_ _ z=>by cases z) this
   .exact Ky (λ_ _ z=>by cases z) this
  .intro z;cases z
  .split<;>(intro z;cases z;done)
  .split<;>(intro z;cases z;done)
  .unfold Av
   (repeat' split)<;>(intro z;cases z;done)
  .split
   .rename_i h;exact Xw h
   unfold Ao;split
   .split
    .unfold Cn.qc;(repeat' split)<;>(intro z;cases z;done)
    .unfold Cn.tj Ah tq tu tw;(repeat' split)<;>(intro z;cases z;done)
    .intro z;cases z
   .intro z;cases z
  .unfold Aq;(repeat' split)<;>(intro z;cases z;done)
  .unfold Aj;(repeat' split)<;>(intro z;cases z;done)
  .unfold Au;(repeat' split)<;>(intro z;cases z;done)
  .intro z;cases z
include L in
theorem ZJ{f:Expr->Ex}(ih:∀e,Q2 X T E F e (f e)){g:Expr}{es:List Expr}{ks:List Keyword}{pos:Pos}{y:Ex}(h:fm C f g es ks=some y):Q2 X T E F (.Call g es ks pos) y:=by
 unfold fm at h;split at h
 case h_2=>cases h
 case h_1 x p a=>
  split at h
  case h_2=>cases h
  case h_1 k hk=>
   split at h
   case isFalse=>cases h
   case isTrue hb=>
    cases h;simp only[Bool.and_eq_true,Cn.bl]at hb;obtain⟨⟨⟨hg,hm⟩,_⟩,hs⟩:=hb;have mk:QE X T E (.Call (.Name x p) [a] ks pos) (aG F (.kc k (f a)))->Q2 X T E F (.Call (.Name x p) [a] ks pos) (.kc k (f a)):=λq=>⟨q,iW L.K q rfl⟩;refine mk ?_;unfold Pc at hk;split at hk
    case h_1=>
     split at hk
     case isTrue hx=>cases hk;subst hx;exact OW L.K L.calm (L.gl hg) (L.eK _ hm) (ih a).1 hs
     split at hk
     case isTrue hx=>cases hk;subst hx;exact OU L.K L.calm (L.gl hg) (L.eK _ hm) (ih a).1 hs
     split at hk
     case isTrue hx=>cases hk;subst hx;exact QD L.K L.calm (L.gl hg) (L.eK _ hm) (ih a).1 hs
     cases hk
    case h_2 nm kc kp=>
     split at hk
     case h_1 b kk kq=>
      split at hk
      case isFalse=>cases hk
      case isTrue hx=>cases hk;obtain⟨rfl,rfl⟩:=hx;exact QL L.K (L.gl hg) (L.eK _ hm) (ih a).1 hs
     case h_2 kk kq=>
      split at hk
      case isFalse=>cases hk
      case isTrue hx=>cases hk;obtain⟨rfl,rfl⟩:=hx;exact QC L.K L.calm (L.gl hg) (L.eK _ hm) (ih a).1 hs
     case h_3=>cases hk
    case h_3=>cases hk
include L in
theorem ZH{n:Nat}(ih:∀e,Q2 X T E F e (cE C n e))(x:Str)(p:Pos)(es:List Expr)(pos:Pos):Q2 X T E F (.Call (.Name x p) es [] pos) (C.qc x es (es.map (cE C n))):=by
  have mk:∀{y:Ex},QE X T E (.Call (.Name x p) es [] pos) (aG F y)->(∀U,cC F y U=(aG F y U).bind cA)->Q2 X T E F (.Call (.Name x p) es [] pos) y:=λ{y} q e=>by refine⟨q,?_⟩;have:=iW L.K q rfl;have e2:cC F y=λU=>(aG F y U).bind cA:=funext e;rw[e2];exact this
  unfold Cn.qc;split
  case isFalse=>exact bX
  case isTrue ok=>
    rw[Bool.and_eq_true]at ok;obtain⟨h1,h2,h3⟩:=ij ok.1;split
    case h_1 i hi=>
      split
      case isFalse=>exact bX
      case isTrue hg=>
        have FN:=L.fns i x (qA hi);refine mk ?_ λ_=>rfl;cases es with
        |nil=>exact PB FN (L.gl hg) h1|cons e es=>exact OZ FN (L.gl hg) (iN ok.2 ih) ok.2 h1
    case h_2=>
     split
     case h_1 c i dv hk=>
      split
      case isFalse=>exact bX
      case isTrue hg=>
        have CN:=L.iE x _ c i dv hk;refine mk ?_ λ_=>rfl;cases es with
        |nil=>exact PY CN (L.gl hg) h1|cons e es=>exact PX CN (L.gl hg) (iN ok.2 ih) ok.2 h1
     case h_2=>
      split
      case h_1 f hf=>
        split
        case isFalse=>exact bX
        case isTrue hb=>
          simp only[Cn.bl,Bool.and_eq_true]at hb;obtain⟨⟨⟨hg,hm⟩,_⟩,hne⟩:=hb;refine mk ?_ λ_=>rfl;cases es with
          |nil=>cases hne|cons e es=>
            have q:=iN ok.2 ih;have hm':=L.eK x hm;unfold Km at hf;split at hf
            case isTrue hx=>cases hf;subst hx;exact um (Yu L.K) (L.gl hg) hm' boot_len q ok.2 h3 h1
            split at hf
            case isTrue hx=>cases hf;subst hx;exact Dj Yt (L.gl hg) hm' boot_int q ok.2 h3 h1
            split at hf
            case isTrue hx=>cases hf;subst hx;exact um (Yx L.calm) (L.gl hg) hm' boot_min q ok.2 h3 h1
            split at hf
            case isTrue hx=>cases hf;subst hx;exact um (Yw L.calm) (L.gl hg) hm' boot_max q ok.2 h3 h1
            split at hf
            case isTrue hx=>cases hf;subst hx;exact um Ys (L.gl hg) hm' boot_divmod q ok.2 h3 h1
            split at hf
            case isTrue hx=>cases hf;subst hx;exact Dj (Yy L.K) (L.gl hg) hm' boot_tuple q ok.2 h3 h1
            split at hf
            case isTrue hx=>cases hf;subst hx;exact Dj (Yv L.K L.calm) (L.gl hg) hm' boot_list q ok.2 h3 h1
            cases hf
      case h_2=>
        split
        case isFalse=>exact bX
        case isTrue hi=>
          simp only[Bool.and_eq_true,decide_eq_true_eq,Cn.bl]at hi;obtain⟨hx,⟨hg,hm⟩,_⟩:=hi;subst hx;split
          case h_2=>exact bX
          case h_1 a t ca ct hk0 ec=>
            rw[List.map_cons,List.map_cons,List.map_nil]at ec;injection ec with ec1 ec2;subst ec1;cases t with
            |Name y p2=>
              simp only[ie,Option.bind_some];have sa':aY a=true:=by have:=ok.2;rw[List.all_cons,Bool.and_eq_true]at this;exact this.1
              have isc_snd:∀(y:Str) (p2:Pos),Q2 X T E F (.Call (.Name "isinstance" p) [a,.Name y p2] [] pos) (match (if(qM y&&C.gl y)=true then C.eR.lookup y else none) with
                  |some cs=>Ex.eR cs (cE C n a)
                  |none=>Ex.bad):=λy p2=>by
                split
                case h_2=>exact bX
                case h_1 cs hcs=>
                  split at hcs
                  case isFalse=>cases hcs
                  case isTrue hy=>rw[Bool.and_eq_true]at hy;obtain⟨k1,k2,k3⟩:=ij hy.1;obtain⟨D,hm2,hk⟩:=L.eR y cs hcs;have q:QE X T E (.Call (.Name "isinstance" p) [a,.Name y p2] [] pos) (aG F (.eR cs (cE C n a))):=PR (vd:=.ref D) (λu h=>h) (L.gl hg) (L.eK _ hm) (Dg (L.gl hy.2) hm2 rfl k1) hk (ih a).1 sa';exact⟨q,iW L.K q rfl⟩
              split
              case h_2=>exact isc_snd y p2
              case h_1 bt hbt=>
                refine mk ?_ λ_=>rfl;split at hbt
                case isFalse=>cases hbt
                case isTrue hy=>
                  simp only[Cn.bl,Bool.and_eq_true]at hy;obtain⟨⟨hg2,hm2⟩,oky⟩:=hy;obtain⟨k1,k2,k3⟩:=ij oky;have sa:aY a=true:=by have:=ok.2;rw[List.all_cons,Bool.and_eq_true]at this;exact this.1
                  have aL:∀bt,bootBuiltins y=some (.type bt.nm)->QE X T E (.Call (.Name "isinstance" p) [a,.Name y p2] [] pos) (aG F (.tB bt (cE C n a))):=λbt hv=>
                    PQ L.K bt (L.gl hg) (L.eK _ hm) (L.gl hg2) (L.eK _ hm2) hv k3 k1 (ih a).1 sa
                  unfold Ku at hbt;split at hbt
                  case isTrue hz=>cases hbt;subst hz;exact aL .int boot_int
                  split at hbt
                  case isTrue hz=>cases hbt;subst hz;exact aL .bl boot_bool
                  split at hbt
                  case isTrue hz=>cases hbt;subst hz;exact aL .str boot_str
                  split at hbt
                  case isTrue hz=>cases hbt;subst hz;exact aL .tup boot_tuple
                  split at hbt
                  case isTrue hz=>cases hbt;subst hz;exact aL .lst boot_list
                  split at hbt
                  case isTrue hz=>cases hbt;subst hz;exact aL .aO (by decide +kernel)
                  cases hbt
            |_=>exact bX
include L in
theorem mn{f:Expr->Ex}(ih:∀e,Q2 X T E F e (f e))(tg e:Expr):QI X T E tg e (bQ F (cI C f tg e)):=by
 unfold cI;split
 .rename_i x p es pos;split
  .rename_i h;simp only[Bool.and_eq_true,decide_eq_true_eq,Cn.bl]at h;obtain⟨hx,⟨hg,hm⟩,_⟩:=h;subst hx;split
   .split
    .rename_i a hs;exact QU (L.gl hg) (L.eK _ hm) (iN (f:=f) (by simp[hs]) ih) hs
    .exact iu
   .exact iu
  .split
   .rename_i h;simp only[Bool.and_eq_true,decide_eq_true_eq,Cn.bl]at h;obtain⟨hx,⟨hg,hm⟩,_⟩:=h;subst hx;split
    .split
     .rename_i hs;exact QR L.K (L.gl hg) (L.eK _ hm) (ih _).1 hs
     .exact iu
    .exact iu
   .exact Rm L.K (ih _).1
 .split
  .exact Rm L.K (ih _).1
  .exact iu
include L in
theorem Vb:∀{es:List Expr} {l:List Nat},qh C es=some l->vO X T E es (ox l)/\es.all gU=true/\l.length=es.length
 |[],l,h=>by cases h;exact⟨Rk,rfl,rfl⟩
 |e::es,l,h=>by
  cases e with
  |Name x p=>
   simp only[qh]at h;split at h
   .rename_i hx;split at h
    .rename_i i l' hi hl;cases h;obtain⟨h1,h2,h3⟩:=Vb hl;have hx':X.env.scope.names.lookup x=some .local:=by rw[L.sc];exact of_decide_eq_true hx
     exact⟨Rj (Dk (by rw[L.N];exact L.nd) (by rw[L.N];exact qA hi) (.inl hx') (.inr hx')) h1 rfl,by rw[List.all_cons,h2];rfl,by simp[h3]⟩
    .cases h
   .cases h
  |_=>cases h
include L in
theorem ym(e:Expr):QG X T E e (lB (vW C e)):=by
 unfold vW;split
 .split
  .rename_i hx;split
   .rename_i i hi;have lc:∀{x:Str},C.sc.names.lookup x=some .local->X.env.scope.names.lookup x=some .local:=λ{x} h=>by rw[L.sc];exact h
    exact Dk (by rw[L.N];exact L.nd) (by rw[L.N];exact qA hi) (.inl (lc (of_decide_eq_true hx))) (.inr (lc (of_decide_eq_true hx)))
   .exact mU
  .exact mU
 .split
  .rename_i l hl;obtain⟨h1,h2,h3⟩:=Vb L hl;show QG X T E _ (sY l.length (ox l));rw[h3];exact Ri L.K L.calm h1 h2
  .exact mU
 .exact mU
end
theorem Pp{α:Type}{x:Str}{v:α}:∀{l:List (Str×α)},l.lookup x=some v->(x,v)∈l
 |[],h=>by cases h
 | (k,u)::r,h=>by
  rw[List.lookup_cons]at h;split at h
  .rename_i q;have:=eq_of_beq q;subst this;cases h;exact List.mem_cons_self
  .exact List.mem_cons_of_mem _ (Pp h)
section
variable {X:Cx}{T:Tab}{E:XK}{C:Cn}{F:dN}{scope:Scope}
theorem Ll(ok:C.mE scope=true):scope.kind = .function/\(∀y∈scope.names,y.2 ≠ .cell)/\(∀y∈scope.names,y.2 = .local->scope.names.lookup y.1=some .local)/\(∀y∈scope.names,y.2 = .free->C.sc.names.lookup y.1=some .cell)/\(sI scope).Nodup:=by simp only[Cn.mE,Bool.and_eq_true,decide_eq_true_eq,List.all_eq_true]at ok;exact⟨ok.1.1.1.1,ok.1.1.1.2,ok.1.1.2,ok.1.2,ok.2⟩
theorem Lk.qg(L:Lk X T E C F)(ok:C.mE scope=true):hJ X (sI scope) scope:=by obtain⟨h1,h2,h3,h4,_⟩:=Ll ok;exact⟨h1,h2,h3,λy hy hk=>by rw[L.sc];exact h4 y hy hk⟩
theorem Lk.imp(L:Lk X T E C F){i j:Nat}{x:Str}(e1:(sI scope)[i]?=some x)(e2:(C.imp scope)[i]?=some (some j)):scope.names.lookup x=some .free/\(x,NameKind.free)∈scope.names/\X.N[j]?=some x:=by
 unfold Cn.imp at e2;rw[List.getElem?_map,e1]at e2;have e3:(if decide (scope.names.lookup x=some .free) then C.N.idxOf? x else none)=some j:=Option.some.inj e2;split at e3
 .rename_i h;have h:=of_decide_eq_true h;exact⟨h,Pp h,by rw[L.N];exact qA e3⟩
 .cases e3
theorem Lk.comp(L:Lk X T E C F)(ok:C.mE scope=true)(s:Shared)(H:Hp)(a:Addr)(fp:List Addr):Lk (X.comp (sI scope) scope s H a fp) T E0 (C.comp scope) F where
 K:=L.K
 N:=rfl
 sc:=by show relabel scope X.env=Um scope C.sc;rw[<- L.sc];rfl
 nd:=(Ll ok).2.2.2.2
 fn:=λz=>by cases z
 calm:=L.calm
 po:=PassesOwn.never
 gv:=L.gv
 fns:=λi x h=>let ⟨k,f,fd,ps,F,hr,hm,hk,hb,_⟩:=(L.fns i x h).ex;⟨⟨k,f,fd,ps,F,hr,hm,hk,hb,λ_ _ _ _ _ _ _ ⟨_,_,_,_,_,_,_,_,_,_,_,_,z⟩=>z.elim⟩⟩
 eK:=L.eK
 tab:=L.tab
 un:=L.un
 gM:=L.gM
 iF:=λm dp h c D g h1 h2=>let ⟨k,f,fd,ps,F,hr,c,hm,hb,_⟩:=(L.iF m dp h c D g h1 h2).ex;⟨⟨k,f,fd,ps,F,hr,c,hm,hb,λ_ _ _ _ _ _ _ ⟨_,_,_,_,_,_,_,_,_,_,_,_,z⟩=>z.elim⟩⟩
 iE:=λx n c i dv h=>let ⟨k,C,f,fd,ps,ds,dvs,hc,K,F,hr,hm,hb,hv,hdv,_⟩:=(L.iE x n c i dv h).ex;⟨⟨k,C,f,fd,ps,ds,dvs,hc,K,F,hr,hm,hb,hv,hdv,λ_ _ _ _ _ _ _ ⟨_,_,_,_,_,_,_,_,_,_,_,_,z⟩=>z.elim⟩⟩
 eR:=L.eR
 iA:=λx m i h=>let ⟨k,C,f,fd,ps,hm,F,hr,kp,h1,h2,h3,h4,hb,_⟩:=(L.iA x m i h).ex;⟨⟨k,C,f,fd,ps,hm,F,hr,kp,h1,h2,h3,h4,hb,λ_ _ _ _ _ _ _ ⟨_,_,_,_,_,_,_,_,_,_,_,_,z⟩=>z.elim⟩⟩
 dg:=λz=>by cases z
 fr:=λz=>by cases z
end
theorem ZK{X:Cx}{T:Tab}{E:XK}{C:Cn}{F:dN}(L:Lk X T E C F){n:Nat}(ih:∀e,Q2 X T E F e (cE C n e))(o:Expr)(m:Str)(apos pos:Pos)(es:List Expr):Q2 X T E F (.Call (.Attribute o m apos) es [] pos) (C.tj o m apos pos es (cE C n o) (es.map (cE C n))):=by
 have tr:∀{e:Expr} {y:Ex},QE X T E e (aG F y)->uj e=true->(∀U,cC F y U=(aG F y U).bind cA)->Q2 X T E F e y:=λ{e y} q pl e1=>by refine⟨q,?_⟩;have:=iW L.K q pl;have e2:cC F y=λU=>(aG F y U).bind cA:=funext e1;rw[e2];exact this
 unfold Cn.tj;split
 case isFalse=>exact bX
 case isTrue hb=>
  rw[Bool.and_eq_true]at hb;obtain⟨hs,hl⟩:=hb;have blt:Q2 X T E F (.Call (.Attribute o m apos) es [] pos) (Ah o m (cE C n o) (es.map (cE C n))):=by
   cases es with
   |nil=>show Q2 X T E F _ (tq o m (cE C n o));unfold tq;exact bX
   |cons a es=>
    rw[List.all_cons,Bool.and_eq_true]at hs;cases es with
    |nil=>
     show Q2 X T E F _ (tu o m (cE C n o) (cE C n a));unfold tu;split
     case isTrue hm=>simp only[Bool.and_eq_true,decide_eq_true_eq]at hm;obtain⟨hm,ho⟩:=hm;subst hm;exact tr (OX L.K (ih _).1 (ih _).1 ho hs.1 hl) rfl λ_=>rfl
     split
     case isTrue ho=>
      split
      .rename_i f hf;exact tr (Rg hf (by have:=L.un;omega) (ih _).1 (iN (f:=cE C n) (es:=[a]) (by simp[hs.1]) ih) ho (by simp[hs.1]) (by simp) hl) rfl λ_=>rfl
      .exact bX
     exact bX
    |cons b es=>
     obtain⟨hs1,hs2⟩:=hs;rw[List.all_cons,Bool.and_eq_true]at hs2;cases es with
     |nil=>
      show Q2 X T E F _ (tw o m (cE C n o) (cE C n a) (cE C n b));unfold tw;split
      case isTrue ho=>
       split
       .rename_i f hf;exact tr (Rg hf (by have:=L.un;omega) (ih _).1 (iN (f:=cE C n) (es:=[a,b]) (by simp[hs1,hs2.1]) ih) ho (by simp[hs1,hs2.1]) (by simp) hl) rfl λ_=>rfl
       .exact bX
      exact bX
     |cons c es=>exact bX
  split
  case h_1 i hi=>
   split
   case isFalse=>exact bX
   case isTrue hz=>
    simp only[Bool.and_eq_true,Bool.not_eq_true',decide_eq_true_eq]at hz;unfold Cn.Lj at hi;cases o with
    |Name x p=>
     simp only[ie,Option.bind_some]at hi;split at hi
     case isFalse=>cases hi
     case isTrue hx=>
      rw[Bool.and_eq_true]at hx;cases es with
      |nil=>cases hz.1|cons e es=>exact tr (PF (L.iA _ _ _ hi) (L.gl hx.2) (ij hx.1).1 (iN hs ih) hs hz.2 hl) rfl λ_=>rfl
    |_=>cases hi
  case h_2=>
   split
   case h_2=>exact blt
   case h_1 dp hdp=>
    split
    case isFalse=>exact bX
    case isTrue hz=>
     rw[Bool.and_eq_true,decide_eq_true_eq]at hz;have hM:∀c D g,(λc=>(dp.lookup c).map F) c=some g->T.C c=some D->rW X T (λ_=>E) D m g:=λc D g h1 h2=>L.iF m dp hdp c D g h1 h2;cases es with
     |nil=>exact tr (QB hM (ih _).1 hz.1 hl) rfl λ_=>rfl|cons e es=>exact tr (PZ hM (ih _).1 (iN hs ih) hz.1 hs hz.2 hl) rfl λ_=>rfl
theorem eA{T:Tab}{F:dN}:∀(n:Nat) {X:Cx} {E:XK} {C:Cn} (L:Lk X T E C F) (e:Expr),Q2 X T E F e (cE C n e)
 |0,X,E,C,L,e=>bX
 |n+1,X,E,C,L,e=>by
  have ih:∀e,Q2 X T E F e (cE C n e):=λe=>eA n L e;have tr:∀{e:Expr} {y:Ex},QE X T E e (aG F y)->uj e=true->(∀U,cC F y U=(aG F y U).bind cA)->Q2 X T E F e y:=λ{e y} q pl e1=>by refine⟨q,?_⟩;have:=iW L.K q pl;have e2:cC F y=λU=>(aG F y U).bind cA:=funext e1;rw[e2];exact this
  unfold cE;split
  .exact ZL L _ _
  .exact ZI L _ _ _
  .unfold Am;split
   .rename_i o ho;exact tr (QH (KZ L ho) (ih _).1 (ih _).1) rfl λ_=>rfl
   .exact bX
  .unfold Aw;split
   .exact⟨QN m5 (ih _).1,Gd⟩
   .exact⟨QF L.K (ih _).1,UU (ih _).2⟩
   .exact bX
  .unfold Ap;split
   .split
    .rename_i hb;exact⟨PH (iG L _) (ih _).1 (ih _).1 (cy hb),UT (iG L _) (ih _).1 (ih _).1 (cy hb)⟩
    .exact bX
   .split
    .rename_i hc;exact⟨PC (iG L _) (iG L _) (ih _).1 (ih _).1 (ih _).1 (cy hc),UR (iG L _) (iG L _) (ih _).1 (ih _).1 (ih _).1 (cy hc)⟩
    .exact bX
   .split
    .rename_i hc;exact⟨PD (iG L _) (iG L _) (iG L _) (ih _).1 (ih _).1 (ih _).1 (ih _).1 (cy hc),US (iG L _) (iG L _) (iG L _) (ih _).1 (ih _).1 (ih _).1 (ih _).1 (cy hc)⟩
    .exact bX
   .exact bX
  .rename_i op vs _;unfold An;cases vs with
   |nil=>split<;>exact bX|cons v vs=>
    split
    .obtain⟨h1,h2⟩:=Io L ih v vs;exact⟨h1,h2.qt⟩
    .obtain⟨h1,h2⟩:=Qn L ih v vs;exact⟨h1,h2.qt⟩
  .exact⟨PN (ih _).2 (ih _).1 (ih _).1,Gd⟩
  .split
   .rename_i hs;exact tr (QM (iN hs ih)) rfl λ_=>rfl
   .exact bX
  .split
   .rename_i hs;exact tr (PV (iN hs ih)) rfl λ_=>rfl
   .exact bX
  .unfold Av;split
   .exact tr (QK L.K (ih _).1 (Qq ih (Ar n)) (Qq ih (Ar n))) rfl λ_=>rfl
   .split
    .rename_i hb;exact tr (PU (HB L.K (by have:=L.un;omega)) (ih _).1 (ih _).1 (YV hb)) rfl λ_=>rfl
    .exact bX
  .split
   .rename_i h;exact ZJ L ih h
   unfold Ao;split
   .split
    .exact ZH L ih _ _ _ _
    .exact ZK L ih _ _ _ _ _
    .exact bX
   .exact bX
  .unfold Aq;split
   .exact tr PL rfl λ_=>rfl
   .exact bX
  .unfold Aj;split
   .rename_i hb;split
    .rename_i cs hc;exact tr (PM (L.gM _ _ hc) (ih _).1 hb) rfl λ_=>rfl
    .exact bX
   .exact bX
  .unfold Au;split
   .split
    .rename_i hb;rw[Bool.and_eq_true]at hb;have LY:=λs H a fp=>L.comp hb.1 s H a fp;split
     .exact tr (Rf (ct:=none) (L.qg hb.1) L.calm (mn L ih _ _) (λs H a fp=>ym (LY s H a fp) _) (λc z=>by cases z) (λ_=>rfl) (λs H a fp=>(eA n (LY s H a fp) _).1) (by simp[Cn.imp]) (λi j x e1 e2=>L.imp e1 e2) hb.2) rfl λ_=>rfl
     .exact tr (Rf (ct:=some _) (L.qg hb.1) L.calm (mn L ih _ _) (λs H a fp=>ym (LY s H a fp) _) (λc z s H a fp=>by cases z;exact(eA n (LY s H a fp) _).2) (λz=>by cases z) (λs H a fp=>(eA n (LY s H a fp) _).1) (by simp[Cn.imp]) (λi j x e1 e2=>L.imp e1 e2) hb.2) rfl λ_=>rfl
     .exact bX
    .exact bX
   .exact bX
  .exact bX
def yj:List Nat->List AV->aE->aE
 |i::is,v::vs,U=>yj is vs (U.set i (some v))
 |_,_,U=>U
def Cz(is:List Nat)(mr:M (List AV))(U:aE):M Out:=mr.bind λvs=>M.guard (vs.length=is.length) (M.ret (.nx (yj is vs U)))
def d9(i j k:Nat)(ta:TA):TS:=λD U H=>ta U H λvs H1=>∃v w z,vs=[v,w,z]/\D.nx (((U.set i (some v)).set j (some w)).set k (some z)) H1
section
variable {X:Cx}{T:Tab}{E:XK}{a b c:Expr}{x y z:Str}{px py pz pt pos:Pos}{kt k2:Nat}{pt2:Pos}{i j k:Nat}{mr:aE->M (List AV)}
theorem OA{ta:TA}(hc:X.calm=true)(hN:X.N.Nodup)(hi:X.N[i]?=some x)(hj:X.N[j]?=some y)(hk:X.N[k]?=some z)(hij:i≠j)(hik:i≠k)(hjk:j≠k)
  (hx:X.env.scope.names.lookup x=some .local) (hy:X.env.scope.names.lookup y=some .local) (hz:X.env.scope.names.lookup z=some .local) (ha:PA X [a,b,c] ta)
  (hw:swappedStores [.Tuple [.Name x px,.Name y py,.Name z pz] kt pt] (.Tuple [a,b,c] k2 pt2) X.env=pure (some [x,y,z])) :
  PS X (.Assign [.Tuple [.Name x px,.Name y py,.Name z pz] kt pt] (.Tuple [a,b,c] k2 pt2) pos) (d9 i j k ta):=by
 have hs:swapsWithSole [.Tuple [.Name x px,.Name y py,.Name z pz] kt pt] (.Tuple [a,b,c] k2 pt2) pos.line X.env=pure false:=by rfl
 intro pins s U H D I h;rw[exec_Assign_arm];refine wpAny_bind (wpAny_standAt ?_);rw[hs];refine wpAny_bind (wpAny_pure ?_);rw[if_neg (by decide)];refine wpAny_bind (Tuple_ (aM (ha _ pins s U H _ I h) λus s1 ⟨vs,H1,I1,r1,q1⟩=>?_));obtain⟨v,w,z',e1,q1⟩:=q1;subst e1;obtain⟨u1,u2,u3,rfl,rv,rw',rz⟩:∃u1 u2 u3,us=[u1,u2,u3]/\RelV v u1/\RelV w u2/\RelV z' u3:=by
  cases r1 with
  |cons p q=>
   cases q with
   |cons p' q'=>
    cases q' with
    |cons p2 q2=>cases q2;exact⟨_,_,_,rfl,p,p',p2⟩
 refine wpAny_newObj_type ?_ (by show 3<=sizeLine;decide);have I2:Inv X pins U H1 { s1 with heap:=s1.heap.push { cls:=.type "tuple",data:=.seq [u1,u2,u3].toArray } }:=I1.kept (t':=s1.toks) λb o e=>Heap.get?_push_of_some _ e;rw[hw];refine wpAny_bind (wpAny_pure ?_);show wpAny (model X.prog X.w) X.A (do rule "assign.swapped-stores";let items <- unpackItems (.ref s1.heap.objs.size) 3 none;assignInOrder [λv=>bindName X.env z v,λv=>bindName X.env y v,λv=>bindName X.env x v] items.reverse;pure Flow.next) _ _ _;refine wpAny_bind (wpAny_rule (wpAny_bind (unpackItems_tuple (items:=#[u1,u2,u3]) (I.ok.hd hc) (IsTup.new s1.heap _) λh' hx'=>?_)));have I3:=I2.kept (h':=h') (t':=s1.toks) λb o e=>hx' b o (Nat.ne_of_lt (Heap.lt_size e)) e;show wpAny _ _ (assignInOrder [λv=>bindName X.env z v,λv=>bindName X.env y v,λv=>bindName X.env x v] [u3,u2,u1]>>=λ_=>pure Flow.next) _ _ _;refine wpAny_bind (assignInOrder_cons (wpAny_bindName (vK I3 hN hk (.inl hz) rz (λs2 I4=>?_) (.inr hz))));refine assignInOrder_cons (wpAny_bindName (vK I4 hN hj (.inl hy) rw' (λs3 I5=>?_) (.inr hy)));refine assignInOrder_cons (wpAny_bindName (vK I5 hN hi (.inl hx) rv (λs4 I6=>assignInOrder_nil (wpAny_pure ?_)) (.inr hx)));rw[List.set_comm _ _ (Ne.symm hjk),List.set_comm _ _ (Ne.symm hik),List.set_comm _ _ (Ne.symm hij)]at I6;exact⟨_,H1,I6,q1⟩
theorem UJ(hc:X.calm=true)(hN:X.N.Nodup)(hi:X.N[i]?=some x)(hj:X.N[j]?=some y)(hij:i≠j)(hx:X.env.scope.names.lookup x=some .local)(hy:X.env.scope.names.lookup y=some .local)(ha:QA X T E [a,b] mr)
  (hw:swappedStores [.Tuple [.Name x px,.Name y py] kt pt] (.Tuple [a,b] k2 pt2) X.env=pure (some [x,y])) :
  QS X T E (.Assign [.Tuple [.Name x px,.Name y py] kt pt] (.Tuple [a,b] k2 pt2) pos) (λU=>Cz [i,j] (mr U) U):=by
 obtain⟨tr,pr,rr⟩:=ha;refine⟨_,NZ hc hN hi hj hij hx hy pr hw,λZ U U' h H D R S w=>rr Z U U' h H _ R S (W.bind w λZ1 xs bS h1 H1 e1 R1 q1 w1=>?_)⟩;obtain⟨hz,w1⟩:=pZ w1;cases q1 with
 |nil=>cases hz|cons r1 rs=>
  cases rs with
  |nil=>cases hz|cons r2 rs=>
   cases rs with
   |nil=>exact⟨_,_,rfl,W.here (Q:=eG D) (b:=dR.nx _) w1 R1 (((S.ext e1).set r1 i).set r2 j)⟩|cons _ _=>cases hz
theorem UK(hc:X.calm=true)(hN:X.N.Nodup)(hi:X.N[i]?=some x)(hj:X.N[j]?=some y)(hk:X.N[k]?=some z)(hij:i≠j)(hik:i≠k)(hjk:j≠k)
  (hx:X.env.scope.names.lookup x=some .local) (hy:X.env.scope.names.lookup y=some .local) (hz:X.env.scope.names.lookup z=some .local) (ha:QA X T E [a,b,c] mr)
  (hw:swappedStores [.Tuple [.Name x px,.Name y py,.Name z pz] kt pt] (.Tuple [a,b,c] k2 pt2) X.env=pure (some [x,y,z])) :
  QS X T E (.Assign [.Tuple [.Name x px,.Name y py,.Name z pz] kt pt] (.Tuple [a,b,c] k2 pt2) pos) (λU=>Cz [i,j,k] (mr U) U):=by
 obtain⟨tr,pr,rr⟩:=ha;refine⟨_,OA hc hN hi hj hk hij hik hjk hx hy hz pr hw,λZ U U' h H D R S w=>rr Z U U' h H _ R S (W.bind w λZ1 xs bS h1 H1 e1 R1 q1 w1=>?_)⟩;obtain⟨hz,w1⟩:=pZ w1;cases q1 with
 |nil=>cases hz|cons r1 rs=>
  cases rs with
  |nil=>cases hz|cons r2 rs=>
   cases rs with
   |nil=>cases hz|cons r3 rs=>
    cases rs with
    |nil=>exact⟨_,_,_,rfl,W.here (Q:=eG D) (b:=dR.nx _) w1 R1 ((((S.ext e1).set r1 i).set r2 j).set r3 k)⟩|cons _ _=>cases hz
end
mutual
inductive Tg where
 |bad
 |nm (i:Nat)
 |tup (n:Nat) (ts:vP)
 |sub (o i:Ex)
inductive vP where
 |nil
 |cons (t:Tg) (ts:vP)
end
mutual
inductive Sx where
 |bad|pass|brk|cnt|Up
 |expr (e:Ex)
 |ret (e:Ex)
 |asg (t:Tg) (e:Ex)
 |ite (c:Ex) (a b:aP)
 |fV (t:Tg) (it:Ir) (b:aP)
 |zh (c:Ex) (b:aP)
 |par (is:List Nat) (es:dB)
 |mJ (cs:List Nat) (f:Str) (o e:Ex)
inductive aP where
 |nil
 |cons (s:Sx) (ss:aP)
end
mutual
noncomputable def hW(F:dN):Tg->AV->aE->M aE
 |.bad,_,_=>M.bad
 |.nm i,v,U=>M.ret (U.set i (some v))
 |.tup n ts,v,U=>sY n (nM F ts) v U
 |.sub o i,v,U=>(aG F o U).bind λx=>(aG F i U).bind λy=>(mK x y v).bind λ_=>M.ret U
noncomputable def nM(F:dN):vP->List AV->aE->M aE
 |.nil,vs,U=>Bx vs U
 |.cons t ts,vs,U=>Bw (hW F t) (nM F ts) vs U
end
mutual
noncomputable def eQ(F:dN):Sx->aE->M Out
 |.bad,_=>M.bad
 |.pass,U=>M.ret (.nx U)
 |.brk,U=>M.ret (.brk U)
 |.cnt,U=>M.ret (.cnt U)
 |.Up,_=>M.ret (.ret .aB)
 |.expr e,U=>(aG F e U).bind λ_=>M.ret (.nx U)
 |.ret e,U=>(aG F e U).bind λv=>M.ret (.ret v)
 |.asg t e,U=>(aG F e U).bind λv=>(hW F t v U).bind λU1=>M.ret (.nx U1)
 |.ite c a b,U=>sm (cC F c U) (cD F a U) (cD F b U)
 |.fV t it b,U=>(bQ F it U).bind λi=>gN i (hW F t) (cD F b) FU 0 U
 |.zh c b,U=>kW (cC F c) (cD F b) FU U
 |.par is es,U=>Cz is (cK F es U) U
 |.mJ cs f o e,U=>Nk cs f (aG F o U) (aG F e U) U
noncomputable def cD(F:dN):aP->aE->M Out
 |.nil,U=>M.ret (.nx U)
 |.cons s ss,U=>Ux (eQ F s U) (cD F ss)
end
def mw:List Tg->vP
 |[]=>.nil
 |t::ts=>.cons t (mw ts)
def cG(C:Cn):Nat->Expr->Tg
 |0,_=>.bad
 |n+1,e=>match e with
  |.Name x _=>match C.slot x with
   |some i=>.nm i
   |none=>.bad
  |.Tuple es _ _=>if es.all gU then .tup es.length (mw (es.map (cG C n))) else .bad
  |.Subscript a b _=>if aY b then .sub (cE C EF a) (cE C EF b) else .bad
  |_=>.bad
def Ow:Expr->Bool
 |.Tuple ..=>true
 |_=>false
def vL:List Sx->aP
 |[]=>.nil
 |s::ss=>.cons s (vL ss)
def Vh(C:Cn)(y:Str)(yl:Nat)(e:Expr):Bool:=match e with
 |.ListComp _ _ scope pos=>decide (C.sc.kind = .function)&&decide (C.sc.names.lookup y=some .local)&&(yl==pos.line) && !(scope.names.any λx=>x.1==y&&(x.2 == .local||x.2 == .cell))|_=>false
def HP(e:Expr):Bool:=match e with
 |.ListComp _ [⟨_,_,[],0⟩] _ _=>true
 |.ListComp _ [⟨_,_,[_],0⟩] _ _=>true
 |_=>false
def cL(C:Cn)(t e:Expr):Sx:=match t with
 |.Name y py=>match C.slot y with
  |some i=>if Vh C y py.line e&&HP e then .asg (.nm i) (cE C EF e) else
   .bad
  |none=>.bad
 |_=>.bad
def ub(C:Cn):List Expr->Option (List (Str×Pos×Nat))
 |[]=>some []
 |.Name x p::r=>if decide (C.sc.names.lookup x=some .local) then match C.N.idxOf? x,ub C r with
   |some i,some l=>some ((x,p,i)::l)
   |_,_=>none
  else none
 |_=>none
def Qp(C:Cn)(l:List (Str×Pos×Nat))(vs:List Expr):Bool:=decide (C.sc.kind = .function)&&(l.length==2||l.length==3)&&(vs.length==l.length)&&l.all (λx=>x.2.1.line==(l.head?.map (·.2.1.line)).getD 0)&&decide ((l.map (·.1)).Nodup) &&
 vs.all aY && !(vs.all (foldedForSure 8)) && !(vs.all (constantsAlone 8))
def La(C:Cn):Expr->Bool
 |.Name x _=>!decide (C.sc.names.lookup x=some .local)
 |_=>true
def cP(C:Cn)(t e:Expr):Sx:=match t,e with
 |.Tuple ts _ _,.Tuple vs _ _=>match ub C ts with
  |some l=>if Qp C l vs then .par (l.map (·.2.2)) (iM (vs.map (cE C EF))) else
   if vs.all (foldedForSure 8)&&gU t&&aY e then .asg (cG C 4 t) (cE C EF e) else
   .bad
  |none=>if ts.any (La C)&&vs.all aY&&gU t&&aY e then .asg (cG C 4 t) (cE C EF e) else .bad
 |_,_=>.bad
def GP:Expr->Bool
 |.Attribute ..=>true
 |_=>false
def As(C:Cn)(t e:Expr):Sx:=match t with
 |.Attribute o f _=>match C.gM.lookup f with
  |some cs=>if aY e then .mJ cs f (cE C EF o) (cE C EF e) else .bad
  |none=>.bad
 |_=>.bad
def Ak(C:Cn)(t:Expr)(op:Operator)(e:Expr):Sx:=match t with
 |_=>.bad
def Kz(C:Cn)(o:Option Expr):Sx:=match o with
 |none=>.Up
 |some e=>.ret (cE C EF e)
def Kw(C:Cn)(t e:Expr):Sx:=
 if mN e then cL C t e else
 if Ow t&&Ow e then cP C t e else
 if GP t then As C t e else
 if aY e&&gU t then .asg (cG C 4 t) (cE C EF e) else .bad
def Kx(C:Cn)(ts:List Expr)(e:Expr):Sx:=match ts with
 |[t]=>Kw C t e
 |_=>.bad
def cS(C:Cn):Nat->Stmt->Sx
 |0,_=>.bad
 |n+1,s=>match s with
  |.Pass _=>.pass
  |.Break _=>.brk
  |.Continue _=>.cnt
  |.Return o _=>Kz C o
  |.Expr e _=>if aY e && !mN e then .expr (cE C EF e) else .bad
  |.Assign ts e _=>Kx C ts e
  |.AugAssign t op e _=>Ak C t op e
  |.If c a b _=>.ite (cE C EF c) (vL (a.map (cS C n))) (vL (b.map (cS C n)))
  |.For t it b els _=>if els.isEmpty&&aY it then .fV (cG C 4 t) (cI C (cE C EF) t it) (vL (b.map (cS C n))) else .bad
  |.While c b els _=>if els.isEmpty then .zh (cE C EF c) (vL (b.map (cS C n))) else .bad
  |_=>.bad
section
variable {X:Cx}{T:Tab}{E:XK}{C:Cn}{F:dN}(L:Lk X T E C F)(ht:C.top=true)
theorem g9{es:List Expr}{f:Expr->Tg}(hs:es.all gU=true)(h:∀e,QG X T E e (hW F (f e))):vO X T E es (nM F (mw (es.map f))):=by
 induction es with
 |nil=>exact Rk|cons e es ih=>rw[List.all_cons,Bool.and_eq_true]at hs;exact Rj (h e) (ih hs.2) hs.1
include L ht in
theorem mj:∀(n:Nat) (e:Expr),QG X T E e (hW F (cG C n e))
 |0,e=>mU
 |n+1,e=>by
  have ih:=mj n;unfold cG;split
  .split
   .rename_i i hi;unfold Cn.slot at hi;split at hi
    .rename_i hl;have hv:∀{x:Str},C.loc x=true->fb X.env.scope x:=λ{x} hl=>by rw[L.sc];simp only[Cn.loc,Bool.or_eq_true,decide_eq_true_eq]at hl;exact hl
     exact Dk (by rw[L.N];exact L.nd) (by rw[L.N];exact qA hi) (hv hl) (.inl (L.fn ht _))
    .cases hi
   .exact mU
  .split
   .rename_i hs;exact Ri L.K L.calm (g9 hs ih) hs
   .exact mU
  .split
   .rename_i hs;exact QQ (by have:=L.un;omega) (eA EF L _).1 (eA EF L _).1 hs
   .exact mU
  .exact mU
theorem mv{ss:List Stmt}{f:Stmt->Sx}(h:∀s,QS X T E s (eQ F (f s))):nL X T E ss (cD F (vL (ss.map f))):=by
 induction ss with
 |nil=>exact UQ|cons s ss ih=>exact UP (h s) ih
theorem Qf:∀{ts:List Expr} {l:List (Str×Pos×Nat)},ub C ts=some l->ts=l.map (λq=>Expr.Name q.1 q.2.1)/\∀q∈l,C.sc.names.lookup q.1=some .local/\C.N[q.2.2]?=some q.1
 |[],l,h=>by cases h;exact⟨rfl,λq hq=>by cases hq⟩
 |e::es,l,h=>by
  cases e with
  |Name x p=>
   simp only[ub]at h;split at h
   .rename_i hx;split at h
    .rename_i i l' hi hl;cases h;obtain⟨h1,h2⟩:=Qf hl;refine⟨by rw[List.map_cons,h1],λq hq=>?_⟩;rcases List.mem_cons.mp hq with rfl|hq
     .exact⟨of_decide_eq_true hx,qA hi⟩
     .exact h2 q hq
    .cases h
   .cases h
  |_=>cases h
theorem uc{N:List Str}(hN:N.Nodup){i j:Nat}{x y:Str}(h1:N[i]?=some x)(h2:N[j]?=some y)(h:x≠y):i≠j:=by
 rintro rfl
 rw[h1]at h2;exact h (Option.some.inj h2)
theorem qJ{x y:Str}(h:x≠y):(x==y)=false:=beq_eq_false_iff_ne.mpr h
theorem ZV{env:Env}{x y:Str}{px py pt p2:Pos}{kt k2:Nat}{a b:Expr}(hb:env.blockKind = .function)(q1:env.kindOf x=some .local)(q2:env.kindOf y=some .local)(hl:py.line=px.line)(hn:x≠y)
  (s1:aY a=true) (s2:aY b=true) (hff:([a,b].all (foldedForSure 8))=false) (hca:([a,b].all (constantsAlone 8))=false) :
  swappedStores [.Tuple [.Name x px,.Name y py] kt pt] (.Tuple [a,b] k2 p2) env=pure (some [x,y]):=by
 have e1:([x,y]:List Str).eraseDups=[x,y]:=by simp[List.eraseDups_cons,qJ hn,qJ (Ne.symm hn)]
 unfold swappedStores;simp only[List.length_cons,List.length_nil,hb,hff,hca,List.filterMap_cons,List.filterMap_nil,q1,q2,List.head?_cons,Option.map_some,Option.getD_some,hl];simp[e1,Expr.pos,hl];rintro (h|h)
 .cases a<;>first|(cases h;done)|(cases s1;done)
 .cases b<;>first|(cases h;done)|(cases s2;done)
theorem ZW{env:Env}{x y z:Str}{px py pz pt p2:Pos}{kt k2:Nat}{a b c:Expr}(hb:env.blockKind = .function)(q1:env.kindOf x=some .local)(q2:env.kindOf y=some .local)(q3:env.kindOf z=some .local)(hl:py.line=px.line)(hl2:pz.line=px.line)(hn:x≠y)(hn2:x≠z)(hn3:y≠z)
  (s1:aY a=true) (s2:aY b=true) (s3:aY c=true) (hff:([a,b,c].all (foldedForSure 8))=false) (hca:([a,b,c].all (constantsAlone 8))=false) :
  swappedStores [.Tuple [.Name x px,.Name y py,.Name z pz] kt pt] (.Tuple [a,b,c] k2 p2) env=pure (some [x,y,z]):=by
 have e1:([x,y,z]:List Str).eraseDups=[x,y,z]:=by simp[List.eraseDups_cons,qJ hn,qJ (Ne.symm hn),qJ hn2,qJ (Ne.symm hn2),qJ hn3,qJ (Ne.symm hn3)]
 unfold swappedStores;simp only[List.length_cons,List.length_nil,hb,hff,hca,List.filterMap_cons,List.filterMap_nil,q1,q2,q3,List.head?_cons,Option.map_some,Option.getD_some,hl,hl2];simp[e1,Expr.pos,hl,hl2];rintro (h|h|h)
 .cases a<;>first|(cases h;done)|(cases s1;done)
 .cases b<;>first|(cases h;done)|(cases s2;done)
 .cases c<;>first|(cases h;done)|(cases s3;done)
theorem ZT{env:Env}{ts vs:List Expr}{kt k2:Nat}{pt p2:Pos}(hc:∃t∈ts,(match t with
  |.Name id pos=>if env.kindOf id==some .local&&pos.line==(ts.head?.map (·.pos.line)).getD 0 then some id else none
  |_=>none:Option Str)=none) (hv:vs.all aY=true):swappedStores [.Tuple ts kt pt] (.Tuple vs k2 p2) env=pure none:=by
 unfold swappedStores;dsimp only;split
 .rfl
 split
 .rfl
 .obtain⟨t,hm,ht⟩:=hc;rw[if_pos]
  .rw[Bool.or_eq_true];refine .inl ?_;rw[bne_iff_ne];refine Nat.ne_of_lt (List.length_filterMap_lt_length_iff_exists.mpr ⟨t,hm,?_⟩);cases t with
   |Name x p=>exact ht|_=>rfl
theorem ZU{env:Env}{ts vs:List Expr}{kt k2:Nat}{pt p2:Pos}(hv:vs.all (foldedForSure 8)=true):swappedStores [.Tuple ts kt pt] (.Tuple vs k2 p2) env=pure none:=by
 unfold swappedStores;dsimp only;split
 .rfl
 split
 .rfl
 split
 .rfl
 rfl
include L ht in
theorem ZG(t e:Expr)(spos:Pos):QS X T E (.Assign [t] e spos) (eQ F (cP C t e)):=by
 unfold cP;split
 .rename_i ts kt pt vs k2 p2;split
  .rename_i l hl;split
   .rename_i ok;obtain⟨hts,hq⟩:=Qf hl;subst hts;simp only[Qp,Bool.and_eq_true,Bool.not_eq_true',decide_eq_true_eq,beq_iff_eq,Bool.or_eq_true]at ok;obtain⟨⟨⟨⟨⟨⟨⟨hk,hlen⟩,hvl⟩,hline⟩,hnd⟩,hshp⟩,hff⟩,hca⟩:=ok;have qa:=iN (f:=cE C EF) hshp (eA EF L);have hb:X.env.blockKind = .function:=by
     have:X.env.scope.kind = .function:=by rw[L.sc];exact hk
     unfold Env.blockKind;rw[this];rfl
    have lc:∀{x:Str},C.sc.names.lookup x=some .local->X.env.scope.names.lookup x=some .local:=λ{x} h=>by rw[L.sc];exact h
    have kd:∀{x:Str},C.sc.names.lookup x=some .local->X.env.kindOf x=some .local:=λ{x} h=>lc h;match l,vs,hlen,hvl,hline,hnd,hq with
    |[(x,px,i),(y,py,j)],[a,b],_,_,hline,hnd,hq=>obtain⟨q1,g1⟩:=hq (x,px,i) (by simp);obtain⟨q2,g2⟩:=hq (y,py,j) (by simp);simp only[List.all_cons,List.all_nil,Bool.and_true,List.head?_cons,Option.map_some,Option.getD_some,Bool.and_eq_true,beq_iff_eq]at hline;simp only[List.map_cons,List.map_nil,List.nodup_cons,List.mem_cons,List.not_mem_nil,or_false,not_false_eq_true,List.nodup_nil,and_true]at hnd;refine UJ L.calm (by rw[L.N];exact L.nd) (by rw[L.N];exact g1) (by rw[L.N];exact g2) (uc L.nd g1 g2 hnd) (lc q1) (lc q2) qa ?_;simp only[List.all_cons,List.all_nil,Bool.and_true,Bool.and_eq_true]at hshp;exact ZV hb (kd q1) (kd q2) hline.2 hnd hshp.1 hshp.2 hff hca
    |[(x,px,i),(y,py,j),(z,pz,k)],[a,b,c],_,_,hline,hnd,hq=>obtain⟨q1,g1⟩:=hq (x,px,i) (by simp);obtain⟨q2,g2⟩:=hq (y,py,j) (by simp);obtain⟨q3,g3⟩:=hq (z,pz,k) (by simp);simp only[List.all_cons,List.all_nil,Bool.and_true,List.head?_cons,Option.map_some,Option.getD_some,Bool.and_eq_true,beq_iff_eq]at hline;simp only[List.map_cons,List.map_nil,List.nodup_cons,List.mem_cons,List.not_mem_nil,or_false,not_false_eq_true,List.nodup_nil,and_true,not_or]at hnd;refine UK L.calm (by rw[L.N];exact L.nd) (by rw[L.N];exact g1) (by rw[L.N];exact g2) (by rw[L.N];exact g3) (uc L.nd g1 g2 hnd.1.1) (uc L.nd g1 g3 hnd.1.2) (uc L.nd g2 g3 hnd.2) (lc q1) (lc q2) (lc q3) qa ?_;simp only[List.all_cons,List.all_nil,Bool.and_true,Bool.and_eq_true]at hshp;exact ZW hb (kd q1) (kd q2) (kd q3) hline.2.1 hline.2.2 hnd.1.1 hnd.1.2 hnd.2 hshp.1 hshp.2.1 hshp.2.2 hff hca
   .split
    .rename_i hz;simp only[Bool.and_eq_true]at hz;exact Gb (eA EF L _).1 (mj L ht 4 _) hz.2 rfl hz.1.2 (ZU hz.1.1)
    .exact eT
  .split
   .rename_i hz;simp only[Bool.and_eq_true]at hz;refine Gb (eA EF L _).1 (mj L ht 4 _) hz.2 rfl hz.1.2 (ZT ?_ hz.1.1.2);obtain⟨t,hm,hb⟩:=List.any_eq_true.mp hz.1.1.1;refine⟨t,hm,?_⟩;cases t with
    |Name x p=>
     have hk:¬X.env.kindOf x=some .local:=by
      have:¬C.sc.names.lookup x=some .local:=by simpa[La]using hb
      rw[<- L.sc]at this;exact this
     exact if_neg (by simp[hk])
    |_=>rfl
   .exact eT
 .exact eT
include L ht in
theorem ZF(t e:Expr)(spos:Pos)(hlc:mN e=true):QS X T E (.Assign [t] e spos) (eQ F (cL C t e)):=by
 unfold cL;split
 .rename_i y py;split
  .rename_i i hi;split
   .rename_i hsw;rw[Bool.and_eq_true]at hsw;obtain⟨hsw,aN⟩:=hsw;cases e with
    |ListComp elt gens scope pos=>
     simp only[Vh,Bool.and_eq_true,Bool.not_eq_true',decide_eq_true_eq,beq_iff_eq]at hsw;obtain⟨⟨⟨hk,hy⟩,hln⟩,hnm⟩:=hsw;unfold Cn.slot at hi;split at hi
     .have hy':X.env.scope.names.lookup y=some .local:=by rw[L.sc];exact hy
      have hb:X.env.blockKind = .function:=by
       have:X.env.scope.kind = .function:=by rw[L.sc];exact hk
       unfold Env.blockKind;rw[this];rfl
      have hs2:swapsWith (.ListComp elt gens scope pos) (some (.Name y py)) spos.line X.env=pure true:=by show(pure (X.env.blockKind == .function&&X.env.kindOf y==some .local&&py.line==pos.line && !(scope.names.any λ(n,k)=>n==y&&(k == .local||k == .cell))):Sem Bool)=pure true;rw[hb,show X.env.kindOf y=some .local from hy',hln];have:(scope.names.any λ(n,k)=>n==y&&(k==NameKind.local||k==NameKind.cell))=false:=hnm;rw[this];simp
      have hN:X.N.Nodup:=by rw[L.N];exact L.nd
      have hi':X.N[i]?=some y:=by rw[L.N];exact qA hi
      match gens,aN,hs2 with
      |[⟨t,it,[],0⟩],_,hs2=>
       show QS X T E _ (λU=>(aG F (if C.mE scope&&aY it then .gK (C.imp scope) (vW (C.comp scope) t) (cI C (cE C 39) t it) (cE (C.comp scope) 39 elt) else .bad) U).bind λv=>(M.ret (U.set i (some v))).bind λU1=>M.ret (.nx U1));split
       .rename_i hb;rw[Bool.and_eq_true]at hb;have LY:=λs H a fp=>L.comp hb.1 s H a fp;exact Tw (ct:=none) hN hi' hy' hs2 (L.qg hb.1) L.calm (mn L (eA 39 L) _ _) (λs H a fp=>ym (LY s H a fp) _) (λc z=>by cases z) (λ_=>rfl) (λs H a fp=>(eA 39 (LY s H a fp) _).1) (by simp[Cn.imp]) (λi j x e1 e2=>L.imp e1 e2) hb.2
       .exact eT
      |[⟨t,it,[c],0⟩],_,hs2=>
       show QS X T E _ (λU=>(aG F (if C.mE scope&&aY it then .wA (C.imp scope) (vW (C.comp scope) t) (cI C (cE C 39) t it) (cE (C.comp scope) 39 c) (cE (C.comp scope) 39 elt) else .bad) U).bind λv=>(M.ret (U.set i (some v))).bind λU1=>M.ret (.nx U1));split
       .rename_i hb;rw[Bool.and_eq_true]at hb;have LY:=λs H a fp=>L.comp hb.1 s H a fp;exact Tw (ct:=some c) hN hi' hy' hs2 (L.qg hb.1) L.calm (mn L (eA 39 L) _ _) (λs H a fp=>ym (LY s H a fp) _) (λc z s H a fp=>by cases z;exact(eA 39 (LY s H a fp) _).2) (λz=>by cases z) (λs H a fp=>(eA 39 (LY s H a fp) _).1) (by simp[Cn.imp]) (λi j x e1 e2=>L.imp e1 e2) hb.2
       .exact eT
     .cases hi
    |_=>cases hlc
   .exact eT
  .exact eT
 .exact eT
theorem ZX{v o:Expr}{f:Str}{p:Pos}{l:Nat}{env:Env}(h:aY v=true)(hn:mN v=false):swapsWith v (some (.Attribute o f p)) l env=pure false:=by cases v<;>first|rfl|cases h|cases hn
include L in
theorem ZE(t e:Expr)(spos:Pos)(hlc:mN e=false):QS X T E (.Assign [t] e spos) (eQ F (As C t e)):=by
 unfold As;split
 .split
  .rename_i cs hc;split
   .rename_i hs;exact UG (L.gM _ _ hc) (eA EF L _).1 (eA EF L _).1 (ZX hs hlc)
   .exact eT
  .exact eT
 .exact eT
include L ht in
theorem ZD(t:Expr)(op:Operator)(e:Expr)(pos:Pos):QS X T E (.AugAssign t op e pos) (eQ F (Ak C t op e)):=by
 unfold Ak;split
 .exact eT
include L ht in
theorem Vc:∀(n:Nat) (s:Stmt),QS X T E s (eQ F (cS C n s))
 |0,s=>eT
 |n+1,s=>by
  have ih:=Vc n;unfold cS;split
  .exact UL
  .exact UC
  .exact UD
  .unfold Kz;split
   .exact UN
   .exact UM (eA EF L _).1
  .split
   .rename_i hs;rw[Bool.and_eq_true,Bool.not_eq_true']at hs;exact UE (eA EF L _).1 hs.1 hs.2
   .exact eT
  .rename_i ts e spos;unfold Kx;split
   case h_2=>exact eT
   case h_1 t=>
    unfold Kw;split
    .rename_i hlc;exact ZF L ht t e spos hlc
    .rename_i hlc;split
     .exact ZG L ht t e spos
     .rename_i htt;split
      .rename_i hat;exact ZE L t e spos (by simpa using hlc)
      split
      .rename_i hs;rw[Bool.and_eq_true]at hs;refine UB (eA EF L _).1 (mj L ht 4 _) hs.1 (by simpa using hlc) hs.2 λes k p e1 vs k2 p2 e2=>?_;subst e1;subst e2;exact htt rfl
      .exact eT
  .exact ZD L ht _ _ _ _
  .exact UI (eA EF L _).2 (mv ih) (mv ih)
  .rename_i els _;split
   .rename_i hs;rw[Bool.and_eq_true]at hs;cases els with
    |nil=>exact UH L.po L.calm (mn L (eA EF L) _ _) (mj L ht 4 _) (mv ih) hs.2|cons _ _=>cases hs.1
   .exact eT
  .rename_i els _;split
   .rename_i hs;cases els with
    |nil=>exact UO L.po (eA EF L _).2 (mv ih)|cons _ _=>cases hs
   .exact eT
  .exact eT
end
abbrev Pg:=Nat->Option (Nat×Nat×aP)
def Qo:Out->M AV
 |.nx _=>M.ret .aB
 |.ret v=>M.ret v
 |_=>M.bad
def run(P:Pg):Nat->dN
 |0,_,_=>M.bad
 |k+1,f,args=>match P f with
  |none=>M.bad
  |some (np,nn,b)=>M.guard (args.length=np) ((cD (run P k) b (args.map some++List.replicate (nn-np) none)).bind Qo)
def Li:Stmt->List Stmt
 |.ClassDef _ _ _ body ..=>body
 |_=>[]
structure Df where
 name:Str
 qual:Str
 st:Stmt
 N:List Str
 ps:List Str
structure Pr where
 defs:List Df
 qw:Nat
 gj:List (Str×AV)
 eK:List Str
 Wx:List (Str×Nat):=[]
 cat:List (Str×List (Nat×Bool)):=[]
 Oy:List (Str×List (Nat×Bool)):=[]
 gM:List (Str×List Nat):=[]
 iF:List (Str×List (Nat×Nat)):=[]
 iE:List ((Str×Nat)×(Nat×Nat×List AV)):=[]
 eR:List (Str×List (Nat×Bool)):=[]
 iA:List (Str×List (Str×Nat)):=[]
def SF:Nat:=30
def Pr.cn(p:Pr)(d:Df):Cn:=⟨d.N,aF d.st,(p.defs.take p.qw).map (·.name),p.gj,p.eK,p.Wx,p.cat,p.Oy,true
 ,p.gM,p.iF,p.iE,p.eR,p.iA
 ⟩
def Pr.bodyOf(p:Pr)(d:Df):Nat×Nat×aP:=(d.ps.length,d.N.length,vL ((aH d.st).map (cS (p.cn d) SF)))
def Pr.ir(p:Pr):Pg:=λi=>(p.defs[i]?).map p.bodyOf
structure bL(K:W.Frag)(x qual:Str)(st:Stmt)(f:Addr)(fd:FuncData):Prop where
 ex:∃(oc:Value) (od:Option Addr) (dV kV doc pm:Value) (an:Option Addr) (cdv ct:Value) (osl:Array (Option Value)),
  fd=W.fnOf x qual (aI st) (aH st) (aF st) dV kV doc pm an cdv ct/\K.lookup f=some ⟨oc,od,.func fd,osl⟩/\W.codeIn K cdv qual=true
 kp:W.keepIn K (.ref f)=true
structure zo(K:W.Frag)(d:Df)(f:Addr)(fd:FuncData):Prop where
 fn:bL K d.name d.qual d.st f fd
 bd:Binds K fd d.ps []
 sc:bG d.N d.ps (aF d.st)
inductive vM(K:W.Frag):List Df->List Addr->List FuncData->Prop
 |nil:vM K [] [] []
 |cons {d:Df} {a:Addr} {f:FuncData} {ds:List Df} {as:List Addr} {fs:List FuncData} (h:zo K d a f) (t:vM K ds as fs):vM K (d::ds) (a::as) (f::fs)
theorem vM.get{K:W.Frag}{ds:List Df}{as:List Addr}{fs:List FuncData}(h:vM K ds as fs){f0:FuncData}:∀(i:Nat) d,ds[i]?=some d->zo K d (as.getD i 0) (fs.getD i f0):=by
 induction h with
 |nil=>intro i d e;simp at e|cons h t ih=>
  intro i d e;cases i with
  |zero=>cases(show some _=some d from e);exact h|succ i=>exact ih i d e
inductive vN(mg:Str->Option Value):List Df->List Addr->Prop
 |nil {as:List Addr}:vN mg [] as
 |cons {d:Df} {a:Addr} {ds:List Df} {as:List Addr} (h:mg d.name=some (.ref a)) (t:vN mg ds as):vN mg (d::ds) (a::as)
theorem vN.get{mg:Str->Option Value}{ds:List Df}{as:List Addr}(h:vN mg ds as):∀(i:Nat) d,ds[i]?=some d->mg d.name=some (.ref (as.getD i 0)):=by
 induction h with
 |nil=>intro i d e;simp at e|cons h t ih=>
  intro i d e;cases i with
  |zero=>cases(show some _=some d from e);exact h|succ i=>exact ih i d e
theorem m7{α:Type}{us:List α}(h:us.length=0):us=[]:=List.eq_nil_of_length_eq_zero h
theorem nH{α:Type}{us:List α}(h:us.length=1):∃a0,us=[a0]:=by obtain⟨a,r,rfl⟩:=List.exists_cons_of_length_eq_add_one h;obtain rfl:=m7 (us:=r) (by simpa using h);exact⟨a,rfl⟩
theorem eW{α:Type}{us:List α}(h:us.length=2):∃a0 a1,us=[a0,a1]:=by obtain⟨a,r,rfl⟩:=List.exists_cons_of_length_eq_add_one h;obtain⟨b0,rfl⟩:=nH (us:=r) (by simpa using h);exact⟨a,b0,rfl⟩
theorem fI{α:Type}{us:List α}(h:us.length=3):∃a0 a1 a2,us=[a0,a1,a2]:=by obtain⟨a,r,rfl⟩:=List.exists_cons_of_length_eq_add_one h;obtain⟨b0,b1,rfl⟩:=eW (us:=r) (by simpa using h);exact⟨a,b0,b1,rfl⟩
theorem dn{α:Type}{us:List α}(h:us.length=4):∃a0 a1 a2 a3,us=[a0,a1,a2,a3]:=by obtain⟨a,r,rfl⟩:=List.exists_cons_of_length_eq_add_one h;obtain⟨b0,b1,b2,rfl⟩:=fI (us:=r) (by simpa using h);exact⟨a,b0,b1,b2,rfl⟩
theorem Wd{α:Type}{us:List α}(h:us.length=5):∃a0 a1 a2 a3 a4,us=[a0,a1,a2,a3,a4]:=by obtain⟨a,r,rfl⟩:=List.exists_cons_of_length_eq_add_one h;obtain⟨b0,b1,b2,b3,rfl⟩:=dn (us:=r) (by simpa using h);exact⟨a,b0,b1,b2,b3,rfl⟩
structure zy(P:Program)(w:World)(p:Pr)(T:Tab)(mg:Str->Option Value)(ad:Nat->Addr)(fds:Nat->FuncData):Prop where
 df:∀(i:Nat) d,p.defs[i]?=some d->zo T.K d (ad i) (fds i)
 gn:∀(i:Nat) d,(p.defs.take p.qw)[i]?=some d->mg d.name=some (.ref (ad i))
 gv:∀x v,p.gj.lookup x=some v->∃u v',mg x=some u/\RelV v' u/\∀Z H,aJ T Z H v v'
 bl:∀x,p.eK.contains x=true->mg x=none
 tab:∀(kvs:List (Str×Int)) a,T.G kvs a->Ie P w T.K a kvs
 gM:∀f cs,p.gM.lookup f=some cs->og T.K T cs f
 iF:∀m dp,p.iF.lookup m=some dp->∀c i,dp.lookup c=some i->∃d D,p.defs[i]?=some d/\T.C c=some D/\hG T.K D/\Meth T.K D m (ad i)
 iE:∀x n c i dv,p.iE.lookup (x,n)=some (c,i,dv)->∃d D ds dvs,p.defs[i]?=some d/\T.C c=some D/\Mk T.K D (ad i)/\mg x=some (.ref D)/\Binds T.K (fds i) d.ps ds/\Vals dvs ds/\∀Z H,aT T Z H dv dvs
 eR:∀y cs,p.eR.lookup y=some cs->∃D:Addr,mg y=some (.ref D)/\∀k b,cs.lookup k=some b->∃D':Addr,T.C k=some D'/\oi T.K D'/\W.kitOne T.K (.ref D') (.ref D)=some b
 iA:∀x m i,(p.iA.lookup x).bind (·.lookup m)=some i->∃d D,p.defs[i]?=some d/\mg x=some (.ref D)/\W.keepIn T.K (.ref (ad i))=true /\
  W.specialIn T.K (.ref D) "__getattribute__"=some (some (.builtin "type.__getattribute__"))/\W.readsIn T.K D (.type "type")=true/\W.findCls T.K (.ref D) (.type "type") m=some (.val (.ref (ad i)))/\W.handedIn (.ref (ad i))=true
section
variable {P:Program}{w:World}{T:Tab}{mg:Str->Option Value}{base:Heap}{p:Pr}{ad:Nat->Addr}{fds:Nat->FuncData}
theorem ZP{Z:List Addr}{H:Hp}{args:List AV}{vs:List V}{N:List Str}{n:Nat}(r:aT T Z H args vs)(hn:N.length=n):bK T Z H (args.map some++List.replicate (n-args.length) none) (L2.start N vs):=by
 subst hn;unfold L2.start;have hl:=r.length;refine⟨by simp[hl],λi v e=>?_⟩;by_cases hi:i<args.length
 .rw[List.getElem?_append_left (by simpa using hi),List.getElem?_map]at e;cases q:args[i]? with
  |none=>rw[q]at e;cases e|some a=>rw[q]at e;cases e;obtain⟨y,h1,h2⟩:=r.get q;exact⟨y,by rw[List.getElem?_append_left (by rw[List.length_map,<- hl];exact hi),List.getElem?_map,h1];rfl,h2⟩
 .rw[List.getElem?_append_right (by simpa using hi),List.getElem?_replicate]at e;split at e<;>cases e
theorem EY{K:W.Frag}{x qual:Str}{st:Stmt}{f:Addr}{fd:FuncData}{N ps:List Str}{k:Nat}{sp:Sp}(F:bL K x qual st f fd)(S:bG N ps (aF st))(len:∀vs H Q E,sp vs H Q E->vs.length=ps.length)
  (hbody:∀(cdv:Value) (A:Around) (outer:List Env) (s:Shared) (H:Hp) (vs:List V) (Q:VK) (E:XK),cR k (A.deeper (envOfC qual (aF st) s.heap.objs.size f cdv))->sp vs H Q E ->
   ∃t,kZ (nR (eI P w) P w K mg base N qual (aF st) f cdv A outer s H E) (aH st) t/\t { nx:=λ_ H'=>Q .aB H',rt:=Q } (L2.start N vs) H):dX P w K mg base (eI P w) (k+1) f fd ps sp:=by
 obtain⟨oc,od,dV,kV,doc,pm,an,cdv,ct,osl,rfl,lk,hcd⟩:=F.ex;exact EW lk hcd S len λA outer s H vs Q E hr hsp=>hbody cdv A outer s H vs Q E hr hsp
theorem Uw(O:zy P w p T mg ad fds):∀(k i:Nat) (d:Df),p.defs[i]?=some d->dX P w T.K mg base (eI P w) (2*k) (ad i) (fds i) d.ps (lU T (run p.ir k i))
 |0,i,d,hd=>⟨λvs H Q E ⟨Z,h,args,_,_,w⟩=>w.elim,λA outer s H args us vs Q E _ _ _ _ ⟨Z,h,ar,_,_,w⟩=>w.elim⟩
 |k+1,i,d,hd=>by
  have ih:=Uw O k;have D:=O.df i d hd;have hir:p.ir i=some (p.bodyOf d):=by unfold Pr.ir;rw[hd];rfl
  refine EY (k:=2*k+1) D.fn D.sc (λvs H Q E h=>?_) (λcdv A outer s H vs Q E hr h=>?_)
  .obtain⟨Z,h,args,R,r,w⟩:=h;simp only[run,hir,Pr.bodyOf]at w;obtain⟨hl,_⟩:=pZ w;rw[<- r.length,hl]
  .obtain⟨Z,h,args,R,r,wq⟩:=h;simp only[run,hir,Pr.bodyOf]at wq;obtain⟨hl,wq⟩:=pZ wq;have L:Lk (nR (eI P w) P w T.K mg base d.N d.qual (aF d.st) (ad i) cdv A outer s H E) T E (p.cn d) (run p.ir k):={
    K:=rfl
    N:=rfl
    sc:=rfl
    nd:=D.sc.nd
    fn:=λ_ _=>rfl
    calm:=rfl
    po:=PassesOwn.leaving
    gv:=O.gv
    fns:=λj x hx=>by
     have hx':((p.defs.take p.qw).map (·.name))[j]?=some x:=hx;rw[List.getElem?_map]at hx';cases q:(p.defs.take p.qw)[j]? with
     |none=>rw[q]at hx';cases hx'|some d'=>
      rw[q]at hx';cases hx';have q':p.defs[j]?=some d':=by
       rw[List.getElem?_take]at q;split at q
       .exact q
       .cases q
      have D':=O.df j d' q';exact⟨2*k,ad j,fds j,d'.ps,ih j d' q',hr,O.gn j d' q,D'.fn.kp,D'.bd,uh⟩
    eK:=O.bl
    tab:=O.tab
    un:=hr.units
    gM:=O.gM
    iF:=λm dp h c D g h1 h2=>by obtain⟨j,hj,e⟩:=Option.map_eq_some_iff.mp h1;subst e;obtain⟨d',D',q',hc,c1,c2⟩:=O.iF m dp h c j hj;rw[h2]at hc;cases hc;exact⟨2*k,ad j,fds j,d'.ps,ih j d' q',hr.mono (Nat.le_succ _),c1,c2,(O.df j d' q').bd,uh⟩
    iE:=λx n c j dv h=>by obtain⟨d',D',ds,dvs,q',hc,c1,c2,c3,c4,c5⟩:=O.iE x n c j dv h;exact⟨2*k,D',ad j,fds j,d'.ps,ds,dvs,hc,c1,ih j d' q',hr,c2,c3,c4,c5,uh⟩
    eR:=O.eR
    iA:=λx m j h=>by obtain⟨d',D',q',hm,kp,h1,h2,h3,h4⟩:=O.iA x m j h;exact⟨2*k,D',ad j,fds j,d'.ps,hm,ih j d' q',hr.mono (Nat.le_succ _),kp,h1,h2,h3,h4,(O.df j d' q').bd,uh⟩
    dg:=λ_=>rfl
    fr:=λ_=>rfl }
   obtain⟨t,ps,rs⟩:=mv (ss:=aH d.st) (f:=cS (p.cn d) SF) (Vc L rfl SF);refine⟨t,ps,rs Z _ (L2.start d.N vs) h H _ R ?_ (W.bind wq λZ1 o o' h1 H1 e1 R1 q1 w1=>?_)⟩
   .rw[<- hl];exact ZP r rfl
   .cases o with
    |nx U=>cases o' with
     |nx U'=>exact(W.here (Q:=Q) (Rp:=aJ T) (a:=AV.aB) (b:=V.aB) w1 R1 aJ.aB:Q V.aB H1)|_=>exact q1.elim
    |ret v=>cases o' with
     |ret v'=>exact(W.here (Q:=Q) (Rp:=aJ T) (a:=v) (b:=v') w1 R1 q1:Q v' H1)|_=>exact q1.elim
    |brk U=>exact w1.elim|cnt U=>exact w1.elim
def yo(K:W.Frag):Sp:=λvs H Q _=>∃(a:Addr) (ns:List Int),vs=[.ref a]/\mB K H a (ns.map V.int)/\ns.length<=63/\∀H',Q (.bl true) H'
def h0(ns:List Int):AH:=⟨1,λm=>if m=0 then some (.lst false (ns.map AV.int)) else none⟩
def Keeps(P:Pg)(k i:Nat):Prop:=∀ns:List Int,ns.length<=63->∃h',run P k i [.ref 0] (h0 ns) = .ok (.bl true) h'
theorem FP{H:Hp}{a:Addr}{ns:List Int}(h:mB T.K H a (ns.map V.int)):aQ T [a] (h0 ns) H:=by
 have z:∀{n:Nat} {o:dG},(h0 ns).ob n=some o->n=0/\o = .lst false (ns.map AV.int):=λ{n o} e=>by
  have e':(if n=0 then some (dG.lst false (ns.map AV.int)) else none)=some o:=e;by_cases hn:n=0
  .rw[if_pos hn]at e';exact⟨hn,(Option.some.inj e').symm⟩
  .rw[if_neg hn]at e';cases e'
 refine⟨rfl,λn o e=>?_,λn o b e q=>?_,λn m b o u e1 e2 m1 m2 _ _=>?_⟩
 .rw[(z e).1];exact Nat.zero_lt_one
 .obtain⟨rfl,rfl⟩:=z e;cases q;exact⟨_,h,aT.ints ns⟩
 .rw[(z e1).1,(z e2).1]
theorem HN(O:zy P w p T mg ad fds){k i:Nat}{d:Df}(hd:p.defs[i]?=some d)(h:Keeps p.ir k i):dX P w T.K mg base (eI P w) (2*k) (ad i) (fds i) d.ps (yo T.K):=by refine(Uw O k i d hd).imp λvs H Q E ⟨a,ns,e,hf,hl,q⟩=>?_;subst e;obtain⟨h',e⟩:=h ns hl;refine⟨[a],h0 ns,[.ref 0],FP hf,.cons (.ref rfl) .nil,?_⟩;rw[e];intro Z' b H' _ _ r;cases r;exact q H'
theorem EZ{K:W.Frag}{H:Hp}{a:Addr}{xs:List V}(ho:oq H)(h:bO K H a xs):mB K H a xs:=by
 rcases h with(h|h)|h
 .rcases ho a with z|⟨o,ys,z⟩
  .rw[h]at z;cases z
  .rw[h]at z;cases z
 .exact .inl h
 .exact .inr h
end
theorem walk{l:W.OpenLaw}{q:Program}{loose:List Str}{XP:(Str->Option Value)->Heap->Prop}{YP:World->Heap->Prop}{d:DefRec}{K:Params->W.Frag}{k:Nat}{x:Str}(hn:l.most=some 63)(hdf:d.params.defaults=[])(hr:cR k callerA)
  (hY:∀(w:World) (h:Heap),YP w h->(K w.params).In h)
  (F:∀(w:World) (mg:Str->Option Value) (fa:Addr) (h:Heap),(K w.params).In h->h.Ns mainGlobals mg->mg d.name=some (.ref fa) ->
   ∃fd:FuncData,(∀(s:Shared) (u:Value),BindsTo s fd ⟨[u],[]⟩ [(x,u)])/\∀base:Heap,(K w.params).In base->base.Ns mainGlobals mg->dX l.prog w (K w.params) mg base (eI l.prog w) k fa fd [x] (yo (K w.params))) :
  W.WalkO q loose XP YP l.row.toRowW d [] (λf vs=>PySem.call f vs):=
 L2.p4 (n:=63) (k:=k) (x:=x) (CX:=λw=>eI l.prog w) (sp:=λw=>yo (K w.params)) hn (by decide) hdf hr hY F (λ_ _ a ns hl ho hS=>⟨a,ns,rfl,EZ ho hS,hl,λ_=>rfl⟩) λ_ _ _ _ _ ⟨_,_,_,_,_,_,_,_,_,_,_,_,z⟩=>z
def We{α:Type}(Xc:Nat->AH->Prop)(m:M α)(h:AH)(Q:α->AH->Prop):Prop:=match m h with
 |.ok a h'=>Q a h'
 |.exc c _ h'=>Xc c h'
 |.bad=>False
abbrev Wp{α:Type}(m:M α)(h:AH)(Q:α->AH->Prop):Prop:=We (λ_ _=>False) m h Q
variable {Xc:Nat->AH->Prop}
section
variable {α β:Type}{m:M α}{k:α->M β}{h h':AH}{Q:α->AH->Prop}{Q2:β->AH->Prop}{F:dN}{U:aE}
theorem aS(w:We Xc m h λa h1=>We Xc (k a) h1 Q2):We Xc (M.bind m k) h Q2:=by
 unfold We at w ⊢;unfold M.bind;cases e:m h with
 |ok a h1=>rw[e]at w;exact w|exc c x h1=>rw[e]at w;exact w|bad=>rw[e]at w;exact w.elim
theorem We.mono{Q':α->AH->Prop}(w:We Xc m h Q)(f:∀a h1,Q a h1->Q' a h1):We Xc m h Q':=by
 unfold We at w ⊢;cases e:m h with
 |ok a h1=>rw[e]at w;exact f a h1 w|exc c x h1=>rw[e]at w;exact w|bad=>rw[e]at w;exact w.elim
theorem We.eq{a:α}(e:m h = .ok a h')(q:Q a h'):We Xc m h Q:=by unfold We;rw[e];exact q
theorem We.ex(w:We (λ_ _=>False) m h Q):∃a h',m h = .ok a h'/\Q a h':=by
 unfold We at w;cases e:m h with
 |ok a h1=>rw[e]at w;exact⟨a,h1,rfl,w⟩|exc c x h1=>rw[e]at w;exact w.elim|bad=>rw[e]at w;exact w.elim
theorem ei{p:Prop} [Decidable p] (hp:p)(w:We Xc m h Q):We Xc (M.guard p m) h Q:=by unfold We at w ⊢;unfold M.guard;rw[if_pos hp];exact w
variable {V1:AV->AH->Prop}{B1:Bool->AH->Prop}{L1:List AV->AH->Prop}
theorem kX{v:AV}(q:V1 v h):We Xc (aG F (.val v) U) h V1:=q
theorem dA{i:Nat}{v:AV}(e:U[i]?=some (some v))(q:V1 v h):We Xc (aG F (.var i) U) h V1:=by show We Xc (sZ i U) h V1;unfold We sZ;rw[e];exact q
theorem fR{o:Op}{a b:Ex}(w:We Xc (aG F a U) h λx h1=>We Xc (aG F b U) h1 λy h2=>We Xc (o.g x y) h2 V1):We Xc (aG F (.op o a b) U) h V1:=aS (w.mono λ_ _ z=>aS z)
theorem B0{o:Cp}{a b:Ex}(w:We Xc (aG F a U) h λx h1=>We Xc (aG F b U) h1 λy h2=>We Xc (o.g x y) h2 V1):We Xc (aG F (.cmp o a b) U) h V1:=aS (w.mono λ_ _ z=>aS z)
theorem z9{a b:Ex}(w:We Xc (aG F a U) h λx h1=>We Xc (cA x) h1 λt h2=>if t=true then We Xc (aG F b U) h2 V1 else V1 x h2):We Xc (aG F (.and a b) U) h V1:=
 aS (w.mono λx _ z=>aS (z.mono λt _ y=>by
  cases t with
  |true=>exact y|false=>exact y))
theorem C1{a b:Ex}(w:We Xc (aG F a U) h λx h1=>We Xc (cA x) h1 λt h2=>if t=true then V1 x h2 else We Xc (aG F b U) h2 V1):We Xc (aG F (.or a b) U) h V1:=
 aS (w.mono λx _ z=>aS (z.mono λt _ y=>by
  cases t with
  |true=>exact y|false=>exact y))
theorem B7{c a b:Ex}(w:We Xc (cC F c U) h λt h1=>if t=true then We Xc (aG F a U) h1 V1 else We Xc (aG F b U) h1 V1):We Xc (aG F (.ite c a b) U) h V1:=aS (w.mono λt _ y=>by
 cases t with
 |true=>exact y|false=>exact y)
theorem A8{o o':Cp}{a b c:Ex}(w:We Xc (aG F a U) h λx h1=>We Xc (aG F b U) h1 λy h2=>We Xc (o.g x y) h2 λz h3=>∃t,z = .bl t/\if t=true then We Xc (aG F c U) h3 λu h4=>We Xc (o'.g y u) h4 V1 else V1 (.bl false) h3) :
 We Xc (aG F (.chain o o' a b c) U) h V1:=aS (w.mono λx _ z=>aS (z.mono λy _ z=>aS (z.mono λu h3 ⟨t,e,q⟩=>by
 subst e;cases t with
 |true=>exact aS (h:=h3) q|false=>exact q)))
theorem Hv{es:dB}(w:We Xc (cK F es U) h λxs h1=>xs.length<=sizeLine/\V1 (.tup xs) h1):We Xc (aG F (.tup es) U) h V1:=aS (w.mono λxs _ z=>ei z.1 z.2)
theorem zj{es:dB}(w:We Xc (cK F es U) h λxs h1=>xs.length<=sizeLine/\V1 (.ref h1.nx) (h1.new (.lst true xs))):We Xc (aG F (.lst es) U) h V1:=aS (w.mono λxs _ z=>ei z.1 z.2)
theorem nr{a lo hi:Ex}(w:We Xc (aG F a U) h λx h1=>We Xc (gE lo (aG F lo U)) h1 λl h2=>We Xc (gE hi (aG F hi U)) h2 λu h3=>We Xc (lH x l u) h3 V1):We Xc (aG F (.slice a lo hi) U) h V1:=
 aS (w.mono λ_ _ z=>aS (z.mono λ_ _ z=>aS z))
theorem A7{f:Nat}{es:dB}(w:We Xc (cK F es U) h λxs h1=>We Xc (F f xs) h1 V1):We Xc (aG F (.call f es) U) h V1:=aS w
theorem A0{f:Bi}{es:dB}(w:We Xc (cK F es U) h λxs h1=>We Xc (f.g xs) h1 V1):We Xc (aG F (.bi f es) U) h V1:=aS w
theorem Ws{o a:Ex}(w:We Xc (aG F o U) h λx h1=>gP h1 x=true/\We Xc (aG F a U) h1 λy h2=>We Xc (sQ x y) h2 V1):We Xc (aG F (.app o a) U) h V1:=aS (w.mono λx h1 ⟨z1,z2⟩=>by unfold We;simp only[if_pos z1];exact aS z2)
theorem Hw(q:L1 [] h):We Xc (cK F .nil U) h L1:=q
theorem rS{e:Ex}{es:dB}(w:We Xc (aG F e U) h λx h1=>We Xc (cK F es U) h1 λxs h2=>L1 (x::xs) h2):We Xc (cK F (.cons e es) U) h L1:=aS (w.mono λ_ _ z=>aS z)
theorem D3{o:Cp}{a b:Ex}(w:We Xc (aG F a U) h λx h1=>We Xc (aG F b U) h1 λy h2=>We Xc (o.g x y) h2 λz h3=>∃t,z = .bl t/\B1 t h3):We Xc (cC F (.cmp o a b) U) h B1:=
 aS (aS (w.mono λ_ _ z=>aS (z.mono λ_ _ z=>z.mono λu h3 ⟨t,e,q⟩=>by subst e;exact q)))
theorem A9{o o' o'':Cp}{a b c d:Ex}(w:We Xc (aG F a U) h λx h1=>We Xc (aG F b U) h1 λy h2=>We Xc (o.g x y) h2 λz h3=>∃t,z = .bl t/\if t=true then We Xc (aG F c U) h3 λu h4=>We Xc (o'.g y u) h4 λz h5=>∃t,z = .bl t/\if t=true then We Xc (aG F d U) h5 λv h6=>We Xc (o''.g u v) h6 V1 else V1 (.bl false) h5 else V1 (.bl false) h3) :
 We Xc (aG F (.fo o o' o'' a b c d) U) h V1:=aS (w.mono λx _ z=>aS (z.mono λy _ z=>aS (z.mono λu h3 ⟨t,e,q⟩=>by
 subst e;cases t with
 |false=>exact q|true=>exact aS (q.mono λx _ z=>aS (z.mono λu h5 ⟨t,e,q⟩=>by
  subst e;cases t with
  |false=>exact q|true=>exact aS q)))))
theorem D2{o o':Cp}{a b c:Ex}(w:We Xc (aG F (.chain o o' a b c) U) h λz h3=>∃t,z = .bl t/\B1 t h3):We Xc (cC F (.chain o o' a b c) U) h B1:=
 aS (w.mono λu h3 ⟨t,e,q⟩=>by subst e;exact q)
theorem D4{a:Ex}(w:We Xc (cC F a U) h λt h1=>B1 (!t) h1):We Xc (cC F (.not a) U) h B1:=aS w
theorem D0{a b:Ex}(w:We Xc (cC F a U) h λt h1=>if t=true then We Xc (cC F b U) h1 B1 else B1 false h1):We Xc (cC F (.and a b) U) h B1:=aS (w.mono λt _ y=>by
 cases t with
 |true=>exact y|false=>exact y)
theorem D5{a b:Ex}(w:We Xc (cC F a U) h λt h1=>if t=true then B1 true h1 else We Xc (cC F b U) h1 B1):We Xc (cC F (.or a b) U) h B1:=aS (w.mono λt _ y=>by
 cases t with
 |true=>exact y|false=>exact y)
theorem D1{f:Nat}{es:dB}(w:We Xc (aG F (.call f es) U) h λx h1=>We Xc (cA x) h1 B1):We Xc (cC F (.call f es) U) h B1:=aS w
theorem dq{i j:Int}(q:V1 (.int (i+j)) h):We Xc (Op.g .add (.int i) (.int j)) h V1:=q
theorem x8{i j:Int}(q:V1 (.int (i-j)) h):We Xc (Op.g .sub (.int i) (.int j)) h V1:=q
theorem nJ{p:Int->Int->Bool}{f:Int->Int->Int}{i j:Int}(hp:p i j=true)(q:V1 (.int (f i j)) h):We Xc (gO p f (.int i) (.int j)) h V1:=by unfold We gO;simp only[if_pos hp];exact q
theorem w9{i j:Int}(hp:wM i j=true)(q:V1 (.int (i*j)) h):We Xc (Op.g .mul (.int i) (.int j)) h V1:=nJ hp q
theorem Wi{i j:Int}(hp:iL j=true)(q:V1 (.int (i / j)) h):We Xc (Op.g .fdiv (.int i) (.int j)) h V1:=nJ (p:=λ_ j=>iL j) hp q
theorem Wk{i j:Int}(hp:0<j)(q:V1 (.int (i%j)) h):We Xc (Op.g .mod (.int i) (.int j)) h V1:=nJ (p:=λ_ j=>decide (0<j)) (decide_eq_true hp) q
theorem Hu{i j:Int}(hp:qO i j=true)(q:V1 (.int (i ^ j.toNat)) h):We Xc (Op.g .pow (.int i) (.int j)) h V1:=nJ (f:=λi j=>i ^ j.toNat) hp q
theorem Wl{i j:Int}(hp:qO i j=true)(q:V1 (.int (i*2 ^ j.toNat)) h):We Xc (Op.g .shl (.int i) (.int j)) h V1:=nJ (f:=λi j=>i*2 ^ j.toNat) hp q
theorem Wm{i j:Int}(hp:0<=j)(q:V1 (.int (i / 2 ^ j.toNat)) h):We Xc (Op.g .shr (.int i) (.int j)) h V1:=nJ (p:=λ_ j=>decide (0<=j)) (f:=λi j=>i / 2 ^ j.toNat) (decide_eq_true hp) q
theorem q8{i j:Int}(q:V1 (.int (Builtin.bitAnd i j)) h):We Xc (Op.g .band (.int i) (.int j)) h V1:=nJ (p:=λ_ _=>true) (f:=Builtin.bitAnd) rfl q
theorem q9{i j:Int}(q:V1 (.int (Builtin.bitOr i j)) h):We Xc (Op.g .bor (.int i) (.int j)) h V1:=nJ (p:=λ_ _=>true) (f:=Builtin.bitOr) rfl q
theorem r9{i j:Int}(q:V1 (.int (Builtin.bitXor i j)) h):We Xc (Op.g .bxor (.int i) (.int j)) h V1:=nJ (p:=λ_ _=>true) (f:=Builtin.bitXor) rfl q
theorem u6{i j:Int}(q:V1 (.bl (decide (i<j))) h):We Xc (Cp.g .lt (.int i) (.int j)) h V1:=q
theorem u5{i j:Int}(q:V1 (.bl (decide (i<=j))) h):We Xc (Cp.g .le (.int i) (.int j)) h V1:=q
theorem t8{i j:Int}(q:V1 (.bl (decide (j<=i))) h):We Xc (Cp.g .ge (.int i) (.int j)) h V1:=q
theorem t5{i j:Int}(q:V1 (.bl (decide (i=j))) h):We Xc (Cp.g .eq (.int i) (.int j)) h V1:=q
theorem x6{i j:Int}(q:V1 (.bl (!decide (i=j))) h):We Xc (Cp.g .ne (.int i) (.int j)) h V1:=q
theorem t6{i j:Str}(q:V1 (.bl (decide (i=j))) h):We Xc (Cp.g .eq (.str i) (.str j)) h V1:=q
theorem Wh{x y:AV}{b:Bool}(e:dY x y=some b)(q:V1 (.bl b) h):We Xc (Cp.g .eq x y) h V1:=by show We Xc (sS x y) h V1;unfold We sS;rw[e];exact q
theorem u0{x:AV}(q:V1 (.bl (!fK x)) h):We Xc (Cp.g .isn x .aB) h V1:=q
theorem Gs{x:AV}{xs:List AV}(e:cV h x=some xs):dS h x=none:=by
 cases x with
 |ref n=>
  simp only[cV]at e;simp only[dS];cases o:h.ob n with
  |none=>rfl|some u=>
   rw[o]at e;cases u with
   |lst m ys=>rfl|_=>cases e
 |_=>rfl
theorem Wj{x y:AV}{xs:List AV}(e:cV h y=some xs)(f:(bY x&&xs.all bY)=true)(q:V1 (.bl (mM x xs)) h):We Xc (Cp.g .qD x y) h V1:=by show We Xc (pW false x y) h V1;have ed:dS h y=none:=Gs e;unfold We pW;simp only[ed];unfold pX;rw[e];simp only[if_pos f];exact q
theorem bD{x v:AV}{i:Int}{xs:List AV}(e:cV h x=some xs)(e2:cW xs i=some v)(q:V1 v h):We Xc (Op.g .ix x (.int i)) h V1:=by
 show We Xc (sW x (.int i)) h V1;have ed:dS h x=none:=Gs e;unfold We sW;simp only[ed];unfold Ny;unfold wG;cases x with
 |str z=>cases e|aB=>cases e|bl _=>cases e|int _=>cases e|lI _=>cases e|tup ys=>simp only[e,Option.bind_some,e2];exact q|ref n=>simp only[e,Option.bind_some,e2];exact q
theorem x9{b:Bool}(q:B1 b h):We Xc (cA (.bl b)) h B1:=q
theorem Ht{x:AV}{xs:List AV}(e:cV h x=some xs)(q:V1 (.int xs.length) h):We Xc (Bi.g .len [x]) h V1:=by
 show We Xc (gi [x]) h V1;unfold We gi;cases x with
 |str z=>cases e|aB=>cases e|bl _=>cases e|int _=>cases e|lI _=>cases e|tup ys=>simp only[e];exact q|ref n=>simp only[e];exact q
theorem t9{b:Bool}(q:V1 (.int (if b then 1 else 0)) h):We Xc (Bi.g .int [.bl b]) h V1:=q
theorem u7{i j:Int}(q:V1 (.int (if j > i then j else i)) h):We Xc (Bi.g .max [.int i,.int j]) h V1:=q
theorem t4{i j:Int}(hp:iL j=true)(q:V1 (.tup [.int (i / j),.int (i%j)]) h):We Xc (Bi.g .divmod [.int i,.int j]) h V1:=by show We Xc (qy [.int i,.int j]) h V1;unfold We qy qE;simp only[if_pos hp];exact q
theorem dz{x:AV}{xs:List AV}(e:cV h x=some xs)(q:V1 (.tup xs) h):We Xc (Bi.g .tuple [x]) h V1:=by show We Xc (rq [x]) h V1;unfold We rq qN;simp only[Option.bind_some,e];exact q
theorem ni{x:AV}{xs:List AV}(e:cV h x=some xs)(q:V1 (.ref h.nx) (h.new (.lst true xs))):We Xc (Bi.g .list [x]) h V1:=by show We Xc (rj [x]) h V1;unfold We rj qN gB;simp only[Option.bind_some,e];exact q
theorem nI{n:Nat}{v:AV}{xs:List AV}(e:h.ob n=some (.lst true xs))(hz:xs.length<sizeLine)(q:V1 .aB (h.put n (.lst true (xs++[v])))):We Xc (sQ (.ref n) v) h V1:=by unfold We sQ;simp only[e,if_pos hz];exact q
theorem dr{n k:Nat}{xs ys:List AV}(e:h.ob n=some (.lst true xs))(e2:h.ob k=some (.lst true ys))(hz:xs.length+ys.length<=sizeLine)(q:V1 (.ref h.nx) (h.new (.lst true (xs++ys)))):We Xc (Op.g .add (.ref n) (.ref k)) h V1:=by show We Xc (fX (.ref n) (.ref k)) h V1;unfold We fX;simp only[e,e2,if_pos hz];exact q
theorem lZ{n:Nat}{b:Bool}{lo hi:Option Int}{xs:List AV}(e:h.ob n=some (.lst b xs))(q:V1 (.ref h.nx) (h.new (.lst true (gL xs lo hi)))):We Xc (lH (.ref n) lo hi) h V1:=by unfold We lH;simp only[e];exact q
variable {P1:Option Int->AH->Prop}
theorem nk(q:P1 none h){m:M AV}:We Xc (gE .no m) h P1:=q
theorem nq{e:Ex}(he:∀m,gE e m=m.bind pY)(w:We Xc (aG F e U) h λx h1=>∃i,x = .int i/\P1 (some i) h1):We Xc (gE e (aG F e U)) h P1:=by rw[he];exact aS (w.mono λx h1 ⟨i,e,q⟩=>by subst e;exact q)
end
def Wt(Xc:Nat->AH->Prop)(m:M Out)(h:AH)(N:aE->AH->Prop)(R:AV->AH->Prop)(B C:aE->AH->Prop):Prop:=We Xc m h λo h1=>match o with
 |.nx U=>N U h1
 |.ret v=>R v h1
 |.brk U=>B U h1
 |.cnt U=>C U h1
section
variable {F:dN}{U:aE}{h:AH}{N B C:aE->AH->Prop}{R:AV->AH->Prop}
theorem Ia(q:N U h):Wt Xc (cD F .nil U) h N R B C:=q
theorem nK{s:Sx}{ss:aP}(w:Wt Xc (eQ F s U) h (λU1 h1=>Wt Xc (cD F ss U1) h1 N R B C) R B C):Wt Xc (cD F (.cons s ss) U) h N R B C:=
 aS (We.mono w λo h1 z=>by
  cases o with
  |nx U1=>exact z|ret v=>exact z|brk U1=>exact z|cnt U1=>exact z)
theorem ny{e:Ex}(w:We Xc (aG F e U) h R):Wt Xc (eQ F (.ret e) U) h N R B C:=aS w
theorem Ww{e:Ex}(w:We Xc (aG F e U) h λ_ h1=>N U h1):Wt Xc (eQ F (.expr e) U) h N R B C:=aS w
theorem C6{i:Nat}{e:Ex}(w:We Xc (aG F e U) h λv h1=>N (U.set i (some v)) h1):Wt Xc (eQ F (.asg (.nm i) e) U) h N R B C:=aS w
theorem zk{t:Tg}{e:Ex}(w:We Xc (aG F e U) h λv h1=>We Xc (hW F t v U) h1 N):Wt Xc (eQ F (.asg t e) U) h N R B C:=aS (w.mono λ_ _ z=>aS z)
theorem o8{i:Nat}{v:AV}{Q:aE->AH->Prop}(q:Q (U.set i (some v)) h):We Xc (hW F (.nm i) v U) h Q:=q
theorem Hq{n:Nat}{ts:vP}{v:AV}{xs:List AV}{Q:aE->AH->Prop}(e:cV h v=some xs)(hl:xs.length=n)(w:We Xc (nM F ts xs U) h Q):We Xc (hW F (.tup n ts) v U) h Q:=by show We Xc (sY n (nM F ts) v U) h Q;unfold We sY;simp only[e,if_pos hl];exact w
theorem n9{Q:aE->AH->Prop}(q:Q U h):We Xc (nM F .nil [] U) h Q:=q
theorem m9{t:Tg}{ts:vP}{v:AV}{vs:List AV}{Q:aE->AH->Prop}(w:We Xc (hW F t v U) h λU1 h1=>We Xc (nM F ts vs U1) h1 Q):We Xc (nM F (.cons t ts) (v::vs) U) h Q:=aS w
theorem o9{o i:Ex}{v:AV}{Q:aE->AH->Prop}(w:We Xc (aG F o U) h λx h1=>We Xc (aG F i U) h1 λy h2=>∃n xs k j,x = .ref n/\y = .int k/\h2.ob n=some (.lst true xs)/\gA xs.length k=some j/\Q U (h2.put n (.lst true (xs.set j v)))):We Xc (hW F (.sub o i) v U) h Q:=
 aS (w.mono λx _ z=>aS (z.mono λy h2 ⟨n,xs,k,j,e1,e2,e3,e4,q⟩=>aS (by
  subst e1;subst e2;have ed:dS h2 (.ref n)=none:=Gs (xs:=xs) (by simp only[cV,e3]);unfold We mK;simp only[ed];unfold iQ;simp only[e3,e4];exact q)))
theorem C5{c:Ex}{a b:aP}(w:We Xc (cC F c U) h λt h1=>if t=true then Wt Xc (cD F a U) h1 N R B C else Wt Xc (cD F b U) h1 N R B C):Wt Xc (eQ F (.ite c a b) U) h N R B C:=aS (w.mono λt _ y=>by
 cases t with
 |true=>exact y|false=>exact y)
theorem qx{it:dW}{g:AV->aE->M aE}{body:aE->M Out}(I:Nat->aE->AH->Prop)(n:Nat)
  (turn:∀i U h,i<n->I i U h->∃v,it i h=some (some v)/\We Xc (g v U) h λU1 h1=>Wt Xc (body U1) h1 (I (i+1)) R N (I (i+1)))
  (done:∀U h,I n U h->it n h=some none/\N U h):∀(f i:Nat) (U:aE) (h:AH),i<=n->n-i<f->I i U h->Wt Xc (gN it g body f i U) h N R B C
 |0,i,U,h,hi,hf,_=>by omega
 |f+1,i,U,h,hi,hf,hI=>by
  have ih:=qx I n turn done f;by_cases hn:i<n
  .obtain⟨v,e,w⟩:=turn i U h hn hI;unfold Wt We gN;simp only[e];refine aS (w.mono λU1 h1 w1=>aS (We.mono w1 λo h2 z=>?_));cases o with
   |nx U2=>exact ih (i+1) U2 h2 hn (by omega) z|cnt U2=>exact ih (i+1) U2 h2 hn (by omega) z|brk U2=>exact z|ret v=>exact z
  .have e0:i=n:=by omega
   subst e0;obtain⟨e,q⟩:=done U h hI;unfold Wt We gN;simp only[e];exact q
theorem C3{t:Tg}{it:Ir}{b:aP}(w:We Xc (bQ F it U) h λi h1=>Wt Xc (gN i (hW F t) (cD F b) FU 0 U) h1 N R B C):Wt Xc (eQ F (.fV t it b) U) h N R B C:=aS w
variable {Q:dW->AH->Prop}
theorem y4{e:Ex}(w:We Xc (aG F e U) h λx h1=>We Xc (sU x) h1 Q):We Xc (bQ F (.seq e) U) h Q:=aS w
theorem y3{es:dB}(w:We Xc (cK F es U) h λxs h1=>∃j,xs=[.int j]/\nB j=true/\Q (iX 0 j.toNat) h1):We Xc (bQ F (.nA es) U) h Q:=aS (w.mono λxs h1 ⟨j,e,r,q⟩=>by subst e;unfold We rm;simp only[if_pos r];exact q)
theorem y2{e:Ex}(w:We Xc (aG F e U) h λx h1=>∃n b xs,x = .ref n/\h1.ob n=some (.lst b xs)/\Q (lG (fP n)) h1):We Xc (bQ F (.enum e) U) h Q:=aS (w.mono λx h1 ⟨n,b,xs,e,r,q⟩=>by subst e;unfold We qz;simp only[r];exact q)
theorem y6{xs:List AV}(q:Q (lY xs) h):We Xc (sU (.tup xs)) h Q:=q
theorem eg{n:Nat}{b:Bool}{xs:List AV}(e:h.ob n=some (.lst b xs))(q:Q (fP n) h):We Xc (sU (.ref n)) h Q:=by unfold We sU gh;simp only[e];exact q
theorem bF{P:Pg}{k f np nn:Nat}{b:aP}{args:List AV}(e:P f=some (np,nn,b))(hl:args.length=np)(w:Wt Xc (cD (run P k) b (args.map some++List.replicate (nn-np) none)) h (λ_ h1=>R .aB h1) R (λ_ _=>False) (λ_ _=>False)):We Xc (run P (k+1) f args) h R:=by
 show We Xc (match P f with
  |none=>M.bad
  |some (np,nn,b)=>M.guard (args.length=np) ((cD (run P k) b (args.map some++List.replicate (nn-np) none)).bind Qo)) h R
 rw[e];refine ei hl (aS (We.mono w λo h1 z=>?_));cases o with
 |nx U=>exact z|ret v=>exact z|brk U=>exact z.elim|cnt U=>exact z.elim
end
theorem Keeps.of{P:Pg}{k i:Nat}(h:∀ns:List Int,ns.length<=63->Wp (run P k i [.ref 0]) (h0 ns) λv _=>v = .bl true):Keeps P k i:=λns hl=>by obtain⟨a,h',e,q⟩:=(h ns hl).ex;subst q;exact⟨h',e⟩
end AM
namespace AM
theorem GB{c:Prop} [Decidable c] {A B:Prop}(h1:c->A)(h2:¬c->B):if decide c=true then A else B:=by
 by_cases h:c
 .rw[decide_eq_true h,if_pos rfl];exact h1 h
 .rw[decide_eq_false h,if_neg Bool.false_ne_true];exact h2 h
theorem GF{c:Prop} [Decidable c] {A B:Prop}(h1:¬c->A)(h2:c->B):if(!decide c)=true then A else B:=by
 by_cases h:c
 .rw[decide_eq_true h,Bool.not_true,if_neg Bool.false_ne_true];exact h2 h
 .rw[decide_eq_false h,Bool.not_false,if_pos rfl];exact h1 h
theorem qB{b:Bool}{A B:Prop}(e:b=true)(h:A):if b=true then A else B:=by rw[if_pos e];exact h
theorem By{b:Bool}{A B:Prop}(e:b=false)(h:B):if b=true then A else B:=by rw[if_neg (by rw[e];exact Bool.false_ne_true)];exact h
theorem GC{c:Prop} [Decidable c] {A B:Prop}(e:c)(h:A):if decide c=true then A else B:=qB (decide_eq_true e) h
theorem gk{c:Prop} [Decidable c] {A B:Prop}(e:¬c)(h:B):if decide c=true then A else B:=By (decide_eq_false e) h
theorem GG{c:Prop} [Decidable c] {A B:Prop}(e:c)(h:B):if(!decide c)=true then A else B:=By (by rw[decide_eq_true e];rfl) h
theorem sd{c:Prop} [Decidable c] {A B:Prop}(e:¬c)(h:A):if(!decide c)=true then A else B:=qB (by rw[decide_eq_false e];rfl) h
end AM
namespace AM
open PySem PySem.Spec PyProof.Rows L2
section
variable {F:dN}{U:aE}{h:AH}{V1:AV->AH->Prop}
theorem p7(q:V1 (.int 18446744073709551616) h):We Xc (aG F (.op .pow (.val (.int 2)) (.val (.int 64))) U) h V1:=by refine fR (kX (kX (Hu (by decide) ?_)));rw[show((2:Int) ^ Int.toNat 64)=18446744073709551616 from by decide +kernel];exact q
theorem p6(q:V1 (.int 100000000000000000000) h):We Xc (aG F (.op .pow (.val (.int 10)) (.val (.int 20))) U) h V1:=by refine fR (kX (kX (Hu (by decide) ?_)));rw[show((10:Int) ^ Int.toNat 20)=100000000000000000000 from by decide +kernel];exact q
end
theorem IZ{i j:Int}(h1:-18446744073709551616<j)(h2:j<18446744073709551616):wM i j=true:=by
 have e:(18446744073709551616:Nat)=2 ^ 64:=by decide
 simp only[wM,Bool.or_eq_true,Bool.and_eq_true,decide_eq_true_eq];exact .inl (.inr (by omega))
theorem bA{h:AH}{n:Nat}{b:Bool}{xs:List AV}(e:h.ob n=some (.lst b xs)):cV h (.ref n)=some xs:=by simp only[cV,e]
def cell(ns:List Int)(i:Int):Int:=ns.getD i.toNat 0
theorem Iq{ns:List Int}{i:Int}(h0:0<=i)(h1:i<(ns.map AV.int).length):cW (ns.map AV.int) i=some (.int (cell ns i)):=by
 have hl:i.toNat<ns.length:=by rw[List.length_map]at h1;omega
 unfold cW gA;rw[if_pos h0,if_pos h1];simp only[Option.bind_some,List.getElem?_map,cell,List.getD,List.getElem?_eq_getElem hl,Option.map_some,Option.getD_some]
def wB{α:Type}(xs:List α)(lo hi:Option Int):List α:=(xs.drop (HT.aZ xs.length 0 lo)).take (HT.aZ xs.length xs.length hi-HT.aZ xs.length 0 lo)
theorem Za{α:Type}(xs:List α)(f:α->AV)(lo hi:Option Int):gL (xs.map f) lo hi=(wB xs lo hi).map f:=by unfold gL wB;rw[List.length_map,<- List.map_drop,<- List.map_take]
theorem Yz{α:Type}(xs:List α)(lo hi:Option Int):(wB xs lo hi).length<=xs.length:=by unfold wB;rw[List.length_take,List.length_drop];omega
theorem aU{h:AH}{o:dG}:(h.new o).ob h.nx=some o:=by simp only[AH.new,if_pos]
theorem dE{h:AH}{o:dG}{n:Nat}(hn:n≠h.nx):(h.new o).ob n=h.ob n:=by simp only[AH.new,if_neg hn]
theorem fG{h:AH}{o:dG}{n:Nat}:(h.put n o).ob n=some o:=by simp only[AH.put,if_pos]
theorem bW{h:AH}{o:dG}{n k:Nat}(hn:k≠n):(h.put n o).ob k=h.ob k:=by simp only[AH.put,if_neg hn]
theorem wL{h:AH}{n i:Nat}{b:Bool}{xs:List AV}(e:h.ob n=some (.lst b xs)):fP n i h=some xs[i]?:=by simp only[fP,e]
theorem Mj{h:AH}{n i:Nat}{b:Bool}{xs:List AV}{v:AV}(e:h.ob n=some (.lst b xs))(hv:xs[i]?=some v):lG (fP n) i h=some (some (.tup [.int i,v])):=by simp only[lG,wL e,hv]
theorem Mi{h:AH}{n i:Nat}{b:Bool}{xs:List AV}(e:h.ob n=some (.lst b xs))(hv:xs[i]?=none):lG (fP n) i h=some none:=by simp only[lG,wL e,hv]
theorem Bo{n:Nat}{bb:Bool}{xs:List AV}{g:AV->aE->M aE}{body:aE->M Out}{N B C:aE->AH->Prop}{R:AV->AH->Prop}{U:aE}{h:AH}(I:Nat->aE->AH->Prop)(hn:xs.length<FU)(i0:I 0 U h)(il:∀i U h,I i U h->h.ob n=some (.lst bb xs))
  (turn:∀(i:Nat) x U h,xs[i]?=some x->I i U h->We Xc (g (.tup [.int i,x]) U) h λU1 h1=>Wt Xc (body U1) h1 (I (i+1)) R N (I (i+1)))
  (done:∀U h,I xs.length U h->N U h):Wt Xc (gN (lG (fP n)) g body FU 0 U) h N R B C:=by
 refine qx I xs.length (λi U h hi hI=>?_) (λU h hI=>⟨Mi (il _ _ _ hI) (by simp),done U h hI⟩) FU 0 U h (Nat.zero_le _) (by omega) i0;exact⟨_,Mj (il _ _ _ hI) (List.getElem?_eq_getElem hi),turn i _ U h (List.getElem?_eq_getElem hi) hI⟩
theorem Bp{n:Nat}{bb:Bool}{xs:List AV}{g:AV->aE->M aE}{body:aE->M Out}{N B C:aE->AH->Prop}{R:AV->AH->Prop}{U:aE}{h:AH}(I:Nat->aE->AH->Prop)(hn:xs.length<FU)(i0:I 0 U h)(il:∀i U h,I i U h->h.ob n=some (.lst bb xs))
  (turn:∀(i:Nat) x U h,xs[i]?=some x->I i U h->We Xc (g x U) h λU1 h1=>Wt Xc (body U1) h1 (I (i+1)) R N (I (i+1)))
  (done:∀U h,I xs.length U h->N U h):Wt Xc (gN (fP n) g body FU 0 U) h N R B C:=by
 refine qx I xs.length (λi U h hi hI=>?_) (λU h hI=>⟨by rw[wL (il _ _ _ hI)];simp,done U h hI⟩) FU 0 U h (Nat.zero_le _) (by omega) i0;exact⟨_,by rw[wL (il _ _ _ hI),List.getElem?_eq_getElem hi],turn i _ U h (List.getElem?_eq_getElem hi) hI⟩
theorem Np{lo:Int}{n:Nat}{g:AV->aE->M aE}{body:aE->M Out}{N B C:aE->AH->Prop}{R:AV->AH->Prop}{U:aE}{h:AH}(I:Nat->aE->AH->Prop)(hn:n<FU)(i0:I 0 U h)
  (turn:∀(i:Nat) U h,i<n->I i U h->We Xc (g (.int (lo+i)) U) h λU1 h1=>Wt Xc (body U1) h1 (I (i+1)) R N (I (i+1)))
  (done:∀U h,I n U h->N U h):Wt Xc (gN (iX lo n) g body FU 0 U) h N R B C:=by
 refine qx I n (λi U h hi hI=>?_) (λU h hI=>⟨by simp[iX],done U h hI⟩) FU 0 U h (Nat.zero_le _) (by omega) i0;exact⟨_,by simp only[iX,if_pos hi],turn i U h hi hI⟩
theorem eY:FU=1000000:=rfl
theorem CU{t:Bool}{P:Bool->Prop}(q:P t):∃t',AV.bl t = .bl t'/\P t':=⟨t,rfl,q⟩
theorem CY{j:Int}{P:Int->Prop}(hr:nB j=true)(q:P j):∃j',[AV.int j]=[.int j']/\nB j'=true/\P j':=⟨j,rfl,hr,q⟩
theorem CW{i:Int}{P:Int->Prop}(q:P i):∃i',AV.int i = .int i'/\P i':=⟨i,rfl,q⟩
theorem CV{n:Nat}{P:Prop}(hn:n<=sizeLine)(q:P):n<=sizeLine/\P:=⟨hn,q⟩
theorem Ut{j:Int}(h1:-4611686018427387904<=j)(h2:j<4611686018427387904):nB j=true:=by simp only[nB,Bool.and_eq_true,decide_eq_true_eq];omega
end AM
namespace AM
structure Kp(h h':AH):Prop where
 nx:h.nx<=h'.nx
 ob:∀n,n<h.nx->h'.ob n=h.ob n
theorem Kp.refl{h:AH}:Kp h h:=⟨Nat.le_refl _,λ_ _=>rfl⟩
theorem Kp.trans{a b c:AH}(x:Kp a b)(y:Kp b c):Kp a c:=⟨Nat.le_trans x.nx y.nx,λn hn=>(y.ob n (Nat.lt_of_lt_of_le hn x.nx)).trans (x.ob n hn)⟩
theorem Kp.new{a b:AH}{o:dG}(x:Kp a b):Kp a (b.new o):=⟨Nat.le_succ_of_le x.nx,λn hn=>(dE (Nat.ne_of_lt (Nat.lt_of_lt_of_le hn x.nx))).trans (x.ob n hn)⟩
theorem Kp.put{a b:AH}{o:dG}{k:Nat}(x:Kp a b)(hk:a.nx<=k):Kp a (b.put k o):=⟨x.nx,λn hn=>(bW (Nat.ne_of_lt (Nat.lt_of_lt_of_le hn hk))).trans (x.ob n hn)⟩
end AM
namespace AM
open PySem PySem.Spec PyProof.Rows L2
inductive bR where
 |sum|less|times|share|rest|both|yn|odd|up|down|below|same
def bR.nm:bR->Str
 |.sum=>"sum" |.less=>"less" |.times=>"times" |.share=>"share" |.rest=>"rest" |.both=>"both" |.yn=>"some" |.odd=>"odd" |.up=>"up" |.down=>"down" |.below=>"below" |.same=>"same"
inductive aC where
 |way (w:bR) (x y z:Int)|set (x v:Int)|move (x y:Int)|load (x y s:Int)|store (x y s:Int)|iD (x t:Int)|go (t:Int)|fault (v:Int)
def aC.av:aC->AV
 |.way w x y z=>.tup [.str w.nm,.int x,.int y,.int z] | .set x v=>.tup [.str "set",.int x,.int v] | .move x y=>.tup [.str "move",.int x,.int y]
 |.load x y s=>.tup [.str "load",.int x,.int y,.int s] | .store x y s=>.tup [.str "store",.int x,.int y,.int s] | .iD x t=>.tup [.str "jump",.int x,.int t]
 |.go t=>.tup [.str "go",.int t] | .fault v=>.tup [.str "fault",.int v]
def aC.nw:aC->Nat
 |.way _ _ _ _=>2 | .set _ _=>0 | .move _ _=>1 | .load _ _ _=>1 | .store _ _ _=>2 | .iD _ _=>1 | .go _=>0 | .fault _=>0
def aC.pl(ws:List Int):aC->AV
 |.load _ _ s=>.int (cell ws 0+s) | .store _ _ s=>.int (cell ws 1+s)
 |_=>.aB
def aC.gs(a:Int)(ws:List Int):aC->Int
 |.go t=>t
 |.iD _ t=>if cell ws 0≠0 then t else a+1
 |_=>a+1
theorem su{ws:List Int}(h:ws.length=1):∃a,ws=[a]:=by
 match ws,h with
 |[a],_=>exact⟨a,rfl⟩
theorem gu{ws:List Int}(h:ws.length=2):∃a b,ws=[a,b]:=by
 match ws,h with
 |[a,b],_=>exact⟨a,b,rfl⟩
def aC.want:aC->List Int
 |.way _ _ y z=>[y,z] | .move _ y=>[y] | .load _ y _=>[y] | .store x y _=>[x,y] | .iD x _=>[x]
 |_=>[]
def aC.fl:aC->AV
 |.way _ x _ _=>.int x | .set x _=>.int x | .move x _=>.int x | .load x _ _=>.int x
 |_=>.aB
def lK(b:Int):Int:=if 64<b then 64 else b
def bR.wk(a b:Int):bR->Int
 |.sum=>(a+b)%18446744073709551616 | .less=>(a-b)%18446744073709551616 | .times=>a*b%18446744073709551616
 |.share=>a / b | .rest=>a%b
 |.both=>Builtin.bitAnd a b | .yn=>Builtin.bitOr a b | .odd=>Builtin.bitXor a b
 |.up=>a*2 ^ (lK b).toNat%18446744073709551616 | .down=>a / 2 ^ (lK b).toNat
 |.below=>if a<b then 1 else 0 | .same=>if a=b then 1 else 0
def bR.sr:bR->Bool
 |.share=>true | .rest=>true
 |_=>false
def aC.ft(ws:List Int)(room:Int):aC->Option AV
 |.fault v=>some (.tup [.str "told",.int v])
 |.way w _ _ _=>cond w.sr (if cell ws 1=0 then some (.tup [.str "nought",.int (cell ws 0)]) else none) none
 |.load _ _ s=>if 0<=cell ws 0+s/\cell ws 0+s<room then none else some (.tup [.str "place",.int (cell ws 0+s)])
 |.store _ _ s=>if 0<=cell ws 1+s/\cell ws 1+s<room then none else some (.tup [.str "place",.int (cell ws 1+s)])
 |_=>none
def aC.br(ws:List Int)(held:AV):aC->AV
 |.way w _ _ _=>.int (w.wk (cell ws 0) (cell ws 1)) | .set _ v=>.int v | .move _ _=>.int (cell ws 0) | .store _ _ _=>.int (cell ws 0) | .load _ _ _=>held
 |_=>.aB
def aC.cF(a:Int)(ws:List Int)(room:Int)(held:AV)(r:aC):AV:=match r.ft ws room with
 |some f=>.tup [.int a,.aB,.aB,.aB,.aB,f]
 |none=>.tup [.int a,r.fl,r.pl ws,r.br ws held,.int (r.gs a ws),.aB]
def dM(ws:List Int):Prop:=∀w∈ws,0<=w/\w<18446744073709551616
theorem l9{a b:Int}(h:¬b<64):a*2 ^ (lK b).toNat%18446744073709551616=0:=by
 have e:lK b=64:=by unfold lK;split<;>omega
 rw[e,show(2:Int) ^ Int.toNat 64=18446744073709551616 by decide];exact Int.mul_emod_left ..
theorem Zt{a b:Int}(h:¬b<64)(a0:0<=a)(a1:a<18446744073709551616):a / 2 ^ (lK b).toNat=0:=by
 have e:lK b=64:=by unfold lK;split<;>omega
 rw[e,show(2:Int) ^ Int.toNat 64=18446744073709551616 by decide];exact Int.ediv_eq_zero_of_lt a0 a1
theorem Qb{b:Int}(h:b<64):lK b=b:=by unfold lK;split<;>omega
theorem Qx{a b:Int}(a0:0<=a)(a1:a<18446744073709551616)(b0:0<=b)(b1:b<=64):qO a b=true:=by
 have e:(18446744073709551616:Nat)=2 ^ 64:=by decide
 simp only[qO,Bool.and_eq_true,decide_eq_true_eq];exact⟨⟨b0,by omega⟩,by omega⟩
theorem Md{b:Int}(b0:0<b)(b1:b<18446744073709551616):iL b=true:=by
 have e:(18446744073709551616:Int)<2 ^ 1000:=by decide
 simp only[iL,Bool.and_eq_true,decide_eq_true_eq];exact⟨b0,Int.lt_trans b1 e⟩
section
variable {Xc:Nat->AH->Prop}{α:Type}{m:M α}{h:AH}{Q:α->AH->Prop}{F:dN}{U:aE}{V1:AV->AH->Prop}{L1:List AV->AH->Prop}
theorem Hr(w:Wp m h Q):We Xc (fM m) h Q:=by obtain⟨a,h1,e,q⟩:=w.ex;exact We.eq (show fM m h = .ok a h1 by unfold fM;rw[e]) q
theorem B2{imp:List (Option Nat)}{t:CT}{it:Ir}{e:Ex}(w:We Xc (bQ F it U) h λi h1=>We Xc (cO i (lB t) (λ_=>M.ret true) (aG F e) FU 0 [] (gW imp U)) h1 λys h2=>V1 (.ref h2.nx) (h2.new (.lst true ys))):We Xc (aG F (.gK imp t it e) U) h V1:=
 aS (w.mono λ_ _ z=>aS (z.mono λ_ _ y=>y))
theorem B3{imp:List (Option Nat)}{t:CT}{it:Ir}{c e:Ex}(w:We Xc (bQ F it U) h λi h1=>We Xc (cO i (lB t) (cC F c) (aG F e) FU 0 [] (gW imp U)) h1 λys h2=>V1 (.ref h2.nx) (h2.new (.lst true ys))):We Xc (aG F (.wA imp t it c e) U) h V1:=
 aS (w.mono λ_ _ z=>aS (z.mono λ_ _ y=>y))
theorem m8{i:Nat}{v:AV}{Q:aE->AH->Prop}(q:Q (U.set i (some v)) h):We Xc (lB (.nm i) v U) h Q:=q
theorem n8{i j:Nat}{a b:AV}{Q:aE->AH->Prop}(q:Q ((U.set i (some a)).set j (some b)) h):We Xc (lB (.tup [i,j]) (.tup [a,b]) U) h Q:=q
theorem sH{it:dW}{g:AV->aE->M aE}{mt:aE->M Bool}{me:aE->M AV}(I:Nat->List AV->aE->AH->Prop)(n:Nat)
  (turn:∀i ys U h,i<n->I i ys U h->∃v,it i h=some (some v)/\Wp (g v U) h λU1 h1=>Wp (mt U1) h1 λb h2=>if b=true then Wp (me U1) h2 λy h3=>ys.length<sizeLine/\I (i+1) (ys++[y]) U1 h3 else I (i+1) ys U1 h2)
  (done:∀ys U h,I n ys U h->it n h=some none/\L1 ys h):∀(f i:Nat) (ys:List AV) (U:aE) (h:AH),i<=n->n-i<f->I i ys U h->We Xc (cO it g mt me f i ys U) h L1
 |0,i,ys,U,h,_,hf,_=>absurd hf (Nat.not_lt_zero _)
 |f+1,i,ys,U,h,hi,hf,hI=>by
  by_cases hx:i<n
  .obtain⟨v,e,w⟩:=turn i ys U h hx hI;have e1:cO it g mt me (f+1) i ys U h=((fM (g v U)).bind λU1=>(fM (mt U1)).bind λb=>if b=true then(fM (me U1)).bind λy=>M.guard (ys.length<sizeLine) (cO it g mt me f (i+1) (ys++[y]) U1) else cO it g mt me f (i+1) ys U1) h:=by simp only[cO,e]
   unfold We;rw[e1];refine aS (Hr (w.mono λU1 h1 w1=>aS (Hr (w1.mono λb h2 w2=>?_))));cases b with
   |true=>rw[if_pos rfl]at w2 ⊢;exact aS (Hr (w2.mono λy h3 w3=>ei w3.1 (sH I n turn done f (i+1) _ U1 h3 hx (by omega) w3.2)))
   |false=>rw[if_neg Bool.false_ne_true]at w2 ⊢;exact sH I n turn done f (i+1) ys U1 h2 hx (by omega) w2
  .have:i=n:=by omega
   subst this;obtain⟨e,q⟩:=done ys U h hI;unfold We;have e1:cO it g mt me (f+1) i ys U h = .ok ys h:=by simp only[cO,e]
   rw[e1];exact q
variable {g:AV->aE->M aE}{mt:aE->M Bool}{me:aE->M AV}
theorem za{h:AH}{A B:AH->Prop}(q:A h):Wp (M.ret true) h λb h2=>if b=true then A h2 else B h2:=by
 show if true=true then A h else B h
 rw[if_pos rfl];exact q
theorem Lo{lo:Int}{n:Nat}(I:Nat->List AV->aE->AH->Prop)(hn:n<FU)(i0:I 0 [] U h)
  (turn:∀(i:Nat) ys U h,i<n->I i ys U h->Wp (g (.int (lo+i)) U) h λU1 h1=>Wp (me U1) h1 λy h3=>ys.length<sizeLine/\I (i+1) (ys++[y]) U1 h3)
  (done:∀ys U h,I n ys U h->L1 ys h):We Xc (cO (iX lo n) g (λ_=>M.ret true) me FU 0 [] U) h L1:=by
 refine sH I n (λi ys U h hi hI=>?_) (λys U h hI=>⟨by simp[iX],done ys U h hI⟩) FU 0 [] U h (Nat.zero_le _) (by omega) i0;exact⟨_,by simp only[iX,if_pos hi],(turn i ys U h hi hI).mono λU1 h1 w=>za w⟩
theorem Lp{xs:List AV}(I:Nat->List AV->aE->AH->Prop)(hn:xs.length<FU)(i0:I 0 [] U h)
  (turn:∀(i:Nat) x ys U h,xs[i]?=some x->I i ys U h->Wp (g x U) h λU1 h1=>Wp (me U1) h1 λy h3=>ys.length<sizeLine/\I (i+1) (ys++[y]) U1 h3)
  (done:∀ys U h,I xs.length ys U h->L1 ys h):We Xc (cO (lY xs) g (λ_=>M.ret true) me FU 0 [] U) h L1:=by
 refine sH I xs.length (λi ys U h hi hI=>?_) (λys U h hI=>⟨by simp[lY],done ys U h hI⟩) FU 0 [] U h (Nat.zero_le _) (by omega) i0;exact⟨xs[i],by simp only[lY,List.getElem?_eq_getElem hi],(turn i _ ys U h (List.getElem?_eq_getElem hi) hI).mono λU1 h1 w=>za w⟩
theorem Az{n:Nat}{bb:Bool}{xs:List AV}(I:Nat->List AV->aE->AH->Prop)(hn:xs.length<FU)(i0:I 0 [] U h)(il:∀i ys U h,I i ys U h->h.ob n=some (.lst bb xs))
  (turn:∀(i:Nat) x ys U h,xs[i]?=some x->I i ys U h->Wp (g x U) h λU1 h1=>Wp (me U1) h1 λy h3=>ys.length<sizeLine/\I (i+1) (ys++[y]) U1 h3)
  (done:∀ys U h,I xs.length ys U h->L1 ys h):We Xc (cO (fP n) g (λ_=>M.ret true) me FU 0 [] U) h L1:=by
 refine sH I xs.length (λi ys U h hi hI=>?_) (λys U h hI=>⟨by rw[wL (il _ _ _ _ hI)];simp,done ys U h hI⟩) FU 0 [] U h (Nat.zero_le _) (by omega) i0;exact⟨_,by rw[wL (il _ _ _ _ hI),List.getElem?_eq_getElem hi],(turn i _ ys U h (List.getElem?_eq_getElem hi) hI).mono λU1 h1 w=>za w⟩
theorem Yq{n:Nat}{bb:Bool}{xs:List AV}(I:Nat->List AV->aE->AH->Prop)(hn:xs.length<FU)(i0:I 0 [] U h)(il:∀i ys U h,I i ys U h->h.ob n=some (.lst bb xs))
  (turn:∀(i:Nat) x ys U h,xs[i]?=some x->I i ys U h->Wp (g (.tup [.int i,x]) U) h λU1 h1=>Wp (me U1) h1 λy h3=>ys.length<sizeLine/\I (i+1) (ys++[y]) U1 h3)
  (done:∀ys U h,I xs.length ys U h->L1 ys h):We Xc (cO (lG (fP n)) g (λ_=>M.ret true) me FU 0 [] U) h L1:=by
 refine sH I xs.length (λi ys U h hi hI=>?_) (λys U h hI=>⟨Mi (il _ _ _ _ hI) (by simp),done ys U h hI⟩) FU 0 [] U h (Nat.zero_le _) (by omega) i0;exact⟨_,Mj (il _ _ _ _ hI) (List.getElem?_eq_getElem hi),(turn i _ ys U h (List.getElem?_eq_getElem hi) hI).mono λU1 h1 w=>za w⟩
variable {N:aE->AH->Prop}{R:AV->AH->Prop}{B C:aE->AH->Prop}
theorem C7{is:List Nat}{es:dB}(w:We Xc (cK F es U) h λvs h1=>vs.length=is.length/\N (yj is vs U) h1):Wt Xc (eQ F (.par is es) U) h N R B C:=
 aS (w.mono λvs h1 z=>ei z.1 z.2)
end
theorem Pa{n i:Nat}(h:i<n):gA n (i:Int)=some i:=by unfold gA;rw[if_pos (by omega),if_pos (by omega)];simp
theorem du{Xc:Nat->AH->Prop}{xs ys:List AV}{h:AH}{V1:AV->AH->Prop}(hz:xs.length+ys.length<=sizeLine)(q:V1 (.tup (xs++ys)) h):We Xc (Op.g .add (.tup xs) (.tup ys)) h V1:=ei hz q
theorem nj{Xc:Nat->AH->Prop}{xs:List AV}{lo hi:Option Int}{h:AH}{V1:AV->AH->Prop}(hz:¬(HT.aZ xs.length 0 lo=0/\HT.aZ xs.length xs.length hi=xs.length))(q:V1 (.tup (gL xs lo hi)) h):We Xc (lH (.tup xs) lo hi) h V1:=by unfold We lH;simp only[if_neg hz];exact q
section
variable {Xc:Nat->AH->Prop}{h:AH}{F:dN}{U:aE}{V1:AV->AH->Prop}{B1:Bool->AH->Prop}{N B C:aE->AH->Prop}{R:AV->AH->Prop}
theorem B6{cs:List Nat}{f:Str}{o:Ex}(w:We Xc (aG F o U) h λx h1=>We Xc (sT cs f x) h1 V1):We Xc (aG F (.fld cs f o) U) h V1:=aS w
theorem t7{cs:List Nat}{f:Str}{n c:Nat}{fs:List (Str×AV)}{v:AV}(e:h.ob n=some (.ins c fs))(hc:cs.contains c=true)(l:fs.lookup f=some v)(q:V1 v h):We Xc (sT cs f (.ref n)) h V1:=by unfold We sT;simp only[e,if_pos hc,l];exact q
theorem v7{m:Str}{dp:Nat->Option (List AV->M AV)}{r:M (List AV)}{n c:Nat}{fs:List (Str×AV)}{g:List AV->M AV}(e2:h.ob n=some (.ins c fs))(e3:dp c=some g)(e4:fs.lookup m=none)(q:We Xc r h λxs h2=>We Xc (g (.ref n::xs)) h2 V1):We Xc (gz dp m r (.ref n)) h V1:=by unfold We gz;simp only[e2,e3,e4];exact aS q
theorem C0{m:Str}{dp:List (Nat×Nat)}{o:Ex}{es:dB}(w:We Xc (aG F o U) h λx h1=>∃(n c:Nat) (fs:List (Str×AV)) (i:Nat),x = .ref n/\h1.ob n=some (.ins c fs)/\dp.lookup c=some i/\fs.lookup m=none/\We Xc (cK F es U) h1 λxs h2=>We Xc (F i (.ref n::xs)) h2 V1) :
  We Xc (aG F (.gy m dp o es) U) h V1:=aS (w.mono λx h1 ⟨n,c,fs,i,e1,e2,e3,e4,q⟩=>by
 subst e1;exact v7 e2 (by rw[e3];rfl) e4 q)
theorem B9{c i:Nat}{dv:List AV}{es:dB}(w:We Xc (cK F es U) h λxs h1=>We Xc (F i (.ref h1.nx::(xs++dv))) (h1.new (.ins c [])) λv h2=>v = .aB/\V1 (.ref h1.nx) h2):We Xc (aG F (.make c i dv es) U) h V1:=
 aS (w.mono λxs h1 z=>by show We Xc ((F i (.ref h1.nx::(xs++dv))).bind λv=>if Cc v=true then M.ret (.ref h1.nx) else M.bad) (h1.new (.ins c [])) V1;exact aS (z.mono λv h2 ⟨e,q⟩=>by subst e;exact q))
theorem C4{cs:List Nat}{f:Str}{o e:Ex}(w:We Xc (aG F e U) h λv h1=>We Xc (aG F o U) h1 λx h2=>∃(n c:Nat) (fs:List (Str×AV)),x = .ref n/\h2.ob n=some (.ins c fs)/\cs.contains c=true/\fs.length<1000/\N U (h2.put n (.ins c (cH f v fs)))) :
  Wt Xc (eQ F (.mJ cs f o e) U) h N R B C:=aS (w.mono λv h1 z=>aS (z.mono λx h2 ⟨n,c,fs,e1,e2,e3,e4,q⟩=>by
 subst e1;have e5:mf cs f (.ref n) v h2=some (h2.put n (.ins c (cH f v fs))):=by simp only[mf,e2];rw[if_pos ⟨e3,e4⟩]
 unfold We;simp only[e5];exact q))
theorem B5(q:V1 (.ref h.nx) (h.new (.aO []))):We Xc (aG F .mH U) h V1:=q
theorem B4{f:Dm}{o:Ex}{es:dB}(w:We Xc (aG F o U) h λx h1=>(dS h1 x).isSome=true/\We Xc (cK F es U) h1 λxs h2=>We Xc (f.g x xs) h2 V1):We Xc (aG F (.dm f o es) U) h V1:=aS (w.mono λx h1 ⟨z1,z2⟩=>by unfold We;simp only[if_pos z1];exact aS z2)
theorem fq{n:Nat}{kvs:List (aK×AV)}(e:h.ob n=some (.aO kvs)):dS h (.ref n)=some kvs:=by simp only[dS,e]
theorem qj{n:Nat}{kvs:List (aK×AV)}(e:h.ob n=some (.aO kvs)):(dS h (.ref n)).isSome=true:=by rw[fq e];rfl
theorem zf{n:Nat}{kvs:List (aK×AV)}{y:AV}{k:aK}(e:h.ob n=some (.aO kvs))(hk:fL y=some k)(q:V1 ((bC kvs k).getD .aB) h):We Xc (Dm.g .get (.ref n) [y]) h V1:=by show We Xc (sR (.ref n) [y]) h V1;unfold We sR;simp only[fq e,hk];exact q
theorem s9{n:Nat}{kvs:List (aK×AV)}(e:h.ob n=some (.aO kvs))(q:V1 .aB h):We Xc (Dm.g .get (.ref n) [.aB]) h V1:=by show We Xc (sR (.ref n) [.aB]) h V1;unfold We sR;simp only[fq e,fL,fK,if_true];exact q
theorem u4{n:Nat}{kvs:List (aK×AV)}{y v:AV}{k:aK}(e:h.ob n=some (.aO kvs))(hk:fL y=some k)(l:bC kvs k=some v)(q:V1 v h):We Xc (Op.g .ix (.ref n) y) h V1:=by show We Xc (sW (.ref n) y) h V1;unfold We sW;simp only[fq e,hk,Option.bind_some,l];exact q
theorem Wf{o i:Ex}{v:AV}{Q:aE->AH->Prop}(w:We Xc (aG F o U) h λx h1=>We Xc (aG F i U) h1 λy h2=>∃(n:Nat) (kvs:List (aK×AV)) (k:aK),x = .ref n/\fL y=some k/\h2.ob n=some (.aO kvs)/\kvs.length<sizeLine/\Q U (h2.put n (.aO (dZ kvs k v)))):We Xc (hW F (.sub o i) v U) h Q:=
 aS (w.mono λx _ z=>aS (z.mono λy h2 ⟨n,kvs,k,e1,e2,e3,e4,q⟩=>aS (by
  subst e1;unfold We mK;simp only[fq e3,e2,if_pos e4];exact q)))
theorem mz{kvs:List (aK×AV)}{k k':aK}{v:AV}:bC (dZ kvs k v) k'=if k=k' then some v else bC kvs k':=by
 induction kvs with
 |nil=>
  by_cases e:k=k'
  .simp[bC,dZ,e]
  .simp[bC,dZ,e]
 |cons p r ih=>
  obtain⟨k0,v0⟩:=p;by_cases e0:k0=k
  .subst e0;have e1:dZ ((k0,v0)::r) k0 v=(k0,v)::r.map (λkv=>if kv.1=k0 then(kv.1,v) else kv):=by simp[dZ]
   rw[e1];by_cases e:k0=k'
   .subst e;simp[bC]
   .have:bC (r.map λkv=>if kv.1=k0 then(kv.1,v) else kv) k'=bC r k':=by
     clear ih e1;induction r with
     |nil=>rfl|cons q s ih2=>
      obtain⟨k2,v2⟩:=q;by_cases e2:k2=k0
      .subst e2;simp only[List.map_cons,if_true];have l1:bC ((k2,v)::s.map λkv=>if kv.1=k2 then(kv.1,v) else kv) k'=bC (s.map λkv=>if kv.1=k2 then(kv.1,v) else kv) k':=by simp[bC,e]
       have l2:bC ((k2,v2)::s) k'=bC s k':=by simp[bC,e]
       rw[l1,l2,ih2]
      .simp only[List.map_cons,e2,if_false];by_cases e3:k2=k'
       .simp[bC,e3]
       .have l1:bC ((k2,v2)::s.map λkv=>if kv.1=k0 then(kv.1,v) else kv) k'=bC (s.map λkv=>if kv.1=k0 then(kv.1,v) else kv) k':=by simp[bC,e3]
        have l2:bC ((k2,v2)::s) k'=bC s k':=by simp[bC,e3]
        rw[l1,l2,ih2]
    have l1:bC ((k0,v)::r.map λkv=>if kv.1=k0 then(kv.1,v) else kv) k'=bC (r.map λkv=>if kv.1=k0 then(kv.1,v) else kv) k':=by simp[bC,e]
    have l2:bC ((k0,v0)::r) k'=bC r k':=by simp[bC,e]
    rw[l1,this,if_neg e,l2]
  .have e1:dZ ((k0,v0)::r) k v=(k0,v0)::dZ r k v:=by unfold dZ;simp only[List.any_cons,e0,decide_false,Bool.false_or];split<;>simp[e0]
   rw[e1];by_cases e3:k0=k'
   .have ne:k≠k':=λz=>e0 (e3.trans z.symm);simp[bC,e3,ne]
   .have l1:bC ((k0,v0)::dZ r k v) k'=bC (dZ r k v) k':=by simp[bC,e3]
    have l2:bC ((k0,v0)::r) k'=bC r k':=by simp[bC,e3]
    rw[l1,l2,ih]
theorem iq{kvs:List (aK×AV)}{k:aK}{v:AV}:(dZ kvs k v).length<=kvs.length+1:=by
 unfold dZ;split
 .rw[List.length_map];omega
 .rw[List.length_append];exact Nat.le_refl _
theorem dy{x y:AV}{b:Bool}(e:dY x y=none)(e2:eqT h x y=some b)(q:V1 (.bl b) h):We Xc (Cp.g .eq x y) h V1:=by show We Xc (sS x y) h V1;unfold We sS;simp only[e,e2];exact q
theorem zg{x y:AV}{b:Bool}(e:dY x y=none)(e2:eqT h x y=some b)(q:V1 (.bl (!b)) h):We Xc (Cp.g .ne x y) h V1:=by show We Xc (sX x y) h V1;unfold We sX;simp only[e,e2];exact q
theorem Bh{f:AV->AV->Option Bool}:∀{xs ys:List AV},xs.length=ys.length->(∀(i:Nat) x y,xs[i]?=some x->ys[i]?=some y->f x y=some true)->eP f xs ys=some true
 |[],[],_,_=>rfl|[],_::_,hl,_=>by cases hl
 |_::_,[],hl,_=>by cases hl
 |x::xs,y::ys,hl,he=>by rw[eP,he 0 x y rfl rfl,Bh (by simpa using hl) λi p q h1 h2=>he (i+1) p q h1 h2];rfl
theorem CK{n m k:Nat}{b1 b2:Bool}{xs ys:List AV}(e1:h.ob n=some (.lst b1 xs))(e2:h.ob m=some (.lst b2 ys))(hl:xs.length=ys.length)(he:eP (bV h k) xs ys=some true):bV h (k+1) (.ref n) (.ref m)=some true:=by
 have s1:dJ h (.ref n)=some (true,xs):=by simp only[dJ,e1]
 have s2:dJ h (.ref m)=some (true,ys):=by simp only[dJ,e2]
 have hf:¬(bY (.ref n)=true/\bY (.ref m)=true):=λz=>by cases z.1
 have hz:¬(true=true/\xs.length≠ys.length):=λz=>z.2 hl;simp only[bV,if_neg hf,if_neg (show¬tQ (.ref n) (.ref m)=true from λz=>by cases z),s1,s2,if_true,he,Option.map_some,decide_eq_true hl,Bool.and_true];rw[if_neg (λz=>z.2 hl)]
theorem Mx{n m:Nat}{b1 b2:Bool}{xs ys:List AV}{b:Bool}(e1:h.ob n=some (.lst b1 xs))(e2:h.ob m=some (.lst b2 ys))(he:bV h 12 (.ref n) (.ref m)=some b):eqT h (.ref n) (.ref m)=some b:=by
 have s1:dJ h (.ref n)=some (true,xs):=by simp only[dJ,e1]
 have s2:dJ h (.ref m)=some (true,ys):=by simp only[dJ,e2]
 simp only[eqT,s1,s2,he]
theorem qp{n m:Nat}{b1 b2:Bool}{xs:List AV}(e1:h.ob n=some (.lst b1 xs))(e2:h.ob m=some (.lst b2 [])):eqT h (.ref n) (.ref m)=some (decide (xs=[])):=by
 refine Mx e1 e2 ?_;have s1:dJ h (.ref n)=some (true,xs):=by simp only[dJ,e1]
 have s2:dJ h (.ref m)=some (true,[]):=by simp only[dJ,e2]
 have hf:¬(bY (.ref n)=true/\bY (.ref m)=true):=λz=>by cases z.1
 simp only[bV,if_neg hf,if_neg (show¬tQ (.ref n) (.ref m)=true from λz=>by cases z),s1,s2];cases xs with
 |nil=>rfl|cons x xs=>rfl
end
theorem Kp.get{h h':AH}(g:Kp h h'){n:Nat}{o:Option dG}(hn:n<h.nx)(e:h.ob n=o):h'.ob n=o:=(g.ob n hn).trans e
theorem Qz{h:AH}{n:Nat}{o:dG}:(h.put n o).nx=h.nx:=rfl
theorem ic{h:AH}{o:dG}:(h.new o).nx=h.nx+1:=rfl
theorem eU:(1000:Nat)<sizeLine:=by decide
theorem tJ{α:Type}{f:α->AV}{ws:List α}{i:Nat}{x:AV}(h:(ws.map f)[i]?=some x):∃w,ws[i]?=some w/\x=f w:=by rw[List.getElem?_map]at h;obtain⟨w,h1,h2⟩:=Option.map_eq_some_iff.mp h;exact⟨w,h1,h2.symm⟩
theorem mF{xs:List AV}{n:Nat}:gL xs none (some (n:Int))=xs.take n:=by
 unfold gL;rw[HT.Gr,HT.cw,List.drop_zero,Nat.sub_zero];rcases Nat.le_total n xs.length with h|h
 .rw[Nat.min_eq_left h]
 .rw[Nat.min_eq_right h,List.take_length,List.take_of_length_le h]
theorem qi{xs:List AV}{n:Nat}:gL xs (some (n:Int)) none=xs.drop n:=by
 unfold gL;rw[HT.Gr,HT.cw];rcases Nat.le_total n xs.length with h|h
 .rw[Nat.min_eq_left h,List.take_of_length_le (by rw[List.length_drop];exact Nat.le_refl _)]
 .rw[Nat.min_eq_right h,List.drop_eq_nil_of_le h,Nat.sub_self,List.drop_length];rfl
theorem Ip{xs:List AV}{n:Nat}(h0:0<n)(h1:n<=xs.length):cW xs (-(n:Int))=xs[xs.length-n]?:=by
 unfold cW gA;rw[if_neg (by omega)];first
  |rw[if_pos (by omega)]|skip
 have:(-(n:Int)+(xs.length:Int)).toNat=xs.length-n:=by omega
 simp[this]
section
variable {Xc:Nat->AH->Prop}{h:AH}{F:dN}{U:aE}{V1:AV->AH->Prop}{N B C:aE->AH->Prop}{R:AV->AH->Prop}
theorem Yr{xs:List AV}{L1:List AV->AH->Prop}{g:AV->aE->M aE}{mt:aE->M Bool}{me:aE->M AV}(I:Nat->List AV->aE->AH->Prop)(hn:xs.length<FU)(i0:I 0 [] U h)
  (turn:∀(i:Nat) x ys U h,xs[i]?=some x->I i ys U h->Wp (g x U) h λU1 h1=>Wp (mt U1) h1 λb h2=>if b=true then Wp (me U1) h2 λy h3=>ys.length<sizeLine/\I (i+1) (ys++[y]) U1 h3 else I (i+1) ys U1 h2)
  (done:∀ys U h,I xs.length ys U h->L1 ys h):We Xc (cO (lY xs) g mt me FU 0 [] U) h L1:=by
 refine sH I xs.length (λi ys U h hi hI=>?_) (λys U h hI=>⟨by simp[lY],done ys U h hI⟩) FU 0 [] U h (Nat.zero_le _) (by omega) i0;exact⟨xs[i],by simp only[lY,List.getElem?_eq_getElem hi],turn i _ ys U h (List.getElem?_eq_getElem hi) hI⟩
theorem C9{c:Ex}{b:aP}(w:Wt Xc (kW (cC F c) (cD F b) FU U) h N R B C):Wt Xc (eQ F (.zh c b) U) h N R B C:=w
theorem Wn{c:aE->M Bool}{body:aE->M Out}(I:Nat->aE->AH->Prop)(n:Nat)(hb:∀i U h,I i U h->i<=n)
  (turn:∀i U h,I i U h->We Xc (c U) h λb h1=>if b=true then Wt Xc (body U) h1 (I (i+1)) R N (I (i+1)) else N U h1):∀(f i:Nat) (U:aE) (h:AH),n-i<f->I i U h->Wt Xc (kW c body f U) h N R B C
 |0,i,U,h,hf,_=>absurd hf (Nat.not_lt_zero _)
 |f+1,i,U,h,hf,hI=>by
  have ih:=Wn I n hb turn f;unfold Wt We kW;refine aS ((turn i U h hI).mono λb h1 w=>?_);cases b with
  |false=>exact w|true=>
   refine aS (We.mono w λo h2 z=>?_);cases o with
   |nx U2=>have:=hb _ _ _ z;exact ih (i+1) U2 h2 (by omega) z
   |cnt U2=>have:=hb _ _ _ z;exact ih (i+1) U2 h2 (by omega) z
   |brk U2=>exact z|ret v=>exact z
end
section
variable {Xc:Nat->AH->Prop}{h:AH}{F:dN}{U:aE}{V1:AV->AH->Prop}{B1:Bool->AH->Prop}{N B C:aE->AH->Prop}{R:AV->AH->Prop}
theorem B8{k:Kc}{a:Ex}(w:We Xc (aG F a U) h λx h1=>We Xc (k.g x) h1 V1):We Xc (aG F (.kc k a) U) h V1:=aS w
theorem p9{n:Nat}{b:Bool}{bs:List Bool}(e:h.ob n=some (.lst b (bs.map AV.bl)))(q:V1 (.bl (bs.all id)) h):We Xc (Kc.all.g (.ref n)) h V1:=by unfold We Kc.g;simp only[e,Kc.gl,Kt];exact q
theorem x5{n:Nat}{b:Bool}{ns:List Int}(e:h.ob n=some (.lst b (ns.map AV.int)))(hn:ns≠[])(q:V1 (.int (iR ns)) h):We Xc (Kc.mx.g (.ref n)) h V1:=by have:¬(ns.isEmpty=true):=λz=>hn (List.isEmpty_iff.mp z);unfold We Kc.g;simp only[e,Kc.gl,Ot];rw[if_neg this];exact q
end
def ON:Op->Bool
 |.add=>true | .sub=>true | .fdiv=>true | .mod=>true | .ix=>true
 |_=>false
mutual
noncomputable def lN:Ex->Bool
 |.var _=>true | .val _=>true
 |.op o a b=>ON o&&(lN a&&lN b)
 |.cmp _ a b=>lN a&&lN b
 |.neg a=>lN a
 |.not a=>lN a
 |.tup es=>uk es
 |.bi _ es=>uk es
 |.tB _ a=>lN a
 |_=>false
noncomputable def uk:dB->Bool
 |.nil=>true
 |.cons e es=>lN e&&uk es
end
section
variable {Xc:Nat->AH->Prop}{F:dN}{U:aE}{h:AH}{V1:AV->AH->Prop}{B1:Bool->AH->Prop}{L1:List AV->AH->Prop}
theorem p8{e:Ex}{v:AV}(p:lN e=true)(d:aG F e U h = .ok v h)(q:V1 v h):We Xc (aG F e U) h V1:=We.eq d q
theorem D6{e:Ex}{b:Bool}(p:lN e=true)(d:cC F e U h = .ok b h)(q:B1 b h):We Xc (cC F e U) h B1:=We.eq d q
theorem C8{es:dB}{vs:List AV}(p:uk es=true)(d:cK F es U h = .ok vs h)(q:L1 vs h):We Xc (cK F es U) h L1:=We.eq d q
end
end AM
namespace AMx
open PySem PySem.Spec PyProof.Rows L2 AM
def _root_.qMB:List Stmt:=PySem.Challenge.pw_aheadmill_k51_wrong_slips_told.main.body
def top(i:Nat):Stmt:=qMB.getD i (.Pass ⟨0,0,0,0⟩)
noncomputable abbrev ER:Nat:=0
noncomputable abbrev gT:Stmt:=top 7
def nS:Df:=⟨"word_of","word_of",gT,["number"],["number"]⟩
noncomputable abbrev EL:Nat:=1
noncomputable abbrev iY:Stmt:=top 8
def nT:Df:=⟨"shared","shared",iY,["one","other"],["one","other"]⟩
noncomputable abbrev EH:Nat:=2
noncomputable abbrev jJ:Stmt:=top 9
def oG:Df:=⟨"leaves_some","leaves_some",jJ,["places"],["places"]⟩
noncomputable abbrev Ng:Nat:=3
noncomputable abbrev jU:Stmt:=top 10
def oU:Df:=⟨"moved_up","moved_up",jU,["one","places"],["one","places"]⟩
noncomputable abbrev Nf:Nat:=4
noncomputable abbrev kF:Stmt:=top 11
def pF:Df:=⟨"moved_down","moved_down",kF,["one","places"],["one","places"]⟩
noncomputable abbrev Nh:Nat:=5
noncomputable abbrev kQ:Stmt:=top 12
def pP:Df:=⟨"worked","worked",kQ,["way","one","other"],["way","one","other"]⟩
noncomputable abbrev EO:Nat:=6
noncomputable abbrev kR:Stmt:=top 14
def pQ:Df:=⟨"wants","wants",kR,["row","kind"],["row"]⟩
noncomputable abbrev DD:Nat:=7
noncomputable abbrev kS:Stmt:=top 15
def pR:Df:=⟨"fills","fills",kS,["row","kind"],["row"]⟩
noncomputable abbrev Bj:Nat:=8
noncomputable abbrev kT:Stmt:=top 16
def pS:Df:=⟨"place_of","place_of",kT,["row","words"],["row","words"]⟩
noncomputable abbrev DF:Nat:=9
noncomputable abbrev kU:Stmt:=top 17
def pT:Df:=⟨"goes","goes",kU,["row","at","words"],["row","at","words"]⟩
noncomputable abbrev DC:Nat:=10
noncomputable abbrev iZ:Stmt:=top 18
def nU:Df:=⟨"fault_of","fault_of",iZ,["row","words","room","kind","place"],["row","words","room"]⟩
noncomputable abbrev DB:Nat:=11
noncomputable abbrev jA:Stmt:=top 19
def nV:Df:=⟨"brought","brought",jA,["row","words","held","kind"],["row","words","held"]⟩
noncomputable abbrev EI:Nat:=12
noncomputable abbrev jB:Stmt:=top 20
def nW:Df:=⟨"made","made",jB,["row","at","words","room","held","fault"],["row","at","words","room","held"]⟩
noncomputable abbrev DH:Nat:=13
noncomputable abbrev jC:Stmt:=top 22
def nX:Df:=⟨"in_memory","in_memory",jC,["place","memory"],["place","memory"]⟩
noncomputable abbrev DG:Nat:=14
noncomputable abbrev jD:Stmt:=top 23
def nY:Df:=⟨"held_for","held_for",jD,["row","words","memory","place"],["row","words","memory"]⟩
noncomputable abbrev EK:Nat:=15
noncomputable abbrev jE:Stmt:=top 24
def nZ:Df:=⟨"replaced","replaced",jE,["words","number","word"],["words","number","word"]⟩
noncomputable abbrev qu:Nat:=16
noncomputable abbrev jF:Stmt:=top 25
def oA:Df:=⟨"does","does",jF,["program","stand","at","row","memory","words"],["program","stand"]⟩
noncomputable abbrev gb:Nat:=17
noncomputable abbrev jG:Stmt:=top 26
def oB:Df:=⟨"behind","behind",jG,["stand","deed","box","place","word","after"],["stand","deed"]⟩
noncomputable abbrev Ni:Nat:=18
noncomputable abbrev jH:Stmt:=top 29
def oE:Df:=⟨"wrong","wrong",jH,["program","stand","slips","trace","number","slip"],["program","stand","slips"]⟩
noncomputable abbrev DI:Nat:=19
noncomputable abbrev jI:Stmt:=top 30
def oF:Df:=⟨"is_right","is_right",jI,["program","trace","slip"],["program","trace","slip"]⟩
noncomputable abbrev EM:Nat:=20
noncomputable abbrev jK:Stmt:=top 31
def oH:Df:=⟨"stands_behind","stands_behind",jK,["latest","slip"],["latest","slip"]⟩
noncomputable abbrev EN:Nat:=21
noncomputable abbrev jL:Stmt:=top 32
def oJ:Df:=⟨"times_rise","times_rise",jL,["times"],["times"]⟩
noncomputable abbrev DE:Nat:=22
noncomputable abbrev jM:Stmt:=top 33
def oK:Df:=⟨"giver_of","giver_of",jM,["trace","deed"],["trace","deed"]⟩
noncomputable abbrev EJ:Nat:=23
noncomputable abbrev jN:Stmt:=top 34
def oM:Df:=⟨"names_are_right","names_are_right",jN,["trace","slip","boxes","fillers"],["trace","slip","boxes"]⟩
noncomputable abbrev DK:Nat:=24
noncomputable abbrev jO:Stmt:=top 36
def oO:Df:=⟨"_law_cell_at","_law_cell_at",jO,["_law_script","_law_k"],["_law_script","_law_k"]⟩
noncomputable abbrev DP:Nat:=25
noncomputable abbrev jP:Stmt:=top 37
def oP:Df:=⟨"_law_number","_law_number",jP,["_law_cell","_law_k"],["_law_cell","_law_k"]⟩
noncomputable abbrev EG:Nat:=26
noncomputable abbrev jQ:Stmt:=top 38
def oQ:Df:=⟨"_law_word_by","_law_word_by",jQ,["_law_number_here","_law_kind","_law_part"],["_law_number_here"]⟩
noncomputable abbrev EC:Nat:=27
noncomputable abbrev jR:Stmt:=top 39
def oR:Df:=⟨"_law_turn_row","_law_turn_row",jR,["_law_kind","_law_x","_law_part","_law_spot","_law_k","_law_many","_law_target"],["_law_kind","_law_x","_law_part","_law_spot"]⟩
noncomputable abbrev DY:Nat:=28
noncomputable abbrev jS:Stmt:=top 40
def oS:Df:=⟨"_law_row","_law_row",jS,["_law_cell","_law_k","_law_many","_law_number_here","_law_x","_law_y","_law_z","_law_part","_law_kind","_law_ways"],["_law_cell","_law_k","_law_many"]⟩
noncomputable abbrev EB:Nat:=29
noncomputable abbrev jT:Stmt:=top 41
def oT:Df:=⟨"_law_stand","_law_stand",jT,["_law_cell","_law_other","_law_boxes","_law_number_here","_law_room","_law_memory"],["_law_cell","_law_other"]⟩
noncomputable abbrev qv:Nat:=30
noncomputable abbrev jV:Stmt:=top 42
def oV:Df:=⟨"_law_worked","_law_worked",jV,["_law_way","_law_one","_law_other"],["_law_way","_law_one","_law_other"]⟩
noncomputable abbrev Nd:Nat:=31
noncomputable abbrev jW:Stmt:=top 43
def oW:Df:=⟨"_law_place_deed","_law_place_deed",jW,["_law_row_here","_law_at","_law_boxes","_law_memory","_law_place"],["_law_row_here","_law_at","_law_boxes","_law_memory"]⟩
noncomputable abbrev DL:Nat:=32
noncomputable abbrev jX:Stmt:=top 44
def oX:Df:=⟨"_law_deed","_law_deed",jX,["_law_row_here","_law_at","_law_boxes","_law_memory","_law_kind","_law_one","_law_other"],["_law_row_here","_law_at","_law_boxes","_law_memory"]⟩
noncomputable abbrev DX:Nat:=33
noncomputable abbrev jY:Stmt:=top 45
def oY:Df:=⟨"_law_plain_run","_law_plain_run",jY,["_law_program","_law_stand_here","_law_most","_law_at","_law_boxes","_law_memory","_law_deeds","_law_stands","_law_deed_here"],["_law_program","_law_stand_here","_law_most"]⟩
noncomputable abbrev ED:Nat:=34
noncomputable abbrev jZ:Stmt:=top 46
def oZ:Df:=⟨"_law_wants","_law_wants",jZ,["_law_row_here","_law_kind"],["_law_row_here"]⟩
noncomputable abbrev DZ:Nat:=35
noncomputable abbrev kA:Stmt:=top 47
def pA:Df:=⟨"_law_slips_of","_law_slips_of",kA,["_law_program","_law_deeds","_law_cell","_law_slips","_law_by_box","_law_by_place","_law_ended","_law_ticket","_law_put_in","_law_off","_law_k","_law_deed_here","_law_row_here","_law_names","_law_giver","_law_number_here","_law_started","_law_finished"],["_law_program","_law_deeds","_law_cell"]⟩
noncomputable abbrev DV:Nat:=36
noncomputable abbrev kB:Stmt:=top 48
def pB:Df:=⟨"_law_other_names","_law_other_names",kB,["_law_names","_law_part","_law_at","_law_name","_law_other"],["_law_names","_law_part"]⟩
noncomputable abbrev DU:Nat:=37
noncomputable abbrev kC:Stmt:=top 49
def pC:Df:=⟨"_law_other_giver","_law_other_giver",kC,["_law_giver","_law_part"],["_law_giver","_law_part"]⟩
noncomputable abbrev DT:Nat:=38
noncomputable abbrev kD:Stmt:=top 50
def pD:Df:=⟨"_law_other_fault","_law_other_fault",kD,["_law_deed_here","_law_part","_law_at","_law_kind","_law_number_here"],["_law_deed_here","_law_part"]⟩
noncomputable abbrev DS:Nat:=39
noncomputable abbrev kE:Stmt:=top 51
def pE:Df:=⟨"_law_other_deed","_law_other_deed",kE,["_law_deed_here","_law_part","_law_size","_law_at","_law_box","_law_place","_law_word","_law_after","_law_fault","_law_more"],["_law_deed_here","_law_part","_law_size"]⟩
noncomputable abbrev DW:Nat:=40
noncomputable abbrev kG:Stmt:=top 52
def pG:Df:=⟨"_law_other_times","_law_other_times",kG,["_law_slips","_law_n","_law_part","_law_put_in","_law_started","_law_finished","_law_off","_law_way","_law_slip"],["_law_slips","_law_n","_law_part"]⟩
noncomputable abbrev DR:Nat:=41
noncomputable abbrev kH:Stmt:=top 53
def pH:Df:=⟨"_law_one_spoiled","_law_one_spoiled",kH,["_law_slips","_law_n","_law_way","_law_part","_law_size","_law_ticket","_law_at","_law_names","_law_giver","_law_deed_here","_law_times"],["_law_slips","_law_n","_law_way","_law_part","_law_size"]⟩
noncomputable abbrev DQ:Nat:=42
noncomputable abbrev kI:Stmt:=top 54
def pI:Df:=⟨"_law_one_more","_law_one_more",kI,["_law_slips","_law_part","_law_size","_law_ticket","_law_at","_law_names","_law_giver","_law_deed_here","_law_times","_law_later"],["_law_slips","_law_part","_law_size"]⟩
noncomputable abbrev DM:Nat:=43
noncomputable abbrev kJ:Stmt:=top 55
def pJ:Df:=⟨"_law_earlier","_law_earlier",kJ,["_law_slips","_law_n","_law_program","_law_part","_law_ticket","_law_at","_law_names","_law_giver","_law_deed_here","_law_times","_law_found","_law_slip","_law_k","_law_box"],["_law_slips","_law_n","_law_program","_law_part"]⟩
noncomputable abbrev DN:Nat:=44
noncomputable abbrev kK:Stmt:=top 56
def pK:Df:=⟨"_law_earlier_told","_law_earlier_told",kK,["_law_slips","_law_n","_law_program","_law_part","_law_k","_law_at","_law_one"],["_law_slips","_law_n","_law_program","_law_part"]⟩
noncomputable abbrev EA:Nat:=45
noncomputable abbrev kL:Stmt:=top 57
def pL:Df:=⟨"_law_spoiled","_law_spoiled",kL,["_law_slips","_law_number_here","_law_program","_law_n","_law_way","_law_part","_law_size"],["_law_slips","_law_number_here","_law_program"]⟩
noncomputable abbrev DO:Nat:=46
noncomputable abbrev kM:Stmt:=top 58
def pM:Df:=⟨"_law_is","_law_is",kM,["_law_found","_law_due"],["_law_found","_law_due"]⟩
noncomputable abbrev DJ:Nat:=47
noncomputable abbrev kN:Stmt:=top 59
def mG:Df:=⟨"law","law",kN,["_law_script","_law_cells","_law_program","_law_start","_law_deeds","_law_slips","_law_handed","_law_asked","_law_k","_law_spoiled_here","_law_due","_law_kept"],["_law_script"]⟩
noncomputable abbrev CZ:Nat:=48
noncomputable abbrev kO:Stmt:=(Li (top 28)).getD 0 (.Pass ⟨0,0,0,0⟩)
def pN:Df:=⟨"__init__","Trace.__init__",kO,["self","stand"],["self","stand"]⟩
noncomputable abbrev DA:Nat:=49
noncomputable abbrev kP:Stmt:=(Li (top 28)).getD 1 (.Pass ⟨0,0,0,0⟩)
def pO:Df:=⟨"follow","Trace.follow",kP,["self","slip","deed"],["self","slip"]⟩
def Kf:aP:=(.cons (.ret (.op .mod (.var 0) (.val (.int 18446744073709551616)))) .nil)
def Ka:aP:=(.cons (.ite (.cmp .eq (.var 1) (.val (.int 0)))
 (.cons .bad .nil)
 .nil) (.cons (.ret (.bi .divmod (.cons (.var 0) (.cons (.var 1) .nil)))) .nil))
def Jt:aP:=(.cons (.ret (.chain .le .lt (.val (.int 0)) (.var 0) (.val (.int 64)))) .nil)
def Jw:aP:=(.cons (.ret (.ite (.call 2 (.cons (.var 1) .nil)) (.call 0 (.cons (.op .shl (.var 0) (.var 1)) .nil)) (.val (.int 0)))) .nil)
def Jv:aP:=(.cons (.ret (.ite (.call 2 (.cons (.var 1) .nil)) (.op .shr (.var 0) (.var 1)) (.val (.int 0)))) .nil)
def Kg:aP:=(.cons (.ite (.cmp .eq (.var 0) (.val (.str "sum")))
 (.cons (.ret (.call 0 (.cons (.op .add (.var 1) (.var 2)) .nil))) .nil)
 .nil) (.cons (.ite (.cmp .eq (.var 0) (.val (.str "less")))
 (.cons (.ret (.call 0 (.cons (.op .sub (.var 1) (.var 2)) .nil))) .nil)
 .nil) (.cons (.ite (.cmp .eq (.var 0) (.val (.str "times")))
 (.cons (.ret (.call 0 (.cons (.op .mul (.var 1) (.var 2)) .nil))) .nil)
 .nil) (.cons (.ite (.cmp .eq (.var 0) (.val (.str "share")))
 (.cons (.ret (.op .ix (.call 1 (.cons (.var 1) (.cons (.var 2) .nil))) (.val (.int 0)))) .nil)
 .nil) (.cons (.ite (.cmp .eq (.var 0) (.val (.str "rest")))
 (.cons (.ret (.op .ix (.call 1 (.cons (.var 1) (.cons (.var 2) .nil))) (.val (.int 1)))) .nil)
 .nil) (.cons (.ite (.cmp .eq (.var 0) (.val (.str "both")))
 (.cons (.ret (.op .band (.var 1) (.var 2))) .nil)
 .nil) (.cons (.ite (.cmp .eq (.var 0) (.val (.str "some")))
 (.cons (.ret (.op .bor (.var 1) (.var 2))) .nil)
 .nil) (.cons (.ite (.cmp .eq (.var 0) (.val (.str "odd")))
 (.cons (.ret (.op .bxor (.var 1) (.var 2))) .nil)
 .nil) (.cons (.ite (.cmp .eq (.var 0) (.val (.str "up")))
 (.cons (.ret (.call 3 (.cons (.var 1) (.cons (.var 2) .nil)))) .nil)
 .nil) (.cons (.ite (.cmp .eq (.var 0) (.val (.str "down")))
 (.cons (.ret (.call 4 (.cons (.var 1) (.cons (.var 2) .nil)))) .nil)
 .nil) (.cons (.ite (.cmp .eq (.var 0) (.val (.str "below")))
 (.cons (.ret (.ite (.cmp .lt (.var 1) (.var 2)) (.val (.int 1)) (.val (.int 0)))) .nil)
 .nil) (.cons (.ret (.ite (.cmp .eq (.var 1) (.var 2)) (.val (.int 1)) (.val (.int 0)))) .nil))))))))))))
def Ke:aP:=(.cons (.asg (.nm 1) (.op .ix (.var 0) (.val (.int 0)))) (.cons (.ite (.cmp .qD (.var 1) (.val (.tup [.str "sum",.str "less",.str "times",.str "share",.str "rest",.str "both",.str "some",.str "odd",.str "up",.str "down",.str "below",.str "same"])))
 (.cons (.ret (.tup (.cons (.op .ix (.var 0) (.val (.int 2))) (.cons (.op .ix (.var 0) (.val (.int 3))) .nil)))) .nil)
 .nil) (.cons (.ite (.cmp .eq (.var 1) (.val (.str "store")))
 (.cons (.ret (.tup (.cons (.op .ix (.var 0) (.val (.int 1))) (.cons (.op .ix (.var 0) (.val (.int 2))) .nil)))) .nil)
 .nil) (.cons (.ite (.or (.cmp .eq (.var 1) (.val (.str "move"))) (.cmp .eq (.var 1) (.val (.str "load"))))
 (.cons (.ret (.tup (.cons (.op .ix (.var 0) (.val (.int 2))) .nil))) .nil)
 .nil) (.cons (.ite (.cmp .eq (.var 1) (.val (.str "jump")))
 (.cons (.ret (.tup (.cons (.op .ix (.var 0) (.val (.int 1))) .nil))) .nil)
 .nil) (.cons (.ret (.tup .nil)) .nil))))))
def Iz:aP:=(.cons (.asg (.nm 1) (.op .ix (.var 0) (.val (.int 0)))) (.cons (.ite (.or (.cmp .qD (.var 1) (.val (.tup [.str "sum",.str "less",.str "times",.str "share",.str "rest",.str "both",.str "some",.str "odd",.str "up",.str "down",.str "below",.str "same"]))) (.cmp .qD (.var 1) (.tup (.cons (.val (.str "set")) (.cons (.val (.str "move")) (.cons (.val (.str "load")) .nil))))))
 (.cons (.ret (.op .ix (.var 0) (.val (.int 1)))) .nil)
 .nil) (.cons (.ret (.val .aB)) .nil)))
def Jy:aP:=(.cons (.ite (.cmp .eq (.op .ix (.var 0) (.val (.int 0))) (.val (.str "load")))
 (.cons (.ret (.op .add (.op .ix (.var 1) (.val (.int 0))) (.op .ix (.var 0) (.val (.int 3))))) .nil)
 .nil) (.cons (.ite (.cmp .eq (.op .ix (.var 0) (.val (.int 0))) (.val (.str "store")))
 (.cons (.ret (.op .add (.op .ix (.var 1) (.val (.int 1))) (.op .ix (.var 0) (.val (.int 3))))) .nil)
 .nil) (.cons (.ret (.val .aB)) .nil)))
def Jb:aP:=(.cons (.ite (.cmp .eq (.op .ix (.var 0) (.val (.int 0))) (.val (.str "go")))
 (.cons (.ret (.op .ix (.var 0) (.val (.int 1)))) .nil)
 .nil) (.cons (.ite (.and (.cmp .eq (.op .ix (.var 0) (.val (.int 0))) (.val (.str "jump"))) (.cmp .ne (.op .ix (.var 2) (.val (.int 0))) (.val (.int 0))))
 (.cons (.ret (.op .ix (.var 0) (.val (.int 2)))) .nil)
 .nil) (.cons (.ret (.op .add (.var 1) (.val (.int 1)))) .nil)))
def Iy:aP:=(.cons (.asg (.nm 3) (.op .ix (.var 0) (.val (.int 0)))) (.cons (.ite (.cmp .eq (.var 3) (.val (.str "fault")))
 (.cons (.ret (.tup (.cons (.val (.str "told")) (.cons (.op .ix (.var 0) (.val (.int 1))) .nil)))) .nil)
 .nil) (.cons (.ite (.and (.or (.cmp .eq (.var 3) (.val (.str "share"))) (.cmp .eq (.var 3) (.val (.str "rest")))) (.cmp .eq (.op .ix (.var 1) (.val (.int 1))) (.val (.int 0))))
 (.cons (.ret (.tup (.cons (.val (.str "nought")) (.cons (.op .ix (.var 1) (.val (.int 0))) .nil)))) .nil)
 .nil) (.cons (.asg (.nm 4) (.call 8 (.cons (.var 0) (.cons (.var 1) .nil)))) (.cons (.ite (.and (.cmp .isn (.var 4) (.val .aB)) (.not (.chain .le .lt (.val (.int 0)) (.var 4) (.var 2))))
 (.cons (.ret (.tup (.cons (.val (.str "place")) (.cons (.var 4) .nil)))) .nil)
 .nil) (.cons (.ret (.val .aB)) .nil))))))
def Iw:aP:=(.cons (.asg (.nm 3) (.op .ix (.var 0) (.val (.int 0)))) (.cons (.ite (.cmp .qD (.var 3) (.val (.tup [.str "sum",.str "less",.str "times",.str "share",.str "rest",.str "both",.str "some",.str "odd",.str "up",.str "down",.str "below",.str "same"])))
 (.cons (.ret (.call 5 (.cons (.var 3) (.cons (.op .ix (.var 1) (.val (.int 0))) (.cons (.op .ix (.var 1) (.val (.int 1))) .nil))))) .nil)
 .nil) (.cons (.ite (.cmp .eq (.var 3) (.val (.str "set")))
 (.cons (.ret (.op .ix (.var 0) (.val (.int 2)))) .nil)
 .nil) (.cons (.ite (.or (.cmp .eq (.var 3) (.val (.str "move"))) (.cmp .eq (.var 3) (.val (.str "store"))))
 (.cons (.ret (.op .ix (.var 1) (.val (.int 0)))) .nil)
 .nil) (.cons (.ite (.cmp .eq (.var 3) (.val (.str "load")))
 (.cons (.ret (.var 2)) .nil)
 .nil) (.cons (.ret (.val .aB)) .nil))))))
def Ju:aP:=(.cons (.asg (.nm 5) (.call 10 (.cons (.var 0) (.cons (.var 2) (.cons (.var 3) .nil))))) (.cons (.ite (.cmp .isn (.var 5) (.val .aB))
 (.cons (.ret (.tup (.cons (.var 1) (.cons (.val .aB) (.cons (.val .aB) (.cons (.val .aB) (.cons (.val .aB) (.cons (.var 5) .nil)))))))) .nil)
 .nil) (.cons (.ret (.tup (.cons (.var 1) (.cons (.call 7 (.cons (.var 0) .nil)) (.cons (.call 8 (.cons (.var 0) (.cons (.var 2) .nil))) (.cons (.call 11 (.cons (.var 0) (.cons (.var 2) (.cons (.var 4) .nil)))) (.cons (.call 9 (.cons (.var 0) (.cons (.var 1) (.cons (.var 2) .nil)))) (.cons (.val .aB) .nil)))))))) .nil)))
def Jd:aP:=(.cons (.ret (.chain .le .lt (.val (.int 0)) (.var 0) (.bi .len (.cons (.var 1) .nil)))) .nil)
def Jc:aP:=(.cons (.ite (.cmp .ne (.op .ix (.var 0) (.val (.int 0))) (.val (.str "load")))
 (.cons (.ret (.val .aB)) .nil)
 .nil) (.cons (.asg (.nm 3) (.call 8 (.cons (.var 0) (.cons (.var 1) .nil)))) (.cons (.ret (.ite (.call 13 (.cons (.var 3) (.cons (.var 2) .nil))) (.op .ix (.var 2) (.var 3)) (.val .aB))) .nil)))
def Jz:aP:=(.cons (.ret (.op .add (.op .add (.slice (.var 0) .no (.var 1)) (.tup (.cons (.var 2) .nil))) (.slice (.var 0) (.op .add (.var 1) (.val (.int 1))) .no))) .nil)
def oz:aP:=(.cons (.asg (.nm 2) (.op .ix (.var 1) (.val (.int 0)))) (.cons (.ite (.cmp .ge (.var 2) (.bi .len (.cons (.var 0) .nil)))
 (.cons (.ret (.val .aB)) .nil)
 .nil) (.cons (.asg (.nm 3) (.op .ix (.var 0) (.var 2))) (.cons (.asg (.nm 4) (.op .ix (.var 1) (.val (.int 2)))) (.cons (.asg (.nm 5) (.bi .tuple (.cons (.gK [none,some 1] (.nm 0) (.seq (.call 6 (.cons (.var 3) .nil))) (.op .ix (.op .ix (.var 1) (.val (.int 1))) (.var 0))) .nil))) (.cons (.ret (.call 12 (.cons (.var 3) (.cons (.var 2) (.cons (.var 5) (.cons (.bi .len (.cons (.var 4) .nil)) (.cons (.call 14 (.cons (.var 3) (.cons (.var 5) (.cons (.var 4) .nil)))) .nil))))))) .nil))))))
def Ad:aP:=(.cons (.asg (.nm 2) (.op .ix (.var 1) (.val (.int 1)))) (.cons (.asg (.nm 3) (.op .ix (.var 1) (.val (.int 2)))) (.cons (.asg (.nm 4) (.op .ix (.var 1) (.val (.int 3)))) (.cons (.asg (.nm 5) (.op .ix (.var 1) (.val (.int 4)))) (.cons (.ite (.cmp .isn (.op .ix (.var 1) (.val (.int 5))) (.val .aB))
 (.cons (.ret (.var 0)) .nil)
 .nil) (.cons (.ite (.cmp .isn (.var 2) (.val .aB))
 (.cons (.ret (.tup (.cons (.var 5) (.cons (.call 15 (.cons (.op .ix (.var 0) (.val (.int 1))) (.cons (.var 2) (.cons (.var 4) .nil)))) (.cons (.op .ix (.var 0) (.val (.int 2))) .nil))))) .nil)
 .nil) (.cons (.ite (.cmp .isn (.var 3) (.val .aB))
 (.cons (.ret (.tup (.cons (.var 5) (.cons (.op .ix (.var 0) (.val (.int 1))) (.cons (.call 15 (.cons (.op .ix (.var 0) (.val (.int 2))) (.cons (.var 3) (.cons (.var 4) .nil)))) .nil))))) .nil)
 .nil) (.cons (.ret (.tup (.cons (.var 5) (.cons (.op .ix (.var 0) (.val (.int 1))) (.cons (.op .ix (.var 0) (.val (.int 2))) .nil))))) .nil))))))))
def Kh:aP:=(.cons (.asg (.nm 3) (.make 2 48 [] (.cons (.var 1) .nil))) (.cons (.fV (.tup 2 (.cons (.nm 4) (.cons (.nm 5) .nil))) (.enum (.var 2))
 (.cons (.ite (.not (.call 19 (.cons (.var 0) (.cons (.var 3) (.cons (.var 5) .nil)))))
 (.cons (.ret (.var 4)) .nil)
 .nil) (.cons (.expr (.gy "follow" [(2,49)] (.var 3) (.cons (.var 5) .nil))) .nil))) (.cons (.ret (.val .aB)) .nil)))
def Je:aP:=(.cons (.ite (.or (.cmp .ne (.op .ix (.var 2) (.val (.int 1))) (.op .ix (.fld [2] "state" (.var 1)) (.val (.int 0)))) (.cmp .ge (.op .ix (.var 2) (.val (.int 1))) (.bi .len (.cons (.var 0) .nil))))
 (.cons (.ret (.val (.bl false))) .nil)
 .nil) (.cons (.ite (.or (.not (.call 20 (.cons (.fld [2] "latest" (.var 1)) (.cons (.var 2) .nil)))) (.not (.call 21 (.cons (.op .ix (.var 2) (.val (.int 5))) .nil))))
 (.cons (.ret (.val (.bl false))) .nil)
 .nil) (.cons (.ite (.or (.cmp .ne (.op .ix (.var 2) (.val (.int 4))) (.call 16 (.cons (.var 0) (.cons (.fld [2] "state" (.var 1)) .nil)))) (.cmp .ne (.op .ix (.var 2) (.val (.int 3))) (.call 22 (.cons (.var 1) (.cons (.op .ix (.var 2) (.val (.int 4))) .nil)))))
 (.cons (.ret (.val (.bl false))) .nil)
 .nil) (.cons (.ret (.call 23 (.cons (.var 1) (.cons (.var 2) (.cons (.call 6 (.cons (.op .ix (.var 0) (.op .ix (.var 2) (.val (.int 1)))) .nil)) .nil))))) .nil))))
def Kb:aP:=(.cons (.ite (.cmp .gQ (.var 0) (.val .aB))
 (.cons (.ret (.and (.cmp .ge (.op .ix (.var 1) (.val (.int 0))) (.val (.int 0))) (.cmp .ge (.op .ix (.op .ix (.var 1) (.val (.int 5))) (.val (.int 0))) (.val (.int 1))))) .nil)
 .nil) (.cons (.ite (.or (.cmp .isn (.op .ix (.op .ix (.var 0) (.val (.int 4))) (.val (.int 5))) (.val .aB)) (.cmp .le (.op .ix (.var 1) (.val (.int 0))) (.op .ix (.var 0) (.val (.int 0)))))
 (.cons (.ret (.val (.bl false))) .nil)
 .nil) (.cons (.ret (.and (.cmp .ge (.op .ix (.op .ix (.var 1) (.val (.int 5))) (.val (.int 0))) (.op .ix (.op .ix (.var 0) (.val (.int 5))) (.val (.int 0)))) (.cmp .ge (.op .ix (.op .ix (.var 1) (.val (.int 5))) (.val (.int 3))) (.op .ix (.op .ix (.var 0) (.val (.int 5))) (.val (.int 3)))))) .nil)))
def Kd:aP:=(.cons (.ret (.fo .lt .lt .lt (.op .ix (.var 0) (.val (.int 0))) (.op .ix (.var 0) (.val (.int 1))) (.op .ix (.var 0) (.val (.int 2))) (.op .ix (.var 0) (.val (.int 3))))) .nil)
def Ja:aP:=(.cons (.ite (.or (.cmp .gQ (.op .ix (.var 1) (.val (.int 1))) (.val .aB)) (.cmp .gQ (.op .ix (.var 1) (.val (.int 2))) (.val .aB)))
 (.cons (.ret (.val .aB)) .nil)
 .nil) (.cons (.ret (.dm .get (.fld [2] "storers" (.var 0)) (.cons (.op .ix (.var 1) (.val (.int 2))) .nil))) .nil))
def Jx:aP:=(.cons (.asg (.nm 3) (.gK [none,some 0] (.nm 0) (.seq (.var 2)) (.dm .get (.fld [2] "fillers" (.var 1)) (.cons (.var 0) .nil)))) (.cons (.ite (.cmp .ne (.op .ix (.var 1) (.val (.int 2))) (.bi .tuple (.cons (.gK [none] (.nm 0) (.seq (.var 3)) (.ite (.cmp .gQ (.var 0) (.val .aB)) (.val .aB) (.op .ix (.var 0) (.val (.int 0))))) .nil)))
 (.cons (.ret (.val (.bl false))) .nil)
 .nil) (.cons (.ret (.kc .all (.gK [none,some 1] (.nm 0) (.seq (.var 3)) (.or (.cmp .gQ (.var 0) (.val .aB)) (.cmp .ge (.op .ix (.op .ix (.var 1) (.val (.int 5))) (.val (.int 1))) (.op .ix (.op .ix (.var 0) (.val (.int 5))) (.val (.int 2)))))))) .nil)))
def Jf:aP:=(.cons (.ite (.cmp .lt (.var 1) (.bi .len (.cons (.var 0) .nil)))
 (.cons (.ret (.op .ix (.var 0) (.var 1))) .nil)
 .nil) (.cons (.ret (.val (.int 0))) .nil))
def Ji:aP:=(.cons (.ret (.op .mod (.op .mul (.op .add (.op .add (.op .mod (.var 0) (.op .pow (.val (.int 10)) (.val (.int 20)))) (.op .mul (.var 1) (.var 1))) (.val (.int 1))) (.op .add (.val (.int 48271)) (.op .mul (.val (.int 2)) (.var 1)))) (.val (.int 2147483647)))) .nil)
def Jr:aP:=(.cons (.asg (.nm 1) (.op .mod (.var 0) (.val (.int 4)))) (.cons (.asg (.nm 2) (.op .fdiv (.var 0) (.val (.int 4)))) (.cons (.ite (.cmp .eq (.var 1) (.val (.int 0)))
 (.cons (.ret (.op .mod (.op .mul (.var 2) (.val (.int 6364136223846793005))) (.op .pow (.val (.int 2)) (.val (.int 64))))) .nil)
 .nil) (.cons (.ite (.cmp .eq (.var 1) (.val (.int 1)))
 (.cons (.ret (.op .sub (.op .sub (.op .pow (.val (.int 2)) (.val (.int 64))) (.val (.int 1))) (.op .mod (.var 2) (.val (.int 9))))) .nil)
 .nil) (.cons (.ret (.op .mod (.var 2) (.val (.int 6)))) .nil)))))
def Jp:aP:=(.cons (.asg (.tup 2 (.cons (.nm 4) (.cons (.nm 5) .nil))) (.var 3)) (.cons (.asg (.nm 6) (.bi .min (.cons (.var 5) (.cons (.op .add (.op .add (.var 4) (.val (.int 1))) (.op .mod (.op .fdiv (.var 2) (.val (.int 8))) (.val (.int 4)))) .nil)))) (.cons (.ite (.cmp .eq (.op .mod (.var 2) (.val (.int 8))) (.val (.int 7)))
 (.cons (.asg (.nm 6) (.op .mod (.op .fdiv (.var 2) (.val (.int 8))) (.op .add (.var 5) (.val (.int 1))))) .nil)
 .nil) (.cons (.ite (.cmp .lt (.var 0) (.val (.int 19)))
 (.cons (.ret (.tup (.cons (.val (.str "jump")) (.cons (.var 1) (.cons (.var 6) .nil))))) .nil)
 .nil) (.cons (.ite (.cmp .eq (.op .mod (.var 2) (.val (.int 2))) (.val (.int 0)))
 (.cons (.ret (.tup (.cons (.val (.str "go")) (.cons (.var 6) .nil)))) .nil)
 .nil) (.cons (.ite (.cmp .eq (.op .mod (.var 2) (.val (.int 4))) (.val (.int 1)))
 (.cons (.ret (.tup (.cons (.val (.str "fault")) (.cons (.call 26 (.cons (.op .fdiv (.var 2) (.val (.int 4))) .nil)) .nil)))) .nil)
 .nil) (.cons (.ret (.tup (.cons (.op .ix (.lst (.cons (.val (.str "load")) (.cons (.val (.str "store")) .nil))) (.op .mod (.op .fdiv (.var 2) (.val (.int 4))) (.val (.int 2)))) (.cons (.var 1) (.cons (.op .mod (.op .fdiv (.var 2) (.val (.int 8))) (.val (.int 8))) (.cons (.op .sub (.op .mod (.op .fdiv (.var 2) (.val (.int 64))) (.val (.int 1999))) (.val (.int 999))) .nil)))))) .nil)))))))
def Jn:aP:=(.cons (.asg (.nm 3) (.call 25 (.cons (.var 0) (.cons (.var 1) .nil)))) (.cons (.par [4,5,6] (.cons (.op .mod (.op .fdiv (.var 3) (.val (.int 20))) (.val (.int 8))) (.cons (.op .mod (.op .fdiv (.var 3) (.val (.int 160))) (.val (.int 8))) (.cons (.op .mod (.op .fdiv (.var 3) (.val (.int 1280))) (.val (.int 8))) .nil)))) (.cons (.asg (.nm 7) (.op .fdiv (.var 3) (.val (.int 10240)))) (.cons (.asg (.nm 8) (.op .mod (.var 3) (.val (.int 20)))) (.cons (.asg (.nm 9) (.lst (.cons (.val (.str "sum")) (.cons (.val (.str "less")) (.cons (.val (.str "times")) (.cons (.val (.str "share")) (.cons (.val (.str "rest")) (.cons (.val (.str "both")) (.cons (.val (.str "some")) (.cons (.val (.str "odd")) (.cons (.val (.str "up")) (.cons (.val (.str "down")) (.cons (.val (.str "below")) (.cons (.val (.str "same")) .nil)))))))))))))) (.cons (.ite (.cmp .lt (.var 8) (.val (.int 5)))
 (.cons (.ret (.tup (.cons (.op .ix (.var 9) (.op .mod (.var 7) (.val (.int 12)))) (.cons (.op .mod (.var 4) (.val (.int 5))) (.cons (.var 5) (.cons (.var 6) .nil)))))) .nil)
 .nil) (.cons (.ite (.cmp .lt (.var 8) (.val (.int 9)))
 (.cons (.ret (.tup (.cons (.val (.str "set")) (.cons (.op .mod (.var 4) (.val (.int 3))) (.cons (.op .ix (.lst (.cons (.op .mod (.op .fdiv (.var 7) (.val (.int 2))) (.val (.int 2))) (.cons (.call 26 (.cons (.op .fdiv (.var 7) (.val (.int 2))) .nil)) .nil))) (.op .mod (.var 7) (.val (.int 2)))) .nil))))) .nil)
 .nil) (.cons (.ite (.cmp .eq (.var 8) (.val (.int 9)))
 (.cons (.ret (.tup (.cons (.val (.str "move")) (.cons (.op .mod (.var 4) (.val (.int 5))) (.cons (.var 5) .nil))))) .nil)
 .nil) (.cons (.ite (.cmp .lt (.var 8) (.val (.int 13)))
 (.cons (.ret (.tup (.cons (.val (.str "load")) (.cons (.op .mod (.var 4) (.val (.int 5))) (.cons (.op .add (.val (.int 6)) (.op .mod (.var 5) (.val (.int 2)))) (.cons (.op .mod (.var 7) (.val (.int 4))) .nil)))))) .nil)
 .nil) (.cons (.ite (.cmp .lt (.var 8) (.val (.int 16)))
 (.cons (.ret (.tup (.cons (.val (.str "store")) (.cons (.var 4) (.cons (.op .add (.val (.int 6)) (.op .mod (.var 5) (.val (.int 2)))) (.cons (.op .mod (.var 7) (.val (.int 4))) .nil)))))) .nil)
 .nil) (.cons (.ret (.call 27 (.cons (.var 8) (.cons (.var 4) (.cons (.var 7) (.cons (.tup (.cons (.var 1) (.cons (.var 2) .nil))) .nil)))))) .nil)))))))))))
def Jo:aP:=(.cons (.asg (.nm 2) (.gK [none,some 0] (.nm 0) (.nA (.cons (.val (.int 6)) .nil)) (.call 26 (.cons (.call 25 (.cons (.var 1) (.cons (.var 0) .nil))) .nil)))) (.cons (.asg (.nm 2) (.op .add (.var 2) (.lst (.cons (.op .mod (.op .fdiv (.call 25 (.cons (.var 0) (.cons (.val (.int 6)) .nil))) (.val (.int 8))) (.val (.int 4))) (.cons (.op .mod (.op .fdiv (.call 25 (.cons (.var 0) (.cons (.val (.int 7)) .nil))) (.val (.int 8))) (.val (.int 4))) .nil))))) (.cons (.asg (.nm 3) (.call 25 (.cons (.var 1) (.cons (.val (.int 0)) .nil)))) (.cons (.asg (.nm 4) (.op .add (.val (.int 7)) (.op .mod (.op .fdiv (.var 3) (.val (.int 8))) (.op .ix (.lst (.cons (.val (.int 10)) (.cons (.val (.int 58)) .nil))) (.bi .int (.cons (.cmp .eq (.op .mod (.var 3) (.val (.int 8))) (.val (.int 1))) .nil)))))) (.cons (.asg (.nm 5) (.gK [none,some 1] (.nm 0) (.nA (.cons (.var 4) .nil)) (.call 26 (.cons (.call 25 (.cons (.var 1) (.cons (.op .add (.var 0) (.val (.int 1))) .nil))) .nil)))) (.cons (.ret (.tup (.cons (.val (.int 0)) (.cons (.bi .tuple (.cons (.var 2) .nil)) (.cons (.bi .tuple (.cons (.var 5) .nil)) .nil))))) .nil))))))
def Js:aP:=(.cons (.ite (.cmp .eq (.var 0) (.val (.str "sum")))
 (.cons (.ret (.op .mod (.op .add (.var 1) (.var 2)) (.op .pow (.val (.int 2)) (.val (.int 64))))) .nil)
 .nil) (.cons (.ite (.cmp .eq (.var 0) (.val (.str "less")))
 (.cons (.ret (.op .mod (.op .sub (.var 1) (.var 2)) (.op .pow (.val (.int 2)) (.val (.int 64))))) .nil)
 .nil) (.cons (.ite (.cmp .eq (.var 0) (.val (.str "times")))
 (.cons (.ret (.op .mod (.op .mul (.var 1) (.var 2)) (.op .pow (.val (.int 2)) (.val (.int 64))))) .nil)
 .nil) (.cons (.ite (.cmp .eq (.var 0) (.val (.str "share")))
 (.cons (.ret (.op .fdiv (.var 1) (.var 2))) .nil)
 .nil) (.cons (.ite (.cmp .eq (.var 0) (.val (.str "rest")))
 (.cons (.ret (.op .mod (.var 1) (.var 2))) .nil)
 .nil) (.cons (.ite (.cmp .eq (.var 0) (.val (.str "both")))
 (.cons (.ret (.op .band (.var 1) (.var 2))) .nil)
 .nil) (.cons (.ite (.cmp .eq (.var 0) (.val (.str "some")))
 (.cons (.ret (.op .bor (.var 1) (.var 2))) .nil)
 .nil) (.cons (.ite (.cmp .eq (.var 0) (.val (.str "odd")))
 (.cons (.ret (.op .bxor (.var 1) (.var 2))) .nil)
 .nil) (.cons (.ite (.cmp .eq (.var 0) (.val (.str "up")))
 (.cons (.ret (.op .mod (.op .shl (.var 1) (.bi .min (.cons (.var 2) (.cons (.val (.int 64)) .nil)))) (.op .pow (.val (.int 2)) (.val (.int 64))))) .nil)
 .nil) (.cons (.ite (.cmp .eq (.var 0) (.val (.str "down")))
 (.cons (.ret (.op .shr (.var 1) (.bi .min (.cons (.var 2) (.cons (.val (.int 64)) .nil))))) .nil)
 .nil) (.cons (.ite (.cmp .eq (.var 0) (.val (.str "below")))
 (.cons (.ret (.bi .int (.cons (.cmp .lt (.var 1) (.var 2)) .nil))) .nil)
 .nil) (.cons (.ret (.bi .int (.cons (.cmp .eq (.var 1) (.var 2)) .nil))) .nil))))))))))))
def Ae:aP:=(.cons (.asg (.nm 4) (.op .add (.op .ix (.var 2) (.op .ix (.var 0) (.val (.int 2)))) (.op .ix (.var 0) (.val (.int 3))))) (.cons (.ite (.or (.cmp .lt (.var 4) (.val (.int 0))) (.cmp .ge (.var 4) (.bi .len (.cons (.var 3) .nil))))
 (.cons (.ret (.tup (.cons (.var 1) (.cons (.val .aB) (.cons (.val .aB) (.cons (.val .aB) (.cons (.val .aB) (.cons (.tup (.cons (.val (.str "place")) (.cons (.var 4) .nil))) .nil)))))))) .nil)
 .nil) (.cons (.ite (.cmp .eq (.op .ix (.var 0) (.val (.int 0))) (.val (.str "load")))
 (.cons (.ret (.tup (.cons (.var 1) (.cons (.op .ix (.var 0) (.val (.int 1))) (.cons (.var 4) (.cons (.op .ix (.var 3) (.var 4)) (.cons (.op .add (.var 1) (.val (.int 1))) (.cons (.val .aB) .nil)))))))) .nil)
 .nil) (.cons (.ret (.tup (.cons (.var 1) (.cons (.val .aB) (.cons (.var 4) (.cons (.op .ix (.var 2) (.op .ix (.var 0) (.val (.int 1)))) (.cons (.op .add (.var 1) (.val (.int 1))) (.cons (.val .aB) .nil)))))))) .nil))))
def Jg:aP:=(.cons (.asg (.nm 4) (.op .ix (.var 0) (.val (.int 0)))) (.cons (.ite (.or (.cmp .eq (.var 4) (.val (.str "load"))) (.cmp .eq (.var 4) (.val (.str "store"))))
 (.cons (.ret (.call 31 (.cons (.var 0) (.cons (.var 1) (.cons (.var 2) (.cons (.var 3) .nil)))))) .nil)
 .nil) (.cons (.ite (.cmp .eq (.var 4) (.val (.str "fault")))
 (.cons (.ret (.tup (.cons (.var 1) (.cons (.val .aB) (.cons (.val .aB) (.cons (.val .aB) (.cons (.val .aB) (.cons (.tup (.cons (.val (.str "told")) (.cons (.op .ix (.var 0) (.val (.int 1))) .nil))) .nil)))))))) .nil)
 .nil) (.cons (.ite (.cmp .eq (.var 4) (.val (.str "go")))
 (.cons (.ret (.tup (.cons (.var 1) (.cons (.val .aB) (.cons (.val .aB) (.cons (.val .aB) (.cons (.op .ix (.var 0) (.val (.int 1))) (.cons (.val .aB) .nil)))))))) .nil)
 .nil) (.cons (.ite (.cmp .eq (.var 4) (.val (.str "jump")))
 (.cons (.ret (.tup (.cons (.var 1) (.cons (.val .aB) (.cons (.val .aB) (.cons (.val .aB) (.cons (.op .ix (.lst (.cons (.op .add (.var 1) (.val (.int 1))) (.cons (.op .ix (.var 0) (.val (.int 2))) .nil))) (.bi .int (.cons (.cmp .ne (.op .ix (.var 2) (.op .ix (.var 0) (.val (.int 1)))) (.val (.int 0))) .nil))) (.cons (.val .aB) .nil)))))))) .nil)
 .nil) (.cons (.ite (.cmp .eq (.var 4) (.val (.str "set")))
 (.cons (.ret (.tup (.cons (.var 1) (.cons (.op .ix (.var 0) (.val (.int 1))) (.cons (.val .aB) (.cons (.op .ix (.var 0) (.val (.int 2))) (.cons (.op .add (.var 1) (.val (.int 1))) (.cons (.val .aB) .nil)))))))) .nil)
 .nil) (.cons (.ite (.cmp .eq (.var 4) (.val (.str "move")))
 (.cons (.ret (.tup (.cons (.var 1) (.cons (.op .ix (.var 0) (.val (.int 1))) (.cons (.val .aB) (.cons (.op .ix (.var 2) (.op .ix (.var 0) (.val (.int 2)))) (.cons (.op .add (.var 1) (.val (.int 1))) (.cons (.val .aB) .nil)))))))) .nil)
 .nil) (.cons (.asg (.nm 5) (.op .ix (.var 2) (.op .ix (.var 0) (.val (.int 2))))) (.cons (.asg (.nm 6) (.op .ix (.var 2) (.op .ix (.var 0) (.val (.int 3))))) (.cons (.ite (.and (.cmp .eq (.var 6) (.val (.int 0))) (.or (.cmp .eq (.var 4) (.val (.str "share"))) (.cmp .eq (.var 4) (.val (.str "rest")))))
 (.cons (.ret (.tup (.cons (.var 1) (.cons (.val .aB) (.cons (.val .aB) (.cons (.val .aB) (.cons (.val .aB) (.cons (.tup (.cons (.val (.str "nought")) (.cons (.var 5) .nil))) .nil)))))))) .nil)
 .nil) (.cons (.ret (.tup (.cons (.var 1) (.cons (.op .ix (.var 0) (.val (.int 1))) (.cons (.val .aB) (.cons (.call 30 (.cons (.var 4) (.cons (.var 5) (.cons (.var 6) .nil)))) (.cons (.op .add (.var 1) (.val (.int 1))) (.cons (.val .aB) .nil)))))))) .nil)))))))))))
def Jm:aP:=(.cons (.par [3,4,5] (.cons (.op .ix (.var 1) (.val (.int 0))) (.cons (.bi .list (.cons (.op .ix (.var 1) (.val (.int 1))) .nil)) (.cons (.bi .list (.cons (.op .ix (.var 1) (.val (.int 2))) .nil)) .nil)))) (.cons (.asg (.nm 6) (.lst .nil)) (.cons (.asg (.nm 7) (.lst (.cons (.var 1) .nil))) (.cons (.zh (.and (.cmp .lt (.bi .len (.cons (.var 6) .nil)) (.var 2)) (.cmp .lt (.var 3) (.bi .len (.cons (.var 0) .nil))))
 (.cons (.asg (.nm 8) (.call 32 (.cons (.op .ix (.var 0) (.var 3)) (.cons (.var 3) (.cons (.var 4) (.cons (.var 5) .nil)))))) (.cons (.expr (.app (.var 6) (.var 8))) (.cons (.ite (.cmp .isn (.op .ix (.var 8) (.val (.int 5))) (.val .aB))
 (.cons (.expr (.app (.var 7) (.op .ix (.var 7) (.neg (.val (.int 1)))))) (.cons (.ret (.tup (.cons (.var 6) (.cons (.var 7) .nil)))) .nil))
 .nil) (.cons (.asg (.nm 3) (.op .ix (.var 8) (.val (.int 4)))) (.cons (.ite (.cmp .isn (.op .ix (.var 8) (.val (.int 1))) (.val .aB))
 (.cons (.asg (.sub (.var 4) (.op .ix (.var 8) (.val (.int 1)))) (.op .ix (.var 8) (.val (.int 3)))) .nil)
 (.cons (.ite (.cmp .isn (.op .ix (.var 8) (.val (.int 2))) (.val .aB))
 (.cons (.asg (.sub (.var 5) (.op .ix (.var 8) (.val (.int 2)))) (.op .ix (.var 8) (.val (.int 3)))) .nil)
 .nil) .nil)) (.cons (.expr (.app (.var 7) (.tup (.cons (.var 3) (.cons (.bi .tuple (.cons (.var 4) .nil)) (.cons (.bi .tuple (.cons (.var 5) .nil)) .nil)))))) .nil))))))) (.cons (.ret (.tup (.cons (.var 6) (.cons (.var 7) .nil)))) .nil)))))
def Jq:aP:=(.cons (.asg (.nm 1) (.op .ix (.var 0) (.val (.int 0)))) (.cons (.ite (.or (.cmp .eq (.var 1) (.val (.str "set"))) (.or (.cmp .eq (.var 1) (.val (.str "go"))) (.cmp .eq (.var 1) (.val (.str "fault")))))
 (.cons (.ret (.lst .nil)) .nil)
 .nil) (.cons (.ite (.cmp .eq (.var 1) (.val (.str "jump")))
 (.cons (.ret (.lst (.cons (.op .ix (.var 0) (.val (.int 1))) .nil))) .nil)
 .nil) (.cons (.ite (.or (.cmp .eq (.var 1) (.val (.str "move"))) (.cmp .eq (.var 1) (.val (.str "load"))))
 (.cons (.ret (.lst (.cons (.op .ix (.var 0) (.val (.int 2))) .nil))) .nil)
 .nil) (.cons (.ite (.cmp .eq (.var 1) (.val (.str "store")))
 (.cons (.ret (.lst (.cons (.op .ix (.var 0) (.val (.int 1))) (.cons (.op .ix (.var 0) (.val (.int 2))) .nil)))) .nil)
 .nil) (.cons (.ret (.lst (.cons (.op .ix (.var 0) (.val (.int 2))) (.cons (.op .ix (.var 0) (.val (.int 3))) .nil)))) .nil))))))
def pe:aP:=(.cons (.asg (.nm 3) (.lst .nil)) (.cons (.asg (.nm 4) .mH) (.cons (.asg (.nm 5) .mH) (.cons (.asg (.nm 6) .mH) (.cons (.asg (.tup 3 (.cons (.nm 7) (.cons (.nm 8) (.cons (.nm 9) .nil)))) (.tup (.cons (.neg (.val (.int 1))) (.cons (.val (.int 1)) (.cons (.val (.int 0)) .nil))))) (.cons (.fV (.tup 2 (.cons (.nm 10) (.cons (.nm 11) .nil))) (.enum (.var 1))
 (.cons (.asg (.nm 12) (.op .ix (.var 0) (.op .ix (.var 11) (.val (.int 0))))) (.cons (.asg (.nm 13) (.bi .tuple (.cons (.gK [none,some 4] (.nm 0) (.seq (.call 34 (.cons (.var 12) .nil))) (.dm .get (.var 1) (.cons (.var 0) .nil))) .nil))) (.cons (.asg (.nm 14) (.val .aB)) (.cons (.ite (.cmp .eq (.op .ix (.var 12) (.val (.int 0))) (.val (.str "load")))
 (.cons (.asg (.nm 14) (.dm .get (.var 5) (.cons (.op .ix (.var 11) (.val (.int 2))) .nil))) .nil)
 .nil) (.cons (.asg (.nm 15) (.call 25 (.cons (.var 2) (.cons (.var 10) .nil)))) (.cons (.asg (.nm 7) (.op .add (.op .add (.var 7) (.val (.int 1))) (.op .mod (.var 15) (.val (.int 3))))) (.cons (.asg (.nm 8) (.op .add (.var 8) (.op .fdiv (.op .mod (.op .fdiv (.var 15) (.val (.int 3))) (.val (.int 3))) (.val (.int 2))))) (.cons (.asg (.nm 16) (.op .add (.kc .mx (.op .add (.lst (.cons (.op .add (.var 8) (.val (.int 1))) .nil)) (.wA [none,some 6] (.nm 0) (.seq (.var 13)) (.cmp .isn (.var 0) (.val .aB)) (.op .ix (.var 1) (.var 0))))) (.op .fdiv (.op .mod (.op .fdiv (.var 15) (.val (.int 9))) (.val (.int 3))) (.val (.int 2))))) (.cons (.asg (.nm 17) (.op .add (.op .add (.var 16) (.val (.int 1))) (.op .mod (.op .fdiv (.var 15) (.val (.int 27))) (.val (.int 4))))) (.cons (.asg (.nm 9) (.op .add (.bi .max (.cons (.var 9) (.cons (.op .add (.var 17) (.val (.int 1))) .nil))) (.op .fdiv (.op .mod (.op .fdiv (.var 15) (.val (.int 108))) (.val (.int 3))) (.val (.int 2))))) (.cons (.expr (.app (.var 3) (.tup (.cons (.var 7) (.cons (.op .ix (.var 11) (.val (.int 0))) (.cons (.var 13) (.cons (.var 14) (.cons (.var 11) (.cons (.tup (.cons (.var 8) (.cons (.var 16) (.cons (.var 17) (.cons (.var 9) .nil))))) .nil))))))))) (.cons (.asg (.sub (.var 6) (.var 7)) (.var 17)) (.cons (.ite (.cmp .isn (.op .ix (.var 11) (.val (.int 1))) (.val .aB))
 (.cons (.asg (.sub (.var 4) (.op .ix (.var 11) (.val (.int 1)))) (.var 7)) .nil)
 (.cons (.ite (.cmp .isn (.op .ix (.var 11) (.val (.int 2))) (.val .aB))
 (.cons (.asg (.sub (.var 5) (.op .ix (.var 11) (.val (.int 2)))) (.var 7)) .nil)
 .nil) .nil)) .nil)))))))))))))) (.cons (.ret (.var 3)) .nil)))))))
def vS:aP:=(.cons (.ite (.or (.cmp .eq (.var 0) (.tup .nil)) (.cmp .eq (.op .mod (.var 1) (.val (.int 4))) (.val (.int 0))))
 (.cons (.ret (.op .add (.var 0) (.tup (.cons (.val .aB) .nil)))) .nil)
 .nil) (.cons (.ite (.cmp .eq (.op .mod (.var 1) (.val (.int 4))) (.val (.int 1)))
 (.cons (.ret (.slice (.var 0) .no (.neg (.val (.int 1))))) .nil)
 .nil) (.cons (.asg (.nm 2) (.op .mod (.op .fdiv (.var 1) (.val (.int 4))) (.bi .len (.cons (.var 0) .nil)))) (.cons (.asg (.nm 3) (.op .ix (.var 0) (.var 2))) (.cons (.asg (.nm 4) (.op .mod (.op .fdiv (.var 1) (.val (.int 8))) (.val (.int 6)))) (.cons (.ite (.cmp .isn (.var 3) (.val .aB))
 (.cons (.asg (.nm 4) (.op .ix (.lst (.cons (.val .aB) (.cons (.op .add (.var 3) (.val (.int 1))) (.cons (.op .add (.bi .max (.cons (.val (.int 0)) (.cons (.op .sub (.var 3) (.val (.int 1))) .nil))) (.op .mul (.val (.int 2)) (.bi .int (.cons (.cmp .eq (.var 3) (.val (.int 0))) .nil)))) .nil)))) (.op .mod (.op .fdiv (.var 1) (.val (.int 8))) (.val (.int 3))))) .nil)
 .nil) (.cons (.ret (.op .add (.op .add (.slice (.var 0) .no (.var 2)) (.tup (.cons (.var 4) .nil))) (.slice (.var 0) (.op .add (.var 2) (.val (.int 1))) .no))) .nil)))))))
def Jl:aP:=(.cons (.ite (.cmp .gQ (.var 0) (.val .aB))
 (.cons (.ret (.op .mod (.var 1) (.val (.int 6)))) .nil)
 .nil) (.cons (.ret (.op .ix (.lst (.cons (.val .aB) (.cons (.op .add (.var 0) (.val (.int 1))) .nil))) (.op .mod (.var 1) (.val (.int 2))))) .nil))
def Jk:aP:=(.cons (.asg (.nm 2) (.op .ix (.var 0) (.val (.int 0)))) (.cons (.asg (.tup 2 (.cons (.nm 3) (.cons (.nm 4) .nil))) (.op .ix (.var 0) (.val (.int 5)))) (.cons (.ite (.cmp .eq (.op .mod (.var 1) (.val (.int 3))) (.val (.int 0)))
 (.cons (.ret (.tup (.cons (.var 2) (.cons (.val .aB) (.cons (.val .aB) (.cons (.val .aB) (.cons (.op .add (.var 2) (.val (.int 1))) (.cons (.val .aB) .nil)))))))) .nil)
 .nil) (.cons (.ite (.cmp .eq (.op .mod (.var 1) (.val (.int 3))) (.val (.int 1)))
 (.cons (.ret (.tup (.cons (.var 2) (.cons (.val .aB) (.cons (.val .aB) (.cons (.val .aB) (.cons (.val .aB) (.cons (.tup (.cons (.op .ix (.lst (.cons (.val (.str "told")) (.cons (.val (.str "nought")) .nil))) (.bi .int (.cons (.cmp .eq (.var 3) (.val (.str "told"))) .nil))) (.cons (.var 1) .nil))) .nil)))))))) .nil)
 .nil) (.cons (.ite (.cmp .eq (.var 3) (.val (.str "place")))
 (.cons (.ret (.tup (.cons (.var 2) (.cons (.val .aB) (.cons (.val .aB) (.cons (.val .aB) (.cons (.val .aB) (.cons (.tup (.cons (.var 3) (.cons (.op .sub (.var 4) (.val (.int 1))) .nil))) .nil)))))))) .nil)
 .nil) (.cons (.ret (.tup (.cons (.var 2) (.cons (.val .aB) (.cons (.val .aB) (.cons (.val .aB) (.cons (.val .aB) (.cons (.tup (.cons (.var 3) (.cons (.op .mod (.op .add (.var 4) (.val (.int 1))) (.op .pow (.val (.int 2)) (.val (.int 64)))) .nil))) .nil)))))))) .nil))))))
def sD:aP:=(.cons (.asg (.tup 6 (.cons (.nm 3) (.cons (.nm 4) (.cons (.nm 5) (.cons (.nm 6) (.cons (.nm 7) (.cons (.nm 8) .nil))))))) (.var 0)) (.cons (.asg (.nm 9) (.op .fdiv (.var 1) (.val (.int 6)))) (.cons (.ite (.cmp .isn (.var 8) (.val .aB))
 (.cons (.ret (.call 38 (.cons (.var 0) (.cons (.var 1) .nil)))) .nil)
 .nil) (.cons (.ite (.cmp .eq (.op .mod (.var 1) (.val (.int 6))) (.val (.int 0)))
 (.cons (.ret (.tup (.cons (.op .add (.var 3) (.val (.int 1))) (.cons (.var 4) (.cons (.var 5) (.cons (.var 6) (.cons (.var 7) (.cons (.val .aB) .nil)))))))) .nil)
 .nil) (.cons (.ite (.and (.cmp .eq (.op .mod (.var 1) (.val (.int 6))) (.val (.int 1))) (.cmp .isn (.var 4) (.val .aB)))
 (.cons (.ret (.tup (.cons (.var 3) (.cons (.op .mod (.op .add (.op .add (.var 4) (.val (.int 1))) (.op .mod (.var 9) (.val (.int 7)))) (.val (.int 8))) (.cons (.var 5) (.cons (.var 6) (.cons (.var 7) (.cons (.val .aB) .nil)))))))) .nil)
 .nil) (.cons (.ite (.and (.cmp .eq (.op .mod (.var 1) (.val (.int 6))) (.val (.int 2))) (.cmp .isn (.var 5) (.val .aB)))
 (.cons (.ret (.tup (.cons (.var 3) (.cons (.var 4) (.cons (.op .add (.var 5) (.val (.int 1))) (.cons (.var 6) (.cons (.var 7) (.cons (.val .aB) .nil)))))))) .nil)
 .nil) (.cons (.ite (.and (.cmp .eq (.op .mod (.var 1) (.val (.int 6))) (.val (.int 3))) (.cmp .isn (.var 6) (.val .aB)))
 (.cons (.ret (.tup (.cons (.var 3) (.cons (.var 4) (.cons (.var 5) (.cons (.op .mod (.op .add (.var 6) (.op .ix (.lst (.cons (.val (.int 1)) (.cons (.op .pow (.val (.int 2)) (.val (.int 63))) .nil))) (.op .mod (.var 9) (.val (.int 2))))) (.op .pow (.val (.int 2)) (.val (.int 64)))) (.cons (.var 7) (.cons (.val .aB) .nil)))))))) .nil)
 .nil) (.cons (.ite (.cmp .eq (.op .mod (.var 1) (.val (.int 6))) (.val (.int 4)))
 (.cons (.ret (.tup (.cons (.var 3) (.cons (.var 4) (.cons (.var 5) (.cons (.var 6) (.cons (.op .mod (.op .add (.op .add (.var 7) (.val (.int 1))) (.op .mod (.var 9) (.var 2))) (.op .add (.var 2) (.val (.int 1)))) (.cons (.val .aB) .nil)))))))) .nil)
 .nil) (.cons (.ite (.cmp .eq (.op .mod (.var 1) (.val (.int 6))) (.val (.int 5)))
 (.cons (.ret (.tup (.cons (.var 3) (.cons (.val .aB) (.cons (.val .aB) (.cons (.val .aB) (.cons (.val .aB) (.cons (.tup (.cons (.val (.str "told")) (.cons (.var 9) .nil))) .nil)))))))) .nil)
 .nil) (.cons (.ite (.and (.cmp .gQ (.var 4) (.val .aB)) (.cmp .gQ (.var 5) (.val .aB)))
 (.cons (.ret (.tup (.cons (.var 3) (.cons (.op .mod (.var 9) (.val (.int 8))) (.cons (.val .aB) (.cons (.val (.int 0)) (.cons (.var 7) (.cons (.val .aB) .nil)))))))) .nil)
 .nil) (.cons (.ite (.cmp .gQ (.var 4) (.val .aB))
 (.cons (.ret (.tup (.cons (.var 3) (.cons (.op .mod (.var 9) (.val (.int 8))) (.cons (.var 5) (.cons (.var 6) (.cons (.var 7) (.cons (.val .aB) .nil)))))))) .nil)
 .nil) (.cons (.ite (.cmp .gQ (.var 5) (.val .aB))
 (.cons (.ret (.tup (.cons (.var 3) (.cons (.var 4) (.cons (.op .mod (.var 9) (.val (.int 8))) (.cons (.var 6) (.cons (.var 7) (.cons (.val .aB) .nil)))))))) .nil)
 .nil) (.cons (.ret (.tup (.cons (.var 3) (.cons (.var 4) (.cons (.val .aB) (.cons (.var 6) (.cons (.var 7) (.cons (.val .aB) .nil)))))))) .nil)))))))))))))
def sE:aP:=(.cons (.asg (.tup 4 (.cons (.nm 3) (.cons (.nm 4) (.cons (.nm 5) (.cons (.nm 6) .nil))))) (.op .ix (.op .ix (.var 0) (.var 1)) (.val (.int 5)))) (.cons (.asg (.nm 7) (.op .mod (.var 2) (.val (.int 6)))) (.cons (.ite (.cmp .eq (.var 7) (.val (.int 0)))
 (.cons (.asg (.nm 3) (.val (.int 0))) (.cons (.ite (.cmp .gt (.var 1) (.val (.int 0)))
 (.cons (.asg (.nm 3) (.op .sub (.op .ix (.op .ix (.op .ix (.var 0) (.op .sub (.var 1) (.val (.int 1)))) (.val (.int 5))) (.val (.int 0))) (.val (.int 1)))) .nil)
 .nil) .nil))
 .nil) (.cons (.ite (.cmp .eq (.var 7) (.val (.int 1)))
 (.cons (.asg (.nm 3) (.var 4)) .nil)
 .nil) (.cons (.ite (.cmp .eq (.var 7) (.val (.int 2)))
 (.cons (.asg (.nm 4) (.var 5)) .nil)
 .nil) (.cons (.ite (.cmp .eq (.var 7) (.val (.int 3)))
 (.cons (.asg (.nm 5) (.var 6)) .nil)
 .nil) (.cons (.ite (.cmp .eq (.var 7) (.val (.int 4)))
 (.cons (.asg (.nm 6) (.var 5)) (.cons (.ite (.cmp .gt (.var 1) (.val (.int 0)))
 (.cons (.asg (.nm 6) (.op .sub (.op .ix (.op .ix (.op .ix (.var 0) (.op .sub (.var 1) (.val (.int 1)))) (.val (.int 5))) (.val (.int 3))) (.val (.int 1)))) .nil)
 .nil) .nil))
 .nil) (.cons (.ite (.cmp .eq (.var 7) (.val (.int 5)))
 (.cons (.asg (.nm 4) (.var 3)) (.cons (.fV (.nm 8) (.seq (.slice (.var 0) .no (.var 1)))
 (.cons (.ite (.cmp .qD (.op .ix (.var 8) (.val (.int 0))) (.op .ix (.op .ix (.var 0) (.var 1)) (.val (.int 2))))
 (.cons (.asg (.nm 4) (.op .sub (.op .ix (.op .ix (.var 8) (.val (.int 5))) (.val (.int 2))) (.val (.int 1)))) .nil)
 .nil) .nil)) .nil))
 .nil) (.cons (.ret (.tup (.cons (.var 3) (.cons (.var 4) (.cons (.var 5) (.cons (.var 6) .nil)))))) .nil)))))))))
def vR:aP:=(.cons (.asg (.tup 6 (.cons (.nm 5) (.cons (.nm 6) (.cons (.nm 7) (.cons (.nm 8) (.cons (.nm 9) (.cons (.nm 10) .nil))))))) (.op .ix (.var 0) (.var 1))) (.cons (.ite (.and (.cmp .eq (.var 2) (.val (.int 0))) (.cmp .gt (.var 1) (.val (.int 0))))
 (.cons (.asg (.nm 5) (.bi .max (.cons (.val (.int 0)) (.cons (.op .sub (.op .ix (.op .ix (.var 0) (.op .sub (.var 1) (.val (.int 1)))) (.val (.int 0))) (.op .mod (.var 3) (.val (.int 2)))) .nil)))) .nil)
 (.cons (.ite (.cmp .lt (.var 2) (.val (.int 2)))
 (.cons (.asg (.nm 6) (.op .mod (.op .add (.op .add (.var 6) (.val (.int 1))) (.op .mod (.var 3) (.var 4))) (.op .add (.var 4) (.val (.int 1))))) .nil)
 (.cons (.ite (.cmp .lt (.var 2) (.val (.int 4)))
 (.cons (.asg (.nm 7) (.call 36 (.cons (.var 7) (.cons (.var 3) .nil)))) .nil)
 (.cons (.ite (.cmp .eq (.var 2) (.val (.int 4)))
 (.cons (.asg (.nm 8) (.call 37 (.cons (.var 8) (.cons (.var 3) .nil)))) .nil)
 (.cons (.ite (.cmp .lt (.var 2) (.val (.int 7)))
 (.cons (.asg (.nm 9) (.call 39 (.cons (.var 9) (.cons (.var 3) (.cons (.var 4) .nil))))) .nil)
 (.cons (.asg (.nm 10) (.call 40 (.cons (.var 0) (.cons (.var 1) (.cons (.var 3) .nil))))) .nil)) .nil)) .nil)) .nil)) .nil)) (.cons (.ret (.op .add (.op .add (.slice (.var 0) .no (.var 1)) (.lst (.cons (.tup (.cons (.var 5) (.cons (.var 6) (.cons (.var 7) (.cons (.var 8) (.cons (.var 9) (.cons (.var 10) .nil))))))) .nil))) (.slice (.var 0) (.op .add (.var 1) (.val (.int 1))) .no))) .nil)))
def Jj:aP:=(.cons (.asg (.tup 6 (.cons (.nm 3) (.cons (.nm 4) (.cons (.nm 5) (.cons (.nm 6) (.cons (.nm 7) (.cons (.nm 8) .nil))))))) (.op .ix (.var 0) (.neg (.val (.int 1))))) (.cons (.asg (.nm 9) (.tup (.cons (.op .add (.op .ix (.var 8) (.val (.int 0))) (.val (.int 40))) (.cons (.op .add (.op .ix (.var 8) (.val (.int 1))) (.val (.int 40))) (.cons (.op .add (.op .ix (.var 8) (.val (.int 2))) (.val (.int 40))) (.cons (.op .add (.op .ix (.var 8) (.val (.int 3))) (.val (.int 40))) .nil)))))) (.cons (.ite (.cmp .gQ (.op .ix (.var 7) (.val (.int 5))) (.val .aB))
 (.cons (.asg (.nm 4) (.op .mod (.op .add (.op .add (.op .ix (.var 7) (.val (.int 4))) (.val (.int 1))) (.op .mod (.op .fdiv (.var 1) (.val (.int 2))) (.var 2))) (.op .add (.var 2) (.val (.int 1))))) (.cons (.ite (.and (.cmp .eq (.op .ix (.var 7) (.val (.int 4))) (.var 2)) (.cmp .eq (.op .mod (.var 1) (.val (.int 2))) (.val (.int 0))))
 (.cons (.asg (.nm 4) (.var 2)) .nil)
 .nil) .nil))
 .nil) (.cons (.ret (.op .add (.var 0) (.lst (.cons (.tup (.cons (.op .add (.var 3) (.val (.int 1))) (.cons (.var 4) (.cons (.var 5) (.cons (.var 6) (.cons (.var 7) (.cons (.var 9) .nil))))))) .nil)))) .nil))))
def fS:aP:=(.cons (.asg (.tup 6 (.cons (.nm 4) (.cons (.nm 5) (.cons (.nm 6) (.cons (.nm 7) (.cons (.nm 8) (.cons (.nm 9) .nil))))))) (.op .ix (.var 0) (.var 1))) (.cons (.asg (.nm 10) (.lst .nil)) (.cons (.fV (.nm 11) (.seq (.slice (.var 0) .no (.var 1)))
 (.cons (.ite (.and (.cmp .eq (.op .ix (.op .ix (.var 2) (.var 5)) (.val (.int 0))) (.val (.str "load"))) (.and (.cmp .gQ (.op .ix (.op .ix (.var 11) (.val (.int 4))) (.val (.int 1))) (.val .aB)) (.and (.cmp .eq (.op .ix (.op .ix (.var 11) (.val (.int 4))) (.val (.int 2))) (.op .ix (.var 8) (.val (.int 2)))) (.cmp .isn (.op .ix (.var 8) (.val (.int 2))) (.val .aB)))))
 (.cons (.ite (.cmp .ne (.op .ix (.var 11) (.val (.int 0))) (.var 7))
 (.cons (.expr (.app (.var 10) (.tup (.cons (.var 4) (.cons (.var 5) (.cons (.var 6) (.cons (.op .ix (.var 11) (.val (.int 0))) (.cons (.var 8) (.cons (.var 9) .nil))))))))) .nil)
 .nil) .nil)
 .nil) .nil)) (.cons (.ite (.and (.cmp .ne (.var 10) (.lst .nil)) (.cmp .eq (.op .mod (.var 3) (.val (.int 2))) (.val (.int 0))))
 (.cons (.ret (.op .ix (.var 10) (.op .mod (.op .fdiv (.var 3) (.val (.int 2))) (.bi .len (.cons (.var 10) .nil))))) .nil)
 .nil) (.cons (.fV (.tup 2 (.cons (.nm 12) (.cons (.nm 13) .nil))) (.enum (.call 34 (.cons (.op .ix (.var 2) (.var 5)) .nil)))
 (.cons (.fV (.nm 11) (.seq (.slice (.var 0) .no (.var 1)))
 (.cons (.ite (.and (.cmp .eq (.op .ix (.op .ix (.var 11) (.val (.int 4))) (.val (.int 1))) (.var 13)) (.cmp .ne (.op .ix (.var 11) (.val (.int 0))) (.op .ix (.var 6) (.var 12))))
 (.cons (.expr (.app (.var 10) (.tup (.cons (.var 4) (.cons (.var 5) (.cons (.op .add (.op .add (.slice (.var 6) .no (.var 12)) (.tup (.cons (.op .ix (.var 11) (.val (.int 0))) .nil))) (.slice (.var 6) (.op .add (.var 12) (.val (.int 1))) .no)) (.cons (.var 7) (.cons (.var 8) (.cons (.var 9) .nil))))))))) .nil)
 .nil) .nil)) .nil)) (.cons (.ite (.cmp .eq (.var 10) (.lst .nil))
 (.cons (.ret (.val .aB)) .nil)
 .nil) (.cons (.ret (.op .ix (.var 10) (.op .mod (.op .fdiv (.var 3) (.val (.int 2))) (.bi .len (.cons (.var 10) .nil))))) .nil)))))))
def vQ:aP:=(.cons (.fV (.nm 4) (.nA (.cons (.bi .len (.cons (.var 0) .nil)) .nil))
 (.cons (.asg (.nm 5) (.op .mod (.op .add (.var 1) (.var 4)) (.bi .len (.cons (.var 0) .nil)))) (.cons (.asg (.nm 6) (.call 43 (.cons (.var 0) (.cons (.var 5) (.cons (.var 2) (.cons (.var 3) .nil)))))) (.cons (.ite (.cmp .isn (.var 6) (.val .aB))
 (.cons (.ret (.lst (.cons (.op .add (.op .add (.slice (.var 0) .no (.var 5)) (.lst (.cons (.var 6) .nil))) (.slice (.var 0) (.op .add (.var 5) (.val (.int 1))) .no)) (.cons (.var 5) .nil)))) .nil)
 .nil) .nil)))) (.cons (.ret (.lst (.cons (.call 42 (.cons (.var 0) (.cons (.var 3) (.cons (.bi .len (.cons (.var 2) .nil)) .nil)))) (.cons (.bi .len (.cons (.var 0) .nil)) .nil)))) .nil))
def iJ:aP:=(.cons (.asg (.nm 3) (.op .mod (.op .fdiv (.var 1) (.val (.int 14))) (.bi .len (.cons (.var 0) .nil)))) (.cons (.asg (.nm 4) (.op .mod (.var 1) (.val (.int 14)))) (.cons (.asg (.nm 5) (.op .fdiv (.var 1) (.val (.int 400)))) (.cons (.asg (.nm 6) (.bi .len (.cons (.var 2) .nil))) (.cons (.ite (.cmp .gt (.var 4) (.val (.int 11)))
 (.cons (.ret (.call 44 (.cons (.var 0) (.cons (.var 3) (.cons (.var 2) (.cons (.var 5) .nil)))))) .nil)
 .nil) (.cons (.ite (.cmp .lt (.var 4) (.val (.int 9)))
 (.cons (.ret (.lst (.cons (.call 41 (.cons (.var 0) (.cons (.var 3) (.cons (.var 4) (.cons (.var 5) (.cons (.var 6) .nil)))))) (.cons (.var 3) .nil)))) .nil)
 .nil) (.cons (.ite (.and (.cmp .eq (.var 4) (.val (.int 9))) (.and (.cmp .lt (.op .add (.var 3) (.val (.int 1))) (.bi .len (.cons (.var 0) .nil))) (.cmp .ne (.op .ix (.op .ix (.var 0) (.var 3)) (.val (.int 1))) (.op .ix (.op .ix (.var 0) (.op .add (.var 3) (.val (.int 1)))) (.val (.int 1))))))
 (.cons (.ret (.lst (.cons (.op .add (.slice (.var 0) .no (.var 3)) (.slice (.var 0) (.op .add (.var 3) (.val (.int 1))) .no)) (.cons (.var 3) .nil)))) .nil)
 .nil) (.cons (.ite (.cmp .eq (.var 4) (.val (.int 10)))
 (.cons (.ret (.lst (.cons (.op .add (.op .add (.slice (.var 0) .no (.op .add (.var 3) (.val (.int 1)))) (.lst (.cons (.op .ix (.var 0) (.var 3)) .nil))) (.slice (.var 0) (.op .add (.var 3) (.val (.int 1))) .no)) (.cons (.op .add (.var 3) (.val (.int 1))) .nil)))) .nil)
 .nil) (.cons (.ret (.lst (.cons (.call 42 (.cons (.var 0) (.cons (.var 5) (.cons (.var 6) .nil)))) (.cons (.bi .len (.cons (.var 0) .nil)) .nil)))) .nil)))))))))
def Jh:aP:=(.cons (.ret (.and (.tB .int (.var 0)) (.and (.not (.tB .bl (.var 0))) (.cmp .eq (.var 0) (.var 1))))) .nil)
def hZ:aP:=(.cons (.asg (.nm 1) (.slice (.var 0) (.val (.int 4)) (.val (.int 63)))) (.cons (.asg (.nm 2) (.gK [none,none,some 1] (.tup [0,1]) (.enum (.var 1)) (.call 28 (.cons (.var 1) (.cons (.var 0) (.cons (.bi .len (.cons (.var 2) .nil)) .nil)))))) (.cons (.asg (.nm 3) (.call 29 (.cons (.call 24 (.cons (.var 0) (.cons (.val (.int 1)) .nil))) (.cons (.call 24 (.cons (.var 0) (.cons (.val (.int 2)) .nil))) .nil)))) (.cons (.asg (.nm 4) (.op .ix (.call 33 (.cons (.var 2) (.cons (.var 3) (.cons (.val (.int 30)) .nil)))) (.val (.int 0)))) (.cons (.asg (.nm 5) (.call 35 (.cons (.var 2) (.cons (.var 4) (.cons (.call 24 (.cons (.var 0) (.cons (.val (.int 3)) .nil))) .nil))))) (.cons (.asg (.nm 6) (.bi .list (.cons (.var 5) .nil))) (.cons (.asg (.nm 7) (.bi .list (.cons (.var 2) .nil))) (.cons (.ite (.or (.cmp .isn (.call 18 (.cons (.var 7) (.cons (.var 3) (.cons (.var 6) .nil)))) (.val .aB)) (.cmp .isn (.call 18 (.cons (.var 7) (.cons (.var 3) (.cons (.lst .nil) .nil)))) (.val .aB)))
 (.cons (.ret (.val (.bl false))) .nil)
 .nil) (.cons (.ite (.cmp .eq (.var 5) (.lst .nil))
 (.cons (.ret (.cmp .eq (.var 6) (.lst .nil))) .nil)
 .nil) (.cons (.fV (.nm 8) (.nA (.cons (.val (.int 5)) .nil))
 (.cons (.asg (.tup 2 (.cons (.nm 9) (.cons (.nm 10) .nil))) (.call 45 (.cons (.var 5) (.cons (.call 25 (.cons (.op .fdiv (.call 24 (.cons (.var 0) (.cons (.op .add (.val (.int 3)) (.var 8)) .nil))) (.val (.int 3))) (.cons (.op .add (.val (.int 77)) (.var 8)) .nil))) (.cons (.var 2) .nil))))) (.cons (.asg (.nm 11) (.bi .list (.cons (.var 9) .nil))) (.cons (.ite (.or (.not (.call 46 (.cons (.call 18 (.cons (.var 7) (.cons (.var 3) (.cons (.var 9) .nil)))) (.cons (.var 10) .nil)))) (.cmp .ne (.var 9) (.var 11)))
 (.cons (.ret (.val (.bl false))) .nil)
 .nil) (.cons (.ite (.not (.call 46 (.cons (.call 18 (.cons (.var 7) (.cons (.var 3) (.cons (.slice (.var 9) .no (.op .add (.var 10) (.val (.int 1)))) .nil)))) (.cons (.var 10) .nil))))
 (.cons (.ret (.val (.bl false))) .nil)
 .nil) (.cons (.ite (.cmp .isn (.call 18 (.cons (.var 7) (.cons (.var 3) (.cons (.slice (.var 9) .no (.var 10)) .nil)))) (.val .aB))
 (.cons (.ret (.val (.bl false))) .nil)
 .nil) .nil)))))) (.cons (.ret (.and (.cmp .eq (.var 6) (.var 5)) (.cmp .eq (.var 7) (.var 2)))) .nil)))))))))))
def Iu:aP:=(.cons (.mJ [2] "state" (.var 0) (.var 1)) (.cons (.mJ [2] "fillers" (.var 0) .mH) (.cons (.mJ [2] "storers" (.var 0) .mH) (.cons (.mJ [2] "latest" (.var 0) (.val .aB)) .nil))))
def oy:aP:=(.cons (.asg (.nm 2) (.op .ix (.var 1) (.val (.int 4)))) (.cons (.ite (.cmp .isn (.op .ix (.var 2) (.val (.int 1))) (.val .aB))
 (.cons (.asg (.sub (.fld [2] "fillers" (.var 0)) (.op .ix (.var 2) (.val (.int 1)))) (.var 1)) .nil)
 (.cons (.ite (.cmp .isn (.op .ix (.var 2) (.val (.int 2))) (.val .aB))
 (.cons (.asg (.sub (.fld [2] "storers" (.var 0)) (.op .ix (.var 2) (.val (.int 2)))) (.op .ix (.var 1) (.val (.int 0)))) .nil)
 .nil) .nil)) (.cons (.mJ [2] "state" (.var 0) (.call 17 (.cons (.fld [2] "state" (.var 0)) (.cons (.var 2) .nil)))) (.cons (.mJ [2] "latest" (.var 0) (.var 1)) .nil))))
def bI:List (Nat×Nat×aP):=[(1,1,Kf),(2,2,Ka),(1,1,Jt),(2,2,Jw),(2,2,Jv),(3,3,Kg),(1,2,Ke),(1,2,Iz),(2,2,Jy),(3,3,Jb),(3,5,Iy),(3,4,Iw),(5,6,Ju),(2,2,Jd),(3,4,Jc),(3,3,Jz),(2,6,oz),(2,6,Ad),(3,6,Kh),(3,3,Je),(2,2,Kb),(1,1,Kd),(2,2,Ja),(3,4,Jx),(2,2,Jf),(2,2,Ji),(1,3,Jr),(4,7,Jp),(3,10,Jn),(2,6,Jo),(3,3,Js),(4,5,Ae),(4,7,Jg),(3,9,Jm),(1,2,Jq),(3,18,pe),(2,5,vS),(2,2,Jl),(2,5,Jk),(3,10,sD),(3,9,sE),(5,11,vR),(3,10,Jj),(4,14,fS),(4,7,vQ),(3,7,iJ),(2,2,Jh),(1,12,hZ),(2,2,Iu),(2,3,oy)]
noncomputable abbrev pg:Pg:=λi=>bI[i]?
end AMx
open AM
local macro_rules | `(tactic| walk_at "om")=>`(tactic| first|lia|omega)
local macro_rules | `(tactic| walk_at "am1")=>`(tactic| with_reducible first
 |refine p7 ?_|refine p6 ?_|refine nK ?_|refine Ia ?_|refine ny ?_|refine C6 ?_|refine C5 ?_|refine Ww ?_|refine zk ?_|refine kX ?_|refine fR ?_|refine B0 ?_|refine D3 ?_|refine rS ?_|refine Hw ?_|refine A7 ?_|refine A0 ?_|refine z9 ?_|refine C1 ?_|refine B7 ?_|refine A8 ?_|refine A9 ?_|refine Hv ?_|refine zj ?_|refine nr ?_|refine Ws ?_|refine D2 ?_|refine D4 ?_|refine D0 ?_|refine D5 ?_|refine D1 ?_|refine dq ?_|refine x8 ?_|refine u6 ?_|refine u5 ?_|refine t8 ?_|refine t5 ?_|refine x6 ?_|refine t6 ?_|refine u0 ?_|refine x9 ?_|refine q8 ?_|refine q9 ?_|refine r9 ?_|refine t9 ?_|refine u7 ?_|refine nk ?_|refine o8 ?_|refine n9 ?_|refine o9 ?_|refine m9 ?_|refine C3 ?_|refine y4 ?_|refine y3 ?_|refine y2 ?_|refine y6 ?_|refine B2 ?_|refine B3 ?_|refine m8 ?_|refine n8 ?_|refine C7 ?_|refine B6 ?_|refine B5 ?_|refine B4 ?_|refine C0 ?_|refine B9 ?_|refine C4 ?_|refine C9 ?_|refine B8 ?_)
local macro_rules | `(tactic| walk_at "am")=>`(tactic| first
 | ((with_reducible refine' p8 ?k1 ?k2 ?_);(case k1=>exact rfl);(case k2=>exact rfl))
 | ((with_reducible refine' D6 ?k1 ?k2 ?_);(case k1=>exact rfl);(case k2=>exact rfl))
 | ((with_reducible refine' C8 ?k1 ?k2 ?_);(case k1=>exact rfl);(case k2=>exact rfl))
 |walk_at "am1"
 | ((with_reducible refine' dA ?k1 ?_);(case k1=>exact rfl))
 | ((with_reducible refine' Wk ?k1 ?_);(case k1=>first|decide|lia|(simp only[List.length_map];lia)|omega))
 | ((with_reducible refine' Wi ?k1 ?_);(case k1=>first|decide|rfl))
 | ((with_reducible refine' Hu ?k1 ?_);(case k1=>first|decide|rfl))
 | ((with_reducible refine' w9 ?k1 ?_);(case k1=>first|decide|rfl|(apply IZ<;>omega)|(apply mulOk_l<;>omega)|(apply mulOk_big<;>omega)))
 | ((with_reducible refine' nq ?k1 ?_);(case k1=>intro _;rfl))
 | ((with_reducible refine' t7 ?k1 ?k2 ?k3 ?_);(case k1=>assumption);(case k2=>rfl);(case k3=>rfl))
 | ((with_reducible refine' bD ?k1 ?k2 ?_);(case k1=>first|exact rfl|exact bA (by assumption));(case k2=>exact rfl))
 | ((with_reducible refine' Wj ?k1 ?k2 ?_);(case k1=>first|exact rfl|exact bA (by assumption));(case k2=>first|decide +kernel|rfl))
 | ((with_reducible refine' Ht ?k1 ?_);(case k1=>first|exact rfl|exact bA (by assumption)))
 | ((with_reducible refine' dz ?k1 ?_);(case k1=>first|exact rfl|exact bA (by assumption)))
 | ((with_reducible refine' Hq ?k1 ?k2 ?_);(case k1=>exact rfl);(case k2=>exact rfl))
 | ((with_reducible refine' Wh ?k1 ?_);(case k1=>exact rfl)))
local macro_rules | `(tactic| walk_at "user0")=>`(tactic| fail)
local macro_rules | `(tactic| walk_at "w")=>`(tactic| repeat' walk_at "amb")
local macro_rules | `(tactic| walk_at "amb")=>`(tactic| first
 |walk_at "am"
 |with_reducible refine CU ?_
 |with_reducible refine CW ?_
 | ((with_reducible refine' CY ?k1 ?_);(case k1=>first|decide|(apply Ut<;>omega)))
 | ((with_reducible refine' CV ?k1 ?_);(case k1=>first|decide|(simp only[List.length_cons,List.length_nil];decide)))
 | ((with_reducible refine' GC ?k1 ?_);(case k1=>first|decide|lia))
 | ((with_reducible refine' gk ?k1 ?_);(case k1=>first|decide|lia))
 | ((with_reducible refine' GG ?k1 ?_);(case k1=>first|decide|lia))
 | ((with_reducible refine' sd ?k1 ?_);(case k1=>first|decide|lia))
 |walk_at "user0"
 |with_reducible refine GB (λhc=>?_) (λhc=>?_)
 |with_reducible refine GF (λhc=>?_) (λhc=>?_)
 | ((with_reducible refine' qB ?k1 ?_);(case k1=>first|decide +kernel|exact rfl))
 | ((with_reducible refine' By ?k1 ?_);(case k1=>first|decide +kernel|exact rfl))
 |walk_at "user"
 |fail)
namespace AMx
open PySem PySem.Spec PyProof.Rows L2 AM
section
theorem y8{k:Nat}{z:Int}{h:AH}{R:AV->AH->Prop}(q:R (.int (z%18446744073709551616)) h):Wp (run pg (k+1) ER [.int z]) h R:=by
 refine bF rfl rfl ?_;unfold Kf;walk_at "w"
 exact q
theorem HQ{k:Nat}{z:Int}{h:AH}{R:AV->AH->Prop}(z0:0<=z)(q:R (.bl (decide (z<64))) h):Wp (run pg (k+1) EH [.int z]) h R:=by
 refine bF rfl rfl ?_;unfold Jt;walk_at "w"
 exact q
local macro_rules | `(tactic| walk_at "user")=>`(tactic| first
 | (with_reducible refine y8 ?_)
 | ((with_reducible refine' HQ ?k1 ?_);(case k1=>walk_at "om"))
 | ((with_reducible refine' Wl ?k1 ?_);(case k1=>apply Qx<;>walk_at "om"))
 | ((with_reducible refine' Wm ?k1 ?_);(case k1=>walk_at "om"))
 | ((with_reducible refine' t4 ?k1 ?_);(case k1=>apply Md<;>walk_at "om")))
theorem m3{k:Nat}{a b:Int}{h:AH}{R:AV->AH->Prop}(a0:0<=a)(a1:a<18446744073709551616)(b0:0<=b)(q:R (.int (bR.wk a b .up)) h):Wp (run pg (k+2) Ng [.int a,.int b]) h R:=by
 refine bF rfl rfl ?_;unfold Jw;walk_at "w"
 .rename_i hc;unfold bR.wk at q;simp only[Qb hc]at q;exact q
 .rename_i hc;unfold bR.wk at q;simp only[l9 hc]at q;exact q
theorem Zu{k:Nat}{a b:Int}{h:AH}{R:AV->AH->Prop}(a0:0<=a)(a1:a<18446744073709551616)(b0:0<=b)(q:R (.int (bR.wk a b .down)) h):Wp (run pg (k+2) Nf [.int a,.int b]) h R:=by
 refine bF rfl rfl ?_;unfold Jv;walk_at "w"
 .rename_i hc;unfold bR.wk at q;simp only[Qb hc]at q;exact q
 .rename_i hc;unfold bR.wk at q;simp only[Zt hc a0 a1]at q;exact q
theorem YU{k:Nat}{a b:Int}{h:AH}{R:AV->AH->Prop}(b0:0<b)(b1:b<18446744073709551616)(q:R (.tup [.int (a / b),.int (a%b)]) h):Wp (run pg (k+1) EL [.int a,.int b]) h R:=by
 refine bF rfl rfl ?_;unfold Ka;walk_at "w"
 exact q
theorem z8{k:Nat}{w:bR}{a b:Int}{h:AH}{R:AV->AH->Prop}(a0:0<=a)(a1:a<18446744073709551616)(b0:0<=b)(b1:b<18446744073709551616)(hz:¬(w.sr=true/\b=0))(q:R (.int (w.wk a b)) h):Wp (run pg (k+3) Nh [.str w.nm,.int a,.int b]) h R:=by
  have hup:w = .up->Wp (run pg (k+2) Ng [.int a,.int b]) h R:=λe=>by subst e;exact m3 a0 a1 b0 q
  have hdn:w = .down->Wp (run pg (k+2) Nf [.int a,.int b]) h R:=λe=>by subst e;exact Zu a0 a1 b0 q
  refine bF rfl rfl ?_;unfold Kg;cases w<;>simp only[bR.nm,bR.wk]at q ⊢;all_goals (walk_at "w")
  all_goals first
    |exact q|exact hup rfl|exact hdn rfl
    | (refine YU (by simp[bR.sr]at hz;walk_at "om") b1 ?_;walk_at "w"
       exact q)
    | (rename_i hc;simp only[hc,if_true,if_false]at q;exact q)
theorem qK(w:bR):¬(w.nm=("load":PySem.Str)):=by cases w<;>decide
theorem tP(w:bR):¬(w.nm=("store":PySem.Str)):=by cases w<;>decide
theorem tO(w:bR):¬(w.nm=("set":PySem.Str)):=by cases w<;>decide
theorem tN(w:bR):¬(w.nm=("move":PySem.Str)):=by cases w<;>decide
theorem tM(w:bR):¬(w.nm=("jump":PySem.Str)):=by cases w<;>decide
theorem tL(w:bR):¬(w.nm=("go":PySem.Str)):=by cases w<;>decide
theorem tK(w:bR):¬(w.nm=("fault":PySem.Str)):=by cases w<;>decide
theorem Cu(w:bR):mM (.str w.nm) [.str "sum",.str "less",.str "times",.str "share",.str "rest",.str "both",.str "some",.str "odd",.str "up",.str "down",.str "below",.str "same"]=true:=by cases w<;>rfl
theorem Qe{w:bR}(h:w.sr=false):¬(w.nm=("share":PySem.Str)):=by cases w<;>first|decide|cases h
theorem Qd{w:bR}(h:w.sr=false):¬(w.nm=("rest":PySem.Str)):=by cases w<;>first|decide|cases h
theorem Vg(w:bR):w = .share\/w = .rest\/w.sr=false:=by cases w<;>simp[bR.sr]
local macro_rules | `(tactic| walk_at "user0")=>`(tactic| first
 | ((with_reducible refine' gk ?k1 ?_);(case k1=>first|exact qK _|exact tP _|exact tO _|exact tN _|exact tM _|exact tL _|exact tK _|assumption))
 | ((with_reducible refine' sd ?k1 ?_);(case k1=>first|exact qK _|exact tP _|exact tO _|exact tN _|exact tM _|exact tL _|exact tK _|assumption))
 | ((with_reducible refine' qB ?k1 ?_);(case k1=>exact Cu _)))
theorem EU{k:Nat}{r:aC}{h:AH}{R:AV->AH->Prop}(q:R r.fl h):Wp (run pg (k+1) DD [r.av]) h R:=by
 refine bF rfl rfl ?_;unfold Iz;cases r with
 |way w x y z=>
  dsimp only[aC.av,aC.fl]at q ⊢;walk_at "w"
  exact q
 |_=>dsimp only[aC.av,aC.fl]at q ⊢;walk_at "w";exact q
theorem Di{k:Nat}{r:aC}{ws:List Int}{h:AH}{R:AV->AH->Prop}(hl:ws.length=r.nw)(q:R (r.pl ws) h):Wp (run pg (k+1) Bj [r.av,.tup (ws.map .int)]) h R:=by
 refine bF rfl rfl ?_;unfold Jy;cases r with
 |way w x y z=>
  dsimp only[aC.av,aC.pl]at q ⊢;walk_at "w"
  exact q
 |load x y s=>
  obtain⟨a,rfl⟩:=su hl;dsimp only[aC.av,aC.pl,List.map]at q ⊢;walk_at "w"
  exact q
 |store x y s=>
  obtain⟨a,b,rfl⟩:=gu hl;dsimp only[aC.av,aC.pl,List.map]at q ⊢;walk_at "w"
  exact q
 |_=>dsimp only[aC.av,aC.pl]at q ⊢;walk_at "w";exact q
theorem FK{k:Nat}{r:aC}{a:Int}{ws:List Int}{h:AH}{R:AV->AH->Prop}(hl:ws.length=r.nw)(q:R (.int (r.gs a ws)) h):Wp (run pg (k+1) DF [r.av,.int a,.tup (ws.map .int)]) h R:=by
 refine bF rfl rfl ?_;unfold Jb;cases r with
 |way w x y z=>
  dsimp only[aC.av,aC.gs]at q ⊢;walk_at "w"
  exact q
 |iD x t=>
  obtain⟨b,rfl⟩:=su hl;dsimp only[aC.av,aC.gs,List.map]at q ⊢;walk_at "w"
  all_goals (rename_i hc;first|(rw[if_pos (show cell [b] 0≠0 from hc)]at q;exact q)|(rw[if_neg (λz=>z (show cell [b] 0=0 from hc))]at q;exact q))
 |_=>dsimp only[aC.av,aC.gs]at q ⊢;walk_at "w";exact q
theorem ET{k:Nat}{r:aC}{ws:List Int}{room:Int}{h:AH}{R:AV->AH->Prop}(hl:ws.length=r.nw)(q:R ((r.ft ws room).getD .aB) h):Wp (run pg (k+2) DC [r.av,.tup (ws.map .int),.int room]) h R:=by
  have hpl:∀{R:AV->AH->Prop},R (r.pl ws) h->Wp (run pg (k+1) Bj [r.av,.tup (ws.map .int)]) h R:=λq=>Di hl q;refine bF rfl rfl ?_;unfold Iy;cases r with
  |way w x y z=>
    obtain⟨a,b,rfl⟩:=gu hl;rcases Vg w with rfl|rfl|hs
    · dsimp only[aC.av,aC.ft,aC.pl,bR.nm,bR.sr,List.map,cond]at q hpl ⊢
      walk_at "w"
      all_goals first
        | (refine hpl ?_;walk_at "w"
           first
            |exact q
            | (rename_i hc;rw[if_neg (show¬cell [a,b] 1=0 from hc)]at q;exact q))
        | (rename_i hc;rw[if_pos (show cell [a,b] 1=0 from hc)]at q;exact q)
    · dsimp only[aC.av,aC.ft,aC.pl,bR.nm,bR.sr,List.map,cond]at q hpl ⊢
      walk_at "w"
      all_goals first
        | (refine hpl ?_;walk_at "w"
           first
            |exact q
            | (rename_i hc;rw[if_neg (show¬cell [a,b] 1=0 from hc)]at q;exact q))
        | (rename_i hc;rw[if_pos (show cell [a,b] 1=0 from hc)]at q;exact q)
    · have n1:=Qe hs
      have n2:=Qd hs;simp only[aC.ft,hs,cond]at q;dsimp only[aC.av,aC.pl,List.map]at hpl ⊢;walk_at "w"
      all_goals first
        | (refine hpl ?_;walk_at "w"
           first
            |exact q
            | (rename_i hc;rw[if_neg (show¬cell [a,b] 1=0 from hc)]at q;exact q))
        | (rename_i hc;rw[if_pos (show cell [a,b] 1=0 from hc)]at q;exact q)
  |load x y s=>
    obtain⟨a,rfl⟩:=su hl;dsimp only[aC.av,aC.ft,aC.pl,List.map]at q hpl ⊢;walk_at "w"
    refine hpl ?_;walk_at "w"
    all_goals first
      | (rw[if_pos (show 0<=cell [a] 0+s/\cell [a] 0+s<room from by walk_at "om")]at q;exact q)
      | (rw[if_neg (show¬(0<=cell [a] 0+s/\cell [a] 0+s<room) from by walk_at "om")]at q;exact q)
  |store x y s=>
    obtain⟨a,b,rfl⟩:=gu hl;dsimp only[aC.av,aC.ft,aC.pl,List.map]at q hpl ⊢;walk_at "w"
    refine hpl ?_;walk_at "w"
    all_goals first
      | (rw[if_pos (show 0<=cell [a,b] 1+s/\cell [a,b] 1+s<room from by walk_at "om")]at q;exact q)
      | (rw[if_neg (show¬(0<=cell [a,b] 1+s/\cell [a,b] 1+s<room) from by walk_at "om")]at q;exact q)
  |_=>
    dsimp only[aC.av,aC.ft,aC.pl]at q hpl ⊢;walk_at "w"
    first
      |exact q
      | (refine hpl ?_;walk_at "w"
         exact q)
theorem Xu{k:Nat}{r:aC}{ws:List Int}{held:AV}{h:AH}{R:AV->AH->Prop}(hl:ws.length=r.nw)(hw:dM ws)(hf:∀w x y z,r = .way w x y z->¬(w.sr=true/\cell ws 1=0))(q:R (r.br ws held) h):Wp (run pg (k+4) DB [r.av,.tup (ws.map .int),held]) h R:=by
 refine bF rfl rfl ?_;unfold Iw;cases r with
 |way w x y z=>
  obtain⟨a,b,rfl⟩:=gu hl;have wa:=hw a (by simp);have wb:=hw b (by simp);have wk:Wp (run pg (k+3) Nh [.str w.nm,.int a,.int b]) h R:=z8 wa.1 wa.2 wb.1 wb.2 (hf w x y z rfl) q;dsimp only[aC.av,List.map]at wk ⊢;walk_at "w"
  exact wk
 |move x y=>
  obtain⟨a,rfl⟩:=su hl;dsimp only[aC.av,aC.br,List.map]at q ⊢;walk_at "w"
  exact q
 |store x y s=>
  obtain⟨a,b,rfl⟩:=gu hl;dsimp only[aC.av,aC.br,List.map]at q ⊢;walk_at "w"
  exact q
 |_=>dsimp only[aC.av,aC.br]at q ⊢;walk_at "w";exact q
theorem Nr{w:bR}{x y z:Int}{ws:List Int}{room:Int}(h:(aC.way w x y z).ft ws room=none):¬(w.sr=true/\cell ws 1=0):=by
 rintro ⟨h1,h2⟩
 simp[aC.ft,h1,h2]at h
theorem IE{k:Nat}{r:aC}{a:Int}{ws:List Int}{room:Int}{held:AV}{h:AH}{R:AV->AH->Prop}(hl:ws.length=r.nw)(hw:dM ws)(q:R (r.cF a ws room held) h):Wp (run pg (k+5) EI [r.av,.int a,.tup (ws.map .int),.int room,held]) h R:=by
 refine bF rfl rfl ?_;unfold Ju;walk_at "w"
 refine ET (k:=k+2) hl ?_;unfold aC.cF at q;cases e:r.ft ws room with
 |some f=>
  rw[e]at q;have hf:fK f=false:=by
   cases r<;>simp only[aC.ft]at e<;>first
    | (cases e;done)
    | (cases e;rfl)
    | (split at e<;>cases e<;>rfl)
    |skip
   rename_i w x y z;cases hs:w.sr with
   |true=>rw[hs]at e;simp only[cond]at e;split at e<;>cases e;rfl|false=>rw[hs]at e;cases e
  dsimp only[Option.getD];walk_at "w"
  refine qB (by rw[hf];rfl) ?_;walk_at "w"
  exact q
 |none=>
  rw[e]at q;dsimp only[Option.getD];walk_at "w"
  refine EU ?_;walk_at "w"
  refine Di hl ?_;walk_at "w"
  refine Xu hl hw (λw x y z er=>by subst er;exact Nr e) ?_;walk_at "w"
  refine FK hl ?_;walk_at "w"
  exact q
def Kv(r:aC):Prop:=∀b∈r.want,0<=b/\b<8
def cM(bs:List Int)(r:aC):List Int:=r.want.map (cell bs)
def fJ(ws mem:List Int):aC->AV
 |.load _ _ s=>if 0<=cell ws 0+s/\cell ws 0+s<mem.length then .int (cell mem (cell ws 0+s)) else .aB
 |_=>.aB
theorem FT{ws mem:List Int}{r:aC}:fJ ws mem r = .aB\/∃v,fJ ws mem r = .int v:=by
 cases r<;>first|exact .inl rfl|skip
 rename_i x y s;by_cases hc:0<=cell ws 0+s/\cell ws 0+s<mem.length
 .exact .inr ⟨_,if_pos hc⟩
 .exact .inl (if_neg hc)
theorem Wv{bs:List Int}{r:aC}:(cM bs r).length=r.nw:=by cases r<;>rfl
theorem lF{bs:List Int}(hw:dM bs)(i:Int):0<=cell bs i/\cell bs i<18446744073709551616:=by
 unfold cell;rw[List.getD_eq_getElem?_getD];cases e:bs[i.toNat]? with
 |none=>exact⟨Int.le_refl 0,by decide⟩|some v=>exact hw v (List.mem_of_getElem? e)
theorem C2{bs:List Int}{r:aC}(hw:dM bs):dM (cM bs r):=λw h=>by obtain⟨b,_,rfl⟩:=List.mem_map.mp h;exact lF hw b
theorem lC{ns:List Int}{i:Int}{n:Int}(e:(ns.length:Int)=n)(h0:0<=i)(h1:i<n):cW (ns.map AV.int) i=some (.int (cell ns i)):=Iq h0 (by rw[List.length_map];walk_at "om")
theorem Wg{k:Nat}{r:aC}{h:AH}{R:AV->AH->Prop}(q:R (.tup (r.want.map .int)) h):Wp (run pg (k+1) EO [r.av]) h R:=by
 refine bF rfl rfl ?_;unfold Ke;cases r with
 |way w x y z=>
  dsimp only[aC.av,aC.want,List.map]at q ⊢;walk_at "w"
  exact q
 |_=>dsimp only[aC.av,aC.want,List.map]at q ⊢;walk_at "w";exact q
theorem GI{k:Nat}{p:Int}{mem:List Int}{h:AH}{R:AV->AH->Prop}(q:R (.bl (decide (0<=p/\p<mem.length))) h):Wp (run pg (k+1) DH [.int p,.tup (mem.map .int)]) h R:=by
 refine bF rfl rfl ?_;unfold Jd;walk_at "w"
 .rename_i hc;rw[List.length_map];have e:decide (0<=p/\p<(mem.length:Int))=decide (p<(mem.length:Int)):=by
   by_cases h2:p<(mem.length:Int)
   .rw[decide_eq_true h2,decide_eq_true ⟨hc,h2⟩]
   .rw[decide_eq_false h2,decide_eq_false λz=>h2 z.2]
  rw[e]at q;exact q
 .rename_i hc;rw[decide_eq_false λz=>hc z.1]at q;exact q
theorem FV{k:Nat}{r:aC}{ws mem:List Int}{h:AH}{R:AV->AH->Prop}(hl:ws.length=r.nw)(q:R (fJ ws mem r) h):Wp (run pg (k+2) DG [r.av,.tup (ws.map .int),.tup (mem.map .int)]) h R:=by
 have hpl:∀{R:AV->AH->Prop},R (r.pl ws) h->Wp (run pg (k+1) Bj [r.av,.tup (ws.map .int)]) h R:=λq=>Di hl q;refine bF rfl rfl ?_;unfold Jc;cases r with
 |way w x y z=>
  dsimp only[aC.av,fJ]at q ⊢;walk_at "w"
  exact q
 |load x y s=>
  dsimp only[aC.av,fJ,aC.pl]at q hpl ⊢;walk_at "w"
  refine hpl ?_;walk_at "w"
  refine GI ?_;by_cases hc:0<=cell ws 0+s/\cell ws 0+s<(mem.length:Int)
  .rw[if_pos hc]at q;rw[decide_eq_true hc];walk_at "w"
   refine bD rfl (lC rfl hc.1 hc.2) ?_;exact q
  .rw[if_neg hc]at q;rw[decide_eq_false hc];walk_at "w"
   exact q
 |_=>dsimp only[aC.av,fJ]at q ⊢;walk_at "w";exact q
theorem Zs{k np:Nat}{bb:Bool}{rs:List aC}{r:aC}{i:Nat}{bs mem:List Int}{h:AH}{R:AV->AH->Prop}(hp:h.ob np=some (.lst bb (rs.map aC.av)))(hi:rs[i]?=some r)(hr:Kv r)(hb:(bs.length:Int)=8)(hw:dM bs)
  (q:∀h',Kp h h'->R (r.cF i (cM bs r) mem.length (fJ (cM bs r) mem r)) h'):Wp (run pg (k+6) qu [.ref np,.tup [.int i,.tup (bs.map .int),.tup (mem.map .int)]]) h R:=by
 have hlt:i<rs.length:=(List.getElem?_eq_some_iff.mp hi).1;refine bF rfl rfl ?_;unfold oz;walk_at "w"
 .rename_i hc;exfalso;rw[List.length_map]at hc;walk_at "om"
 refine bD (v:=r.av) (bA hp) ?_ ?_
 .exact hX (by rw[List.getElem?_map,hi];rfl)
 walk_at "w"
 refine Wg ?_;walk_at "w"
 have hlw:(cM bs r).length=r.want.length:=by unfold cM;rw[List.length_map]
 refine Lp (λj ys U h'=>h'=h/\ys=((r.want.take j).map λb=>AV.int (cell bs b))/\∃a,U=[a,some (.tup [.int i,.tup (bs.map .int),.tup (mem.map .int)])]) ?_ ⟨rfl,rfl,_,rfl⟩ ?_ ?_
 .rw[List.length_map,eY];cases r<;>simp[aC.want]
 .rintro j x ys U h' hx ⟨rfl,rfl,a,rfl⟩
  rw[List.getElem?_map]at hx;obtain⟨b,hj,rfl⟩:=Option.map_eq_some_iff.mp hx;have hbb:=hr b (List.mem_of_getElem? hj);walk_at "w"
  refine bD rfl (lC hb hbb.1 hbb.2) ?_;refine⟨?_,rfl,?_,_,rfl⟩
  .rw[List.length_map,List.length_take];have:r.want.length<=2:=by cases r<;>simp[aC.want]
   have e:(sizeLine:Nat) > 1000:=by decide
   walk_at "om"
  .rw[List.take_add_one,hj];simp
 .rintro ys U h' ⟨rfl,rfl,a,rfl⟩
  rw[List.length_map,List.take_length];have e:(r.want.map λb=>AV.int (cell bs b))=(cM bs r).map AV.int:=by unfold cM;rw[List.map_map];rfl
  rw[e];walk_at "w"
  refine dz (bA aU) ?_;walk_at "w"
  refine FV (k:=k+3) Wv ?_;walk_at "w"
  rw[List.length_map];exact IE (k:=k) Wv (C2 hw) (q _ Kp.refl.new)
theorem E5{k np:Nat}{bb:Bool}{rs:List aC}{v w:AV}{h:AH}{R:AV->AH->Prop}(hp:h.ob np=some (.lst bb (rs.map aC.av)))(q:R .aB h):Wp (run pg (k+1) qu [.ref np,.tup [.int rs.length,v,w]]) h R:=by
 refine bF rfl rfl ?_;unfold oz;walk_at "w"
 .exact q
 .rename_i hc;exfalso;rw[List.length_map]at hc;walk_at "om"
end
section
def wd(v:Int):Prop:=0<=v/\v<18446744073709551616
def dC(b:Int):Prop:=0<=b/\b<8
def dP:aC->Prop
 |.way _ x y z=>dC x/\dC y/\dC z
 |.set x v=>dC x/\wd v
 |.move x y=>dC x/\dC y
 |.load x y _=>dC x/\dC y
 |.store x y _=>dC x/\dC y
 |.iD x t=>dC x/\0<=t
 |.go t=>0<=t
 |.fault _=>True
theorem qL{k:Nat}{c i:Int}{h:AH}{R:AV->AH->Prop}(h0:0<=i)(h1:i<1000)(q:∀z,0<=z->z<2147483647->R (.int z) h):Wp (run pg (k+1) DP [.int c,.int i]) h R:=by
 refine bF rfl rfl ?_;unfold Ji;walk_at "w"
 exact q _ (Int.emod_nonneg _ (by decide)) (Int.emod_lt_of_pos _ (by decide))
theorem zi{k:Nat}{z:Int}{h:AH}{R:AV->AH->Prop}(q:∀w,0<=w->w<18446744073709551616->R (.int w) h):Wp (run pg (k+1) EG [.int z]) h R:=by
 refine bF rfl rfl ?_;unfold Jr;walk_at "w"
 all_goals exact q _ (by walk_at "om") (by walk_at "om")
theorem qe{k:Nat}{ns:List Int}{i:Int}{bb:Bool}{n:Nat}{h:AH}{R:AV->AH->Prop}(hn:h.ob n=some (.lst bb (ns.map AV.int)))(h0:0<=i)(q:∀z,R (.int z) h):Wp (run pg (k+1) DK [.ref n,.int i]) h R:=by
 refine bF rfl rfl ?_;unfold Jf;walk_at "w"
 .rename_i hc;refine bD (bA hn) (Iq h0 hc) ?_;exact q _
 .exact q _
theorem p5{i:Int}(h0:0<=i)(h1:i<12):∃w:bR,cW ([.str "sum",.str "less",.str "times",.str "share",.str "rest",.str "both",.str "some",.str "odd",.str "up",.str "down",.str "below",.str "same"]:List AV) i=some (.str w.nm):=by
 have:i=0\/i=1\/i=2\/i=3\/i=4\/i=5\/i=6\/i=7\/i=8\/i=9\/i=10\/i=11:=by walk_at "om"
 rcases this with rfl|rfl|rfl|rfl|rfl|rfl|rfl|rfl|rfl|rfl|rfl|rfl
 .exact⟨.sum,rfl⟩
 .exact⟨.less,rfl⟩
 .exact⟨.times,rfl⟩
 .exact⟨.share,rfl⟩
 .exact⟨.rest,rfl⟩
 .exact⟨.both,rfl⟩
 .exact⟨.yn,rfl⟩
 .exact⟨.odd,rfl⟩
 .exact⟨.up,rfl⟩
 .exact⟨.down,rfl⟩
 .exact⟨.below,rfl⟩
 .exact⟨.same,rfl⟩
theorem i9{k:Nat}{kd x p i m:Int}{h:AH}{R:AV->AH->Prop}(hx:dC x)(hi:0<=i)(hm:0<=m)(hp:0<=p)(q:∀r h',Kp h h'->dP r->R r.av h'):Wp (run pg (k+2) EC [.int kd,.int x,.int p,.tup [.int i,.int m]]) h R:=by
  have e0:=Int.emod_nonneg (p / 8) (b:=m+1) (by walk_at "om");refine bF rfl rfl ?_;unfold Jp;unfold dC at hx;have e2:p / 4%2=0\/p / 4%2=1:=by walk_at "om"
  walk_at "w"
  all_goals first
    |exact q (.iD _ _) _ Kp.refl ⟨hx,by split<;>walk_at "om"⟩|exact q (.iD _ _) _ Kp.refl ⟨hx,e0⟩|exact q (.go _) _ Kp.refl (by show 0<=_;first|exact e0|(split<;>walk_at "om"))
    | (refine zi λw w0 w1=>?_;walk_at "w"
       exact q (.fault _) _ Kp.refl trivial)
    | (rcases e2 with e|e
       · rw[e]
         refine bD (bA aU) (v:=.str "load") rfl ?_;walk_at "w"
         exact q (.load _ _ _) _ Kp.refl.new ⟨hx,by unfold dC;walk_at "om"⟩
       · rw[e]
         refine bD (bA aU) (v:=.str "store") rfl ?_;walk_at "w"
         exact q (.store _ _ _) _ Kp.refl.new ⟨hx,by unfold dC;walk_at "om"⟩)
theorem WD{k:Nat}{c i m:Int}{h:AH}{R:AV->AH->Prop}(h0:0<=i)(h1:i<100)(hm:0<=m)(q:∀r h',Kp h h'->dP r->R r.av h'):Wp (run pg (k+3) DY [.int c,.int i,.int m]) h R:=by
 refine bF rfl rfl ?_;unfold Jn;walk_at "w"
 refine qL h0 (by walk_at "om") λz z0 z1=>?_;have hx:dC (z / 20%8):=⟨by walk_at "om",by walk_at "om"⟩;have hy:dC (z / 160%8):=⟨by walk_at "om",by walk_at "om"⟩;have hz:dC (z / 1280%8):=⟨by walk_at "om",by walk_at "om"⟩;have e2:z / 10240%2=0\/z / 10240%2=1:=by walk_at "om"
 obtain⟨w,hw⟩:=p5 (i:=z / 10240%12) (by walk_at "om") (by walk_at "om");walk_at "w"
 refine⟨rfl,?_⟩;dsimp only[yj];walk_at "w"
 .refine bD (bA aU) hw ?_;walk_at "w"
  exact q (.way w _ _ _) _ Kp.refl.new ⟨by unfold dC at *;walk_at "om",hy,hz⟩
 .refine zi λv v0 v1=>?_;walk_at "w"
  rcases e2 with e|e
  .rw[e];refine bD (bA aU) (v:=.int (z / 10240 / 2%2)) rfl ?_;walk_at "w"
   exact q (.set _ _) _ Kp.refl.new.new ⟨by unfold dC at *;walk_at "om",by unfold wd;walk_at "om"⟩
  .rw[e];refine bD (bA aU) (v:=.int v) rfl ?_;walk_at "w"
   exact q (.set _ _) _ Kp.refl.new.new ⟨by unfold dC at *;walk_at "om",v0,v1⟩
 .exact q (.move _ _) _ Kp.refl.new ⟨by unfold dC at *;walk_at "om",hy⟩
 .exact q (.load _ _ _) _ Kp.refl.new ⟨by unfold dC at *;walk_at "om",by unfold dC at *;walk_at "om"⟩
 .exact q (.store _ _ _) _ Kp.refl.new ⟨hx,by unfold dC at *;walk_at "om"⟩
 .exact i9 hx h0 hm (by walk_at "om") λr h' kp ok=>q r h' (Kp.refl.new.trans kp) ok
end
section
local macro_rules | `(tactic| walk_at "lts")=>`(tactic| first
 |assumption
 |exact Nat.lt_succ_self _
 | (refine Nat.lt_succ_of_lt ?_;walk_at "lts"))
local macro_rules | `(tactic| walk_at "obs")=>`(tactic| first
 |assumption
 |exact aU
 | (refine(dE (Nat.ne_of_lt ?_)).trans ?_;(walk_at "lts");(walk_at "obs")))
def D9(n:Nat)(v:AV)(h:AH):Prop:=∃m ws,v = .ref m/\h.ob m=some (.lst true (ws.map AV.int))/\dM ws/\ws.length=n
theorem Wr{ws:List Int}{w:Int}(hw:dM ws)(w0:0<=w)(w1:w<18446744073709551616):dM (ws++[w]):=λx hx=>by
 rcases List.mem_append.mp hx with hx|hx
 .exact hw x hx
 .rw[List.mem_singleton]at hx;subst hx;exact⟨w0,w1⟩
theorem Wo:dM []:=λ_ h=>by cases h
theorem F5{ws:List Int}{n:Nat}(hw:dM ws):dM (ws.take n):=λx hx=>hw x (List.mem_of_mem_take hx)
theorem y9{ws vs:List Int}(hw:dM ws)(hv:dM vs):dM (ws++vs):=λx hx=>by
 rcases List.mem_append.mp hx with hx|hx
 .exact hw x hx
 .exact hv x hx
theorem Zv{k n:Nat}{o:Int}{h:AH}{L1:List AV->AH->Prop}(hn:n<=64)(q:∀ws:List Int,dM ws->ws.length=n->L1 (ws.map AV.int) h) :
  Wp (cO (iX 0 n) (lB (.nm 0)) (λ_=>M.ret true) (aG (run pg (k+1)) (.call 26 (.cons (.call 25 (.cons (.var 1) (.cons (.op .add (.var 0) (.val (.int 1))) .nil))) .nil))) FU 0 [] [none,some (.int o)]) h L1:=by
 refine Lo (λi ys U h'=>h'=h/\∃(ws:List Int) (a:Option AV),ys=ws.map AV.int/\dM ws/\ws.length=i/\U=[a,some (.int o)]) (by rw[eY];walk_at "om") ⟨rfl,[],_,rfl,Wo,rfl,rfl⟩ ?_ ?_
 .rintro i ys U h' hi ⟨rfl,ws,a,rfl,hw,hl,rfl⟩
  walk_at "w"
  refine qL (by walk_at "om") (by walk_at "om") λz z0 z1=>?_;walk_at "w"
  refine zi λw w0 w1=>?_;exact⟨by rw[List.length_map];have:=eU;walk_at "om",rfl,ws++[w],_,by simp,Wr hw w0 w1,by simp[hl],rfl⟩
 .rintro ys U h' ⟨rfl,ws,a,rfl,hw,hl,rfl⟩
  exact q ws hw hl
theorem ZO{k:Nat}{c o:Int}{h:AH}{R:AV->AH->Prop}(q:∀bs mem h',Kp h h'->dM bs->(bs.length:Int)=8->dM mem->0<mem.length->mem.length<=64->R (.tup [.int 0,.tup (bs.map .int),.tup (mem.map .int)]) h'):Wp (run pg (k+2) EB [.int c,.int o]) h R:=by
 refine bF rfl rfl ?_;unfold Jo;walk_at "w"
 refine Lo (λi ys U h'=>h'=h/\∃ws a,ys=ws.map AV.int/\dM ws/\ws.length=i/\U=[a,some (.int c)]) (by rw[eY];decide) ⟨rfl,[],_,rfl,Wo,rfl,rfl⟩ ?_ ?_
 .rintro i ys U h' hi ⟨rfl,ws,a,rfl,hw,hl,rfl⟩
  have hi:i<6:=hi;walk_at "w"
  refine qL (by walk_at "om") (by walk_at "om") λz z0 z1=>?_;walk_at "w"
  refine zi λw w0 w1=>?_;exact⟨by rw[List.length_map];have:=eU;walk_at "om",rfl,ws++[w],_,by simp,Wr hw w0 w1,by simp[hl],rfl⟩
 rintro ys U h' ⟨rfl,bs,a,rfl,hw,hl,rfl⟩
 have hl:bs.length=6:=hl;walk_at "w"
 refine qL (by decide) (by decide) λz6 z60 z61=>?_;walk_at "w"
 refine qL (by decide) (by decide) λz7 z70 z71=>?_;walk_at "w"
 refine dr (xs:=bs.map AV.int) (ys:=[.int (z6 / 8%4),.int (z7 / 8%4)]) (by walk_at "obs") aU (by rw[List.length_map,hl];show 8<=_;decide) ?_;walk_at "w"
 refine qL (by decide) (by decide) λz z0 z1=>?_;walk_at "w"
 have e64:∃most:Int,(most=10\/most=58)/\cW ([.int 10,.int 58]:List AV) (if decide (z%8=1)=true then 1 else 0)=some (.int most):=by
  by_cases hc:z%8=1
  .rw[decide_eq_true hc];exact⟨58,.inr rfl,rfl⟩
  .rw[decide_eq_false hc];exact⟨10,.inl rfl,rfl⟩
 obtain⟨most,hm,he⟩:=e64;refine bD (bA aU) he ?_;walk_at "w"
 refine⟨_,rfl,Ut (by rcases hm with rfl|rfl<;>walk_at "om") (by rcases hm with rfl|rfl<;>walk_at "om"),?_⟩;refine Zv (n:=(7+z / 8%most).toNat) (by rcases hm with rfl|rfl<;>walk_at "om") λmem hwm hlm=>?_;walk_at "w"
 refine dz (xs:=bs.map AV.int++[.int (z6 / 8%4),.int (z7 / 8%4)]) (bA (by walk_at "obs")) ?_;walk_at "w"
 refine dz (bA aU) ?_;walk_at "w"
 have ee:bs.map AV.int++[.int (z6 / 8%4),.int (z7 / 8%4)]=(bs++[z6 / 8%4,z7 / 8%4]).map AV.int:=by simp
 rw[ee];refine q (bs++[z6 / 8%4,z7 / 8%4]) mem _ Kp.refl.new.new.new.new.new (y9 hw λx hx=>?_) (by rw[List.length_append,hl];rfl) hwm (by rcases hm with rfl|rfl<;>walk_at "om") (by rcases hm with rfl|rfl<;>walk_at "om");simp only[List.mem_cons,List.not_mem_nil,or_false]at hx;rcases hx with rfl|rfl<;>walk_at "om"
end
section
local macro_rules | `(tactic| walk_at "user0")=>`(tactic| first
 | ((with_reducible refine' gk ?k1 ?_);(case k1=>first|exact qK _|exact tP _|exact tO _|exact tN _|exact tM _|exact tL _|exact tK _|assumption))
 | ((with_reducible refine' sd ?k1 ?_);(case k1=>first|exact qK _|exact tP _|exact tO _|exact tN _|exact tM _|exact tL _|exact tK _|assumption))
 | ((with_reducible refine' qB ?k1 ?_);(case k1=>exact Cu _)))
local macro_rules | `(tactic| walk_at "user")=>`(tactic| first
 | ((with_reducible refine' Wl ?k1 ?_);(case k1=>apply Qx<;>first|walk_at "om" | (split<;>walk_at "om")))
 | ((with_reducible refine' Wm ?k1 ?_);(case k1=>first|walk_at "om" | (split<;>walk_at "om")))
 | ((with_reducible refine' Wi ?k1 ?_);(case k1=>exact Md (by walk_at "om") (by walk_at "om"))))
theorem Im{a b:Int}(a0:0<=a)(b0:0<=b):0<=Builtin.bitAnd a b/\Builtin.bitAnd a b<=a/\Builtin.bitAnd a b<=b:=by have e1:Builtin.bitAnd a b=((a.toNat &&& b.toNat:Nat):Int):=PyProof.Rows.bitAnd_pp a0 b0;have l1:a.toNat &&& b.toNat<=a.toNat:=Nat.and_le_left;have l2:a.toNat &&& b.toNat<=b.toNat:=Nat.and_le_right;walk_at "om"
theorem Qm:∀(n:Nat) {x y:Int},0<=x->0<=y->x<2 ^ n->y<2 ^ n->x+y-Builtin.bitAnd x y<2 ^ n
 |0,x,y,x0,y0,x1,y1=>by
  have e:(2:Int) ^ 0=1:=by decide
  rw[e]at x1 y1 ⊢;have:=Im x0 y0;walk_at "om"
 |n+1,x,y,x0,y0,x1,y1=>by
  have e:(2:Int) ^ (n+1)=2*2 ^ n:=by rw[Int.pow_succ];walk_at "om"
  rw[e]at x1 y1 ⊢;have ih:=Qm n (x:=x / 2) (y:=y / 2) (by walk_at "om") (by walk_at "om") (by walk_at "om") (by walk_at "om");have hv:=W.kbt_halves x y;split at hv<;>walk_at "om"
theorem GD{c:Prop} [Decidable c]:(if decide c=true then(1:Int) else 0)=if c then 1 else 0:=by by_cases h:c<;>simp[h]
theorem y7{a b:Int}{w:bR}(a0:0<=a)(a1:a<18446744073709551616)(b0:0<=b)(b1:b<18446744073709551616)(hz:¬(w.sr=true/\b=0)):0<=w.wk a b/\w.wk a b<18446744073709551616:=by
 have e2:=PyProof.Rows.bitOr_and a b;have e3:=bitXor_and a b;have l1:=Im a0 b0;have e4:(2:Int) ^ 64=18446744073709551616:=by decide
 have l2:=Qm 64 a0 b0 (by rw[e4];exact a1) (by rw[e4];exact b1);rw[e4]at l2;have hb:w.sr=true->0<b:=λe=>(Int.lt_or_eq_of_le b0).resolve_right λz=>hz ⟨e,z.symm⟩;have dv:∀d:Int,0<d->0<=a / d/\a / d<18446744073709551616:=λd hd=>⟨Int.ediv_nonneg a0 (Int.le_of_lt hd),Int.lt_of_le_of_lt (Int.ediv_le_self d a0) a1⟩;cases w with
 |sum=>exact⟨Int.emod_nonneg _ (by decide),Int.emod_lt_of_pos _ (by decide)⟩|less=>exact⟨Int.emod_nonneg _ (by decide),Int.emod_lt_of_pos _ (by decide)⟩|times=>exact⟨Int.emod_nonneg _ (by decide),Int.emod_lt_of_pos _ (by decide)⟩|share=>exact dv b (hb rfl)|rest=>exact⟨Int.emod_nonneg _ (by have:=hb rfl;walk_at "om"),Int.lt_trans (Int.emod_lt_of_pos _ (hb rfl)) b1⟩|both=>show 0<=Builtin.bitAnd a b/\Builtin.bitAnd a b<_;walk_at "om"|yn=>show 0<=Builtin.bitOr a b/\Builtin.bitOr a b<_;walk_at "om"|odd=>show 0<=Builtin.bitXor a b/\Builtin.bitXor a b<_;walk_at "om"|up=>exact⟨Int.emod_nonneg _ (by decide),Int.emod_lt_of_pos _ (by decide)⟩|down=>exact dv _ (Int.pow_pos (by decide))|below=>show 0<=(if a<b then(1:Int) else 0)/\(if a<b then(1:Int) else 0)<_;split<;>walk_at "om"|same=>show 0<=(if a=b then(1:Int) else 0)/\(if a=b then(1:Int) else 0)<_;split<;>walk_at "om"
theorem ID{k:Nat}{w:bR}{a b:Int}{h:AH}{R:AV->AH->Prop}(a0:0<=a)(a1:a<18446744073709551616)(b0:0<=b)(b1:b<18446744073709551616)(hz:¬(w.sr=true/\b=0))(q:∀h',Kp h h'->R (.int (w.wk a b)) h'):Wp (run pg (k+1) qv [.str w.nm,.int a,.int b]) h R:=by
 have q:=q h Kp.refl;have hb:w.sr=true->0<b:=λe=>(Int.lt_or_eq_of_le b0).resolve_right λz=>hz ⟨e,z.symm⟩;have mm:(if 64<b then(64:Int) else b)=(if b<64 then b else 64):=by split<;>split<;>walk_at "om"
 refine bF rfl rfl ?_;unfold Js;cases w<;>simp only[bR.nm,bR.wk]at q ⊢;all_goals (try have hb':0<b:=hb rfl)
 all_goals (walk_at "w")
 all_goals first
  |exact q
  | (simp only[GD];exact q)
  | (simp only[mm];exact q)
end
section
local macro_rules | `(tactic| walk_at "user0")=>`(tactic| first
 | ((with_reducible refine' gk ?k1 ?_);(case k1=>first|exact qK _|exact tP _|exact tO _|exact tN _|exact tM _|exact tL _|exact tK _|assumption))
 | ((with_reducible refine' sd ?k1 ?_);(case k1=>first|exact qK _|exact tP _|exact tO _|exact tN _|exact tM _|exact tL _|exact tK _|assumption))
 | ((with_reducible refine' qB ?k1 ?_);(case k1=>exact Cu _)))
theorem HX{k nb nm:Nat}{x y s a:Int}{bs mem:List Int}{h:AH}{R:AV->AH->Prop}(hr:dP (.load x y s))(hb:(bs.length:Int)=8)(ob:h.ob nb=some (.lst true (bs.map AV.int)))(om:h.ob nm=some (.lst true (mem.map AV.int)))(q:R ((aC.load x y s).cF a (cM bs (.load x y s)) mem.length (fJ (cM bs (.load x y s)) mem (.load x y s))) h) :
  Wp (run pg (k+1) Nd [(aC.load x y s).av,.int a,.ref nb,.ref nm]) h R:=by
 have hy:=hr.2;have e:cM bs (.load x y s)=[cell bs y]:=rfl;have e0:cell [cell bs y] 0=cell bs y:=rfl;rw[e]at q;refine bF rfl rfl ?_;unfold Ae;dsimp only[aC.av];walk_at "w"
 refine bD (bA ob) (lC hb hy.1 hy.2) ?_;walk_at "w"
 .rename_i hc;simp only[aC.cF,aC.ft,e0,if_neg (show¬(0<=cell bs y+s/\cell bs y+s<(mem.length:Int)) by walk_at "om")]at q;exact q
 .rename_i hc1 hc;rw[List.length_map]at hc;simp only[aC.cF,aC.ft,e0,if_neg (show¬(0<=cell bs y+s/\cell bs y+s<(mem.length:Int)) by walk_at "om")]at q;exact q
 .rename_i hc1 hc;rw[List.length_map]at hc;have hk:0<=cell bs y+s/\cell bs y+s<(mem.length:Int):=by walk_at "om"
  simp only[aC.cF,aC.ft,e0,if_pos hk,aC.fl,aC.pl,aC.br,aC.gs,fJ]at q;refine bD (bA om) (lC rfl hk.1 hk.2) ?_;walk_at "w"
  exact q
theorem ZQ{k nb nm:Nat}{x y s a:Int}{bs mem:List Int}{h:AH}{R:AV->AH->Prop}(hr:dP (.store x y s))(hb:(bs.length:Int)=8)(ob:h.ob nb=some (.lst true (bs.map AV.int)))(om:h.ob nm=some (.lst true (mem.map AV.int)))(q:R ((aC.store x y s).cF a (cM bs (.store x y s)) mem.length (fJ (cM bs (.store x y s)) mem (.store x y s))) h) :
  Wp (run pg (k+1) Nd [(aC.store x y s).av,.int a,.ref nb,.ref nm]) h R:=by
 have hx:=hr.1;have hy:=hr.2;have e:cM bs (.store x y s)=[cell bs x,cell bs y]:=rfl;have e0:cell [cell bs x,cell bs y] 0=cell bs x:=rfl;have e1:cell [cell bs x,cell bs y] 1=cell bs y:=rfl;rw[e]at q;refine bF rfl rfl ?_;unfold Ae;dsimp only[aC.av];walk_at "w"
 refine bD (bA ob) (lC hb hy.1 hy.2) ?_;walk_at "w"
 .rename_i hc;simp only[aC.cF,aC.ft,e1,if_neg (show¬(0<=cell bs y+s/\cell bs y+s<(mem.length:Int)) by walk_at "om")]at q;exact q
 .rename_i hc1 hc;rw[List.length_map]at hc;simp only[aC.cF,aC.ft,e1,if_neg (show¬(0<=cell bs y+s/\cell bs y+s<(mem.length:Int)) by walk_at "om")]at q;exact q
 .rename_i hc1 hc;rw[List.length_map]at hc;have hk:0<=cell bs y+s/\cell bs y+s<(mem.length:Int):=by walk_at "om"
  simp only[aC.cF,aC.ft,e0,e1,if_pos hk,aC.fl,aC.pl,aC.br,aC.gs,fJ]at q;refine bD (bA ob) (lC hb hx.1 hx.2) ?_;walk_at "w"
  exact q
theorem Zm{k nb nm:Nat}{r:aC}{a:Int}{bs mem:List Int}{h:AH}{R:AV->AH->Prop}(hr:dP r)(hb:(bs.length:Int)=8)(ob:h.ob nb=some (.lst true (bs.map AV.int)))(om:h.ob nm=some (.lst true (mem.map AV.int)))(lb:nb<h.nx)(hw:dM bs)(q:∀h',Kp h h'->R (r.cF a (cM bs r) mem.length (fJ (cM bs r) mem r)) h') :
  Wp (run pg (k+2) DL [r.av,.int a,.ref nb,.ref nm]) h R:=by
 refine bF rfl rfl ?_;unfold Jg;cases r with
 |load x y s=>
  have hpd:=HX (k:=k) (x:=x) (a:=a) (mem:=mem) hr hb ob om (q h Kp.refl);dsimp only[aC.av]at hpd ⊢;walk_at "w"
  exact hpd
 |store x y s=>
  have hpd:=ZQ (k:=k) (x:=x) (a:=a) (mem:=mem) hr hb ob om (q h Kp.refl);dsimp only[aC.av]at hpd ⊢;walk_at "w"
  exact hpd
 |fault v=>dsimp only[aC.av];(walk_at "w");exact q h Kp.refl|go t=>dsimp only[aC.av];(walk_at "w");exact q h Kp.refl|set x v=>dsimp only[aC.av];(walk_at "w");exact q h Kp.refl|move x y=>
  have hy:=hr.2;dsimp only[aC.av];(walk_at "w");refine bD (bA ob) (lC hb hy.1 hy.2) ?_;walk_at "w"
  exact q h Kp.refl
 |iD x t=>
  have hx:=hr.1;dsimp only[aC.av];(walk_at "w");refine bD (bA ((dE (Nat.ne_of_lt lb)).trans ob)) (lC hb hx.1 hx.2) ?_;have e:cM bs (.iD x t)=[cell bs x]:=rfl;have e':cell [cell bs x] 0=cell bs x:=rfl;simp only[e,aC.cF,aC.ft,aC.fl,aC.pl,aC.br,aC.gs,e']at q;walk_at "w"
  by_cases hc:cell bs x=0
  .rw[decide_eq_true hc];refine bD (bA aU) (v:=.int (a+1)) rfl ?_;walk_at "w"
   rw[if_neg (λz=>z hc)]at q;exact q _ Kp.refl.new
  .rw[decide_eq_false hc];refine bD (bA aU) (v:=.int t) rfl ?_;walk_at "w"
   rw[if_pos hc]at q;exact q _ Kp.refl.new
 |way w x y z=>
  have hy:=hr.2.1;have hz:=hr.2.2;have wu:=lF hw y;have wv:=lF hw z;have ew:cM bs (.way w x y z)=[cell bs y,cell bs z]:=rfl;rw[ew]at q;have iy:=lC hb hy.1 hy.2;have iz:=lC hb hz.1 hz.2;generalize cell bs y=u at *;generalize cell bs z=v at *;have e:cell [u,v] 1=v:=rfl;have e':cell [u,v] 0=u:=rfl;have wk:∀{R:AV->AH->Prop},¬(w.sr=true/\v=0)->(∀h',Kp h h'->R (.int (w.wk u v)) h')->Wp (run pg (k+1) qv [.str w.nm,.int u,.int v]) h R:=λhz q=>ID wu.1 wu.2 wv.1 wv.2 hz q;by_cases hz:v=0
  .rcases Vg w with rfl|rfl|hs
   .simp only[aC.cF,aC.ft,bR.sr,cond,e,e',if_pos hz,aC.fl,aC.pl,aC.br,aC.gs]at q;dsimp only[aC.av,bR.nm,bR.sr]at wk ⊢;(walk_at "w");(refine bD (bA ob) iy ?_);(walk_at "w");(refine bD (bA ob) iz ?_);walk_at "w"
    all_goals exact q h Kp.refl
   .simp only[aC.cF,aC.ft,bR.sr,cond,e,e',if_pos hz,aC.fl,aC.pl,aC.br,aC.gs]at q;dsimp only[aC.av,bR.nm,bR.sr]at wk ⊢;(walk_at "w");(refine bD (bA ob) iy ?_);(walk_at "w");(refine bD (bA ob) iz ?_);walk_at "w"
    all_goals exact q h Kp.refl
   .have n1:=Qe hs;have n2:=Qd hs;have wk:∀{R:AV->AH->Prop},(∀h',Kp h h'->R (.int (w.wk u v)) h')->Wp (run pg (k+1) qv [.str w.nm,.int u,.int v]) h R:=λq=>wk (λz=>by rw[hs]at z;cases z.1) q;simp only[aC.cF,aC.ft,hs,cond,e,e',aC.fl,aC.pl,aC.br,aC.gs]at q;dsimp only[aC.av];(walk_at "w");(refine bD (bA ob) iy ?_);(walk_at "w");(refine bD (bA ob) iz ?_);walk_at "w"
    refine wk λh' kp=>?_;walk_at "w"
    exact q h' kp
  .have wk:∀{R:AV->AH->Prop},(∀h',Kp h h'->R (.int (w.wk u v)) h')->Wp (run pg (k+1) qv [.str w.nm,.int u,.int v]) h R:=λq=>wk (λz=>hz z.2) q;have q:∀h',Kp h h'->R (.tup [.int a,.int x,.aB,.int (w.wk u v),.int (a+1),.aB]) h':=λh' kp=>by have q:=q h' kp;simp only[aC.cF,aC.ft,e,e',if_neg hz,aC.fl,aC.pl,aC.br,aC.gs]at q;cases hs:w.sr<;>simp only[hs,cond]at q<;>exact q
   dsimp only[aC.av];(walk_at "w");(refine bD (bA ob) iy ?_);(walk_at "w");(refine bD (bA ob) iz ?_);walk_at "w"
   all_goals
    refine wk λh' kp=>?_;walk_at "w"
    exact q h' kp
end
section
structure Sd where
 a:Nat
 bs:List Int
 mem:List Int
def sV(s:Sd):AV:=.tup [.int (s.a:Int),.tup (s.bs.map .int),.tup (s.mem.map .int)]
structure eN(s:Sd):Prop where
 b8:(s.bs.length:Int)=8
 wb:dM s.bs
 wm:dM s.mem
 ml:s.mem.length<=64
def bE(r:aC)(s:Sd):AV:=r.cF s.a (cM s.bs r) s.mem.length (fJ (cM s.bs r) s.mem r)
def dD(r:aC)(s:Sd):Option AV:=r.ft (cM s.bs r) s.mem.length
def lE(r:aC)(s:Sd):Int:=match r with
 |.way w _ y z=>w.wk (cell s.bs y) (cell s.bs z)
 |.set _ v=>v
 |.move _ y=>cell s.bs y
 |.load _ y d=>cell s.mem (cell s.bs y+d)
 |.store x _ _=>cell s.bs x
 |_=>0
def cU(r:aC)(s:Sd):Sd:=match r with
 |.way _ x _ _=>⟨s.a+1,s.bs.set x.toNat (lE r s),s.mem⟩
 |.set x _=>⟨s.a+1,s.bs.set x.toNat (lE r s),s.mem⟩
 |.move x _=>⟨s.a+1,s.bs.set x.toNat (lE r s),s.mem⟩
 |.load x _ _=>⟨s.a+1,s.bs.set x.toNat (lE r s),s.mem⟩
 |.store _ y d=>⟨s.a+1,s.bs,s.mem.set (cell s.bs y+d).toNat (lE r s)⟩
 |.iD x t=>⟨if cell s.bs x≠0 then t.toNat else s.a+1,s.bs,s.mem⟩
 |.go t=>⟨t.toNat,s.bs,s.mem⟩
 |.fault _=>s
inductive Dd(r:aC)(s:Sd):Prop
 |box (x:Int) (p:AV) (hx:dC x) (e:bE r s = .tup [.int s.a,.int x,p,.int (lE r s),.int ((cU r s).a:Int),.aB]) (n:cU r s=⟨(cU r s).a,s.bs.set x.toNat (lE r s),s.mem⟩):Dd r s
 |ip (p:Int) (h0:0<=p) (h1:p<s.mem.length) (e:bE r s = .tup [.int s.a,.aB,.int p,.int (lE r s),.int ((cU r s).a:Int),.aB]) (n:cU r s=⟨(cU r s).a,s.bs,s.mem.set p.toNat (lE r s)⟩):Dd r s
 |jmp (e:bE r s = .tup [.int s.a,.aB,.aB,.aB,.int ((cU r s).a:Int),.aB]) (n:cU r s=⟨(cU r s).a,s.bs,s.mem⟩):Dd r s
theorem qk{r:aC}{s:Sd}(hr:dP r)(hf:dD r s=none):Dd r s:=by
 have e1:((s.a+1:Nat):Int)=(s.a:Int)+1:=by walk_at "om"
 unfold dD at hf;cases r with
 |way w x y z=>exact .box x .aB hr.1 (by unfold bE aC.cF;rw[hf];rfl) rfl|set x v=>exact .box x .aB hr.1 (by unfold bE aC.cF;rw[hf];rfl) rfl|move x y=>exact .box x .aB hr.1 (by unfold bE aC.cF;rw[hf];rfl) rfl|load x y d=>
  have e0:cell [cell s.bs y] 0=cell s.bs y:=rfl;have hk:0<=cell s.bs y+d/\cell s.bs y+d<(s.mem.length:Int):=by apply Classical.byContradiction;intro z;have hf:(if 0<=cell [cell s.bs y] 0+d/\cell [cell s.bs y] 0+d<(s.mem.length:Int) then none else some (AV.tup [.str "place",.int (cell [cell s.bs y] 0+d)]))=none:=hf;rw[e0,if_neg z]at hf;cases hf
  refine .box x (.int (cell s.bs y+d)) hr.1 ?_ rfl;unfold bE aC.cF;rw[hf];show AV.tup [.int s.a,.int x,.int (cell [cell s.bs y] 0+d),(if 0<=cell [cell s.bs y] 0+d/\cell [cell s.bs y] 0+d<(s.mem.length:Int) then .int (cell s.mem (cell [cell s.bs y] 0+d)) else .aB),.int ((s.a:Int)+1),.aB]=_;rw[e0,if_pos hk];rfl
 |store x y d=>
  have e0:cell [cell s.bs x,cell s.bs y] 1=cell s.bs y:=rfl;have hk:0<=cell s.bs y+d/\cell s.bs y+d<(s.mem.length:Int):=by apply Classical.byContradiction;intro z;have hf:(if 0<=cell [cell s.bs x,cell s.bs y] 1+d/\cell [cell s.bs x,cell s.bs y] 1+d<(s.mem.length:Int) then none else some (AV.tup [.str "place",.int (cell [cell s.bs x,cell s.bs y] 1+d)]))=none:=hf;rw[e0,if_neg z]at hf;cases hf
  exact .ip (cell s.bs y+d) hk.1 hk.2 (by unfold bE aC.cF;rw[hf];rfl) rfl
 |iD x t=>
  refine .jmp ?_ rfl;unfold bE aC.cF;rw[hf];have ht:((if cell s.bs x≠0 then t.toNat else s.a+1:Nat):Int)=if cell s.bs x≠0 then t else(s.a:Int)+1:=by have:=hr.2;split<;>walk_at "om"
  show AV.tup [.int s.a,.aB,.aB,.aB,.int (if cell s.bs x≠0 then t else(s.a:Int)+1),.aB]=AV.tup [.int s.a,.aB,.aB,.aB,.int ((if cell s.bs x≠0 then t.toNat else s.a+1:Nat):Int),.aB];rw[ht]
 |go t=>refine .jmp ?_ rfl;unfold bE aC.cF;rw[hf];have ht:((t.toNat:Nat):Int)=t:=Int.toNat_of_nonneg hr;show AV.tup [.int s.a,.aB,.aB,.aB,.int t,.aB]=AV.tup [.int s.a,.aB,.aB,.aB,.int ((t.toNat:Nat):Int),.aB];rw[ht]
 |fault v=>cases hf
theorem Bb{r:aC}{s:Sd}{f:AV}(hf:dD r s=some f):bE r s = .tup [.int s.a,.aB,.aB,.aB,.aB,f]:=by unfold dD at hf;unfold bE aC.cF;rw[hf]
theorem Xt{r:aC}{s:Sd}(ok:eN s)(hr:dP r)(hf:dD r s=none):wd (lE r s):=by
 cases r with
 |way w x y z=>exact y7 (lF ok.wb y).1 (lF ok.wb y).2 (lF ok.wb z).1 (lF ok.wb z).2 (Nr hf)|set x v=>exact hr.2|move x y=>exact lF ok.wb y|load x y d=>exact lF ok.wm _|store x y d=>exact lF ok.wb x|_=>exact⟨Int.le_refl 0,(by decide:(0:Int)<18446744073709551616)⟩
theorem Wq{ws:List Int}{i:Nat}{v:Int}(h:dM ws)(hv:wd v):dM (ws.set i v):=λx hx=>by
 rcases List.mem_or_eq_of_mem_set hx with z|rfl
 .exact h x z
 .exact hv
theorem eN.nx{r:aC}{s:Sd}(ok:eN s)(hr:dP r)(hf:dD r s=none):eN (cU r s):=by
 have hw:=Xt ok hr hf;cases qk hr hf with
 |box x p hx e n=>rw[n];exact⟨by show((s.bs.set _ _).length:Int)=8;rw[List.length_set];exact ok.b8,Wq ok.wb hw,ok.wm,ok.ml⟩|ip p h0 h1 e n=>rw[n];exact⟨ok.b8,ok.wb,Wq ok.wm hw,by show(s.mem.set _ _).length<=64;rw[List.length_set];exact ok.ml⟩|jmp e n=>rw[n];exact⟨ok.b8,ok.wb,ok.wm,ok.ml⟩
def tr(rs:List aC):Nat->Sd->List (AV×Sd)
 |0,_=>[]
 |n+1,s=>match rs[s.a]? with
  |none=>[]
  |some r=>match dD r s with
   |some _=>[(bE r s,s)]
   |none=>(bE r s,cU r s)::tr rs n (cU r s)
theorem i3{rs:List aC}:∀{m n:Nat} {s:Sd},m<=n->tr rs m s=(tr rs n s).take m
 |0,n,s,_=>by simp[tr]
 |m+1,0,s,h=>by walk_at "om"
 |m+1,n+1,s,h=>by
  unfold tr;cases rs[s.a]? with
  |none=>rfl|some r=>
   dsimp only;cases dD r s with
   |some f=>simp|none=>dsimp only;rw[List.take_succ_cons,i3 (m:=m) (n:=n) (by walk_at "om")]
theorem Hj{rs:List aC}:∀{n:Nat} {s:Sd},(tr rs n s).length<=n
 |0,s=>Nat.le_refl _
 |n+1,s=>by
  unfold tr;cases rs[s.a]? with
  |none=>exact Nat.zero_le _|some r=>
   dsimp only;cases dD r s with
   |some f=>exact Nat.succ_le_succ (Nat.zero_le _)|none=>dsimp only;rw[List.length_cons];exact Nat.succ_le_succ Hj
theorem Vu{rs:List aC}{n:Nat}{s:Sd}(h:rs[s.a]?=none):tr rs n s=[]:=by
 cases n with
 |zero=>rfl|succ n=>unfold tr;rw[h]
theorem Vs{rs:List aC}{n:Nat}{s:Sd}{r:aC}{f:AV}(h:rs[s.a]?=some r)(hf:dD r s=some f):tr rs (n+1) s=[(bE r s,s)]:=by unfold tr;rw[h];dsimp only;rw[hf]
theorem Vt{rs:List aC}{n:Nat}{s:Sd}{r:aC}(h:rs[s.a]?=some r)(hf:dD r s=none):tr rs (n+1) s=(bE r s,cU r s)::tr rs n (cU r s):=by rw[tr];rw[h];dsimp only;rw[hf]
def wJ(s:Sd)(l:List (AV×Sd)):Sd:=(l.getLast?.map (·.2)).getD s
end
section
theorem dP.bx{r:aC}(h:dP r):Kv r:=λb hb=>by
 cases r<;>simp only[aC.want,List.mem_cons,List.not_mem_nil,or_false]at hb
 .rcases hb with rfl|rfl
  .exact h.2.1
  .exact h.2.2
 .subst hb;exact h.2
 .subst hb;exact h.2
 .rcases hb with rfl|rfl
  .exact h.1
  .exact h.2
 .subst hb;exact h.1
theorem YO{ws:List Int}{i:Nat}{v:Int}(hi:i<ws.length):(ws.map AV.int).take i++[AV.int v]++(ws.map AV.int).drop (i+1)=(ws.set i v).map AV.int:=by rw[List.map_set,List.set_eq_take_append_cons_drop,if_pos (by rw[List.length_map];exact hi),List.append_assoc];rfl
theorem Uo{k:Nat}{ws:List Int}{x v:Int}{h:AH}{R:AV->AH->Prop}(h0:0<=x)(h1:x<ws.length)(hl:ws.length<=64)(q:R (.tup ((ws.set x.toNat v).map .int)) h):Wp (run pg (k+1) EK [.tup (ws.map .int),.int x,.int v]) h R:=by
 have big:=eU;obtain⟨i,rfl⟩:=Int.eq_ofNat_of_zero_le h0;have hi:i<ws.length:=by walk_at "om"
 refine bF rfl rfl ?_;unfold Jz;walk_at "w"
 refine nj ?_ ?_
 .rw[HT.cw,List.length_map];walk_at "om"
 rw[mF];walk_at "w"
 refine du (by rw[List.length_take,List.length_map];show _+1<=_;walk_at "om") ?_;walk_at "w"
 have e:((i:Int)+1)=((i+1:Nat):Int):=by walk_at "om"
 rw[e];refine nj ?_ ?_
 .rw[HT.cw,List.length_map];walk_at "om"
 rw[qi];refine du (by rw[List.length_append,List.length_take,List.length_drop,List.length_map];show _+1+_<=_;walk_at "om") ?_;rw[YO hi];exact q
theorem Xs{k:Nat}{r:aC}{s:Sd}{h:AH}{R:AV->AH->Prop}(ok:eN s)(hr:dP r)(hf:dD r s=none)(q:R (sV (cU r s)) h):Wp (run pg (k+2) gb [sV s,bE r s]) h R:=by
 have b8:=ok.b8;have ml:=ok.ml;refine bF rfl rfl ?_;unfold Ad;show Wt _ (cD _ _ [some (.tup [.int (s.a:Int),.tup (s.bs.map .int),.tup (s.mem.map .int)]),some (bE r s),none,none,none,none]) _ _ _ _ _;cases qk hr hf with
 |box x p hx e n=>
  rw[e];rw[n]at q;walk_at "w"
  refine Uo hx.1 (by have:=hx.2;walk_at "om") (by walk_at "om") ?_;walk_at "w"
  exact q
 |ip p h0 h1 e n=>
  rw[e];rw[n]at q;walk_at "w"
  refine Uo h0 h1 ml ?_;walk_at "w"
  exact q
 |jmp e n=>
  rw[e];rw[n]at q;walk_at "w"
  exact q
theorem E6{k np:Nat}{bb:Bool}{rs:List aC}{s:Sd}{h:AH}{R:AV->AH->Prop}(hp:h.ob np=some (.lst bb (rs.map aC.av)))(hn:rs.length<=s.a)(q:R .aB h):Wp (run pg (k+1) qu [.ref np,sV s]) h R:=by
 refine bF rfl rfl ?_;unfold oz;show Wt _ (cD _ _ [some (.ref np),some (.tup [.int (s.a:Int),.tup (s.bs.map .int),.tup (s.mem.map .int)]),none,none,none,none]) _ _ _ _ _;walk_at "w"
 .exact q
 .rename_i hc;exfalso;rw[List.length_map]at hc;walk_at "om"
theorem Zr{k np:Nat}{bb:Bool}{rs:List aC}{r:aC}{s:Sd}{h:AH}{R:AV->AH->Prop}(hp:h.ob np=some (.lst bb (rs.map aC.av)))(hi:rs[s.a]?=some r)(hr:dP r)(ok:eN s)(q:∀h',Kp h h'->R (bE r s) h'):Wp (run pg (k+6) qu [.ref np,sV s]) h R:=
 Zs (k:=k) hp hi hr.bx ok.b8 ok.wb q
theorem Br{r:aC}{s:Sd}{f:AV}(e:dD r s=some f):fK f=false:=by
 unfold dD at e;cases r<;>simp only[aC.ft]at e<;>first
  | (cases e;done)
  | (cases e;rfl)
  | (split at e<;>cases e<;>rfl)
  |skip
 rename_i w x y z;cases hs:w.sr with
 |true=>rw[hs]at e;simp only[cond]at e;split at e<;>cases e;rfl|false=>rw[hs]at e;cases e
end
section
theorem Ph{s0 s:Sd}{d:AV}{l:List (AV×Sd)}:wJ s0 (l++[(d,s)])=s:=by simp[wJ]
theorem YN{s0 s:Sd}{l:List (AV×Sd)}(e:wJ s0 l=s):cW ((s0::l.map λx:AV×Sd=>x.2).map sV) (-1)=some (sV s):=by
 refine(Ip (xs:=(s0::l.map λx:AV×Sd=>x.2).map sV) (n:=1) (by walk_at "om") (by simp)).trans ?_;by_cases h:l=[]
 .subst h;subst e;simp[wJ]
 .have e2:=(List.dropLast_concat_getLast h).symm;generalize l.dropLast=us at e2;generalize l.getLast h=r at e2;subst e2;obtain⟨d,s'⟩:=r;rw[Ph]at e;subst e;simp
theorem NQ{k np m:Nat}{bb:Bool}{rs:List aC}{s0:Sd}{h:AH}{R:AV->AH->Prop}(hp:h.ob np=some (.lst bb (rs.map aC.av)))(hn:np<h.nx)(hr:∀r∈rs,dP r)(ok:eN s0)(hm:m<=100)
  (q:∀n1 n2 h',Kp h h'->h.nx<=n1->n1<h'.nx->h.nx<=n2->n2<h'.nx->h'.ob n1=some (.lst true ((tr rs m s0).map λx:AV×Sd=>x.1))->h'.ob n2=some (.lst true ((s0::(tr rs m s0).map λx:AV×Sd=>x.2).map sV))->R (.tup [.ref n1,.ref n2]) h'):Wp (run pg (k+3) DX [.ref np,sV s0,.int (m:Int)]) h R:=by
 have big:=eU;refine bF rfl rfl ?_;unfold Jm;show Wt _ (cD _ _ [some (.ref np),some (.tup [.int (s0.a:Int),.tup (s0.bs.map .int),.tup (s0.mem.map .int)]),some (.int (m:Int)),none,none,none,none,none,none]) _ _ _ _ _;walk_at "w"
 refine ni rfl ?_;walk_at "w"
 refine ni rfl ?_;walk_at "w"
 refine⟨rfl,?_⟩;walk_at "w"
 simp only[ic];generalize eh:AH.new (AH.new (AH.new (AH.new h _) _) _) _=h1;have kp1:Kp h h1:=by rw[<- eh];exact Kp.refl.new.new.new.new
 have ob1:h1.ob h.nx=some (.lst true (s0.bs.map AV.int)):=by
  rw[<- eh];repeat rw[dE (by simp only[ic];walk_at "om")]
  exact aU
 have om1:h1.ob (h.nx+1)=some (.lst true (s0.mem.map AV.int)):=by rw[<- eh,dE (by simp only[ic];walk_at "om"),dE (by simp only[ic];walk_at "om")];exact aU
 have ol1:h1.ob (h.nx+1+1)=some (.lst true (([]:List (AV×Sd)).map λx:AV×Sd=>x.1)):=by rw[<- eh,dE (by simp only[ic];walk_at "om")];exact aU
 have os1:h1.ob (h.nx+1+1+1)=some (.lst true ((s0::([]:List (AV×Sd)).map λx:AV×Sd=>x.2).map sV)):=by rw[<- eh];exact aU
 have gC:h1.nx=h.nx+4:=by rw[<- eh];rfl
 clear eh;show Wt _ (kW _ _ _ [some (.ref np),some (sV s0),some (.int (m:Int)),some (.int (s0.a:Int)),some (.ref h.nx),some (.ref (h.nx+1)),some (.ref (h.nx+1+1)),some (.ref (h.nx+1+1+1)),none]) _ _ _ _ _;refine Wn (λi U h'=>∃s done v8,U=[some (.ref np),some (sV s0),some (.int (m:Int)),some (.int (s.a:Int)),some (.ref h.nx),some (.ref (h.nx+1)),some (.ref (h.nx+1+1)),some (.ref (h.nx+1+1+1)),v8]/\Kp h h'/\h.nx+3<h'.nx/\(h'.ob h.nx=some (.lst true (s.bs.map AV.int))/\h'.ob (h.nx+1)=some (.lst true (s.mem.map AV.int))/\h'.ob (h.nx+1+1)=some (.lst true (done.map λx:AV×Sd=>x.1))/\h'.ob (h.nx+1+1+1)=some (.lst true ((s0::done.map λx:AV×Sd=>x.2).map sV)))/\done.length=i/\i<=m/\done++tr rs (m-i) s=tr rs m s0/\wJ s0 done=s/\eN s) m (λi U h' ⟨_,_,_,_,_,_,_,_,z,_⟩=>z) (λi U h' hI=>?_) FU 0 _ _ (by rw[eY];walk_at "om")
  ⟨s0,[],none,rfl,kp1,by walk_at "om",⟨ob1,om1,ol1,os1⟩,rfl,Nat.zero_le _,rfl,rfl,ok⟩
 obtain⟨s,done,v8,e1,kp,nx,⟨ob,om,ol,os⟩,hl,him,et,es,oks⟩:=hI;subst e1;have aL:∀h2 (d:List (AV×Sd)) (a8 v3:Option AV),Kp h h2->h.nx+3<h2.nx->h2.ob (h.nx+1+1)=some (.lst true (d.map λx:AV×Sd=>x.1))->h2.ob (h.nx+1+1+1)=some (.lst true ((s0::d.map λx:AV×Sd=>x.2).map sV))->d=tr rs m s0->R (.tup [.ref (h.nx+1+1),.ref (h.nx+1+1+1)]) h2:=λh2 d a8 v3 kp nx ol os ed=>by subst ed;exact q _ _ _ kp (by walk_at "om") (by walk_at "om") (by walk_at "om") (by walk_at "om") ol os
 have hp':=kp.get hn hp;walk_at "w"
 .rename_i hc1 hc2;rw[List.length_map]at hc1 hc2;have him':i<m:=by walk_at "om"
  have hlt:s.a<rs.length:=by walk_at "om"
  obtain⟨j,hj⟩:∃j,m-i=j+1:=⟨m-i-1,by walk_at "om"⟩;rw[hj]at et;obtain⟨r,hx⟩:∃r,rs[s.a]?=some r:=⟨_,List.getElem?_eq_getElem hlt⟩;have hro:=hr r (List.mem_of_getElem? hx);refine bD (v:=r.av) (bA hp') (hX (by rw[List.getElem?_map,hx];rfl)) ?_;walk_at "w"
  refine Zm (k:=k) hro oks.b8 ob om (by walk_at "om") oks.wb λh2 kp2=>?_;show Wt _ _ _ _ _ _ _;have nx2:=kp2.nx;have ob2:=kp2.get (by walk_at "om") ob;have om2:=kp2.get (by walk_at "om") om;have ol2:=kp2.get (by walk_at "om") ol;have os2:=kp2.get (by walk_at "om") os;have kpp:=kp.trans kp2;have lS:(s0::done.map λx:AV×Sd=>x.2).length=i+1:=by rw[List.length_cons,List.length_map,hl]
  obtain⟨h3,eh3⟩:∃y,y=h2.put (h.nx+1+1) (.lst true ((done.map λx:AV×Sd=>x.1)++[bE r s])):=⟨_,rfl⟩;have ol3:∀s',h3.ob (h.nx+1+1)=some (.lst true ((done++[(bE r s,s')]).map λx:AV×Sd=>x.1)):=λs'=>by rw[eh3,List.map_append];exact fG
  have kp3:Kp h h3:=by rw[eh3];exact kpp.put (by walk_at "om")
  have nx3:h3.nx=h2.nx:=by rw[eh3];rfl
  have ob3:h3.ob h.nx=some (.lst true (s.bs.map AV.int)):=by rw[eh3];exact(bW (by walk_at "om")).trans ob2
  have om3:h3.ob (h.nx+1)=some (.lst true (s.mem.map AV.int)):=by rw[eh3];exact(bW (by walk_at "om")).trans om2
  have os3:h3.ob (h.nx+1+1+1)=some (.lst true ((s0::done.map λx:AV×Sd=>x.2).map sV)):=by rw[eh3];exact(bW (by walk_at "om")).trans os2
  have sn:∀s',(s0::done.map λx:AV×Sd=>x.2).map sV++[sV s']=(s0::(done++[(bE r s,s')]).map λx:AV×Sd=>x.2).map sV:=λs'=>by rw[List.map_append,<- List.cons_append,List.map_append];rfl
  cases hf:dD r s with
  |some f=>
   rw[Vs hx hf]at et;have ed:=Bb hf;have fn:=Br hf;rw[show aC.cF (s.a:Int) (cM s.bs r) (s.mem.length:Int) (fJ (cM s.bs r) s.mem r) r=_ from ed];rw[ed]at eh3;walk_at "w"
   refine⟨by simp only[gP,ol2],?_⟩;walk_at "w"
   refine nI ol2 (by rw[List.length_map];walk_at "om") ?_;rw[<- eh3];walk_at "w"
   refine qB (by rw[fn];rfl) ?_;walk_at "w"
   refine⟨by simp only[gP,os3],?_⟩;walk_at "w"
   refine bD (bA os3) (YN es) ?_;refine nI os3 (by rw[List.length_map,lS];walk_at "om") ?_;rw[sn];walk_at "w"
   exact aL _ _ none none (kp3.put (by walk_at "om")) (by rw[Qz];walk_at "om") ((bW (by walk_at "om")).trans (ol3 s)) fG et
  |none=>
   rw[Vt hx hf]at et;have okn:=oks.nx hro hf;have close:∀(B C:aE->AH->Prop) (h4:AH) (a8:Option AV),Kp h h4->h4.nx=h3.nx->h4.ob h.nx=some (.lst true ((cU r s).bs.map AV.int))->h4.ob (h.nx+1)=some (.lst true ((cU r s).mem.map AV.int))->h4.ob (h.nx+1+1)=h3.ob (h.nx+1+1)->h4.ob (h.nx+1+1+1)=h3.ob (h.nx+1+1+1) ->
     Wt (λ_ _=>False) (cD (run pg (k+2)) (.cons (.expr (.app (.var 7) (.tup (.cons (.var 3) (.cons (.bi .tuple (.cons (.var 4) .nil)) (.cons (.bi .tuple (.cons (.var 5) .nil)) .nil)))))) .nil) [some (.ref np),some (sV s0),some (.int (m:Int)),some (.int ((cU r s).a:Int)),some (.ref h.nx),some (.ref (h.nx+1)),some (.ref (h.nx+1+1)),some (.ref (h.nx+1+1+1)),a8]) h4
      (λU h'=>∃s done v8,U=[some (.ref np),some (sV s0),some (.int (m:Int)),some (.int (s.a:Int)),some (.ref h.nx),some (.ref (h.nx+1)),some (.ref (h.nx+1+1)),some (.ref (h.nx+1+1+1)),v8]/\Kp h h'/\h.nx+3<h'.nx/\(h'.ob h.nx=some (.lst true (s.bs.map AV.int))/\h'.ob (h.nx+1)=some (.lst true (s.mem.map AV.int))/\h'.ob (h.nx+1+1)=some (.lst true (done.map λx:AV×Sd=>x.1))/\h'.ob (h.nx+1+1+1)=some (.lst true ((s0::done.map λx:AV×Sd=>x.2).map sV)))/\done.length=i+1/\i+1<=m/\done++tr rs (m-(i+1)) s=tr rs m s0/\wJ s0 done=s/\eN s) R B C:=λB C h4 a8 kp4 nx4 ob4 om4 ol4 os4=>by
    have os5:=os4.trans os3;walk_at "w"
    refine⟨by simp only[gP,os5],?_⟩;walk_at "w"
    refine nI os5 (by rw[List.length_map,lS];walk_at "om") ?_;rw[show AV.tup [.int ((cU r s).a:Int),.tup ((cU r s).bs.map .int),.tup ((cU r s).mem.map .int)]=sV (cU r s) from rfl,sn];walk_at "w"
    refine⟨cU r s,done++[(bE r s,cU r s)],_,rfl,kp4.put (by walk_at "om"),by rw[Qz];walk_at "om",⟨(bW (by walk_at "om")).trans ob4,(bW (by walk_at "om")).trans om4,(bW (by walk_at "om")).trans (ol4.trans (ol3 _)),fG⟩,by rw[List.length_append,hl];rfl,by walk_at "om",?_,Ph,okn⟩;rw[<- et,List.append_assoc,show m-(i+1)=j by walk_at "om"];rfl
   cases qk hro hf with
   |box x p hxx e n=>
    obtain⟨y,rfl⟩:=Int.eq_ofNat_of_zero_le hxx.1;have hy:y<s.bs.length:=by have:=hxx.2;have:=oks.b8;walk_at "om"
    rw[show aC.cF (s.a:Int) (cM s.bs r) (s.mem.length:Int) (fJ (cM s.bs r) s.mem r) r=_ from e];rw[e]at eh3;walk_at "w"
    refine⟨by simp only[gP,ol2],?_⟩;walk_at "w"
    refine nI ol2 (by rw[List.length_map];walk_at "om") ?_;rw[<- eh3];walk_at "w"
    refine⟨h.nx,_,_,y,rfl,rfl,ob3,by rw[List.length_map];exact Pa hy,?_⟩;refine Ia ?_;refine close _ _ _ _ (kp3.put (Nat.le_refl _)) rfl ?_ ?_ (bW (by walk_at "om")) (bW (by walk_at "om"))
    .rw[n,fG,List.map_set];rfl
    .rw[n];exact(bW (by walk_at "om")).trans om3
   |ip p h0 h1 e n=>
    obtain⟨y,rfl⟩:=Int.eq_ofNat_of_zero_le h0;have hy:y<s.mem.length:=by walk_at "om"
    rw[show aC.cF (s.a:Int) (cM s.bs r) (s.mem.length:Int) (fJ (cM s.bs r) s.mem r) r=_ from e];rw[e]at eh3;walk_at "w"
    refine⟨by simp only[gP,ol2],?_⟩;walk_at "w"
    refine nI ol2 (by rw[List.length_map];walk_at "om") ?_;rw[<- eh3];walk_at "w"
    refine⟨h.nx+1,_,_,y,rfl,rfl,om3,by rw[List.length_map];exact Pa hy,?_⟩;repeat' (first|with_reducible refine Ia ?_)
    refine close _ _ _ _ (kp3.put (Nat.le_succ _)) rfl ?_ ?_ (bW (by walk_at "om")) (bW (by walk_at "om"))
    .rw[n];exact(bW (by walk_at "om")).trans ob3
    .rw[n,fG,List.map_set];rfl
   |jmp e n=>
    rw[show aC.cF (s.a:Int) (cM s.bs r) (s.mem.length:Int) (fJ (cM s.bs r) s.mem r) r=_ from e];rw[e]at eh3;walk_at "w"
    refine⟨by simp only[gP,ol2],?_⟩;walk_at "w"
    refine nI ol2 (by rw[List.length_map];walk_at "om") ?_;rw[<- eh3];have cl:=λB C=>close B C h3 (some (.tup [.int s.a,.aB,.aB,.aB,.int ((cU r s).a:Int),.aB])) kp3 rfl (by rw[n];exact ob3) (by rw[n];exact om3) rfl rfl;repeat' (first|exact cl _ _|walk_at "amb")
 .rename_i hc1 hc2;rw[List.length_map]at hc2;have hno:rs[s.a]?=none:=List.getElem?_eq_none_iff.mpr (by walk_at "om");rw[Vu hno]at et;exact aL _ done none none kp nx ol os (by rw[<- et];simp)
 .rename_i hc;rw[List.length_map]at hc;have:m-i=0:=by walk_at "om"
  rw[this]at et;exact aL _ done none none kp nx ol os (by rw[<- et];simp[tr])
end
section
def oI:Option Int->AV
 |none=>.aB
 |some i=>.int i
structure Tm where
 (p s f o:Int)
def Tm.av(t:Tm):AV:=.tup [.int t.p,.int t.s,.int t.f,.int t.o]
structure De where
 (a:Int) (b p w t:Option Int) (ft:Option (PySem.Str×Int))
def fW:Option (PySem.Str×Int)->AV
 |none=>.aB
 |some (x,v)=>.tup [.str x,.int v]
def De.av(d:De):AV:=.tup [.int d.a,oI d.b,oI d.p,oI d.w,oI d.t,fW d.ft]
structure Sl where
 (tk pc:Int) (nm:List (Option Int)) (gv:Option Int) (dd:De) (tm:Tm)
def Sl.av(x:Sl):AV:=.tup [.int x.tk,.int x.pc,.tup (x.nm.map oI),oI x.gv,x.dd.av,x.tm.av]
def dF:Option Sl->AV
 |none=>.aB
 |some x=>x.av
def vJ(t:Tm):Bool:=decide (t.p<t.s/\t.s<t.f/\t.f<t.o)
def nC:Option Sl->Sl->Bool
 |none,x=>decide (0<=x.tk/\1<=x.tm.p)|some l,x=>decide (l.dd.ft=none/\l.tk<x.tk/\l.tm.p<=x.tm.p/\l.tm.o<=x.tm.o)
theorem vU{b c:Bool}{h:AH}{R:AV->AH->Prop}(q:R (.bl b) h)(e:b=c):R (.bl c) h:=e▸q
theorem VV{k:Nat}{t:Tm}{h:AH}{R:AV->AH->Prop}(q:R (.bl (vJ t)) h):Wp (run pg (k+1) EN [t.av]) h R:=by
 refine bF rfl rfl ?_;unfold Kd Tm.av;unfold vJ at q;walk_at "w"
 all_goals refine vU q ?_
 all_goals first|(simp_all;done)|(simp_all;walk_at "om")
theorem WI{k:Nat}{l:Option Sl}{x:Sl}{h:AH}{R:AV->AH->Prop}(q:R (.bl (nC l x)) h):Wp (run pg (k+1) EM [dF l,x.av]) h R:=by
 refine bF rfl rfl ?_;unfold Kb;cases l with
 |none=>
  unfold dF Sl.av Tm.av;unfold nC at q;walk_at "w"
  all_goals refine vU q ?_
  all_goals first|(simp_all;done)|(simp_all;walk_at "om")
 |some l=>
  obtain⟨tk,pc,nm,gv,⟨a,b,p,w,t,ft⟩,tm⟩:=l;unfold dF Sl.av Tm.av De.av;unfold nC at q;cases ft with
  |none=>
   unfold fW;walk_at "w"
   all_goals refine vU q ?_
   all_goals first|(simp_all;done)|(simp_all;walk_at "om")
  |some f=>
   unfold fW;walk_at "w"
   all_goals refine vU q ?_
   all_goals first|(simp_all;done)|(simp_all;walk_at "om")
end
section
theorem Mv{xs ys:List AV}:dY (.tup xs) (.tup ys)=none:=rfl
structure Tr where
 (st:Sd) (fi:Int->Option Sl) (so:Int->Option Int) (la:Option Sl)
structure Tc(c a:Nat)(h:AH)(t:Tr):Prop where
 oa:h.ob a=some (.ins 2 [("state",sV t.st),("fillers",.ref (a+1)),("storers",.ref (a+2)),("latest",dF t.la)])
 fk:∃kvs,h.ob (a+1)=some (.aO kvs)/\(∀b,bC kvs (.inl b)=(t.fi b).map Sl.av)/\kvs.length<=c
 sk:∃kvs,h.ob (a+2)=some (.aO kvs)/\(∀b,bC kvs (.inl b)=(t.so b).map AV.int)/\kvs.length<=c
 lt:a+2<h.nx
theorem Tc.kp{c a:Nat}{h h':AH}{t:Tr}(s:Tc c a h t)(k:Kp h h'):Tc c a h' t:=by have lt:=s.lt;obtain⟨k1,o1,f1,l1⟩:=s.fk;obtain⟨k2,o2,f2,l2⟩:=s.sk;exact⟨k.get (by walk_at "om") s.oa,⟨k1,k.get (by walk_at "om") o1,f1,l1⟩,⟨k2,k.get (by walk_at "om") o2,f2,l2⟩,Nat.lt_of_lt_of_le lt k.nx⟩
theorem Cy{o:Option Int}:(o.map AV.int).getD .aB=oI o:=by cases o<;>rfl
theorem JH{o:Option Sl}:(o.map Sl.av).getD .aB=dF o:=by cases o<;>rfl
def fZ(t:Tr)(d:De):Option Int:=match d.b,d.p with
 |some _,some p=>t.so p
 |_,_=>none
theorem FI{k a c:Nat}{t:Tr}{d:De}{h:AH}{R:AV->AH->Prop}(s:Tc c a h t)(q:R (oI (fZ t d)) h):Wp (run pg (k+1) DE [.ref a,d.av]) h R:=by
 obtain⟨kvs,od,fd,_⟩:=s.sk;have oa:=s.oa;obtain⟨da,db,dp,dw,dt,df⟩:=d;refine bF rfl rfl ?_;unfold Ja De.av;cases db with
 |none=>
  dsimp only[oI];walk_at "w"
  exact q
 |some b=>
  cases dp with
  |none=>
   dsimp only[oI];walk_at "w"
   exact q
  |some p=>
   dsimp only[oI];walk_at "w"
   refine⟨by rw[qj od],?_⟩;walk_at "w"
   refine zf od rfl ?_;rw[fd,Cy];exact q
theorem qq{h:AH}{n:Nat}{a b:Option Int}:bV h (n+1) (oI a) (oI b)=some (decide (a=b)):=by
 cases a with
 |none=>cases b with
  |none=>simp[oI,bV,bY,iB]|some b=>simp[oI,bV,bY,iB]
 |some a=>cases b with
  |none=>simp[oI,bV,bY,iB]|some b=>simp[oI,bV,bY,iB];rw[Bool.eq_iff_iff];simp
theorem Mo{h:AH}{n:Nat}:∀{xs ys:List (Option Int)},xs.length=ys.length->eP (bV h (n+1)) (xs.map oI) (ys.map oI)=some (decide (xs=ys))
 |[],[],_=>rfl|[],_::_,e=>by cases e
 |_::_,[],e=>by cases e
 |x::xs,y::ys,e=>by rw[List.map_cons,List.map_cons,eP,qq,Mo (by simpa using e)];simp[Bool.decide_and]
theorem Mp{h:AH}{n:Nat}:∀{xs ys:List (Option Int)},∃b,eP (bV h (n+1)) (xs.map oI) (ys.map oI)=some b
 |[],_=>⟨true,rfl⟩
 |_::_,[]=>⟨true,rfl⟩
 |x::xs,y::ys=>by obtain⟨b,e⟩:=Mp (h:=h) (n:=n) (xs:=xs) (ys:=ys);rw[List.map_cons,List.map_cons,eP,qq,e];exact⟨_,rfl⟩
theorem My{h:AH}{xs ys:List (Option Int)}:eqT h (.tup (xs.map oI)) (.tup (ys.map oI))=some (decide (xs=ys)):=by
 have hf:¬(bY (.tup (xs.map oI))=true/\bY (.tup (ys.map oI))=true):=λz=>by cases z.1
 obtain⟨b,e⟩:=Mp (h:=h) (n:=10) (xs:=xs) (ys:=ys);show bV h (11+1) _ _=_;rw[bV,if_neg hf,if_neg (λz=>by cases z)];show(if false=false then if false=true/\(xs.map oI).length≠(ys.map oI).length then some false else(eP (bV h (10+1)) (xs.map oI) (ys.map oI)).map λb=>b&&decide ((xs.map oI).length=(ys.map oI).length) else some false)=_;rw[if_pos rfl,if_neg (λz=>by cases z.1)];by_cases hl:xs.length=ys.length
 .rw[Mo hl];simp[hl]
 .rw[e];have:xs≠ys:=λz=>hl (by rw[z]);simp[hl,this]
instance:DecidableEq De:=λx y=>by obtain⟨a,b,p,w,t,f⟩:=x;obtain⟨a',b',p',w',t',f'⟩:=y;exact decidable_of_iff (a=a'/\b=b'/\p=p'/\w=w'/\t=t'/\f=f') (by simp)
theorem Mm{h:AH}{n:Nat}{f g:Option (PySem.Str×Int)}:bV h (n+2) (fW f) (fW g)=some (decide (f=g)):=by
 cases f with
 |none=>cases g with
  |none=>simp[fW,bV,bY,iB]|some g=>simp[fW,bV,bY,tQ]
 |some f=>cases g with
  |none=>simp[fW,bV,bY,tQ]|some g=>obtain⟨x,v⟩:=f;obtain⟨y,u⟩:=g;simp[fW,bV,bY,iB,dJ,eP,tQ];rw[Bool.eq_iff_iff];simp
theorem CJ{h:AH}{n:Nat}{a b:Int}:bV h (n+1) (.int a) (.int b)=some (decide (a=b)):=by simp[bV,bY,iB];rw[Bool.eq_iff_iff];simp
theorem CQ{h:AH}{d e:De}:AM.eqT h d.av e.av=some (decide (d=e)):=by
 obtain⟨a,b,p,w,t,f⟩:=d;obtain⟨a',b',p',w',t',f'⟩:=e;have hf:¬(bY (De.av ⟨a,b,p,w,t,f⟩)=true/\bY (De.av ⟨a',b',p',w',t',f'⟩)=true):=λz=>by cases z.1
 show bV h (11+1) _ _=_;rw[bV,if_neg hf,if_neg (λz=>by cases z)];show(if false=false then if false=true/\6≠6 then some false else(eP (bV h (10+1)) [.int a,oI b,oI p,oI w,oI t,fW f] [.int a',oI b',oI p',oI w',oI t',fW f']).map λb=>b&&decide (6=6) else some false)=_;rw[if_pos rfl,if_neg (λz=>by cases z.1)];have h1:=CJ (h:=h) (n:=10) (a:=a) (b:=a');have h2:=Mm (h:=h) (n:=9) (f:=f) (g:=f');simp only[eP,h1,qq,h2];simp[Bool.decide_and]
end
section
def lL(t:Tr)(x:Sl)(ws:List Int):Bool:=decide (x.nm=ws.map λb=>(t.fi b).map (·.tk))&&ws.all λb=>match t.fi b with
 |none=>true
 |some l=>decide (l.tm.f<=x.tm.s)
theorem JB{k a c:Nat}{t:Tr}{x:Sl}{ws:List Int}{h:AH}{R:AV->AH->Prop}(s:Tc c a h t)(hl:ws.length<=2)(q:∀h',Kp h h'->R (.bl (lL t x ws)) h'):Wp (run pg (k+1) EJ [.ref a,x.av,.tup (ws.map .int)]) h R:=by
 have big:=eU;obtain⟨kvs,od,fd,_⟩:=s.fk;have oa:=s.oa;refine bF rfl rfl ?_;unfold Jx;walk_at "w"
 refine Lp (λi ys U h'=>h'=h/\ys=((ws.take i).map λb=>dF (t.fi b))/\∃v,U=[v,some (.ref a)]) (by rw[List.length_map,eY];walk_at "om") ⟨rfl,rfl,_,rfl⟩ ?_ ?_
 .rintro i y ys U h' hy ⟨rfl,rfl,v,rfl⟩
  rw[List.getElem?_map]at hy;obtain⟨b,hj,rfl⟩:=Option.map_eq_some_iff.mp hy;walk_at "w"
  refine⟨by rw[qj od],?_⟩;walk_at "w"
  refine zf od rfl ?_;rw[fd,JH];refine⟨by rw[List.length_map,List.length_take];walk_at "om",rfl,?_,_,rfl⟩;rw[List.take_add_one,hj];simp
 rintro ys U h' ⟨rfl,rfl,v,rfl⟩
 rw[List.length_map,List.take_length];walk_at "w"
 have ol:(h'.new (.lst true (ws.map λb=>dF (t.fi b)))).ob h'.nx=some (.lst true (ws.map λb=>dF (t.fi b))):=aU;have kp1:Kp h' (h'.new (.lst true (ws.map λb=>dF (t.fi b)))):=Kp.refl.new;have gC:h'.nx<(h'.new (.lst true (ws.map λb=>dF (t.fi b)))).nx:=Nat.lt_succ_self _;have an:a<h'.nx:=by have:=s.lt;walk_at "om"
 generalize h'.new (.lst true (ws.map λb=>dF (t.fi b)))=h1 at ol kp1 gC ⊢;refine eg ol ?_;refine Az (bb:=true) (xs:=ws.map λb=>dF (t.fi b)) (λi ys U h2=>h2=h1/\ys=((ws.take i).map λb=>oI ((t.fi b).map (·.tk)))/\∃v,U=[v]) (by rw[List.length_map,eY];walk_at "om") ⟨rfl,rfl,_,rfl⟩ (λi ys U h2 z=>by rw[z.1];exact ol) ?_ ?_
 .rintro i y ys U h2 hy ⟨rfl,rfl,v,rfl⟩
  rw[List.getElem?_map]at hy;obtain⟨b,hj,rfl⟩:=Option.map_eq_some_iff.mp hy;have e:ws.take (i+1)=ws.take i++[b]:=by rw[List.take_add_one,hj];rfl
  have aL:∀y,y=oI ((t.fi b).map (·.tk))->((ws.take i).map λb=>oI ((t.fi b).map (·.tk))).length<sizeLine/\h2=h2/\((ws.take i).map λb=>oI ((t.fi b).map (·.tk)))++[y]=((ws.take (i+1)).map λb=>oI ((t.fi b).map (·.tk))):=λy ey=>by subst ey;exact⟨by rw[List.length_map,List.length_take];walk_at "om",rfl,by rw[e];simp⟩
  cases f:t.fi b with
  |none=>
   rw[f]at aL;dsimp only[dF];walk_at "w"
   obtain⟨z1,z2,z3⟩:=aL .aB rfl;exact⟨z1,z2,z3,_,rfl⟩
  |some l=>
   rw[f]at aL;dsimp only[dF,Sl.av];walk_at "w"
   obtain⟨z1,z2,z3⟩:=aL (.int l.tk) rfl;exact⟨z1,z2,z3,_,rfl⟩
 rintro ys U h2 ⟨rfl,rfl,v,rfl⟩
 rw[List.length_map,List.take_length];walk_at "w"
 have e:(ws.map λb=>oI ((t.fi b).map (·.tk)))=(ws.map λb=>(t.fi b).map (·.tk)).map oI:=by rw[List.map_map];rfl
 refine dz (bA aU) ?_;have kp3:Kp h' (h2.new (.lst true (ws.map λb=>oI ((t.fi b).map (·.tk))))):=kp1.new;have ol3:(h2.new (.lst true (ws.map λb=>oI ((t.fi b).map (·.tk))))).ob h'.nx=some (.lst true (ws.map λb=>dF (t.fi b))):=(dE (Nat.ne_of_lt gC)).trans ol;generalize h2.new (.lst true (ws.map λb=>oI ((t.fi b).map (·.tk))))=h3 at kp3 ol3 ⊢;rw[e];refine zg Mv My ?_;refine⟨_,rfl,?_⟩;by_cases hn:x.nm=ws.map λb=>(t.fi b).map (·.tk)
 .rw[decide_eq_true hn];walk_at "w"
  refine eg ol3 ?_;refine Az (bb:=true) (xs:=ws.map λb=>dF (t.fi b)) (λi ys U h2=>h2=h3/\ys=((ws.take i).map λb=>AV.bl (match t.fi b with
   |none=>true
   |some l=>decide (l.tm.f<=x.tm.s)))/\∃v,U=[v,some x.av]) (by rw[List.length_map,eY];walk_at "om") ⟨rfl,rfl,_,rfl⟩ (λi ys U h2 z=>by rw[z.1];exact ol3) ?_ ?_
  .rintro i y ys U h2 hy ⟨rfl,rfl,v,rfl⟩
   rw[List.getElem?_map]at hy;obtain⟨b,hj,rfl⟩:=Option.map_eq_some_iff.mp hy;have e:ws.take (i+1)=ws.take i++[b]:=by rw[List.take_add_one,hj];rfl
   have ll:(ws.take i).length<sizeLine:=by rw[List.length_take];walk_at "om"
   cases f:t.fi b with
   |none=>
    dsimp only[dF];walk_at "w"
    refine⟨by rw[List.length_map];exact ll,rfl,?_,_,rfl⟩;rw[e,List.map_append];simp only[List.map_cons,List.map_nil,f];rfl
   |some l=>
    dsimp only[dF,Sl.av,Tm.av];walk_at "w"
    refine⟨by rw[List.length_map];exact ll,rfl,?_,_,rfl⟩;rw[e,List.map_append];simp only[List.map_cons,List.map_nil,f]
  rintro ys U h2 ⟨rfl,rfl,v,rfl⟩
  rw[List.length_map,List.take_length];walk_at "w"
  refine p9 (bs:=ws.map λb=>match t.fi b with
   |none=>true
   |some l=>decide (l.tm.f<=x.tm.s)) (by rw[aU,List.map_map];rfl) ?_
  refine vU (q _ kp3.new) ?_;unfold lL;rw[decide_eq_true hn,Bool.true_and,List.all_map];rfl
 .rw[decide_eq_false hn];walk_at "w"
  have q:=q _ kp3;unfold lL at q;rw[decide_eq_false hn,Bool.false_and]at q;exact q
end
section
def zd:AV->Option Int
 |.int i=>some i
 |_=>none
def k8:AV->Option (PySem.Str×Int)
 |.tup [.str x,.int v]=>some (x,v)
 |_=>none
def dU:AV->De
 |.tup [.int a,b,p,w,t,f]=>⟨a,zd b,zd p,zd w,zd t,k8 f⟩
 |_=>⟨0,none,none,none,none,none⟩
theorem zb{r:aC}{s:Sd}:(dU (bE r s)).av=bE r s:=by
 have hh:=FT (ws:=cM s.bs r) (mem:=s.mem) (r:=r);unfold bE aC.cF;cases e:r.ft (cM s.bs r) s.mem.length with
 |some f=>
  have:∃x v,f = .tup [.str x,.int v]:=by
   cases r<;>simp only[aC.ft]at e<;>first
    | (cases e;done)
    | (cases e;exact⟨_,_,rfl⟩)
    | (split at e<;>cases e;exact⟨_,_,rfl⟩)
    |skip
   rename_i w x y z;cases hs:w.sr with
   |true=>rw[hs]at e;simp only[cond]at e;split at e<;>cases e;exact⟨_,_,rfl⟩|false=>rw[hs]at e;cases e
  obtain⟨x,v,rfl⟩:=this;rfl
 |none=>rcases hh with hh|⟨v,hh⟩<;>rw[hh]<;>cases r<;>rfl
def bT(rs:List aC)(t:Tr)(x:Sl):Bool:=match rs[t.st.a]? with
 |none=>false
 |some r=>decide (x.pc=t.st.a)&&(nC t.la x&&(vJ x.tm&&(decide (x.dd=dU (bE r t.st))&&(decide (x.gv=fZ t x.dd)&&lL t x r.want))))
theorem ej{b:Bool}{h:AH}{R:AV->AH->Prop}(q:R (.bl b) h)(e:b=false):R (.bl false) h:=e▸q
theorem ng{r:aC}:r.want.length<=2:=by cases r<;>simp[aC.want]
theorem Cs{Xc:Nat->AH->Prop}{a b:Option Int}{h:AH}{V1:AV->AH->Prop}(q:V1 (.bl (!decide (a=b))) h):We Xc (Cp.g .ne (oI a) (oI b)) h V1:=by
 have e:dY (oI a) (oI b)=some (decide (a=b)):=by cases a<;>cases b<;>simp[oI,dY]
 show We Xc (sX (oI a) (oI b)) h V1;unfold We sX;simp only[e];exact q
theorem GU{k a c np:Nat}{bb:Bool}{rs:List aC}{t:Tr}{x:Sl}{h:AH}{R:AV->AH->Prop}(hp:h.ob np=some (.lst bb (rs.map aC.av)))(hn:np<h.nx)(hr:∀r∈rs,dP r)(ok:eN t.st)(s:Tc c a h t)
  (q:∀h',Kp h h'->R (.bl (bT rs t x)) h'):Wp (run pg (k+7) DI [.ref np,.ref a,x.av]) h R:=by
 have oa:=s.oa;refine bF rfl rfl ?_;unfold Je;have esv:sV t.st = .tup [.int (t.st.a:Int),.tup (t.st.bs.map .int),.tup (t.st.mem.map .int)]:=rfl;unfold Sl.av;walk_at "w"
 .rename_i hc;refine ej (q h Kp.refl) ?_;unfold bT;cases rs[t.st.a]? with
  |none=>rfl|some r=>dsimp only;rw[decide_eq_false hc];rfl
 .rename_i hc hc2;refine ej (q h Kp.refl) ?_;unfold bT;rw[List.getElem?_eq_none (by rw[List.length_map]at hc2;walk_at "om")]
 .rename_i hc hc2;rw[List.length_map]at hc2;obtain⟨r,hx⟩:∃r,rs[t.st.a]?=some r:=⟨_,List.getElem?_eq_getElem (by walk_at "om")⟩;have hro:=hr r (List.mem_of_getElem? hx);have er:bT rs t x=(nC t.la x&&(vJ x.tm&&(decide (x.dd=dU (bE r t.st))&&(decide (x.gv=fZ t x.dd)&&lL t x r.want)))):=by unfold bT;rw[hx];dsimp only;rw[decide_eq_true hc,Bool.true_and]
  simp only[er]at q;refine WI (k:=k+5) (x:=x) (l:=t.la) ?_;cases e1:nC t.la x with
  |false=>
   walk_at "w"
   exact ej (q h Kp.refl) (by rw[e1];rfl)
  |true=>
   walk_at "w"
   refine VV (k:=k+5) (t:=x.tm) ?_;cases e2:vJ x.tm with
   |false=>
    walk_at "w"
    exact ej (q h Kp.refl) (by rw[e1,e2];rfl)
   |true=>
    walk_at "w"
    refine Zr (k:=k) hp hx hro ok λh1 kp1=>?_;rw[<- zb];refine zg (show dY (De.av _) (De.av _)=none from rfl) CQ ?_;refine⟨_,rfl,?_⟩;by_cases e3:x.dd=dU (bE r t.st)
    .rw[decide_eq_true e3];walk_at "w"
     refine FI (k:=k+5) (s.kp kp1) ?_;refine Cs ?_;refine⟨_,rfl,?_⟩;by_cases e4:x.gv=fZ t x.dd
     .rw[decide_eq_true e4];walk_at "w"
      refine bD (v:=r.av) (bA (kp1.get hn hp)) ?_ ?_
      .rw[hc];exact hX (by rw[List.getElem?_map,hx];rfl)
      walk_at "w"
      refine Wg ?_;walk_at "w"
      refine JB (k:=k+5) (s.kp kp1) ng λh2 kp2=>?_;refine vU (q h2 (kp1.trans kp2)) ?_;rw[e1,e2,decide_eq_true e3,decide_eq_true e4];rfl
     .rw[decide_eq_false e4];walk_at "w"
      exact ej (q h1 kp1) (by rw[decide_eq_false e4];simp)
    .rw[decide_eq_false e3];walk_at "w"
     exact ej (q h1 kp1) (by rw[decide_eq_false e3];simp)
end
section
def aV(st:Sd):Tr:=⟨st,λ_=>none,λ_=>none,none⟩
theorem GJ{k a:Nat}{st:Sd}{h0 h:AH}{R:AV->AH->Prop}(kp:Kp h0 h)(ha:h0.nx<=a)(hx:h.nx=a+1)(oa:h.ob a=some (.ins 2 []))(q:∀h',Kp h0 h'->Tc 0 a h' (aV st)->R .aB h'):Wp (run pg (k+1) CZ [.ref a,sV st]) h R:=by
 refine bF rfl rfl ?_;unfold Iu;walk_at "w"
 refine⟨a,2,[],rfl,oa,rfl,by decide,?_⟩;have o1:(h.put a (.ins 2 (cH "state" (sV st) []))).ob a=some (.ins 2 [("state",sV st)]):=fG;have k1:Kp h0 (h.put a (.ins 2 (cH "state" (sV st) []))):=kp.put ha;have n1:(h.put a (.ins 2 (cH "state" (sV st) []))).nx=a+1:=hx;generalize h.put a (.ins 2 (cH "state" (sV st) []))=h1 at o1 k1 n1 ⊢;walk_at "w"
 have o2:(h1.new (.aO [])).ob a=some (.ins 2 [("state",sV st)]):=(dE (by walk_at "om")).trans o1;have d2:(h1.new (.aO [])).ob (a+1)=some (.aO []):=by rw[<- n1];exact aU
 have k2:Kp h0 (h1.new (.aO [])):=k1.new;have n2:(h1.new (.aO [])).nx=a+2:=by show h1.nx+1=_;walk_at "om"
 generalize h1.new (.aO [])=h2 at o2 d2 k2 n2 ⊢;rw[n1];refine⟨a,2,_,rfl,o2,rfl,by simp,?_⟩;have o3:(h2.put a (.ins 2 (cH "fillers" (.ref (a+1)) [("state",sV st)]))).ob a=some (.ins 2 [("state",sV st),("fillers",.ref (a+1))]):=fG;have d3:(h2.put a (.ins 2 (cH "fillers" (.ref (a+1)) [("state",sV st)]))).ob (a+1)=some (.aO []):=(bW (by walk_at "om")).trans d2;have k3:Kp h0 (h2.put a (.ins 2 (cH "fillers" (.ref (a+1)) [("state",sV st)]))):=k2.put ha;have n3:(h2.put a (.ins 2 (cH "fillers" (.ref (a+1)) [("state",sV st)]))).nx=a+2:=n2;generalize h2.put a (.ins 2 (cH "fillers" (.ref (a+1)) [("state",sV st)]))=h3 at o3 d3 k3 n3 ⊢;walk_at "w"
 have o4:(h3.new (.aO [])).ob a=some (.ins 2 [("state",sV st),("fillers",.ref (a+1))]):=(dE (by walk_at "om")).trans o3;have d4:(h3.new (.aO [])).ob (a+1)=some (.aO []):=(dE (by walk_at "om")).trans d3;have e4:(h3.new (.aO [])).ob (a+2)=some (.aO []):=by rw[<- n3];exact aU
 have k4:Kp h0 (h3.new (.aO [])):=k3.new;have n4:(h3.new (.aO [])).nx=a+3:=by show h3.nx+1=_;walk_at "om"
 generalize h3.new (.aO [])=h4 at o4 d4 e4 k4 n4 ⊢;rw[n3];refine⟨a,2,_,rfl,o4,rfl,by simp,?_⟩;have o5:(h4.put a (.ins 2 (cH "storers" (.ref (a+2)) [("state",sV st),("fillers",.ref (a+1))]))).ob a=some (.ins 2 [("state",sV st),("fillers",.ref (a+1)),("storers",.ref (a+2))]):=fG;have d5:(h4.put a (.ins 2 (cH "storers" (.ref (a+2)) [("state",sV st),("fillers",.ref (a+1))]))).ob (a+1)=some (.aO []):=(bW (by walk_at "om")).trans d4;have e5:(h4.put a (.ins 2 (cH "storers" (.ref (a+2)) [("state",sV st),("fillers",.ref (a+1))]))).ob (a+2)=some (.aO []):=(bW (by walk_at "om")).trans e4;have k5:Kp h0 (h4.put a (.ins 2 (cH "storers" (.ref (a+2)) [("state",sV st),("fillers",.ref (a+1))]))):=k4.put ha;have n5:(h4.put a (.ins 2 (cH "storers" (.ref (a+2)) [("state",sV st),("fillers",.ref (a+1))]))).nx=a+3:=n4;generalize h4.put a (.ins 2 (cH "storers" (.ref (a+2)) [("state",sV st),("fillers",.ref (a+1))]))=h5 at o5 d5 e5 k5 n5 ⊢;walk_at "w"
 refine⟨a,2,_,rfl,o5,rfl,by simp,?_⟩;walk_at "w"
 exact q _ (k5.put ha) ⟨fG,⟨[],(bW (by walk_at "om")).trans d5,λ_=>rfl,Nat.zero_le _⟩,⟨[],(bW (by walk_at "om")).trans e5,λ_=>rfl,Nat.zero_le _⟩,by show a+2<h5.nx;walk_at "om"⟩
end
section
def gC(rs:List aC)(s:Sd):Sd:=match rs[s.a]? with
 |none=>s
 |some r=>match dD r s with
  |none=>cU r s
  |some _=>s
def Tr.fO(rs:List aC)(t:Tr)(x:Sl):Tr:=⟨gC rs t.st,λb=>if x.dd.b=some b then some x else t.fi b,λp=>if x.dd.b=none/\x.dd.p=some p then some x.tk else t.so p,some x⟩
theorem Xq{k:Nat}{r:aC}{s:Sd}{f:AV}{h:AH}{R:AV->AH->Prop}(hf:dD r s=some f)(q:R (sV s) h):Wp (run pg (k+1) gb [sV s,bE r s]) h R:=by
 rw[Bb hf];refine bF rfl rfl ?_;unfold Ad;walk_at "w"
 rw[Br hf];walk_at "w"
 exact q
theorem Xr{k:Nat}{rs:List aC}{r:aC}{s:Sd}{h:AH}{R:AV->AH->Prop}(ok:eN s)(hi:rs[s.a]?=some r)(hr:dP r)(q:R (sV (gC rs s)) h):Wp (run pg (k+2) gb [sV s,bE r s]) h R:=by
 unfold gC at q;rw[hi]at q;cases hf:dD r s with
 |none=>simp only[hf]at q;exact Xs ok hr hf q|some f=>simp only[hf]at q;exact Xq hf q
def dI:aP->Nat->aP
 |r,0=>r
 |.cons _ r,n+1=>dI r n
 |.nil,_=>.nil
def Bk:aP:=dI oy 2
theorem Bl{k a c:Nat}{t t':Tr}{x:Sl}{h0 h:AH}{R:AV->AH->Prop}{N B C:aE->AH->Prop}(kp:Kp h0 h)(ha:h0.nx<=a)
  (oa:h.ob a=some (.ins 2 [("state",sV t.st),("fillers",.ref (a+1)),("storers",.ref (a+2)),("latest",dF t.la)]))
  (fk:∃kvs,h.ob (a+1)=some (.aO kvs)/\(∀b,bC kvs (.inl b)=(t'.fi b).map Sl.av)/\kvs.length<=c)
  (sk:∃kvs,h.ob (a+2)=some (.aO kvs)/\(∀b,bC kvs (.inl b)=(t'.so b).map AV.int)/\kvs.length<=c)
  (lt:a+2<h.nx) (la:t'.la=some x) (beh:∀R':AV->AH->Prop,R' (sV t'.st) h->Wp (run pg (k+2) gb [sV t.st,x.dd.av]) h R')
  (q:∀U h',Kp h0 h'->Tc c a h' t'->N U h') :
  Wt (λ_ _=>False) (cD (run pg (k+2)) Bk [some (.ref a),some x.av,some x.dd.av]) h N R B C:=by
 dsimp only[Bk,dI,oy];walk_at "w"
 refine beh _ ?_;walk_at "w"
 refine⟨a,2,_,rfl,oa,rfl,by simp,?_⟩;obtain⟨f1,f2,f3,f4⟩:=fk;obtain⟨s1,s2,s3,s4⟩:=sk;have o1:(h.put a (.ins 2 (cH "state" (sV t'.st) [("state",sV t.st),("fillers",.ref (a+1)),("storers",.ref (a+2)),("latest",dF t.la)]))).ob a=some (.ins 2 [("state",sV t'.st),("fillers",.ref (a+1)),("storers",.ref (a+2)),("latest",dF t.la)]):=fG;have k1:Kp h0 (h.put a (.ins 2 (cH "state" (sV t'.st) [("state",sV t.st),("fillers",.ref (a+1)),("storers",.ref (a+2)),("latest",dF t.la)]))):=kp.put ha;have d1:=(bW (h:=h) (n:=a) (o:=.ins 2 (cH "state" (sV t'.st) [("state",sV t.st),("fillers",.ref (a+1)),("storers",.ref (a+2)),("latest",dF t.la)])) (k:=a+1) (by walk_at "om")).trans f2;have e1:=(bW (h:=h) (n:=a) (o:=.ins 2 (cH "state" (sV t'.st) [("state",sV t.st),("fillers",.ref (a+1)),("storers",.ref (a+2)),("latest",dF t.la)])) (k:=a+2) (by walk_at "om")).trans s2;have n1:a+2<(h.put a (.ins 2 (cH "state" (sV t'.st) [("state",sV t.st),("fillers",.ref (a+1)),("storers",.ref (a+2)),("latest",dF t.la)]))).nx:=lt;generalize h.put a (.ins 2 (cH "state" (sV t'.st) [("state",sV t.st),("fillers",.ref (a+1)),("storers",.ref (a+2)),("latest",dF t.la)]))=h1 at o1 k1 d1 e1 n1 ⊢;walk_at "w"
 refine⟨a,2,_,rfl,o1,rfl,by simp,?_⟩;walk_at "w"
 refine q _ _ (k1.put ha) ⟨?_,⟨f1,(bW (by walk_at "om")).trans d1,f3,f4⟩,⟨s1,(bW (by walk_at "om")).trans e1,s3,s4⟩,n1⟩;rw[la];exact fG
local macro_rules | `(tactic| walk_at "am1")=>`(tactic| with_reducible refine Wf ?_)
theorem EX{k a c:Nat}{rs:List aC}{t:Tr}{x:Sl}{r:aC}{h0 h:AH}{R:AV->AH->Prop}(kp:Kp h0 h)(ha:h0.nx<=a)(hc:c<1000)(s:Tc c a h t)(ok:eN t.st)(hi:rs[t.st.a]?=some r)(hr:dP r)(hd:x.dd=dU (bE r t.st))
  (q:∀h',Kp h0 h'->Tc (c+1) a h' (t.fO rs x)->R .aB h'):Wp (run pg (k+3) DA [.ref a,x.av]) h R:=by
 have big:=eU;have oa:=s.oa;have lt:=s.lt;obtain⟨fv,of,ff,fl⟩:=s.fk;obtain⟨sv,os,sf,sl⟩:=s.sk;have hav:x.dd.av=bE r t.st:=by rw[hd,zb]
 have beh:∀h1,∀R':AV->AH->Prop,R' (sV (t.fO rs x).st) h1->Wp (run pg (k+2) gb [sV t.st,x.dd.av]) h1 R':=λh1 R' z=>by rw[hav];exact Xr (k:=k) (rs:=rs) ok hi hr z
 refine bF rfl rfl ?_;have eb:oy = .cons (.asg (.nm 2) (.op .ix (.var 1) (.val (.int 4)))) (.cons (.ite (.cmp .isn (.op .ix (.var 2) (.val (.int 1))) (.val .aB))
  (.cons (.asg (.sub (.fld [2] "fillers" (.var 0)) (.op .ix (.var 2) (.val (.int 1)))) (.var 1)) .nil)
  (.cons (.ite (.cmp .isn (.op .ix (.var 2) (.val (.int 2))) (.val .aB))
  (.cons (.asg (.sub (.fld [2] "storers" (.var 0)) (.op .ix (.var 2) (.val (.int 2)))) (.op .ix (.var 1) (.val (.int 0)))) .nil)
  .nil) .nil)) Bk):=rfl
 rw[eb];unfold Sl.av;walk_at "w"
 cases hb:x.dd.b with
 |some b=>
  walk_at "w"
  refine⟨a+1,fv,.inl b,rfl,by rw[hb];rfl,of,by walk_at "om",?_⟩;walk_at "w"
  refine Bl (k:=k) (t:=t) (t':=t.fO rs x) (x:=x) (c:=c+1) (kp.put (by walk_at "om")) ha ((bW (by walk_at "om")).trans oa) ⟨_,fG,λb'=>?_,Nat.le_trans iq (by walk_at "om")⟩ ⟨_,(bW (by walk_at "om")).trans os,λb'=>?_,by walk_at "om"⟩ lt rfl (beh _) λU h' k' tc=>q h' k' tc
  .rw[mz,ff];show _=(if x.dd.b=some b' then some x else t.fi b').map Sl.av;rw[hb];by_cases e:b=b'
   .subst e;rw[if_pos rfl,if_pos rfl];rfl
   .rw[if_neg (λz=>e (Sum.inl.inj z)),if_neg (λz=>e (Option.some.inj z))]
  .rw[sf];show _=(if x.dd.b=none/\x.dd.p=some b' then some x.tk else t.so b').map AV.int;rw[if_neg (λz=>by rw[hb]at z;cases z.1)]
 |none=>
  walk_at "w"
  cases hp:x.dd.p with
  |some p=>
   walk_at "w"
   refine⟨a+2,sv,.inl p,rfl,by rw[hp];rfl,os,by walk_at "om",?_⟩;walk_at "w"
   refine Bl (k:=k) (t:=t) (t':=t.fO rs x) (x:=x) (c:=c+1) (kp.put (by walk_at "om")) ha ((bW (by walk_at "om")).trans oa) ⟨_,(bW (by walk_at "om")).trans of,λb'=>?_,by walk_at "om"⟩ ⟨_,fG,λb'=>?_,Nat.le_trans iq (by walk_at "om")⟩ lt rfl (beh _) λU h' k' tc=>q h' k' tc
   .rw[ff];show _=(if x.dd.b=some b' then some x else t.fi b').map Sl.av;rw[if_neg (λz=>by rw[hb]at z;cases z)]
   .rw[mz,sf];show _=(if x.dd.b=none/\x.dd.p=some b' then some x.tk else t.so b').map AV.int;rw[hb,hp];by_cases e:p=b'
    .subst e;rw[if_pos rfl,if_pos ⟨rfl,rfl⟩];rfl
    .rw[if_neg (λz=>e (Sum.inl.inj z)),if_neg (λz=>e (Option.some.inj z.2))]
  |none=>
   walk_at "w"
   refine Bl (k:=k) (t:=t) (t':=t.fO rs x) (x:=x) (c:=c+1) kp ha oa ⟨_,of,λb'=>?_,by walk_at "om"⟩ ⟨_,os,λb'=>?_,by walk_at "om"⟩ lt rfl (beh _) λU h' k' tc=>q h' k' tc
   .rw[ff];show _=(if x.dd.b=some b' then some x else t.fi b').map Sl.av;rw[if_neg (λz=>by rw[hb]at z;cases z)]
   .rw[sf];show _=(if x.dd.b=none/\x.dd.p=some b' then some x.tk else t.so b').map AV.int;rw[if_neg (λz=>by rw[hp]at z;cases z.2)]
end
section
def aX(rs:List aC)(t:Tr)(xs:List Sl):Tr:=xs.foldl (Tr.fO rs) t
def cX(rs:List aC):Tr->List Sl->Bool
 |_,[]=>true
 |t,x::xs=>bT rs t x&&cX rs (t.fO rs x) xs
def eX(rs:List aC):Tr->List Sl->Option Nat
 |_,[]=>none
 |t,x::xs=>if bT rs t x=true then(eX rs (t.fO rs x) xs).map (·+1) else some 0
theorem my{rs:List aC}{t:Tr}{xs:List Sl}{x:Sl}:aX rs t (xs++[x])=(aX rs t xs).fO rs x:=by simp[aX]
theorem fg{rs:List aC}:∀{xs ys:List Sl} {t:Tr},cX rs t (xs++ys)=(cX rs t xs&&cX rs (aX rs t xs) ys)
 |[],ys,t=>rfl|x::xs,ys,t=>by rw[List.cons_append,cX,cX,fg (xs:=xs),Bool.and_assoc];rfl
theorem Aa{rs:List aC}{xs:List Sl}{t:Tr}{n:Nat}(h:cX rs t xs=true):cX rs t (xs.take n)=true:=by rw[<- List.take_append_drop n xs,fg,Bool.and_eq_true]at h;exact h.1
theorem nG{α:Type}{xs:List α}{n:Nat}{x:α}(h:xs[n]?=some x):xs.take (n+1)=xs.take n++[x]:=by rw[List.take_add_one,h];rfl
theorem mZ{rs:List aC}{xs:List Sl}{t:Tr}{n:Nat}{x:Sl}(h:cX rs t xs=true)(hx:xs[n]?=some x):bT rs (aX rs t (xs.take n)) x=true:=by have:=Aa (n:=n+1) h;rw[nG hx,fg,Bool.and_eq_true,cX,Bool.and_eq_true]at this;exact this.2.1
theorem Hx{rs:List aC}:∀{xs ys:List Sl} {t:Tr},cX rs t xs=true->eX rs t (xs++ys)=(eX rs (aX rs t xs) ys).map (·+xs.length)
 |[],ys,t,_=>by show eX rs t ys=(eX rs t ys).map (·+0);cases eX rs t ys<;>rfl
 |x::xs,ys,t,h=>by
  rw[cX,Bool.and_eq_true]at h;rw[List.cons_append,eX,if_pos h.1,Hx h.2];show((eX rs (aX rs (t.fO rs x) xs) ys).map _).map _=_;rw[Option.map_map];show _=(eX rs (aX rs (t.fO rs x) xs) ys).map _;cases eX rs (aX rs (t.fO rs x) xs) ys with
  |none=>rfl|some i=>simp[Nat.add_assoc]
theorem Hz{rs:List aC}{xs:List Sl}{t:Tr}(h:cX rs t xs=true):eX rs t xs=none:=by have:=Hx (ys:=[]) h;rw[List.append_nil]at this;rw[this];rfl
theorem Hy{rs:List aC}{xs ys:List Sl}{x:Sl}{t:Tr}(h:cX rs t xs=true)(hb:bT rs (aX rs t xs) x=false):eX rs t (xs++x::ys)=some xs.length:=by rw[Hx h,eX,if_neg (by rw[hb];exact Bool.false_ne_true)];simp
def rT(rs:List aC)(st:Sd)(xs ys:List Sl)(due:Nat):Prop:=due<=xs.length/\∃bad rest,ys=xs.take due++bad::rest/\bT rs (aX rs (aV st) (xs.take due)) bad=false/\rest.length<=xs.length
theorem rT.all{rs:List aC}{st:Sd}{xs ys:List Sl}{due:Nat}(h:rT rs st xs ys due)(ha:cX rs (aV st) xs=true):eX rs (aV st) ys=some due/\eX rs (aV st) (ys.take (due+1))=some due/\eX rs (aV st) (ys.take due)=none/\due<ys.length/\ys.length<=2*xs.length+1:=by
 obtain⟨hl,bad,rest,rfl,hb,hr⟩:=h;have ht:=Aa (n:=due) ha;have el:(xs.take due).length=due:=by rw[List.length_take];walk_at "om"
 refine⟨by rw[Hy ht hb,el],?_,?_,?_,?_⟩
 .have:(xs.take due++bad::rest).take (due+1)=xs.take due++[bad]:=by rw[List.take_append,el,List.take_of_length_le (by walk_at "om")];simp
  rw[this,Hy ht hb,el]
 .have:(xs.take due++bad::rest).take due=xs.take due:=by rw[List.take_append,el,List.take_of_length_le (by walk_at "om")];simp
  rw[this,Hz ht]
 .rw[List.length_append,el,List.length_cons];walk_at "om"
 .rw[List.length_append,el,List.length_cons];walk_at "om"
theorem dH{rs:List aC}{t:Tr}{x:Sl}(h:bT rs t x=true):∃r,rs[t.st.a]?=some r/\x.pc=t.st.a/\nC t.la x=true/\vJ x.tm=true/\x.dd=dU (bE r t.st)/\x.gv=fZ t x.dd/\lL t x r.want=true:=by
 unfold bT at h;cases e:rs[t.st.a]? with
 |none=>rw[e]at h;cases h|some r=>rw[e]at h;simp only[Bool.and_eq_true,decide_eq_true_eq]at h;exact⟨r,rfl,h.1,h.2.1,h.2.2.1,h.2.2.2.1,h.2.2.2.2.1,h.2.2.2.2.2⟩
theorem ig{t:Tr}{x:Sl}{ws:List Int}(h:lL t x ws=true):x.nm=ws.map (λb=>(t.fi b).map (·.tk))/\∀b∈ws,∀l,t.fi b=some l->l.tm.f<=x.tm.s:=by unfold lL at h;rw[Bool.and_eq_true,decide_eq_true_eq,List.all_eq_true]at h;refine⟨h.1,λb hb l e=>?_⟩;have:=h.2 b hb;rw[e]at this;exact of_decide_eq_true this
theorem iS{rs:List aC}{t:Tr}{x:Sl}(h:bT rs t x=true->False):bT rs t x=false:=by
 cases e:bT rs t x with
 |false=>rfl|true=>exact(h e).elim
theorem Kl{rs:List aC}{t:Tr}{x l:Sl}(la:t.la=some l)(h:x.tk<=l.tk):bT rs t x=false:=iS λz=>by obtain⟨r,-,-,h2,-⟩:=dH z;rw[la]at h2;have:=of_decide_eq_true (show decide (_/\_)=true from h2);walk_at "om"
theorem pf{rs:List aC}{t:Tr}{x:Sl}(h:x.pc≠t.st.a):bT rs t x=false:=iS λz=>by obtain⟨r,-,h1,-⟩:=dH z;exact h h1
theorem Xn{rs:List aC}{t:Tr}{x l:Sl}(la:t.la=some l)(h:l.dd.ft≠none):bT rs t x=false:=iS λz=>by obtain⟨r,-,-,h2,-⟩:=dH z;rw[la]at h2;have:=of_decide_eq_true (show decide (_/\_)=true from h2);exact h this.1
theorem Kj{rs:List aC}{t:Tr}{x y:Sl}(hy:bT rs t y=true)(h:x.nm≠y.nm):bT rs t x=false:=iS λz=>by obtain⟨r,e1,-,-,-,-,-,h1⟩:=dH z;obtain⟨r',e2,-,-,-,-,-,h2⟩:=dH hy;rw[e1]at e2;cases e2;exact h ((ig h1).1.trans (ig h2).1.symm)
theorem Xm{rs:List aC}{t:Tr}{x y:Sl}(hy:bT rs t y=true)(h:x.dd≠y.dd):bT rs t x=false:=iS λz=>by obtain⟨r,e1,-,-,-,h1,-⟩:=dH z;obtain⟨r',e2,-,-,-,h2,-⟩:=dH hy;rw[e1]at e2;cases e2;exact h (h1.trans h2.symm)
theorem Ki{rs:List aC}{t:Tr}{x y:Sl}(hy:bT rs t y=true)(hd:x.dd=y.dd)(h:x.gv≠y.gv):bT rs t x=false:=iS λz=>by obtain⟨r,-,-,-,-,-,h1,-⟩:=dH z;obtain⟨r',-,-,-,-,-,h2,-⟩:=dH hy;rw[hd]at h1;exact h (h1.trans h2.symm)
theorem fj{rs:List aC}{t:Tr}{x:Sl}(h:¬(x.tm.p<x.tm.s/\x.tm.s<x.tm.f/\x.tm.f<x.tm.o)):bT rs t x=false:=iS λz=>by obtain⟨r,-,-,-,h1,-⟩:=dH z;exact h (of_decide_eq_true h1)
theorem Kk{rs:List aC}{t:Tr}{x l:Sl}(la:t.la=some l)(h:x.tm.p<l.tm.p\/x.tm.o<l.tm.o):bT rs t x=false:=iS λz=>by obtain⟨r,-,-,h2,-⟩:=dH z;rw[la]at h2;have:=of_decide_eq_true (show decide (_/\_)=true from h2);walk_at "om"
theorem Xo{rs:List aC}{t:Tr}{x:Sl}(la:t.la=none)(h:x.tm.p<1):bT rs t x=false:=iS λz=>by obtain⟨r,-,-,h2,-⟩:=dH z;rw[la]at h2;have:=of_decide_eq_true (show decide (_/\_)=true from h2);walk_at "om"
theorem yy{rs:List aC}{xs:List Sl}{t:Tr}{n:Nat}{x:Sl}(hx:xs[n]?=some x):(aX rs t (xs.take (n+1))).la=some x:=by rw[nG hx,my];rfl
theorem Vv{rs:List aC}:∀{xs:List Sl} {t:Tr} {b:Int} {l:Sl},(aX rs t xs).fi b=some l->l∈xs\/t.fi b=some l
 |[],t,b,l,h=>.inr h
 |x::xs,t,b,l,h=>by
  rcases Vv (xs:=xs) (t:=t.fO rs x) h with e|e
  .exact .inl (List.mem_cons_of_mem _ e)
  .have e:(if x.dd.b=some b then some x else t.fi b)=some l:=e;split at e
   .cases e;exact .inl (List.mem_cons_self ..)
   .exact .inr e
theorem Vw{rs:List aC}{xs:List Sl}{st:Sd}{b:Int}{l:Sl}(h:(aX rs (aV st) xs).fi b=some l):l∈xs:=by
 rcases Vv h with e|e
 .exact e
 .cases e
def iT(rs:List aC):Nat->Sd->Sd
 |0,s=>s
 |n+1,s=>iT rs n (gC rs s)
theorem Hk{rs:List aC}:∀{xs:List Sl} {t:Tr},(aX rs t xs).st=iT rs xs.length t.st
 |[],t=>rfl|x::xs,t=>Hk (xs:=xs) (t:=t.fO rs x)
theorem yv{rs:List aC}:∀{xs:List Sl} {t:Tr},cX rs t xs=true->(∀l,t.la=some l->∀x∈xs,l.tk<x.tk)/\(t.la=none->∀x∈xs,0<=x.tk)/\xs.Pairwise (λx y=>x.tk<y.tk)
 |[],t,_=>⟨λ_ _ _ h=>(by cases h),λ_ _ h=>(by cases h),List.Pairwise.nil⟩
 |x::xs,t,h=>by
  rw[cX,Bool.and_eq_true]at h;obtain⟨h1,h2,h3⟩:=yv h.2;have h1:=h1 x rfl;obtain⟨r,-,-,hs,-⟩:=dH h.1;refine⟨λl la y hy=>?_,λla y hy=>?_,List.Pairwise.cons (λy hy=>h1 y hy) h3⟩
  .rw[la]at hs;have:=(of_decide_eq_true (show decide (_/\_)=true from hs)).2.1;rcases List.mem_cons.mp hy with rfl|hy
   .exact this
   .exact Int.lt_trans this (h1 y hy)
  .rw[la]at hs;have:=(of_decide_eq_true (show decide (_/\_)=true from hs)).1;rcases List.mem_cons.mp hy with rfl|hy
   .exact this
   .have:=h1 y hy;walk_at "om"
theorem Vr{xs:List Sl}(hp:xs.Pairwise (λx y=>x.tk<y.tk)){x y:Sl}(hx:x∈xs)(hy:y∈xs)(e:x.tk=y.tk):x=y:=by
 induction xs with
 |nil=>cases hx|cons z zs ih=>
  rw[List.pairwise_cons]at hp;rcases List.mem_cons.mp hx with h1|h1<;>rcases List.mem_cons.mp hy with h2|h2
  .rw[h1,h2]
  .have:=hp.1 y h2;rw[h1]at e;walk_at "om"
  .have:=hp.1 x h1;rw[h2]at e;walk_at "om"
  .exact ih hp.2 h1 h2
end
section
def oN:Option Nat->AV
 |none=>.aB
 |some i=>.int (i:Int)
theorem JG{rs:List aC}{s:Sd}(hr:∀r∈rs,dP r)(ok:eN s):eN (gC rs s):=by
 unfold gC;cases e:rs[s.a]? with
 |none=>exact ok|some r=>
  dsimp only;cases hf:dD r s with
  |none=>exact ok.nx (hr r (List.mem_of_getElem? e)) hf|some f=>exact ok
theorem nv{k np ns:Nat}{bb b2:Bool}{rs:List aC}{st:Sd}{xs:List Sl}{h:AH}{R:AV->AH->Prop}(hp:h.ob np=some (.lst bb (rs.map aC.av)))(hn:np<h.nx)(hs:h.ob ns=some (.lst b2 (xs.map Sl.av)))(hm:ns<h.nx)
  (hr:∀r∈rs,dP r) (ok:eN st) (hx:xs.length<1000) (q:∀h',Kp h h'->R (oN (eX rs (aV st) xs)) h'):Wp (run pg (k+8) Ni [.ref np,sV st,.ref ns]) h R:=by
 refine bF rfl rfl ?_;unfold Kh;walk_at "w"
 refine GJ (k:=k+6) (st:=st) (h0:=h) Kp.refl.new (Nat.le_refl _) rfl aU λh1 kp1 tc1=>⟨rfl,?_⟩;walk_at "w"
 refine⟨ns,b2,_,rfl,kp1.get hm hs,?_⟩;refine Bo (bb:=b2) (xs:=xs.map Sl.av) (λi U h'=>Kp h h'/\Tc i h.nx h' (aX rs (aV st) (xs.take i))/\eN (aX rs (aV st) (xs.take i)).st/\cX rs (aV st) (xs.take i)=true/\∃v4 v5,U=[some (.ref np),some (sV st),some (.ref ns),some (.ref h.nx),v4,v5])
  (by rw[List.length_map,eY];walk_at "om") ⟨kp1,tc1,ok,rfl,_,_,rfl⟩ (λi U h' z=>z.1.get hm hs) (λi x U h' hi hI=>?_) (λU h' hI=>?_)
 .obtain⟨kp,tc,sk,al,v4,v5,ee⟩:=hI;subst ee;obtain⟨y,hy,rfl⟩:=tJ hi;have hlt:=(List.getElem?_eq_some_iff.mp hy).1;walk_at "w"
  refine GU (k:=k) (t:=aX rs (aV st) (xs.take i)) (c:=i) (kp.get hn hp) (Nat.lt_of_lt_of_le hn kp.nx) hr sk tc λh2 kp2=>?_;cases e:bT rs (aX rs (aV st) (xs.take i)) y with
  |false=>
   walk_at "w"
   have:eX rs (aV st) xs=some i:=by
    have e2:xs=xs.take i++y::xs.drop (i+1):=by rw[<- List.singleton_append,<- List.append_assoc,<- nG hy,List.take_append_drop]
    have e3:=Hy (ys:=xs.drop (i+1)) al e;rw[<- e2,List.length_take,Nat.min_eq_left (by walk_at "om")]at e3;exact e3
   have q:=q h2 (kp.trans kp2);rw[this]at q;exact q
  |true=>
   walk_at "w"
   obtain⟨r,e1,-,-,-,e2,-⟩:=dH e;have tc2:=tc.kp kp2;refine⟨h.nx,2,_,_,rfl,tc2.oa,rfl,rfl,?_⟩;walk_at "w"
   refine EX (k:=k+4) (rs:=rs) (c:=i) (t:=aX rs (aV st) (xs.take i)) (r:=r) (kp.trans kp2) (Nat.le_refl _) (by walk_at "om") tc2 sk e1 (hr r (List.mem_of_getElem? e1)) e2 λh3 kp3 tc3=>?_;rw[<- my,<- nG hy]at tc3;refine⟨kp3,tc3,?_,?_,_,_,rfl⟩
   .rw[nG hy,my];exact JG hr sk
   .rw[nG hy,fg,al,cX,e];rfl
 .obtain⟨kp,tc,sk,al,v4,v5,ee⟩:=hI;subst ee;rw[List.length_map,List.take_length]at al;walk_at "w"
  have q:=q h' kp;rw[Hz al]at q;exact q
end
section
local macro_rules | `(tactic| walk_at "user0")=>`(tactic| first
 | ((with_reducible refine' gk ?k1 ?_);(case k1=>first|exact qK _|exact tP _|exact tO _|exact tN _|exact tM _|exact tL _|exact tK _|assumption)))
theorem Pw{k:Nat}{r:aC}{h:AH}{R:AV->AH->Prop}(q:R (.ref h.nx) (h.new (.lst true (r.want.map .int)))):Wp (run pg (k+1) ED [r.av]) h R:=by
 refine bF rfl rfl ?_;unfold Jq;cases r with
 |way w x y z=>
  dsimp only[aC.av,aC.want,List.map]at q ⊢;walk_at "w"
  exact q
 |_=>dsimp only[aC.av,aC.want,List.map]at q ⊢;walk_at "w";exact q
theorem Pd(r:aC):∃(kd:PySem.Str) (tl:List AV),r.av = .tup (.str kd::tl)/\(kd="load"↔∃x y s,r = .load x y s):=by
 cases r with
 |way w x y z=>exact⟨_,_,rfl,⟨λe=>absurd e (qK w),λ⟨_,_,_,e⟩=>by cases e⟩⟩|load x y s=>exact⟨_,_,rfl,⟨λ_=>⟨_,_,_,rfl⟩,λ_=>rfl⟩⟩|_=>exact⟨_,_,rfl,⟨λe=>absurd e (by decide),λ⟨_,_,_,e⟩=>by cases e⟩⟩
theorem Lx{r:aC}{s:Sd}:(dU (bE r s)).a=s.a:=by
 unfold bE aC.cF;cases r.ft (cM s.bs r) s.mem.length with
 |some f=>rfl|none=>rfl
theorem Zi{r:aC}{s:Sd}(hf:dD r s=none):(dU (bE r s)).ft=none:=by unfold dD at hf;unfold bE aC.cF;rw[hf];rfl
theorem FO{r:aC}{t:Tr}(h:¬ ∃x y s,r = .load x y s):fZ t (dU (bE r t.st))=none:=by
 unfold bE aC.cF;cases r.ft (cM t.st.bs r) t.st.mem.length with
 |some f=>rfl|none=>
  dsimp only[dU];unfold fZ;cases r with
  |load x y s=>exact absurd ⟨_,_,_,rfl⟩ h|_=>rfl
theorem FL{t:Tr}{x y s:Int}:(dU (bE (.load x y s) t.st)).b=none/\(dU (bE (.load x y s) t.st)).p=none\/∃b p,(dU (bE (.load x y s) t.st)).b=some b/\(dU (bE (.load x y s) t.st)).p=some p:=by
 unfold bE aC.cF;cases(aC.load x y s).ft (cM t.st.bs (.load x y s)) t.st.mem.length with
 |some f=>exact .inl ⟨rfl,rfl⟩|none=>exact .inr ⟨_,_,rfl,rfl⟩
theorem Hi{rs:List aC}:∀{i m:Nat} {s:Sd} {d:AV×Sd},(tr rs m s)[i]?=some d->∃r,rs[(iT rs i s).a]?=some r/\d.1=bE r (iT rs i s)/\∀j,i=j+1->∃r,rs[(iT rs j s).a]?=some r/\dD r (iT rs j s)=none
 |i,0,s,d,h=>by simp[tr]at h
 |i,m+1,s,d,h=>by
  cases e:rs[s.a]? with
  |none=>rw[Vu e]at h;simp at h|some r=>
   cases hf:dD r s with
   |some f=>
    rw[Vs e hf]at h;cases i with
    |zero=>simp at h;subst h;exact⟨r,e,rfl,λj hj=>by walk_at "om"⟩|succ i=>simp at h
   |none=>
    rw[Vt e hf]at h;cases i with
    |zero=>simp at h;subst h;exact⟨r,e,rfl,λj hj=>by walk_at "om"⟩|succ i=>
     have e1:gC rs s=cU r s:=by unfold gC;rw[e];dsimp only;rw[hf]
     rw[List.getElem?_cons_succ]at h;obtain⟨r',h1,h2,h3⟩:=Hi h;refine⟨r',by rw[iT,e1];exact h1,by rw[iT,e1];exact h2,λj hj=>?_⟩;cases j with
     |zero=>exact⟨r,e,hf⟩|succ j=>obtain⟨r2,h4,h5⟩:=h3 j (by walk_at "om");exact⟨r2,by rw[iT,e1];exact h4,by rw[iT,e1];exact h5⟩
theorem VU{rs:List aC}{t:Tr}{x:Sl}{r:aC}(hi:rs[t.st.a]?=some r)(h1:x.pc=t.st.a)(h2:nC t.la x=true)(h3:x.tm.p<x.tm.s/\x.tm.s<x.tm.f/\x.tm.f<x.tm.o)(h4:x.dd=dU (bE r t.st))(h5:x.gv=fZ t x.dd)
  (h6:x.nm=r.want.map λb=>(t.fi b).map (·.tk)) (h7:∀b∈r.want,∀l,t.fi b=some l->l.tm.f<=x.tm.s):bT rs t x=true:=by
 unfold bT;rw[hi];dsimp only;have h8:lL t x r.want=true:=by
  unfold lL;rw[decide_eq_true h6,Bool.true_and,List.all_eq_true];intro b hb;cases e:t.fi b with
  |none=>rfl|some l=>exact decide_eq_true (h7 b hb l e)
 rw[decide_eq_true h1,h2,show vJ x.tm=true from decide_eq_true h3,decide_eq_true h4,decide_eq_true h5,h8];rfl
structure Hs(h0 h:AH)(S A B C:dG):Prop where
 kp:Kp h0 h
 lt:h0.nx+3<h.nx
 o0:h.ob h0.nx=some S
 o1:h.ob (h0.nx+1)=some A
 o2:h.ob (h0.nx+2)=some B
 o3:h.ob (h0.nx+3)=some C
section
variable {h0 h h':AH}{S A B C O:dG}
theorem Hs.go(s:Hs h0 h S A B C)(k:Kp h h'):Hs h0 h' S A B C:=by have lt:=s.lt;exact⟨s.kp.trans k,Nat.lt_of_lt_of_le lt k.nx,k.get (by walk_at "om") s.o0,k.get (by walk_at "om") s.o1,k.get (by walk_at "om") s.o2,k.get (by walk_at "om") s.o3⟩
theorem Hs.new(s:Hs h0 h S A B C):Hs h0 (h.new O) S A B C:=s.go Kp.refl.new
theorem Hs.p0(s:Hs h0 h S A B C):Hs h0 (h.put h0.nx O) O A B C:=⟨s.kp.put (Nat.le_refl _),s.lt,fG,(bW (by walk_at "om")).trans s.o1,(bW (by walk_at "om")).trans s.o2,(bW (by walk_at "om")).trans s.o3⟩
theorem Hs.p1(s:Hs h0 h S A B C):Hs h0 (h.put (h0.nx+1) O) S O B C:=⟨s.kp.put (by walk_at "om"),s.lt,(bW (by walk_at "om")).trans s.o0,fG,(bW (by walk_at "om")).trans s.o2,(bW (by walk_at "om")).trans s.o3⟩
theorem Hs.p2(s:Hs h0 h S A B C):Hs h0 (h.put (h0.nx+2) O) S A O C:=⟨s.kp.put (by walk_at "om"),s.lt,(bW (by walk_at "om")).trans s.o0,(bW (by walk_at "om")).trans s.o1,fG,(bW (by walk_at "om")).trans s.o3⟩
theorem Hs.p3(s:Hs h0 h S A B C):Hs h0 (h.put (h0.nx+3) O) S A B O:=⟨s.kp.put (by walk_at "om"),s.lt,(bW (by walk_at "om")).trans s.o0,(bW (by walk_at "om")).trans s.o1,(bW (by walk_at "om")).trans s.o2,fG⟩
end
def yr(t:Tr)(tk p o:Int):Prop:=(t.la=none/\tk = -1/\p=1/\o=0)\/∃l,t.la=some l/\tk=l.tk/\p=l.tm.p/\o=l.tm.o
structure Ls(rs:List aC)(st:Sd)(h0 h:AH)(xs:List Sl)(tk p o:Int):Prop where
 hs:∃f1 f2 f3,Hs h0 h (.lst true (xs.map Sl.av)) (.aO f1) (.aO f2) (.aO f3)/\f1.length<=xs.length/\f2.length<=xs.length/\f3.length<=xs.length/\(∀b,bC f1 (.inl b)=(((aX rs (aV st) xs).fi b).map (·.tk)).map AV.int)/\(∀b,bC f2 (.inl b)=((aX rs (aV st) xs).so b).map AV.int)/\∀l∈xs,bC f3 (.inl l.tk)=some (.int l.tm.f)
 al:cX rs (aV st) xs=true
 tp:yr (aX rs (aV st) xs) tk p o
end
section
def dQ:aP->Nat->Sx
 |.cons s _,0=>s
 |.cons _ r,n+1=>dQ r n
 |.nil,_=>.bad
def pV:Sx->aP
 |.fV _ _ b=>b
 |_=>.nil
def yk:aP:=pV (dQ pe 5)
def Gv:aP:=dI yk 4
def aL(t:Tr)(ws:List Int):List Int:=(ws.filterMap t.fi).map (·.tm.f)
theorem WH{t:Tr}{x:Sl}{tk p o:Int}(h:yr t tk p o)(hf:∀l,t.la=some l->l.dd.ft=none)(h1:tk<x.tk)(h2:p<=x.tm.p)(h3:o<=x.tm.o):nC t.la x=true:=by
 rcases h with⟨e,e1,e2,e3⟩|⟨l,e,e1,e2,e3⟩
 .rw[e];exact decide_eq_true ⟨by walk_at "om",by walk_at "om"⟩
 .rw[e];exact decide_eq_true ⟨hf l e,by walk_at "om",by walk_at "om",by walk_at "om"⟩
theorem Xg{rs:List aC}{t:Tr}{x:Sl}:yr (t.fO rs x) x.tk x.tm.p x.tm.o:=.inr ⟨x,rfl,rfl,rfl,rfl⟩
local macro_rules | `(tactic| walk_at "am1")=>`(tactic| with_reducible refine Wf ?_)
theorem Gw{k i np nd:Nat}{rs:List aC}{st:Sd}{r:aC}{xs:List Sl}{c tk p o:Int}{g:AV}{v15 v16 v17:Option AV}{h0 h:AH}{R:AV->AH->Prop}{N B C:aE->AH->Prop}(L:Ls rs st h0 h xs tk p o)(hl:xs.length<100)(hi:rs[(aX rs (aV st) xs).st.a]?=some r)
  (hf:∀l,(aX rs (aV st) xs).la=some l->l.dd.ft=none) (hI:i<1000) (hg:g=oI (fZ (aX rs (aV st) xs) (dU (bE r (aX rs (aV st) xs).st))))
  (q:∀h' x tk' p' o' v15 v16 v17,Ls rs st h0 h' (xs++[x]) tk' p' o'->N [some (.ref np),some (.ref nd),some (.int c),some (.ref h0.nx),some (.ref (h0.nx+1)),some (.ref (h0.nx+2)),some (.ref (h0.nx+3)),some (.int tk'),some (.int p'),some (.int o'),some (.int (i:Int)),some (dU (bE r (aX rs (aV st) xs).st)).av,some r.av,some (.tup ((r.want.map λb=>((aX rs (aV st) xs).fi b).map (·.tk)).map oI)),some g,v15,v16,v17] h') :
  Wt (λ_ _=>False) (cD (run pg (k+1)) Gv [some (.ref np),some (.ref nd),some (.int c),some (.ref h0.nx),some (.ref (h0.nx+1)),some (.ref (h0.nx+2)),some (.ref (h0.nx+3)),some (.int tk),some (.int p),some (.int o),some (.int (i:Int)),some (dU (bE r (aX rs (aV st) xs).st)).av,some r.av,some (.tup ((r.want.map λb=>((aX rs (aV st) xs).fi b).map (·.tk)).map oI)),some g,v15,v16,v17]) h N R B C:=by
 subst hg;have big:=eU;have wl:=ng (r:=r);have sub:=λb l=>Vw (rs:=rs) (xs:=xs) (st:=st) (b:=b) (l:=l);obtain⟨⟨f1,f2,f3,hs,l1,l2,l3,g1,g2,g3⟩,al,tp⟩:=L;have al2:∀x,bT rs (aX rs (aV st) xs) x=true->cX rs (aV st) (xs++[x])=true:=λx hx=>by rw[fg,al,cX,hx];rfl
 have e0:∀x,aX rs (aV st) (xs++[x])=(aX rs (aV st) xs).fO rs x:=λx=>my;generalize aX rs (aV st) xs=t at *;generalize eD:dU (bE r t.st)=D at *;dsimp only[Gv,yk,dQ,pV,dI,pe];walk_at "w"
 refine qL (by walk_at "om") (by walk_at "om") λn n0 n1=>?_;walk_at "w"
 have hs1:Hs h0 (h.new (.lst true [AV.int (p+n / 3%3 / 2+1)])) (.lst true (xs.map Sl.av)) (.aO f1) (.aO f2) (.aO f3):=hs.new;have ol:(h.new (.lst true [AV.int (p+n / 3%3 / 2+1)])).ob h.nx=some (.lst true [AV.int (p+n / 3%3 / 2+1)]):=aU;have nl:h.nx<(h.new (.lst true [AV.int (p+n / 3%3 / 2+1)])).nx:=Nat.lt_succ_self _;generalize h.new (.lst true [AV.int (p+n / 3%3 / 2+1)])=h1 at *;refine Yr (λi ys U h2=>h2=h1/\ys=(aL t (r.want.take i)).map AV.int/\∃v,U=[v,some (.ref (h0.nx+3))]) (by rw[List.length_map,List.length_map,eY];walk_at "om") ⟨rfl,rfl,_,rfl⟩ ?_ ?_
 .rintro j y ys U h2 hy ⟨rfl,rfl,v,rfl⟩
  obtain⟨z,hz,rfl⟩:=tJ hy;rw[List.getElem?_map]at hz;obtain⟨b,hb,rfl⟩:=Option.map_eq_some_iff.mp hz;have e:aL t (r.want.take (j+1))=aL t (r.want.take j)++aL t [b]:=by unfold aL;rw[nG hb,List.filterMap_append,List.map_append]
  have ll:((aL t (r.want.take j)).map AV.int).length<sizeLine:=by
   have:(aL t (r.want.take j)).length<=2:=by unfold aL;rw[List.length_map];exact Nat.le_trans (List.length_filterMap_le ..) (by rw[List.length_take];walk_at "om")
   rw[List.length_map];walk_at "om"
  cases f:t.fi b with
  |none=>
   dsimp only[Option.map,oI];walk_at "w"
   refine⟨rfl,?_,_,rfl⟩;rw[e];simp[aL,f]
  |some l=>
   dsimp only[Option.map,oI];walk_at "w"
   refine u4 hs1.o3 rfl (g3 l (sub b l f)) ?_;refine⟨ll,rfl,?_,_,rfl⟩;rw[e];simp[aL,f]
 rintro ys U h2 ⟨rfl,rfl,v,rfl⟩
 rw[List.length_map,List.length_map,List.take_length];walk_at "w"
 have hs3:Hs h0 (h2.new (.lst true ((aL t r.want).map AV.int))) (.lst true (xs.map Sl.av)) (.aO f1) (.aO f2) (.aO f3):=hs1.new;have lf:(aL t r.want).length<=2:=by unfold aL;rw[List.length_map];exact Nat.le_trans (List.length_filterMap_le ..) wl
 refine dr (xs:=[AV.int (p+n / 3%3 / 2+1)]) (ys:=(aL t r.want).map AV.int) ((dE (Nat.ne_of_lt nl)).trans ol) aU (by rw[List.length_map,List.length_singleton];walk_at "om") ?_;generalize h2.new (.lst true ((aL t r.want).map AV.int))=h3 at *;have hs4:Hs h0 (h3.new (.lst true ([AV.int (p+n / 3%3 / 2+1)]++(aL t r.want).map AV.int))) (.lst true (xs.map Sl.av)) (.aO f1) (.aO f2) (.aO f3):=hs3.new;refine x5 (ns:=(p+n / 3%3 / 2+1)::aL t r.want) aU (by simp) ?_;generalize h3.new (.lst true ([AV.int (p+n / 3%3 / 2+1)]++(aL t r.want).map AV.int))=h4 at *;have m1:p+n / 3%3 / 2+1<=iR ((p+n / 3%3 / 2+1)::aL t r.want):=Ce (List.mem_cons_self ..);have m2:∀b∈r.want,∀l,t.fi b=some l->l.tm.f<=iR ((p+n / 3%3 / 2+1)::aL t r.want):=λb hb l e=>Ce (List.mem_cons_of_mem _ (List.mem_map.mpr ⟨l,List.mem_filterMap.mpr ⟨b,hb,e⟩,rfl⟩));generalize iR ((p+n / 3%3 / 2+1)::aL t r.want)=M at m1 m2 ⊢;walk_at "w"
 have o4:=hs4.o0;refine⟨by simp only[gP,o4],?_⟩;walk_at "w"
 refine nI o4 (by rw[List.length_map];walk_at "om") ?_;walk_at "w"
 have ia:D.a=t.st.a:=by rw[<- eD];exact Lx
 generalize eF:M+n / 9%3 / 2+1+n / 27%4=F;generalize eO:(if F+1 > o then F+1 else o)+n / 108%3 / 2=O;have hO:F+1<=O/\o<=O:=by rw[<- eO];split<;>walk_at "om"
 have hx:bT rs t ⟨tk+1+n%3,D.a,r.want.map λb=>(t.fi b).map (·.tk),fZ t D,D,⟨p+n / 3%3 / 2,M+n / 9%3 / 2,F,O⟩⟩=true:=
  VU hi ia (WH tp hf (by show tk<tk+1+n%3;walk_at "om") (by show p<=p+n / 3%3 / 2;walk_at "om") hO.2) ⟨by show p+n / 3%3 / 2<M+n / 9%3 / 2;walk_at "om",by show M+n / 9%3 / 2<F;walk_at "om",by show F<O;walk_at "om"⟩ eD.symm rfl rfl λb hb l e=>by have:=m2 b hb l e;show l.tm.f<=M+n / 9%3 / 2;walk_at "om"
 have el:xs.map Sl.av++[AV.tup [.int (tk+1+n%3),.int D.a,.tup ((r.want.map λb=>(t.fi b).map (·.tk)).map oI),oI (fZ t D),D.av,.tup [.int (p+n / 3%3 / 2),.int (M+n / 9%3 / 2),.int F,.int O]]]=(xs++[(⟨tk+1+n%3,D.a,r.want.map λb=>(t.fi b).map (·.tk),fZ t D,D,⟨p+n / 3%3 / 2,M+n / 9%3 / 2,F,O⟩⟩:Sl)]).map Sl.av:=by rw[List.map_append];rfl
 rw[el];generalize ex:(⟨tk+1+n%3,D.a,r.want.map λb=>(t.fi b).map (·.tk),fZ t D,D,⟨p+n / 3%3 / 2,M+n / 9%3 / 2,F,O⟩⟩:Sl)=x at hx;have e1:tk+1+n%3=x.tk:=by rw[<- ex]
 have e2:F=x.tm.f:=by rw[<- ex]
 have e3:D=x.dd:=by rw[<- ex]
 have e4:p+n / 3%3 / 2=x.tm.p:=by rw[<- ex]
 have e5:O=x.tm.o:=by rw[<- ex]
 have alx:=al2 x hx;have pw:=(yv alx).2.2;have hs5:Hs h0 (h4.put h0.nx (.lst true ((xs++[x]).map Sl.av))) (.lst true ((xs++[x]).map Sl.av)) (.aO f1) (.aO f2) (.aO f3):=hs4.p0;generalize h4.put h0.nx (.lst true ((xs++[x]).map Sl.av))=h5 at *;refine⟨h0.nx+3,f3,.inl (tk+1+n%3),rfl,rfl,hs5.o3,by walk_at "om",?_⟩;have hs6:Hs h0 (h5.put (h0.nx+3) (.aO (dZ f3 (.inl (tk+1+n%3)) (.int F)))) (.lst true ((xs++[x]).map Sl.av)) (.aO f1) (.aO f2) (.aO (dZ f3 (.inl (tk+1+n%3)) (.int F))):=hs5.p3;generalize h5.put (h0.nx+3) (.aO (dZ f3 (.inl (tk+1+n%3)) (.int F)))=h6 at *;have lx:(xs++[x]).length=xs.length+1:=by simp
 have g3':∀l∈xs++[x],bC (dZ f3 (.inl (tk+1+n%3)) (.int F)) (.inl l.tk)=some (.int l.tm.f):=λl hl=>by
  rw[mz,e1,e2];by_cases e:x.tk=l.tk
  .rw[if_pos (by rw[e]),Vr pw (List.mem_append_right _ (List.mem_singleton.mpr rfl)) hl e]
  .rw[if_neg (λz=>e (Sum.inl.inj z))];rcases List.mem_append.mp hl with hl|hl
   .exact g3 l hl
   .exact absurd (by rw[List.mem_singleton.mp hl]) e
 have l3':(dZ f3 (.inl (tk+1+n%3)) (.int F)).length<=(xs++[x]).length:=Nat.le_trans iq (by walk_at "om");have tp':yr (aX rs (aV st) (xs++[x])) (tk+1+n%3) (p+n / 3%3 / 2) O:=by rw[e0,e1,e4,e5];exact Xg
 walk_at "w"
 cases hb:D.b with
 |some b=>
  walk_at "w"
  refine⟨h0.nx+1,f1,.inl b,rfl,by rw[hb];rfl,hs6.o1,by walk_at "om",?_⟩;walk_at "w"
  refine q _ x _ _ _ _ _ _ ⟨⟨_,f2,_,hs6.p1,Nat.le_trans (iq (kvs:=f1)) (by walk_at "om"),by walk_at "om",l3',λb'=>?_,λb'=>?_,g3'⟩,alx,tp'⟩
  .rw[mz,g1,e0];show _=((if x.dd.b=some b' then some x else t.fi b').map (·.tk)).map AV.int;rw[<- e3,hb];by_cases e:b=b'
   .subst e;rw[if_pos rfl,if_pos rfl,e1];rfl
   .rw[if_neg (λz=>e (Sum.inl.inj z)),if_neg (λz=>e (Option.some.inj z))]
  .rw[g2,e0];show _=(if x.dd.b=none/\x.dd.p=some b' then some x.tk else t.so b').map AV.int;rw[if_neg (λz=>by rw[<- e3,hb]at z;cases z.1)]
 |none=>
  walk_at "w"
  have g1':∀b',bC f1 (.inl b')=(((aX rs (aV st) (xs++[x])).fi b').map (·.tk)).map AV.int:=λb'=>by rw[g1,e0];show _=((if x.dd.b=some b' then some x else t.fi b').map (·.tk)).map AV.int;rw[if_neg (λz=>by rw[<- e3,hb]at z;cases z)]
  cases hp:D.p with
  |some y=>
   walk_at "w"
   refine⟨h0.nx+2,f2,.inl y,rfl,by rw[hp];rfl,hs6.o2,by walk_at "om",?_⟩;walk_at "w"
   refine q _ x _ _ _ _ _ _ ⟨⟨f1,_,_,hs6.p2,by walk_at "om",Nat.le_trans (iq (kvs:=f2)) (by walk_at "om"),l3',g1',λb'=>?_,g3'⟩,alx,tp'⟩;rw[mz,g2,e0];show _=(if x.dd.b=none/\x.dd.p=some b' then some x.tk else t.so b').map AV.int;rw[<- e3,hb,hp];by_cases e:y=b'
   .subst e;rw[if_pos rfl,if_pos ⟨rfl,rfl⟩,e1];rfl
   .rw[if_neg (λz=>e (Sum.inl.inj z)),if_neg (λz=>e (Option.some.inj z.2))]
  |none=>
   walk_at "w"
   refine q _ x _ _ _ _ _ _ ⟨⟨f1,f2,_,hs6,by walk_at "om",by walk_at "om",l3',g1',λb'=>?_,g3'⟩,alx,tp'⟩;rw[g2,e0];show _=(if x.dd.b=none/\x.dd.p=some b' then some x.tk else t.so b').map AV.int;rw[if_neg (λz=>by rw[<- e3,hp]at z;cases z.2)]
end
section
theorem HL{rs:List aC}{st:Sd}{xs:List Sl}{i m:Nat}{d:AV×Sd}(al:cX rs (aV st) xs=true)(hl:xs.length=i)(hd:(tr rs m st)[i]?=some d):∀l,(aX rs (aV st) xs).la=some l->l.dd.ft=none:=by
 intro l hla;cases i with
 |zero=>rw[List.eq_nil_of_length_eq_zero hl]at hla;cases hla
 |succ j=>obtain⟨r,-,-,h3⟩:=Hi hd;obtain⟨r2,e1,e2⟩:=h3 j rfl;obtain⟨y,hy⟩:∃y,xs[j]?=some y:=⟨_,List.getElem?_eq_getElem (by walk_at "om")⟩;have e3:=yy (rs:=rs) (t:=aV st) hy;rw[<- hl,List.take_length,hla]at e3;cases e3;obtain⟨r',e4,-,-,-,e5,-⟩:=dH (mZ al hy);rw[Hk,List.length_take,Nat.min_eq_left (by walk_at "om")]at e4 e5;rw[show(aV st).st=st from rfl]at e4 e5;rw[e1]at e4;cases e4;rw[e5];exact Zi e2
theorem ZC{k np nd:Nat}{bb b2:Bool}{rs:List aC}{st:Sd}{c:Int}{h:AH}{R:AV->AH->Prop}(hp:h.ob np=some (.lst bb (rs.map aC.av)))(hn:np<h.nx)(hd:h.ob nd=some (.lst b2 ((tr rs 30 st).map λx:AV×Sd=>x.1)))(hm:nd<h.nx)
  (q:∀h' xs,Kp h h'->h.nx<h'.nx->h'.ob h.nx=some (.lst true (xs.map Sl.av))->cX rs (aV st) xs=true->xs.length=(tr rs 30 st).length->R (.ref h.nx) h'):Wp (run pg (k+2) DZ [.ref np,.ref nd,.int c]) h R:=by
 have t30:=Hj (rs:=rs) (n:=30) (s:=st);refine bF rfl rfl ?_;unfold pe;walk_at "w"
 have s0:Hs h ((((h.new (.lst true [])).new (.aO [])).new (.aO [])).new (.aO [])) (.lst true []) (.aO []) (.aO []) (.aO []):=
  ⟨Kp.refl.new.new.new.new,Nat.lt_succ_self _,(dE (by show h.nx≠h.nx+1+1+1;walk_at "om")).trans ((dE (by show h.nx≠h.nx+1+1;walk_at "om")).trans ((dE (by show h.nx≠h.nx+1;walk_at "om")).trans aU)),(dE (by show h.nx+1≠h.nx+1+1+1;walk_at "om")).trans ((dE (by show h.nx+1≠h.nx+1+1;walk_at "om")).trans aU),(dE (by show h.nx+2≠h.nx+1+1+1;walk_at "om")).trans aU,aU⟩
 show∃n b xs,AV.ref nd = .ref n/\_;generalize (((h.new (.lst true [])).new (.aO [])).new (.aO [])).new (.aO [])=h1 at *;refine⟨nd,b2,_,rfl,s0.kp.get hm hd,?_⟩;refine Bo (bb:=b2) (xs:=(tr rs 30 st).map λx:AV×Sd=>x.1) (λi U h'=>∃xs tk p o v10 v11 v12 v13 v14 v15 v16 v17,U=[some (.ref np),some (.ref nd),some (.int c),some (.ref h.nx),some (.ref (h.nx+1)),some (.ref (h.nx+2)),some (.ref (h.nx+3)),some (.int tk),some (.int p),some (.int o),v10,v11,v12,v13,v14,v15,v16,v17]/\Ls rs st h h' xs tk p o/\xs.length=i)
  (by rw[List.length_map,eY];walk_at "om") ⟨[],-1,1,0,_,_,_,_,_,_,_,_,rfl,⟨⟨[],[],[],s0,Nat.le_refl _,Nat.le_refl _,Nat.le_refl _,λ_=>rfl,λ_=>rfl,λ_ h=>by cases h⟩,rfl,.inl ⟨rfl,rfl,rfl,rfl⟩⟩,rfl⟩ (λi U h' hI=>?_) (λi x U h' hx hI=>?_) (λU h' hI=>?_)
 .obtain⟨xs,_,_,_,_,_,_,_,_,_,_,_,_,L,_⟩:=hI;obtain⟨_,_,_,s,_⟩:=L.hs;exact s.kp.get hm hd
 .obtain⟨xs,tk,p,o,v10,v11,v12,v13,v14,v15,v16,v17,ee,L,len⟩:=hI;subst ee;obtain⟨d,hd1,rfl⟩:=tJ hx;have hlt:=(List.getElem?_eq_some_iff.mp hd1).1;obtain⟨r,e1,e2,-⟩:=Hi hd1;have est:(aX rs (aV st) xs).st=iT rs i st:=by rw[Hk,len];rfl
  rw[<- est]at e1 e2;have hf:=HL L.al len hd1;obtain⟨f1,f2,f3,s,l1,l2,l3,g1,g2,g3⟩:=L.hs;have eb:yk = .cons (.asg (.nm 12) (.op .ix (.var 0) (.op .ix (.var 11) (.val (.int 0))))) (.cons (.asg (.nm 13) (.bi .tuple (.cons (.gK [none,some 4] (.nm 0) (.seq (.call 34 (.cons (.var 12) .nil))) (.dm .get (.var 1) (.cons (.var 0) .nil))) .nil))) (.cons (.asg (.nm 14) (.val .aB)) (.cons (.ite (.cmp .eq (.op .ix (.var 12) (.val (.int 0))) (.val (.str "load")))
   (.cons (.asg (.nm 14) (.dm .get (.var 5) (.cons (.op .ix (.var 11) (.val (.int 2))) .nil))) .nil)
   .nil) Gv))):=rfl
  show We _ _ _ λU1 h1=>Wt _ (cD _ yk U1) h1 _ _ _ _;rw[eb];have wl:=ng (r:=r);have big:=eU;rw[e2,<- zb];walk_at "w"
  refine bD (v:=r.av) (bA (s.kp.get hn hp)) ?_ ?_
  .rw[Lx];exact hX (by rw[List.getElem?_map,e1];rfl)
  walk_at "w"
  refine Pw (k:=k) ?_;walk_at "w"
  refine eg aU ?_;have s1:Hs h (h'.new (.lst true (r.want.map .int))) _ _ _ _:=s.new;have ow:(h'.new (.lst true (r.want.map .int))).ob h'.nx=some (.lst true (r.want.map .int)):=aU;generalize h'.new (.lst true (r.want.map .int))=h2 at s1 ow ⊢;refine Az (bb:=true) (xs:=r.want.map .int) (λi ys U h3=>h3=h2/\ys=((r.want.take i).map λb=>oI (((aX rs (aV st) xs).fi b).map (·.tk)))/\∃v,U=[v,some (.ref (h.nx+1))]) (by rw[List.length_map,eY];walk_at "om") ⟨rfl,rfl,_,rfl⟩ (λi ys U h3 z=>by rw[z.1];exact ow) ?_ ?_
  .rintro j y ys U h3 hy ⟨rfl,rfl,v,rfl⟩
   rw[List.getElem?_map]at hy;obtain⟨b,hj,rfl⟩:=Option.map_eq_some_iff.mp hy;walk_at "w"
   refine⟨by rw[qj s1.o1],?_⟩;walk_at "w"
   refine zf s1.o1 rfl ?_;rw[g1,Cy];refine⟨by rw[List.length_map,List.length_take];walk_at "om",rfl,?_,_,rfl⟩;rw[nG hj];simp
  rintro ys U h3 ⟨rfl,rfl,v,rfl⟩
  rw[List.length_map,List.take_length];walk_at "w"
  have ey:(r.want.map λb=>oI (((aX rs (aV st) xs).fi b).map (·.tk)))=(r.want.map λb=>((aX rs (aV st) xs).fi b).map (·.tk)).map oI:=by rw[List.map_map];rfl
  rw[ey];have s2:Hs h (h3.new (.lst true ((r.want.map λb=>((aX rs (aV st) xs).fi b).map (·.tk)).map oI))) _ _ _ _:=s1.new;refine dz (bA aU) ?_;generalize h3.new (.lst true ((r.want.map λb=>((aX rs (aV st) xs).fi b).map (·.tk)).map oI))=h4 at s2 ⊢;have L4:Ls rs st h h4 xs tk p o:=⟨⟨f1,f2,f3,s2,l1,l2,l3,g1,g2,g3⟩,L.al,L.tp⟩;obtain⟨kd,tl,er,hk⟩:=Pd r;walk_at "w"
  refine bD (x:=r.av) (v:=.str kd) (xs:=.str kd::tl) (i:=0) (by rw[er];rfl) (hX (j:=0) rfl) ?_;walk_at "w"
  .rename_i hc;obtain⟨x,y,u,rfl⟩:=hk.mp hc;refine⟨by rw[qj s2.o2],?_⟩;walk_at "w"
   rcases FL (t:=aX rs (aV st) xs) (x:=x) (y:=y) (s:=u)with⟨b0,p0⟩|⟨b,w,b0,p0⟩
   .rw[p0];refine s9 s2.o2 ?_;walk_at "w"
    exact Gw (k:=k) (i:=i) L4 (by walk_at "om") e1 hf (by walk_at "om") (by unfold fZ;rw[b0];rfl) λh5 x tk' p' o' w15 w16 w17 L5=>⟨xs++[x],tk',p',o',_,_,_,_,_,_,_,_,rfl,L5,by simp[len]⟩
   .rw[p0];refine zf (k:=.inl w) s2.o2 rfl ?_;walk_at "w"
    exact Gw (k:=k) (i:=i) L4 (by walk_at "om") e1 hf (by walk_at "om") (by rw[g2,Cy];unfold fZ;rw[b0,p0]) λh5 x tk' p' o' w15 w16 w17 L5=>⟨xs++[x],tk',p',o',_,_,_,_,_,_,_,_,rfl,L5,by simp[len]⟩
  .rename_i hc;walk_at "w"
   exact Gw (k:=k) (i:=i) L4 (by walk_at "om") e1 hf (by walk_at "om") (by rw[FO λz=>hc (hk.mpr z)];rfl) λh5 x tk' p' o' w15 w16 w17 L5=>⟨xs++[x],tk',p',o',_,_,_,_,_,_,_,_,rfl,L5,by simp[len]⟩
 .obtain⟨xs,tk,p,o,v10,v11,v12,v13,v14,v15,v16,v17,ee,L,len⟩:=hI;subst ee;obtain⟨f1,f2,f3,s,-⟩:=L.hs;walk_at "w"
  have lt:=s.lt;exact q h' xs s.kp (by walk_at "om") s.o0 L.al (by rw[len,List.length_map])
end
section
theorem Na{Xc:Nat->AH->Prop}{a b:Option Int}{h:AH}{V1:AV->AH->Prop}(q:V1 (.bl (decide (a=b))) h):We Xc (Cp.g .eq (oI a) (oI b)) h V1:=by
 have e:dY (oI a) (oI b)=some (decide (a=b)):=by cases a<;>cases b<;>simp[oI,dY]
 exact Wh e q
theorem Co(z:Int):z%2=0\/z%2=1:=by walk_at "om"
theorem FJ{k:Nat}{gv:Option Int}{pt:Int}{h:AH}{R:AV->AH->Prop}(q:∀g h',Kp h h'->g≠gv->R (oI g) h'):Wp (run pg (k+1) DU [oI gv,.int pt]) h R:=by
 refine bF rfl rfl ?_;unfold Jl;cases gv with
 |none=>
  dsimp only[oI];walk_at "w"
  exact q (some _) h Kp.refl (λz=>by cases z)
 |some g=>
  dsimp only[oI];walk_at "w"
  rcases Co pt with e|e
  .rw[e];refine bD (bA aU) (v:=.aB) rfl ?_;exact q none _ Kp.refl.new (λz=>by cases z)
  .rw[e];refine bD (bA aU) (v:=.int (g+1)) rfl ?_;exact q (some _) _ Kp.refl.new (λz=>by have:=Option.some.inj z;walk_at "om")
theorem Uy{α:Type}{xs:List α}{i:Nat}{v w:α}(h:xs[i]?=some v)(hw:w≠v):xs.take i++[w]++xs.drop (i+1)≠xs:=λz=>by
 have hi:=(List.getElem?_eq_some_iff.mp h).1;have e:(xs.take i++[w]++xs.drop (i+1))[i]?=some w:=by rw[List.getElem?_append_left (by rw[List.length_append,List.length_take,List.length_singleton];walk_at "om"),List.getElem?_append_right (by rw[List.length_take];walk_at "om"),List.length_take,Nat.min_eq_left (by walk_at "om")];simp
 rw[z,h]at e;exact hw (Option.some.inj e).symm
theorem Ra{Xc:Nat->AH->Prop}{F:Nat->List AV->M AV}{U:aE}{h:AH}{V1:AV->AH->Prop}{a b e:Ex}{xs:List AV}{i:Nat}{w:AV}(hi:i<xs.length)(hl:xs.length<1000)
  (ha:∀{V:AV->AH->Prop},V (.tup xs) h->We Xc (aG F a U) h V) (hb:∀{V:AV->AH->Prop},V (.int (i:Int)) h->We Xc (aG F b U) h V) (hv:∀{V:AV->AH->Prop},V w h->We Xc (aG F e U) h V)
  (nb:∀m,gE b m=m.bind pY) (q:V1 (.tup (xs.take i++[w]++xs.drop (i+1))) h) :
  We Xc (aG F (.op .add (.op .add (.slice a .no b) (.tup (.cons e .nil))) (.slice a (.op .add b (.val (.int 1))) .no)) U) h V1:=by
 have big:=eU;refine fR (fR (nr (ha (nk (nq nb (hb ⟨_,rfl,?_⟩))))));refine nj (by rw[HT.cw];walk_at "om") ?_;rw[mF];refine Hv (rS (hv (Hw ⟨by show 1<=_;walk_at "om",?_⟩)));refine du (by rw[List.length_take];show _+1<=_;walk_at "om") ?_;refine nr (ha (nq (λ_=>rfl) (fR (hb (kX (dq ⟨_,rfl,nk ?_⟩))))));have e:((i:Int)+1)=((i+1:Nat):Int):=by walk_at "om"
 rw[e];refine nj (by rw[HT.cw];walk_at "om") ?_;rw[qi];exact du (by rw[List.length_append,List.length_take,List.length_drop];show _+1+_<=_;walk_at "om") q
theorem Qy{nm:List (Option Int)}{i:Nat}{w:Option Int}:(nm.map oI).take i++[oI w]++(nm.map oI).drop (i+1)=(nm.take i++[w]++nm.drop (i+1)).map oI:=by simp
def pre:aP->Nat->aP->aP
 |_,0,t=>t
 |.cons s r,n+1,t=>.cons s (pre r n t)
 |.nil,_,t=>t
def Hg:aP:=dI vS 6
theorem IM(z:Int):z%3=0\/z%3=1\/z%3=2:=by walk_at "om"
theorem JA{k:Nat}{nm:List (Option Int)}{pt:Int}{h:AH}{R:AV->AH->Prop}(hl:nm.length<=2)(hp:0<=pt)(q:∀nm' h',Kp h h'->nm'≠nm->R (.tup (nm'.map oI)) h'):Wp (run pg (k+1) DV [.tup (nm.map oI),.int pt]) h R:=by
 have big:=eU;refine bF rfl rfl ?_;have more:nm++[none]≠nm:=λz=>by have:=congrArg List.length z;simp at this
 rw[show vS=pre vS 6 Hg from rfl];dsimp only[pre,vS];walk_at "w"
 refine dy Mv (My (ys:=[])) ?_;refine⟨_,rfl,?_⟩;by_cases hn:nm=[]
 .rw[decide_eq_true hn];walk_at "w"
  refine du (by rw[List.length_map];show _+1<=_;walk_at "om") ?_;have:=q _ h Kp.refl more;rw[List.map_append]at this;exact this
 rw[decide_eq_false hn];have hl0:0<nm.length:=List.length_pos_iff.mpr hn;walk_at "w"
 .refine du (by rw[List.length_map];show _+1<=_;walk_at "om") ?_;have:=q _ h Kp.refl more;rw[List.map_append]at this;exact this
 .have e1:HT.aZ nm.length nm.length (some (-1))=nm.length-1:=by show(if(-1:Int)<0 then(-1+(nm.length:Int)).toNat else min (-1:Int).toNat nm.length)=_;rw[if_pos (by decide)];walk_at "om"
  refine nj (by rw[List.length_map,e1];walk_at "om") ?_;have e2:gL (nm.map oI) none (some (-1))=(nm.take (nm.length-1)).map oI:=by unfold gL;rw[List.length_map,e1,HT.Gr,List.drop_zero,Nat.sub_zero,List.map_take]
  rw[e2];refine q _ h Kp.refl λz=>?_;have:=congrArg List.length z;rw[List.length_take]at this;walk_at "om"
 .have hmod:0<=pt / 4%(nm.length:Int)/\pt / 4%(nm.length:Int)<(nm.length:Int):=⟨Int.emod_nonneg _ (by walk_at "om"),Int.emod_lt_of_pos _ (by walk_at "om")⟩;rw[List.length_map];obtain⟨i,hi⟩:=Int.eq_ofNat_of_zero_le hmod.1;rw[hi]at hmod ⊢;obtain⟨w,hw⟩:∃w,nm[i]?=some w:=⟨_,List.getElem?_eq_getElem (by walk_at "om")⟩;have aL:∀o:Option Int,o≠w->∀h',Kp h h'->Wt (λ_ _=>False) (cD (run pg k) Hg [some (.tup (nm.map oI)),some (.int pt),some (.int (i:Int)),some (oI w),some (oI o)]) h' (λ_ h1=>R .aB h1) R (λ_ _=>False) (λ_ _=>False):=λo ho h' kp=>by dsimp only[Hg,dI,vS];refine nK (ny ?_);refine Ra (xs:=nm.map oI) (i:=i) (w:=oI o) (by rw[List.length_map];walk_at "om") (by rw[List.length_map];walk_at "om") (λz=>dA rfl z) (λz=>dA rfl z) (λz=>dA rfl z) (λ_=>rfl) ?_;rw[Qy];exact q _ h' kp (Uy hw ho)
  cases w with
  |none=>
   refine bD (v:=.aB) rfl (hX (by rw[List.getElem?_map,hw];rfl)) ?_;walk_at "w"
   exact aL (some _) (λz=>by cases z) h Kp.refl
  |some v=>
   refine bD (v:=.int v) rfl (hX (by rw[List.getElem?_map,hw];rfl)) ?_;walk_at "w"
   rcases IM (pt / 8)with e|e|e
   .rw[e];refine bD (bA aU) (v:=.aB) rfl ?_;walk_at "w"
    exact aL none (λz=>by cases z) _ Kp.refl.new
   .rw[e];refine bD (bA aU) (v:=.int (v+1)) rfl ?_;walk_at "w"
    exact aL (some (v+1)) (λz=>by have:=Option.some.inj z;walk_at "om") _ Kp.refl.new
   .rw[e];refine bD (bA aU) (v:=.int _) rfl ?_;walk_at "w"
    refine aL (some _) (λz=>?_) _ Kp.refl.new;have:=Option.some.inj z;by_cases h0:v=0
    .subst h0;simp at this
    .rw[decide_eq_false h0]at this;simp only[Bool.false_eq_true,if_false]at this;split at this<;>walk_at "om"
end
section
theorem ES{k:Nat}{d:De}{kd:PySem.Str}{nn pt:Int}{h:AH}{R:AV->AH->Prop}(hf:d.ft=some (kd,nn))(q:∀d' h',Kp h h'->d'≠d->R d'.av h'):Wp (run pg (k+1) DT [d.av,.int pt]) h R:=by
 obtain⟨a,b,p,w,t,ft⟩:=d;have ef:ft=some (kd,nn):=hf;subst ef;have aL:∀(t':Option Int) f' h',Kp h h'->f'≠some (kd,nn)->R (.tup [.int a,.aB,.aB,.aB,oI t',fW f']) h':=λt' f' h' kp hn=>q ⟨a,none,none,none,t',f'⟩ h' kp λz=>hn (De.mk.inj z).2.2.2.2.2;refine bF rfl rfl ?_;unfold Jk De.av;dsimp only[fW];walk_at "w"
 .exact aL (some _) none h Kp.refl (λz=>by cases z)
 .by_cases hk:kd="told"
  .rw[decide_eq_true hk];refine bD (bA aU) (v:=.str "nought") rfl ?_;walk_at "w"
   refine aL none (some ("nought",pt)) _ Kp.refl.new (λz=>?_);rw[hk]at z;exact absurd (Prod.mk.inj (Option.some.inj z)).1 (by decide)
  .rw[decide_eq_false hk];refine bD (bA aU) (v:=.str "told") rfl ?_;walk_at "w"
   exact aL none (some ("told",pt)) _ Kp.refl.new (λz=>hk (Prod.mk.inj (Option.some.inj z)).1.symm)
 .refine aL none (some (kd,nn-1)) h Kp.refl (λz=>?_);have:=(Prod.mk.inj (Option.some.inj z)).2;walk_at "om"
 .refine aL none (some (kd,(nn+1)%18446744073709551616)) h Kp.refl (λz=>?_);have:=(Prod.mk.inj (Option.some.inj z)).2;walk_at "om"
theorem Py(z:Int):z%6=0\/z%6=1\/z%6=2\/z%6=3\/z%6=4\/z%6=5:=by walk_at "om"
theorem yp{x m n:Int}(hn:0<n):(x+1+m%n)%(n+1)≠x:=λz=>by
 have h1:=Int.emod_nonneg m (show n≠0 by walk_at "om");have h2:=Int.emod_lt_of_pos m hn;generalize m%n=y at *;have h3:=Int.emod_nonneg (x+1+y) (show n+1≠0 by walk_at "om");have h4:=Int.emod_lt_of_pos (x+1+y) (show 0<n+1 by walk_at "om");have h5:=Int.emod_add_mul_ediv (x+1+y) (n+1);rw[z]at h5;have h6:(n+1)*((x+1+y) / (n+1))=1+y:=by walk_at "om"
 generalize (x+1+y) / (n+1)=u at h6;have h7:0<u:=by
  by_cases hu:0<u
  .exact hu
  .have:=Int.mul_nonpos_of_nonneg_of_nonpos (show 0<=n+1 by walk_at "om") (show u<=0 by walk_at "om");walk_at "om"
 have h8:n+1<=(n+1)*u:=by have:=Int.mul_le_mul_of_nonneg_left (show 1<=u by walk_at "om") (show 0<=n+1 by walk_at "om");walk_at "om"
 walk_at "om"
def Bc:aP:=dI sD 2
theorem Zl{k:Nat}{d:De}{pt sz:Int}{h:AH}{R:AV->AH->Prop}(hz:0<sz)(ht:d.ft=none->∃t,d.t=some t)(q:∀d' h',Kp h h'->d'≠d->R d'.av h'):Wp (run pg (k+2) DS [d.av,.int pt,.int sz]) h R:=by
 cases hf:d.ft with
 |some f=>
  obtain⟨kd,nn⟩:=f;have call:=λ{R:AV->AH->Prop} (q:∀d' h',Kp h h'->d'≠d->R d'.av h')=>ES (k:=k) (pt:=pt) (h:=h) hf q;refine bF rfl rfl ?_;have ed:d.av = .tup [.int d.a,oI d.b,oI d.p,oI d.w,oI d.t,.tup [.str kd,.int nn]]:=by unfold De.av;rw[hf];rfl
  unfold sD;refine nK (zk (dA rfl (Hq (xs:=[.int d.a,oI d.b,oI d.p,oI d.w,oI d.t,.tup [.str kd,.int nn]]) (by rw[ed];rfl) rfl ?_)));walk_at "w"
  exact call q
 |none=>
  obtain⟨t,et⟩:=ht hf;obtain⟨a,b,p,w,t',ft⟩:=d;have e1:t'=some t:=et;have e2:ft=none:=hf;subst e1 e2;clear et hf ht;refine bF rfl rfl ?_;rw[show sD=pre sD 2 Bc from rfl];dsimp only[pre,sD];unfold De.av;walk_at "w"
  show Wt _ (cD _ Bc [some (.tup [.int a,oI b,oI p,oI w,.int t,.aB]),some (.int pt),some (.int sz),some (.int a),some (oI b),some (oI p),some (oI w),some (.int t),some .aB,some (.int (pt / 6))]) _ _ _ _ _;dsimp only[Bc,dI,sD];have aL:∀{v:AV} (a':Int) (b' p' w' t':Option Int) (f':Option (PySem.Str×Int)),v = .tup [.int a',oI b',oI p',oI w',oI t',fW f']->∀h',Kp h h'->(⟨a',b',p',w',t',f'⟩:De)≠⟨a,b,p,w,some t,none⟩->R v h':=λa' b' p' w' t' f' e h' kp hn=>by subst e;exact q _ h' kp hn
  have dec:∀{a':Int} {b' p' w' t':Option Int} {f':Option (PySem.Str×Int)},(a'≠a\/b'≠b\/p'≠p\/w'≠w\/t'≠some t\/f'≠none)->(⟨a',b',p',w',t',f'⟩:De)≠⟨a,b,p,w,some t,none⟩:=λh z=>by obtain⟨z1,z2,z3,z4,z5,z6⟩:=De.mk.inj z;rcases h with h|h|h|h|h|h<;>exact h (by assumption)
  have nn:∀h',Kp h h'->b=none->p=none->R (.tup [.int a,.int (pt / 6%8),.aB,.int 0,.int t,.aB]) h':=λh' kp eb ep=>aL a (some _) none (some 0) (some t) none rfl h' kp (dec (.inr (.inl (λz=>by rw[eb]at z;cases z))));have ns:∀h',Kp h h'->b=none->R (.tup [.int a,.int (pt / 6%8),oI p,oI w,.int t,.aB]) h':=λh' kp eb=>aL a (some _) p w (some t) none rfl h' kp (dec (.inr (.inl (λz=>by rw[eb]at z;cases z))));have sn:∀h',Kp h h'->p=none->R (.tup [.int a,oI b,.int (pt / 6%8),oI w,.int t,.aB]) h':=λh' kp ep=>aL a b (some _) w (some t) none rfl h' kp (dec (.inr (.inr (.inl (λz=>by rw[ep]at z;cases z)))));have ss:∀h',Kp h h'->p≠none->R (.tup [.int a,oI b,.aB,oI w,.int t,.aB]) h':=λh' kp ep=>aL a b none w (some t) none rfl h' kp (dec (.inr (.inr (.inl (λz=>ep z.symm)))));rcases Py pt with e|e|e|e|e|e
  .walk_at "w"
   exact aL (a+1) b p w (some t) none rfl h Kp.refl (dec (.inl (by walk_at "om")))
  .cases b with
   |some y=>
    rw[show oI (some y) = .int y from rfl];walk_at "w"
    exact aL a (some _) p w (some t) none rfl h Kp.refl (dec (.inr (.inl (λz=>by have:=Option.some.inj z;walk_at "om"))))
   |none=>
    walk_at "w"
    cases p with
    |none=>
     walk_at "w"
     exact nn h Kp.refl rfl rfl
    |some y=>
     walk_at "w"
     exact ns h Kp.refl rfl
  .cases p with
   |some y=>
    rw[show oI (some y) = .int y from rfl];walk_at "w"
    exact aL a b (some (y+1)) w (some t) none rfl h Kp.refl (dec (.inr (.inr (.inl (λz=>by have:=Option.some.inj z;walk_at "om")))))
   |none=>
    walk_at "w"
    cases b with
    |none=>
     walk_at "w"
     exact nn h Kp.refl rfl rfl
    |some y=>
     walk_at "w"
     exact sn h Kp.refl rfl
  .cases w with
   |some y=>
    rw[show oI (some y) = .int y from rfl];walk_at "w"
    rcases Co (pt / 6)with e2|e2
    .rw[e2];refine bD (bA aU) (v:=.int 1) rfl ?_;walk_at "w"
     exact aL a b p (some _) (some t) none rfl _ Kp.refl.new (dec (.inr (.inr (.inr (.inl (λz=>by have:=Option.some.inj z;walk_at "om"))))))
    .rw[e2];refine bD (bA aU) (v:=.int 9223372036854775808) rfl ?_;walk_at "w"
     exact aL a b p (some _) (some t) none rfl _ Kp.refl.new (dec (.inr (.inr (.inr (.inl (λz=>by have:=Option.some.inj z;walk_at "om"))))))
   |none=>
    walk_at "w"
    cases b with
    |none=>
     cases p with
     |none=>
      walk_at "w"
      exact nn h Kp.refl rfl rfl
     |some y=>
      walk_at "w"
      exact ns h Kp.refl rfl
    |some z=>
     cases p with
     |none=>
      walk_at "w"
      exact sn h Kp.refl rfl
     |some y=>
      walk_at "w"
      exact ss h Kp.refl (λz=>by cases z)
  .walk_at "w"
   exact aL a b p w (some _) none rfl h Kp.refl (dec (.inr (.inr (.inr (.inr (.inl λz=>yp hz (Option.some.inj z)))))))
  .walk_at "w"
   exact aL a none none none none (some ("told",pt / 6)) rfl h Kp.refl (dec (.inr (.inr (.inr (.inr (.inr (λz=>by cases z)))))))
end
section
structure Sp(rs:List aC)(st:Sd)(xs:List Sl)(ns:Nat)(h:AH):Prop where
 al:cX rs (aV st) xs=true
 hr:∀r∈rs,dP r
 le:xs.length<=30
 ob:h.ob ns=some (.lst true (xs.map Sl.av))
 lt:ns<h.nx
theorem Sp.kp{rs:List aC}{st:Sd}{xs:List Sl}{ns:Nat}{h h':AH}(s:Sp rs st xs ns h)(k:Kp h h'):Sp rs st xs ns h':=⟨s.al,s.hr,s.le,k.get s.lt s.ob,Nat.lt_of_lt_of_le s.lt k.nx⟩
theorem Pf{rs:List aC}{st:Sd}{xs:List Sl}{n:Nat}(h:n<=xs.length):(n=0/\(aX rs (aV st) (xs.take n)).la=none)\/∃m l,n=m+1/\xs[m]?=some l/\(aX rs (aV st) (xs.take n)).la=some l:=by
 cases n with
 |zero=>exact .inl ⟨rfl,rfl⟩|succ m=>obtain⟨l,hl⟩:∃l,xs[m]?=some l:=⟨_,List.getElem?_eq_getElem (by walk_at "om")⟩;exact .inr ⟨m,l,rfl,hl,yy hl⟩
theorem lT{xs:List Sl}{n:Nat}{x:Sl}(h:xs[n]?=some x):cW (xs.map Sl.av) (n:Int)=some x.av:=hX (by rw[List.getElem?_map,h];rfl)
theorem Oq{a:Int}:∀{nm:List (Option Int)},mM (.int a) (nm.map oI)=true->some a∈nm
 |[],h=>by cases h
 |o::nm,h=>by
  unfold mM at h;rw[List.map_cons,List.any_cons,Bool.or_eq_true]at h;rcases h with h|h
  .cases o with
   |none=>cases h|some b=>
    have:b=a:=by simpa[oI,iB]using h
    rw[this];exact List.mem_cons_self ..
  .exact List.mem_cons_of_mem _ (Oq h)
theorem Nj{a:Int}:∀{nm:List (Option Int)},(bY (.int a)&&(nm.map oI).all bY)=true
 |[]=>rfl|o::nm=>by have:=Nj (a:=a) (nm:=nm);rw[List.map_cons,List.all_cons];cases o<;>exact this
theorem Xp{rs:List aC}{t:Tr}{x l:Sl}{tm:Tm}(hx:bT rs t x=true)(hn:some l.tk∈x.nm)(hl:∀b l',t.fi b=some l'->l'.tk=l.tk->l'=l)(h:tm.s<l.tm.f):bT rs t ⟨x.tk,x.pc,x.nm,x.gv,x.dd,tm⟩=false:=iS λz=>by obtain⟨r,e1,-,-,-,-,-,h1⟩:=dH z;obtain⟨n1,n2⟩:=ig h1;rw[show x.nm=_ from n1]at hn;obtain⟨b,hb,e⟩:=List.mem_map.mp hn;obtain⟨l',e2,e3⟩:=Option.map_eq_some_iff.mp e;have:=hl b l' e2 e3;subst this;have:=n2 b hb l' e2;exact absurd this (by show¬l'.tm.f<=tm.s;walk_at "om")
def Hh:aP:=dI sE 2
def F4:aP:=match dQ sE 7 with
 |.ite _ b _=>b
 |_=>.nil
theorem h9{k n ns:Nat}{rs:List aC}{st:Sd}{xs:List Sl}{x:Sl}{pt:Int}{h:AH}{R:AV->AH->Prop}(s:Sp rs st xs ns h)(hx:xs[n]?=some x)
  (q:∀tm h',Kp h h'->bT rs (aX rs (aV st) (xs.take n)) ⟨x.tk,x.pc,x.nm,x.gv,x.dd,tm⟩=false->R tm.av h'):Wp (run pg (k+1) DW [.ref ns,.int (n:Int),.int pt]) h R:=by
 have ob:=s.ob;have le:=s.le;have hn:=(List.getElem?_eq_some_iff.mp hx).1;have la:=Pf (rs:=rs) (st:=st) (Nat.le_of_lt hn);have rx:=mZ s.al hx;have big:=eU;refine bF rfl rfl ?_;rw[show sE=pre sE 2 Hh from rfl];dsimp only[pre,sE];walk_at "w"
 refine bD (bA ob) (lT hx) ?_;walk_at "w"
 show Wt _ (cD _ Hh [some (.ref ns),some (.int (n:Int)),some (.int pt),some (.int x.tm.p),some (.int x.tm.s),some (.int x.tm.f),some (.int x.tm.o),some (.int (pt%6)),none]) _ _ _ _ _;dsimp only[Hh,dI,sE];have pv:∀m l,n=m+1->xs[m]?=some l->cW (xs.map Sl.av) ((n:Int)-1)=some l.av:=λm l e hl=>by rw[show(n:Int)-1=(m:Int) by walk_at "om"];exact lT hl
 rcases Py pt with e|e|e|e|e|e<;>rw[e]
 .rcases la with⟨n0,la⟩|⟨m,l,n1,hl,la⟩
  .walk_at "w"
   exact q ⟨0,x.tm.s,x.tm.f,x.tm.o⟩ h Kp.refl (Xo la (by show(0:Int)<1;decide))
  .walk_at "w"
   refine bD (bA ob) (pv m l n1 hl) ?_;walk_at "w"
   exact q ⟨l.tm.p-1,x.tm.s,x.tm.f,x.tm.o⟩ h Kp.refl (Kk la (.inl (by show l.tm.p-1<l.tm.p;walk_at "om")))
 .exact We.eq rfl (q ⟨x.tm.s,x.tm.s,x.tm.f,x.tm.o⟩ h Kp.refl (fj λz=>absurd z.1 (Int.lt_irrefl _)))
 .exact We.eq rfl (q ⟨x.tm.p,x.tm.f,x.tm.f,x.tm.o⟩ h Kp.refl (fj λz=>absurd z.2.1 (Int.lt_irrefl _)))
 .exact We.eq rfl (q ⟨x.tm.p,x.tm.s,x.tm.o,x.tm.o⟩ h Kp.refl (fj λz=>absurd z.2.2 (Int.lt_irrefl _)))
 .rcases la with⟨n0,la⟩|⟨m,l,n1,hl,la⟩
  .walk_at "w"
   exact q ⟨x.tm.p,x.tm.s,x.tm.f,x.tm.f⟩ h Kp.refl (fj λz=>absurd z.2.2 (Int.lt_irrefl _))
  .walk_at "w"
   refine bD (bA ob) (pv m l n1 hl) ?_;walk_at "w"
   exact q ⟨x.tm.p,x.tm.s,x.tm.f,l.tm.o-1⟩ h Kp.refl (Kk la (.inr (by show l.tm.o-1<l.tm.o;walk_at "om")))
 .walk_at "w"
  refine lZ ob ?_;rw[mF,<- List.map_take];walk_at "w"
  refine eg aU ?_;have oc:(h.new (.lst true ((xs.take n).map Sl.av))).ob h.nx=some (.lst true ((xs.take n).map Sl.av)):=aU;have kp:Kp h (h.new (.lst true ((xs.take n).map Sl.av))):=Kp.refl.new;have o1:(h.new (.lst true ((xs.take n).map Sl.av))).ob ns=some (.lst true (xs.map Sl.av)):=kp.get s.lt ob;generalize h.new (.lst true ((xs.take n).map Sl.av))=h1 at *;refine Bp (bb:=true) (xs:=(xs.take n).map Sl.av) (λj U h2=>h2=h1/\∃v4 v8,U=[some (.ref ns),some (.int (n:Int)),some (.int pt),some (.int x.tm.p),some (.int v4),some (.int x.tm.f),some (.int x.tm.o),some (.int 5),v8]/\(v4=x.tm.p\/∃l∈xs.take n,some l.tk∈x.nm/\v4=l.tm.f-1))
   (by rw[List.length_map,List.length_take,eY];walk_at "om") ⟨rfl,_,_,rfl,.inl rfl⟩ (λj U h2 z=>by rw[z.1];exact oc) (λj y U h2 hy hI=>?_) (λU h2 hI=>?_)
  .obtain⟨e1,v4,v8,ee,hv⟩:=hI;subst ee e1;obtain⟨l,hl,rfl⟩:=tJ hy;have hm:=List.mem_of_getElem? hl;walk_at "w"
   refine bD (bA o1) (lT hx) ?_;walk_at "w"
   refine Wj (xs:=x.nm.map oI) rfl Nj ?_;refine⟨_,rfl,?_⟩;cases hi:mM (.int l.tk) (x.nm.map oI) with
   |true=>
    walk_at "w"
    exact⟨rfl,_,_,rfl,.inr ⟨l,hm,Oq hi,rfl⟩⟩
   |false=>
    walk_at "w"
    exact⟨rfl,_,_,rfl,hv⟩
  .obtain⟨e1,v4,v8,ee,hv⟩:=hI;subst ee e1;walk_at "w"
   refine q ⟨x.tm.p,v4,x.tm.f,x.tm.o⟩ h2 kp ?_;rcases hv with rfl|⟨l,hl,hm,rfl⟩
   .exact fj λz=>absurd z.1 (Int.lt_irrefl _)
   .exact Xp rx hm (λb l' e1 e2=>Vr (yv (Aa s.al)).2.2 (Vw e1) hl e2) (by show l.tm.f-1<l.tm.f;walk_at "om")
end
section
theorem Nq{r:aC}{s:Sd}(h:(dU (bE r s)).ft=none):dD r s=none:=by
 cases hf:dD r s with
 |none=>rfl|some f=>have e1:=zb (r:=r) (s:=s);have e2:=Bb hf;have e4:=e1.trans e2;unfold De.av at e4;rw[h]at e4;have e3:=AV.tup.inj e4;simp only[List.cons.injEq]at e3;have:=Br hf;rw[<- e3.2.2.2.2.2.1]at this;cases this
theorem Zj{r:aC}{s:Sd}(hr:dP r)(h:(dU (bE r s)).ft=none):(dU (bE r s)).t=some ((cU r s).a:Int):=by
 cases qk hr (Nq h) with
 |box x p hx e n=>rw[e];rfl|ip p h0 h1 e n=>rw[e];rfl|jmp e n=>rw[e];rfl
theorem JF{rs:List aC}{r:aC}{s:Sd}(hi:rs[s.a]?=some r)(h:dD r s=none):gC rs s=cU r s:=by unfold gC;rw[hi];dsimp only;rw[h]
theorem Pj{rs:List aC}{st:Sd}{xs:List Sl}{n:Nat}{l:Sl}(al:cX rs (aV st) xs=true)(hr:∀r∈rs,dP r)(hl:xs[n]?=some l):∃r,dP r/\rs[(aX rs (aV st) (xs.take n)).st.a]?=some r/\l.dd=dU (bE r (aX rs (aV st) (xs.take n)).st)/\(l.dd.ft=none->l.dd.t=some ((aX rs (aV st) (xs.take (n+1))).st.a:Int)):=by obtain⟨r,e1,-,-,-,e2,-⟩:=dH (mZ al hl);have hro:=hr r (List.mem_of_getElem? e1);refine⟨r,hro,e1,e2,λhf=>?_⟩;rw[nG hl,my];show _=some ((gC rs _).a:Int);rw[e2]at hf ⊢;rw[JF e1 (Nq hf),Zj hro hf]
theorem Qi{k ns:Nat}{rs:List aC}{st:Sd}{xs:List Sl}{pt:Int}{h:AH}{R:AV->AH->Prop}(s:Sp rs st xs ns h)(hne:0<xs.length)(hz:0<rs.length)
  (q:∀h' m ys,Kp h h'->m<h'.nx->h'.ob m=some (.lst true (ys.map Sl.av))->rT rs st xs ys xs.length->R (.ref m) h'):Wp (run pg (k+1) DQ [.ref ns,.int pt,.int (rs.length:Int)]) h R:=by
 have ob:=s.ob;have le:=s.le;have big:=eU;obtain⟨l,hl⟩:∃l,xs[xs.length-1]?=some l:=⟨_,List.getElem?_eq_getElem (by walk_at "om")⟩;obtain⟨r,-,-,-,ht⟩:=Pj s.al s.hr hl;have la:=yy (rs:=rs) (t:=aV st) hl;rw[show xs.length-1+1=xs.length by walk_at "om",List.take_length]at ht la;have lav:cW (xs.map Sl.av) (-1)=some l.av:=by refine(Ip (n:=1) (by walk_at "om") (by rw[List.length_map];walk_at "om")).trans ?_;rw[List.length_map,List.getElem?_map,hl];rfl
 have aL:∀(at':Int),bT rs (aX rs (aV st) xs) ⟨l.tk+1,at',l.nm,l.gv,l.dd,⟨l.tm.p+40,l.tm.s+40,l.tm.f+40,l.tm.o+40⟩⟩=false->We (λ_ _=>False) (Op.g .add (.ref ns) (.ref h.nx)) (h.new (.lst true [Sl.av ⟨l.tk+1,at',l.nm,l.gv,l.dd,⟨l.tm.p+40,l.tm.s+40,l.tm.f+40,l.tm.o+40⟩⟩])) R:=λat' hb=>by refine dr (xs:=xs.map Sl.av) ((dE (Nat.ne_of_lt s.lt)).trans ob) aU (by rw[List.length_map];show _+1<=_;walk_at "om") ?_;refine q _ _ (xs++[⟨l.tk+1,at',l.nm,l.gv,l.dd,⟨l.tm.p+40,l.tm.s+40,l.tm.f+40,l.tm.o+40⟩⟩]) Kp.refl.new.new (Nat.lt_succ_self _) (by rw[aU,List.map_append];rfl) ⟨Nat.le_refl _,_,[],by rw[List.take_length],by rw[List.take_length];exact hb,Nat.zero_le _⟩
 refine bF rfl rfl ?_;unfold Jj;walk_at "w"
 refine bD (bA ob) lav ?_;walk_at "w"
 cases hf:l.dd.ft with
 |some f=>
  have hf':fK (fW (some f))=false:=by cases f;rfl
  rw[hf'];walk_at "w"
  exact aL l.pc (Xn la (by rw[hf];exact λz=>by cases z))
 |none=>
  have et:=ht hf;walk_at "w"
  have nb:bT rs (aX rs (aV st) xs) ⟨l.tk+1,((aX rs (aV st) xs).st.a+1+pt / 2%rs.length)%(rs.length+1),l.nm,l.gv,l.dd,⟨l.tm.p+40,l.tm.s+40,l.tm.f+40,l.tm.o+40⟩⟩=false:=pf (yp (by walk_at "om"));rw[et,show∀z,oI (some z) = .int z from λ_=>rfl];walk_at "w"
  rw[et,show∀z,oI (some z) = .int z from λ_=>rfl];walk_at "w"
  .rename_i hc hc2;refine aL _ (iS λz=>?_);obtain⟨r',e1,-⟩:=dH z;have:=(List.getElem?_eq_some_iff.mp e1).1;walk_at "om"
  .exact aL _ nb
  .exact aL _ nb
end
section
theorem Gx{Xc:Nat->AH->Prop}{F:Nat->List AV->M AV}{U:aE}{h:AH}{V1:AV->AH->Prop}{a b c e:Ex}{ns i j:Nat}{xs:List Sl}{y:Sl}(ob:h.ob ns=some (.lst true (xs.map Sl.av)))(hn:ns<h.nx)(hl:xs.length<=30)
  (ha:∀{h:AH} {V:AV->AH->Prop},V (.ref ns) h->We Xc (aG F a U) h V) (hb:∀{h:AH} {V:AV->AH->Prop},V (.int (i:Int)) h->We Xc (aG F b U) h V) (hc:∀{h:AH} {V:AV->AH->Prop},V (.int (j:Int)) h->We Xc (aG F c U) h V) (hv:∀{h':AH} {V:AV->AH->Prop},Kp h h'->V y.av h'->We Xc (aG F e U) h' V)
  (nb:∀m,gE b m=m.bind pY) (nc:∀m,gE c m=m.bind pY) (q:∀h' m,Kp h h'->m<h'.nx->h'.ob m=some (.lst true ((xs.take i++y::xs.drop j).map Sl.av))->V1 (.ref m) h') :
  We Xc (aG F (.op .add (.op .add (.slice a .no b) (.lst (.cons e .nil))) (.slice a c .no)) U) h V1:=by
 have big:=eU;refine fR (fR (nr (ha (nk (nq nb (hb ⟨_,rfl,?_⟩))))));refine lZ ob ?_;rw[mF,<- List.map_take];have k1:Kp h (h.new (.lst true ((xs.take i).map Sl.av))):=Kp.refl.new;have o1:(h.new (.lst true ((xs.take i).map Sl.av))).ob h.nx=some (.lst true ((xs.take i).map Sl.av)):=aU;have n1:h.nx<(h.new (.lst true ((xs.take i).map Sl.av))).nx:=Nat.lt_succ_self _;generalize h.new (.lst true ((xs.take i).map Sl.av))=h1 at *;refine zj (rS (hv k1 (Hw ⟨by show 1<=_;walk_at "om",?_⟩)));have k2:Kp h1 (h1.new (.lst true [y.av])):=Kp.refl.new;have n2:h1.nx<(h1.new (.lst true [y.av])).nx:=Nat.lt_succ_self _;refine dr (k2.get n1 o1) aU (by rw[List.length_map,List.length_take];show _+1<=_;walk_at "om") ?_;generalize h1.new (.lst true [y.av])=h2 at *;have k3:Kp h (h2.new (.lst true ((xs.take i).map Sl.av++[y.av]))):=(k1.trans k2).new;have o3:(h2.new (.lst true ((xs.take i).map Sl.av++[y.av]))).ob h2.nx=some (.lst true ((xs.take i).map Sl.av++[y.av])):=aU;have n3:h2.nx<(h2.new (.lst true ((xs.take i).map Sl.av++[y.av]))).nx:=Nat.lt_succ_self _;generalize h2.new (.lst true ((xs.take i).map Sl.av++[y.av]))=h3 at *;refine nr (ha (nq nc (hc ⟨_,rfl,nk ?_⟩)));refine lZ (k3.get hn ob) ?_;rw[qi,<- List.map_drop];have k4:Kp h3 (h3.new (.lst true ((xs.drop j).map Sl.av))):=Kp.refl.new;refine dr (k4.get n3 o3) aU (by rw[List.length_append,List.length_map,List.length_take,List.length_map,List.length_drop];show _+1+_<=_;walk_at "om") ?_;refine q _ _ (k3.trans k4).new (Nat.lt_succ_self _) ?_;rw[aU];simp
def uf:aP:=dI vR 2
theorem KU{k n ns:Nat}{rs:List aC}{st:Sd}{xs:List Sl}{x y:Sl}{h:AH}{v2 v3 v4:Option AV}{R:AV->AH->Prop}{N B C:aE->AH->Prop}(s:Sp rs st xs ns h)(hx:xs[n]?=some x)(hb:bT rs (aX rs (aV st) (xs.take n)) y=false)
  (q:∀h' m ys,Kp h h'->m<h'.nx->h'.ob m=some (.lst true (ys.map Sl.av))->rT rs st xs ys n->R (.ref m) h') :
  Wt (λ_ _=>False) (cD (run pg k) uf [some (.ref ns),some (.int (n:Int)),v2,v3,v4,some (.int y.tk),some (.int y.pc),some (.tup (y.nm.map oI)),some (oI y.gv),some y.dd.av,some y.tm.av]) h N R B C:=by
 have hn:=(List.getElem?_eq_some_iff.mp hx).1;have big:=eU;dsimp only[uf,dI,vR];refine nK (ny ?_);refine Gx (i:=n) (j:=n+1) (y:=y) s.ob s.lt s.le (λz=>dA rfl z) (λz=>dA rfl z) (λz=>fR (dA rfl (kX (dq (by rw[show(n:Int)+1=((n+1:Nat):Int) by walk_at "om"];exact z))))) (λkp z=>?_) (λ_=>rfl) (λ_=>rfl) λh' m kp hm ho=>q h' m _ kp hm ho ⟨Nat.le_of_lt hn,y,_,rfl,hb,by rw[List.length_drop];walk_at "om"⟩;walk_at "w"
 exact z
theorem Zk{rs:List aC}{st:Sd}{xs:List Sl}{n:Nat}{x:Sl}(al:cX rs (aV st) xs=true)(hr:∀r∈rs,dP r)(hx:xs[n]?=some x):x.dd.ft=none->∃t,x.dd.t=some t:=λh=>by obtain⟨r,-,-,-,ht⟩:=Pj al hr hx;exact⟨_,ht h⟩
theorem Qc{rs:List aC}{t:Tr}{x:Sl}(h:bT rs t x=true):x.nm.length<=2:=by obtain⟨r,-,-,-,-,-,-,h1⟩:=dH h;rw[(ig h1).1,List.length_map];exact ng
theorem JK{k n ns:Nat}{rs:List aC}{st:Sd}{xs:List Sl}{x:Sl}{way pt:Int}{h:AH}{R:AV->AH->Prop}(s:Sp rs st xs ns h)(hx:xs[n]?=some x)(hz:0<rs.length)(hp:0<=pt)(hw:0<=way)
  (q:∀h' m ys,Kp h h'->m<h'.nx->h'.ob m=some (.lst true (ys.map Sl.av))->rT rs st xs ys n->R (.ref m) h'):Wp (run pg (k+3) DR [.ref ns,.int (n:Int),.int way,.int pt,.int (rs.length:Int)]) h R:=by
 have ob:=s.ob;have le:=s.le;have hn:=(List.getElem?_eq_some_iff.mp hx).1;have la:=Pf (rs:=rs) (st:=st) (Nat.le_of_lt hn);have rx:=mZ s.al hx;have tks:=(yv s.al).2.1 rfl;have nl:=Qc rx;have dt:=Zk s.al s.hr hx;have aL:∀(y:Sl) {h':AH} {v2 v3 v4:Option AV} {N B C:aE->AH->Prop},Kp h h'->bT rs (aX rs (aV st) (xs.take n)) y=false->Wt (λ_ _=>False) (cD (run pg (k+2)) uf [some (.ref ns),some (.int (n:Int)),v2,v3,v4,some (.int y.tk),some (.int y.pc),some (.tup (y.nm.map oI)),some (oI y.gv),some y.dd.av,some y.tm.av]) h' N R B C:=
  λy {h' v2 v3 v4 N B C} kp hb=>KU (s.kp kp) hx hb λh2 m ys k2=>q h2 m ys (kp.trans k2)
 refine bF rfl rfl ?_;rw[show vR=pre vR 2 uf from rfl];dsimp only[pre,vR];refine nK (zk (fR (dA rfl (dA rfl (bD (bA ob) (lT hx) ?_)))));walk_at "w"
 .rename_i hc hc2;rcases la with⟨n0,la⟩|⟨m,l,n1,hl,la⟩
  .walk_at "om"
  refine bD (bA ob) (v:=l.av) (by rw[show(n:Int)-1=(m:Int) by walk_at "om"];exact lT hl) ?_;walk_at "w"
  refine aL ⟨(if l.tk-pt%2 > 0 then l.tk-pt%2 else 0),x.pc,x.nm,x.gv,x.dd,x.tm⟩ Kp.refl (Kl la ?_);have:=tks l (List.mem_of_getElem? hl);have:=Co pt;dsimp only;split<;>walk_at "om"
 .exact aL ⟨x.tk,_,x.nm,x.gv,x.dd,x.tm⟩ Kp.refl (pf (by
   obtain⟨r,-,e,-⟩:=dH rx;dsimp only;rw[e];exact yp (by walk_at "om")))
 .exact aL ⟨x.tk,_,x.nm,x.gv,x.dd,x.tm⟩ Kp.refl (pf (by
   obtain⟨r,-,e,-⟩:=dH rx;dsimp only;rw[e];exact yp (by walk_at "om")))
 .refine JA (k:=k+1) nl hp λnm' h' kp hne=>?_;walk_at "w"
  exact aL ⟨x.tk,x.pc,nm',x.gv,x.dd,x.tm⟩ kp (Kj rx hne)
 .refine FJ (k:=k+1) λg h' kp hne=>?_;walk_at "w"
  exact aL ⟨x.tk,x.pc,x.nm,g,x.dd,x.tm⟩ kp (Ki rx rfl hne)
 .refine Zl (k:=k) (by walk_at "om") dt λd' h' kp hne=>?_;walk_at "w"
  exact aL ⟨x.tk,x.pc,x.nm,x.gv,d',x.tm⟩ kp (Xm rx hne)
 .refine h9 (k:=k+1) s hx λtm h' kp hb=>?_;walk_at "w"
  exact aL ⟨x.tk,x.pc,x.nm,x.gv,x.dd,tm⟩ kp hb
end
section
structure Fo(rs:List aC)(t:Tr)(h0 h:AH)(z c:Nat)(ys:List Sl):Prop where
 kp:Kp h0 h
 ge:h0.nx<=z
 lt:z<h.nx
 ob:h.ob z=some (.lst true (ys.map Sl.av))
 al:∀y∈ys,bT rs t y=false
 le:ys.length<=c
theorem Fo.go{rs:List aC}{t:Tr}{h0 h h':AH}{z c:Nat}{ys:List Sl}(s:Fo rs t h0 h z c ys)(k:Kp h h'):Fo rs t h0 h' z c ys:=⟨s.kp.trans k,s.ge,Nat.lt_of_lt_of_le s.lt k.nx,k.get s.lt s.ob,s.al,s.le⟩
theorem Fo.up{rs:List aC}{t:Tr}{h0 h:AH}{z c d:Nat}{ys:List Sl}(s:Fo rs t h0 h z c ys)(hd:c<=d):Fo rs t h0 h z d ys:=⟨s.kp,s.ge,s.lt,s.ob,s.al,Nat.le_trans s.le hd⟩
theorem Fo.add{rs:List aC}{t:Tr}{h0 h:AH}{z c:Nat}{ys:List Sl}{y:Sl}(s:Fo rs t h0 h z c ys)(hy:bT rs t y=false):Fo rs t h0 (h.put z (.lst true (ys.map Sl.av++[y.av]))) z (c+1) (ys++[y]):=by
 refine⟨s.kp.put s.ge,s.ge,s.lt,by rw[fG,List.map_append];rfl,λu hu=>?_,?_⟩
 .rcases List.mem_append.mp hu with hu|hu
  .exact s.al u hu
  .rw[List.mem_singleton.mp hu];exact hy
 .have:=s.le;rw[List.length_append,List.length_singleton];walk_at "om"
section
variable {k n ns np z c:Nat}{rs:List aC}{st:Sd}{xs ys:List Sl}{x:Sl}{r:aC}{pt:Int}{h0 h:AH}{R:AV->AH->Prop}{N B C:aE->AH->Prop}{v11 v12 v13:Option AV}
theorem CH{bb:Bool}(s:Sp rs st xs ns h0)(hx:xs[n]?=some x)(hp:h0.ob np=some (.lst bb (rs.map aC.av)))(hn:np<h0.nx)(f:Fo rs (aX rs (aV st) (xs.take n)) h0 h z 0 [])
  (q:∀h' ys v11,Fo rs (aX rs (aV st) (xs.take n)) h0 h' z 30 ys->N [some (.ref ns),some (.int (n:Int)),some (.ref np),some (.int pt),some (.int x.tk),some (.int x.pc),some (.tup (x.nm.map oI)),some (oI x.gv),some x.dd.av,some x.tm.av,some (.ref z),v11,v12,v13] h') :
  Wt (λ_ _=>False) (eQ (run pg (k+1)) (dQ fS 2) [some (.ref ns),some (.int (n:Int)),some (.ref np),some (.int pt),some (.int x.tk),some (.int x.pc),some (.tup (x.nm.map oI)),some (oI x.gv),some x.dd.av,some x.tm.av,some (.ref z),v11,v12,v13]) h N R B C:=by
 have big:=eU;have le:=s.le;have hlt:=(List.getElem?_eq_some_iff.mp hx).1;have rx:=mZ s.al hx;obtain⟨r,e1,e2,-⟩:=dH rx;obtain⟨kd,tl,er,-⟩:=Pd r;dsimp only[dQ,fS];walk_at "w"
 refine lZ (f.kp.get s.lt s.ob) ?_;rw[mF,<- List.map_take];walk_at "w"
 refine eg aU ?_;have oc:(h.new (.lst true ((xs.take n).map Sl.av))).ob h.nx=some (.lst true ((xs.take n).map Sl.av)):=aU;have lc:h.nx<(h.new (.lst true ((xs.take n).map Sl.av))).nx:=Nat.lt_succ_self _;have f1:Fo rs (aX rs (aV st) (xs.take n)) h0 (h.new (.lst true ((xs.take n).map Sl.av))) z 0 []:=f.go Kp.refl.new;have zc:h.nx≠z:=λe=>by have:=f.lt;walk_at "om"
 generalize hcc:h.nx=cc at oc lc zc ⊢;generalize h.new (.lst true ((xs.take n).map Sl.av))=h1 at *;refine Bp (bb:=true) (xs:=(xs.take n).map Sl.av) (λj U h2=>∃ys v11,U=[some (.ref ns),some (.int (n:Int)),some (.ref np),some (.int pt),some (.int x.tk),some (.int x.pc),some (.tup (x.nm.map oI)),some (oI x.gv),some x.dd.av,some x.tm.av,some (.ref z),v11,v12,v13]/\Fo rs (aX rs (aV st) (xs.take n)) h0 h2 z j ys/\h2.ob cc=some (.lst true ((xs.take n).map Sl.av)))
  (by rw[List.length_map,List.length_take,eY];walk_at "om") ⟨[],_,rfl,f1,oc⟩ (λj U h2 ⟨_,_,_,_,o⟩=>o) (λj y U h2 hy hI=>?_) (λU h2 hI=>?_)
 .obtain⟨ys,v11,ee,f2,o2⟩:=hI;subst ee;obtain⟨l,hl,rfl⟩:=tJ hy;have hj:=(List.getElem?_eq_some_iff.mp hl).1;rw[List.length_take]at hj;have no:Fo rs (aX rs (aV st) (xs.take n)) h0 h2 z (j+1) ys:=f2.up (Nat.le_succ _);walk_at "w"
  refine bD (bA (f2.kp.get hn hp)) (v:=r.av) (by rw[e2];exact hX (by rw[List.getElem?_map,e1];rfl)) ?_;walk_at "w"
  refine bD (x:=r.av) (v:=.str kd) (xs:=.str kd::tl) (i:=0) (by rw[er];rfl) (hX (j:=0) rfl) ?_;walk_at "w"
  .cases fK (oI l.dd.b) with
   |false=>
    walk_at "w"
    exact⟨ys,_,rfl,no,o2⟩
   |true=>
    walk_at "w"
    refine Na ?_;walk_at "w"
    .cases fK (oI x.dd.p) with
     |true=>
      walk_at "w"
      exact⟨ys,_,rfl,no,o2⟩
     |false=>
      walk_at "w"
      refine Cs (a:=some l.tk) (b:=x.gv) ?_;walk_at "w"
      .have:=f2.ob;refine⟨by simp only[gP,this],?_⟩;walk_at "w"
       refine nI this (by rw[List.length_map];have:=f2.le;walk_at "om") ?_;walk_at "w"
       rename_i hc;exact⟨_,_,rfl,f2.add (y:=⟨x.tk,x.pc,x.nm,some l.tk,x.dd,x.tm⟩) (Ki rx rfl hc),(bW zc).trans o2⟩
      .exact⟨ys,_,rfl,no,o2⟩
    .exact⟨ys,_,rfl,no,o2⟩
  .exact⟨ys,_,rfl,no,o2⟩
 .obtain⟨ys,v11,ee,f2,o2⟩:=hI;subst ee;exact q h2 ys _ (f2.up (by rw[List.length_map,List.length_take];exact Nat.le_trans (Nat.min_le_right _ _) le))
def Be:Sx:=dQ (pV (dQ fS 4)) 0
theorem CI{kk:Nat}{b:Int}{w:Option Int}(s:Sp rs st xs ns h0)(hx:xs[n]?=some x)(hw:x.nm[kk]?=some w)(f:Fo rs (aX rs (aV st) (xs.take n)) h0 h z c ys)(hc:c<500)
  (q:∀h' ys v11,Fo rs (aX rs (aV st) (xs.take n)) h0 h' z (c+30) ys->(∀m,m<h.nx->m≠z->h'.ob m=h.ob m)->h.nx<=h'.nx->N [some (.ref ns),some (.int (n:Int)),some (.ref np),some (.int pt),some (.int x.tk),some (.int x.pc),some (.tup (x.nm.map oI)),some (oI x.gv),some x.dd.av,some x.tm.av,some (.ref z),v11,some (.int (kk:Int)),some (.int b)] h') :
  Wt (λ_ _=>False) (eQ (run pg (k+1)) Be [some (.ref ns),some (.int (n:Int)),some (.ref np),some (.int pt),some (.int x.tk),some (.int x.pc),some (.tup (x.nm.map oI)),some (oI x.gv),some x.dd.av,some x.tm.av,some (.ref z),v11,some (.int (kk:Int)),some (.int b)]) h N R B C:=by
 have big:=eU;have le:=s.le;have hlt:=(List.getElem?_eq_some_iff.mp hx).1;have hk:=(List.getElem?_eq_some_iff.mp hw).1;have rx:=mZ s.al hx;have nl:=Qc rx;dsimp only[Be,dQ,pV,fS];walk_at "w"
 refine lZ (f.kp.get s.lt s.ob) ?_;rw[mF,<- List.map_take];walk_at "w"
 refine eg aU ?_;have oc:(h.new (.lst true ((xs.take n).map Sl.av))).ob h.nx=some (.lst true ((xs.take n).map Sl.av)):=aU;have lc:h.nx<(h.new (.lst true ((xs.take n).map Sl.av))).nx:=Nat.lt_succ_self _;have f1:Fo rs (aX rs (aV st) (xs.take n)) h0 (h.new (.lst true ((xs.take n).map Sl.av))) z c ys:=f.go Kp.refl.new;have old:∀m,m<h.nx->m≠z->(h.new (.lst true ((xs.take n).map Sl.av))).ob m=h.ob m:=λm hm _=>dE (Nat.ne_of_lt hm);have zc:h.nx≠z:=λe=>by have:=f.lt;walk_at "om"
 generalize hcc:h.nx=cc at oc lc zc old q ⊢;generalize h.new (.lst true ((xs.take n).map Sl.av))=h1 at *;refine Bp (bb:=true) (xs:=(xs.take n).map Sl.av) (λj U h2=>∃ys v11,U=[some (.ref ns),some (.int (n:Int)),some (.ref np),some (.int pt),some (.int x.tk),some (.int x.pc),some (.tup (x.nm.map oI)),some (oI x.gv),some x.dd.av,some x.tm.av,some (.ref z),v11,some (.int (kk:Int)),some (.int b)]/\Fo rs (aX rs (aV st) (xs.take n)) h0 h2 z (c+j) ys/\h2.ob cc=some (.lst true ((xs.take n).map Sl.av))/\(∀m,m<cc->m≠z->h2.ob m=h.ob m)/\cc<=h2.nx)
  (by rw[List.length_map,List.length_take,eY];walk_at "om") ⟨ys,_,rfl,f1,oc,old,Nat.le_of_lt lc⟩ (λj U h2 ⟨_,_,_,_,o,_⟩=>o) (λj y U h2 hy hI=>?_) (λU h2 hI=>?_)
 .obtain⟨ys,v11,ee,f2,o2,old2,nx2⟩:=hI;subst ee;obtain⟨l,hl,rfl⟩:=tJ hy;have hj:=(List.getElem?_eq_some_iff.mp hl).1;rw[List.length_take]at hj;have no:Fo rs (aX rs (aV st) (xs.take n)) h0 h2 z (c+(j+1)) ys:=f2.up (by walk_at "om");walk_at "w"
  refine Na (b:=some b) ?_;walk_at "w"
  .refine bD (v:=oI w) rfl (hX (by rw[List.getElem?_map,hw];rfl)) ?_;refine Cs (a:=some l.tk) (b:=w) ?_;refine⟨_,rfl,?_⟩;by_cases hd:some l.tk=w
   .rw[decide_eq_true hd];walk_at "w"
    exact⟨ys,_,rfl,no,o2,old2,nx2⟩
   .rw[decide_eq_false hd];have ob2:=f2.ob;refine nK (Ww (Ws (dA rfl ⟨by simp only[gP,ob2],Hv (rS (dA rfl (rS (dA rfl (rS ?_)))))⟩)));refine Ra (xs:=x.nm.map oI) (i:=kk) (w:=oI (some l.tk)) (by rw[List.length_map];walk_at "om") (by rw[List.length_map];walk_at "om") (λz=>dA rfl z) (λz=>dA rfl z) (λz=>fR (dA rfl (kX (bD rfl rfl z)))) (λ_=>rfl) ?_;rw[Qy];walk_at "w"
    refine nI ob2 (by rw[List.length_map];have:=f2.le;walk_at "om") ?_;walk_at "w"
    exact⟨_,_,rfl,f2.add (y:=⟨x.tk,x.pc,x.nm.take kk++[some l.tk]++x.nm.drop (kk+1),x.gv,x.dd,x.tm⟩) (Kj rx (Uy hw hd)),(bW zc).trans o2,λm hm hz=>(bW hz).trans (old2 m hm hz),nx2⟩
  .exact⟨ys,_,rfl,no,o2,old2,nx2⟩
 .obtain⟨ys,v11,ee,f2,o2,old2,nx2⟩:=hI;subst ee;refine q h2 ys _ (f2.up ?_) old2 nx2;rw[List.length_map,List.length_take];have:=Nat.min_le_right n xs.length;walk_at "om"
end
end
section
def CC:Sx:=dQ fS 2
def Mg:aP:=dI fS 3
def Bf:aP:=dI fS 4
def Mh:aP:=dI fS 5
section
variable {k n ns np z c:Nat}{bb:Bool}{rs:List aC}{st:Sd}{xs ys:List Sl}{x:Sl}{pt:Int}{h0 h:AH}{R:AV->AH->Prop}
theorem Qv{t:Tr}{Xc:Nat->AH->Prop}{V1:AV->AH->Prop}(f:Fo rs t h0 h z c ys)(hne:ys≠[])(q:∀y,bT rs t y=false->V1 y.av h) :
  We Xc (Bi.g .len [.ref z]) h λu h1=>We Xc (Op.g .mod (.int (pt / 2)) u) h1 λy h2=>We Xc (Op.g .ix (.ref z) y) h2 V1:=by
 have hl:=List.length_pos_iff.mpr hne;refine Ht (bA f.ob) ?_;refine Wk (by rw[List.length_map];walk_at "om") ?_;have h1:=Int.emod_nonneg (pt / 2) (show((ys.map Sl.av).length:Int)≠0 by rw[List.length_map];walk_at "om");have h2:=Int.emod_lt_of_pos (pt / 2) (show 0<((ys.map Sl.av).length:Int) by rw[List.length_map];walk_at "om");obtain⟨i,hi⟩:=Int.eq_ofNat_of_zero_le h1;rw[hi]at h2 ⊢;rw[List.length_map]at h2;obtain⟨y,hy⟩:∃y,ys[i]?=some y:=⟨_,List.getElem?_eq_getElem (by walk_at "om")⟩;exact bD (bA f.ob) (lT hy) (q y (f.al y (List.mem_of_getElem? hy)))
theorem qo:decide (ys.map Sl.av=[])=decide (ys=[]):=by simp
theorem CG(s:Sp rs st xs ns h)(hx:xs[n]?=some x)(hp:h.ob np=some (.lst bb (rs.map aC.av)))(hn:np<h.nx)
  (q1:∀h',Kp h h'->R .aB h') (q2:∀y h',Kp h h'->bT rs (aX rs (aV st) (xs.take n)) y=false->R y.av h'):Wp (run pg (k+2) DM [.ref ns,.int (n:Int),.ref np,.int pt]) h R:=by
 have rx:=mZ s.al hx;obtain⟨r,e1,e2,-,-,-,-,e3⟩:=dH rx;have enm:=(ig e3).1;have wl:=ng (r:=r);refine bF rfl rfl ?_;rw[show fS=pre fS 2 (.cons CC Mg) from rfl];dsimp only[pre,fS];refine nK (zk (fR (dA rfl (dA rfl (bD (bA s.ob) (lT hx) ?_)))));walk_at "w"
 refine CH (k:=k) s hx hp hn (f:=⟨Kp.refl.new,Nat.le_refl _,Nat.lt_succ_self _,aU,λ_ z=>(by cases z),Nat.le_refl _⟩) λh1 ys v11 f=>?_;rw[show Mg = .cons (dQ fS 3) Bf from rfl];dsimp only[dQ,fS];have f1:Fo rs (aX rs (aV st) (xs.take n)) h (h1.new (.lst true [])) h.nx 30 ys:=f.go Kp.refl.new;walk_at "w"
 refine zg (show dY (.ref _) (.ref _)=none from rfl) (qp f1.ob aU) ?_;rw[qo];generalize h1.new (.lst true [])=h2 at *;have rest:Wt (λ_ _=>False) (cD (run pg (k+1)) Bf [some (.ref ns),some (.int (n:Int)),some (.ref np),some (.int pt),some (.int x.tk),some (.int x.pc),some (.tup (x.nm.map oI)),some (oI x.gv),some x.dd.av,some x.tm.av,some (.ref h.nx),v11,none,none]) h2 (λ_ h1=>R .aB h1) R (λ_ _=>False) (λ_ _=>False):=by
  rw[show Bf = .cons (.fV (.tup 2 (.cons (.nm 12) (.cons (.nm 13) .nil))) (.enum (.call 34 (.cons (.op .ix (.var 2) (.var 5)) .nil))) (.cons Be .nil)) Mh from rfl];walk_at "w"
  refine bD (bA (f1.kp.get hn hp)) (v:=r.av) (by rw[e2];exact hX (by rw[List.getElem?_map,e1];rfl)) ?_;walk_at "w"
  refine Pw (k:=k) ?_;have ow:(h2.new (.lst true (r.want.map .int))).ob h2.nx=some (.lst true (r.want.map .int)):=aU;have lw:h2.nx<(h2.new (.lst true (r.want.map .int))).nx:=Nat.lt_succ_self _;have f2:Fo rs (aX rs (aV st) (xs.take n)) h (h2.new (.lst true (r.want.map .int))) h.nx 30 ys:=f1.go Kp.refl.new;have zw:h2.nx≠h.nx:=λe=>by have:=f1.lt;walk_at "om"
  refine⟨_,true,_,rfl,ow,?_⟩;generalize h2.nx=wz at ow lw zw ⊢;generalize h2.new (.lst true (r.want.map .int))=h3 at *;refine Bo (bb:=true) (xs:=r.want.map .int) (λi U h4=>∃ys v11 v12 v13,U=[some (.ref ns),some (.int (n:Int)),some (.ref np),some (.int pt),some (.int x.tk),some (.int x.pc),some (.tup (x.nm.map oI)),some (oI x.gv),some x.dd.av,some x.tm.av,some (.ref h.nx),v11,v12,v13]/\Fo rs (aX rs (aV st) (xs.take n)) h h4 h.nx (30+30*i) ys/\h4.ob wz=some (.lst true (r.want.map .int))/\wz<h4.nx)
   (by rw[List.length_map,eY];walk_at "om") ⟨ys,_,_,_,rfl,f2,ow,lw⟩ (λi U h4 ⟨_,_,_,_,_,_,o,_⟩=>o) (λi b U h4 hbb hI=>?_) (λU h4 hI=>?_)
  .obtain⟨ys,v11,v12,v13,ee,f4,o4,l4⟩:=hI;subst ee;obtain⟨b,hb,rfl⟩:=tJ hbb;have hi:=(List.getElem?_eq_some_iff.mp hb).1;obtain⟨w,hw⟩:∃w,x.nm[i]?=some w:=⟨_,by rw[enm,List.getElem?_map,hb];rfl⟩;walk_at "w"
   refine CI (k:=k) s hx hw f4 (by walk_at "om") λh5 ys v11 f5 old nx=>?_;walk_at "w"
   exact⟨ys,_,_,_,rfl,f5,(old wz l4 zw).trans o4,Nat.lt_of_lt_of_le l4 nx⟩
  .obtain⟨ys,v11,v12,v13,ee,f4,o4,l4⟩:=hI;subst ee;dsimp only[Mh,dI,fS];have f5:Fo rs (aX rs (aV st) (xs.take n)) h (h4.new (.lst true [])) h.nx _ ys:=f4.go Kp.refl.new;walk_at "w"
   refine dy (show dY (.ref _) (.ref _)=none from rfl) (qp f5.ob aU) ?_;rw[qo];generalize h4.new (.lst true [])=h6 at *;refine⟨_,rfl,?_⟩;by_cases hy:ys=[]
   .rw[decide_eq_true hy];walk_at "w"
    exact q1 h6 f5.kp
   .rw[decide_eq_false hy];walk_at "w"
    exact Qv f5 hy λy hb=>q2 y h6 f5.kp hb
 refine⟨_,rfl,?_⟩;by_cases hy:ys=[]
 .rw[decide_eq_true hy];walk_at "w"
  exact rest
 .rw[decide_eq_false hy];walk_at "w"
  .exact Qv f1 hy λy hb=>q2 y h2 f1.kp hb
  .exact rest
end
end
section
def Nb:aP:=match dQ (pV (dQ vQ 0)) 2 with
 |.ite _ b _=>b
 |_=>.nil
def Nc:aP:=dI vQ 1
section
variable {k n ns np:Nat}{bb:Bool}{rs:List aC}{st:Sd}{xs:List Sl}{pt:Int}{h:AH}{R:AV->AH->Prop}
theorem CF(s:Sp rs st xs ns h)(hp:h.ob np=some (.lst bb (rs.map aC.av)))(hn:np<h.nx)(hl:0<xs.length)(hz:0<rs.length)
  (q:∀h' m0 m ys due,Kp h h'->m0<h'.nx->m<h'.nx->h'.ob m0=some (.lst true [.ref m,.int (due:Nat)])->h'.ob m=some (.lst true (ys.map Sl.av))->rT rs st xs ys due->R (.ref m0) h') :
  Wp (run pg (k+3) DN [.ref ns,.int (n:Int),.ref np,.int pt]) h R:=by
 have ob:=s.ob;have le:=s.le;have big:=eU;refine bF rfl rfl ?_;rw[show vQ = .cons (.fV (.nm 4) (.nA (.cons (.bi .len (.cons (.var 0) .nil)) .nil))
  (.cons (.asg (.nm 5) (.op .mod (.op .add (.var 1) (.var 4)) (.bi .len (.cons (.var 0) .nil)))) (.cons (.asg (.nm 6) (.call 43 (.cons (.var 0) (.cons (.var 5) (.cons (.var 2) (.cons (.var 3) .nil)))))) (.cons (.ite (.cmp .isn (.var 6) (.val .aB)) Nb .nil) .nil)))) Nc from rfl]
 have hlm:((xs.map Sl.av).length:Int)=(xs.length:Int):=by rw[List.length_map]
 walk_at "w"
 refine Np (lo:=0) (λi U h2=>Kp h h2/\∃v4 v5 v6,U=[some (.ref ns),some (.int (n:Int)),some (.ref np),some (.int pt),v4,v5,v6]) (by rw[eY];walk_at "om") ⟨Kp.refl,_,_,_,rfl⟩ (λi U h2 hi hI=>?_) (λU h2 hI=>?_)
 .obtain⟨kp,v4,v5,v6,ee⟩:=hI;subst ee;have ob2:=kp.get s.lt ob;walk_at "w"
  rw[hlm];have h3:=Int.emod_nonneg ((n:Int)+(0+(i:Int))) (show(xs.length:Int)≠0 by walk_at "om");have h4:=Int.emod_lt_of_pos ((n:Int)+(0+(i:Int))) (show 0<(xs.length:Int) by walk_at "om");obtain⟨j,hj⟩:=Int.eq_ofNat_of_zero_le h3;rw[hj]at h4 ⊢;obtain⟨x,hx⟩:∃x,xs[j]?=some x:=⟨_,List.getElem?_eq_getElem (by walk_at "om")⟩;refine CG (k:=k) (s.kp kp) hx (kp.get hn hp) (Nat.lt_of_lt_of_le hn kp.nx) (λh5 kp5=>?_) (λy h5 kp5 hb=>?_)
  .walk_at "w"
   exact⟨kp.trans kp5,_,_,_,rfl⟩
  .walk_at "w"
   dsimp only[Nb,dQ,pV,vQ];have s5:=(s.kp kp).kp kp5;refine nK (ny (zj (rS ?_)));refine Gx (i:=j) (j:=j+1) (y:=y) s5.ob s5.lt s5.le (λz=>dA rfl z) (λz=>dA rfl z) (λz=>fR (dA rfl (kX (dq (by rw[show(j:Int)+1=((j+1:Nat):Int) by walk_at "om"];exact z))))) (λ_ z=>dA rfl z) (λ_=>rfl) (λ_=>rfl) λh6 m kp6 hm ho=>?_;walk_at "w"
   exact q _ _ m _ j ((kp.trans (kp5.trans kp6)).new) (Nat.lt_succ_self _) (Nat.lt_succ_of_lt hm) aU ((dE (Nat.ne_of_lt hm)).trans ho) ⟨by walk_at "om",y,_,rfl,hb,by rw[List.length_drop];walk_at "om"⟩
 .obtain⟨kp,v4,v5,v6,ee⟩:=hI;subst ee;dsimp only[Nc,dI,vQ];have ob2:=kp.get s.lt ob;have op2:=kp.get hn hp;walk_at "w"
  rw[List.length_map];refine Qi (k:=k+1) (s.kp kp) hl hz λh3 m ys kp3 hm ho hb=>?_;have ob3:=kp3.get (Nat.lt_of_lt_of_le s.lt kp.nx) ob2;walk_at "w"
  rw[List.length_map];exact q _ _ m _ xs.length ((kp.trans kp3).new) (Nat.lt_succ_self _) (Nat.lt_succ_of_lt hm) aU ((dE (Nat.ne_of_lt hm)).trans ho) hb
end
end
section
def sj:Sx->aP
 |.ite _ b _=>b
 |_=>.nil
def Ve:aP:=dI iJ 6
def Vd:aP:=sj (dQ iJ 6)
def mq:aP:=sj (dQ iJ 7)
def dc:aP:=dI iJ 8
section
variable {k ns np:Nat}{bb:Bool}{rs:List aC}{st:Sd}{xs:List Sl}{nu:Int}{h:AH}{R:AV->AH->Prop}
theorem ZN(s:Sp rs st xs ns h)(hp:h.ob np=some (.lst bb (rs.map aC.av)))(hn:np<h.nx)(hl:0<xs.length)(hz:0<rs.length)(h0:0<=nu)
  (q:∀h' m0 m ys due,Kp h h'->m0<h'.nx->m<h'.nx->h'.ob m0=some (.lst true [.ref m,.int (due:Nat)])->h'.ob m=some (.lst true (ys.map Sl.av))->rT rs st xs ys due->R (.ref m0) h') :
  Wp (run pg (k+4) EA [.ref ns,.int nu,.ref np]) h R:=by
 have ob:=s.ob;have le:=s.le;have big:=eU;have hlm:((xs.map Sl.av).length:Int)=(xs.length:Int):=by rw[List.length_map]
 have hrm:((rs.map aC.av).length:Int)=(rs.length:Int):=by rw[List.length_map]
 refine bF rfl rfl ?_;rw[show iJ=pre iJ 6 Ve from rfl];dsimp only[pre,iJ];have h3:=Int.emod_nonneg (nu / 14) (show(xs.length:Int)≠0 by walk_at "om");have h4:=Int.emod_lt_of_pos (nu / 14) (show 0<(xs.length:Int) by walk_at "om");obtain⟨n,hj⟩:=Int.eq_ofNat_of_zero_le h3;rw[hj]at h4;obtain⟨x,hx⟩:∃x,xs[n]?=some x:=⟨_,List.getElem?_eq_getElem (by walk_at "om")⟩;have rx:=mZ s.al hx;walk_at "w"
 .rw[hlm,hj];exact CF (k:=k) s hp hn hl hz q
 .rw[hlm,hj,hrm];refine JK (k:=k) s hx hz (by walk_at "om") (by walk_at "om") λh1 m ys kp hm ho hb=>?_;walk_at "w"
  exact q _ _ m ys n kp.new (Nat.lt_succ_self _) (Nat.lt_succ_of_lt hm) aU ((dE (Nat.ne_of_lt hm)).trans ho) hb
 .rw[hlm,hj,hrm];rw[show Ve = .cons (.ite (.and (.cmp .eq (.var 4) (.val (.int 9))) (.and (.cmp .lt (.op .add (.var 3) (.val (.int 1))) (.bi .len (.cons (.var 0) .nil))) (.cmp .ne (.op .ix (.op .ix (.var 0) (.var 3)) (.val (.int 1))) (.op .ix (.op .ix (.var 0) (.op .add (.var 3) (.val (.int 1)))) (.val (.int 1)))))) Vd .nil) (.cons (.ite (.cmp .eq (.var 4) (.val (.int 10))) mq .nil) dc) from rfl];have fE:Wt (λ_ _=>False) (cD (run pg (k+3)) dc [some (.ref ns),some (.int nu),some (.ref np),some (.int (n:Int)),some (.int (nu%14)),some (.int (nu / 400)),some (.int (rs.length:Int))]) h (λ_ h1=>R .aB h1) R (λ_ _=>False) (λ_ _=>False):=by
   dsimp only[dc,dI,iJ];walk_at "w"
   refine Qi (k:=k+2) s hl hz λh1 m ys kp hm ho hb=>?_;have ob1:=kp.get s.lt ob;walk_at "w"
   rw[hlm];exact q _ _ m ys _ kp.new (Nat.lt_succ_self _) (Nat.lt_succ_of_lt hm) aU ((dE (Nat.ne_of_lt hm)).trans ho) hb
  have fB:Wt (λ_ _=>False) (cD (run pg (k+3)) mq [some (.ref ns),some (.int nu),some (.ref np),some (.int (n:Int)),some (.int (nu%14)),some (.int (nu / 400)),some (.int (rs.length:Int))]) h (λU1 h1=>Wt (λ_ _=>False) (cD (run pg (k+3)) dc U1) h1 (λ_ h1=>R .aB h1) R (λ_ _=>False) (λ_ _=>False)) R (λ_ _=>False) (λ_ _=>False):=by
   dsimp only[mq,sj,dQ,iJ];refine nK (ny (zj (rS ?_)));have en:(n:Int)+1=((n+1:Nat):Int):=by walk_at "om"
   refine Gx (i:=n+1) (j:=n+1) (y:=x) s.ob s.lt s.le (λz=>dA rfl z) (λz=>fR (dA rfl (kX (dq (by rw[en];exact z))))) (λz=>fR (dA rfl (kX (dq (by rw[en];exact z))))) (λkp z=>fR (dA rfl (dA rfl (bD (bA (kp.get s.lt ob)) (lT hx) z)))) (λ_=>rfl) (λ_=>rfl) λh6 m kp6 hm ho=>?_;walk_at "w"
   rw[en];exact q _ _ m _ (n+1) kp6.new (Nat.lt_succ_self _) (Nat.lt_succ_of_lt hm) aU ((dE (Nat.ne_of_lt hm)).trans ho) ⟨by walk_at "om",x,_,rfl,Kl (yy hx) (Int.le_refl _),by rw[List.length_drop];walk_at "om"⟩
  have aL:Wt (λ_ _=>False) (cD (run pg (k+3)) (.cons (.ite (.cmp .eq (.var 4) (.val (.int 10))) mq .nil) dc) [some (.ref ns),some (.int nu),some (.ref np),some (.int (n:Int)),some (.int (nu%14)),some (.int (nu / 400)),some (.int (rs.length:Int))]) h (λ_ h1=>R .aB h1) R (λ_ _=>False) (λ_ _=>False):=by
   walk_at "w"
   .exact fB
   .exact fE
  show Wt _ (cD _ _ [some (.ref ns),some (.int nu),some (.ref np),some (.int (n:Int)),some (.int (nu%14)),some (.int (nu / 400)),some (.int (rs.length:Int))]) _ _ _ _ _;generalize (aP.cons (.ite (.cmp .eq (.var 4) (.val (.int 10))) mq .nil) dc)=tl at aL ⊢;walk_at "w"
  .rename_i hc1 hc2 hc3 hc4;refine bD (bA ob) (lT hx) ?_;walk_at "w"
   obtain⟨x',hx'⟩:∃x',xs[n+1]?=some x':=⟨_,List.getElem?_eq_getElem (by walk_at "om")⟩;refine bD (bA ob) (v:=x'.av) (by rw[show(n:Int)+1=((n+1:Nat):Int) by walk_at "om"];exact lT hx') ?_;walk_at "w"
   .rename_i hd;dsimp only[Vd,sj,dQ,iJ];walk_at "w"
    refine lZ ob ?_;rw[mF,<- List.map_take];have k1:Kp h (h.new (.lst true ((xs.take n).map Sl.av))):=Kp.refl.new;have o1:(h.new (.lst true ((xs.take n).map Sl.av))).ob h.nx=some (.lst true ((xs.take n).map Sl.av)):=aU;have n1:h.nx<(h.new (.lst true ((xs.take n).map Sl.av))).nx:=Nat.lt_succ_self _;generalize h.new (.lst true ((xs.take n).map Sl.av))=h1 at *;walk_at "w"
    rw[show(n:Int)+1=((n+1:Nat):Int) by walk_at "om"];refine lZ (k1.get s.lt ob) ?_;rw[qi,<- List.map_drop];have k2:Kp h1 (h1.new (.lst true ((xs.drop (n+1)).map Sl.av))):=Kp.refl.new;refine dr (k2.get n1 o1) aU (by rw[List.length_map,List.length_take,List.length_map,List.length_drop];walk_at "om") ?_;generalize h1.new (.lst true ((xs.drop (n+1)).map Sl.av))=h2 at *;have ed:xs.drop (n+1)=x'::xs.drop (n+2):=by rw[List.drop_eq_getElem_cons (by walk_at "om")];congr 1;exact(List.getElem?_eq_some_iff.mp hx').2
    walk_at "w"
    refine q _ _ _ (xs.take n++xs.drop (n+1)) n ((k1.trans k2).new.new) (Nat.lt_succ_self _) (Nat.lt_succ_of_lt (Nat.lt_succ_self _)) aU ((dE (Nat.ne_of_lt (Nat.lt_succ_self _))).trans (by rw[aU,List.map_append])) ⟨by walk_at "om",x',_,by rw[ed],pf ?_,by rw[List.length_drop];walk_at "om"⟩;obtain⟨r,-,e,-⟩:=dH rx;rw[<- e];exact λz=>hd z.symm
   .exact aL
  .exact aL
  .exact aL
end
end
section
theorem fw{h:AH}{n:Nat}{vs:List AV}(H:∀v∈vs,bV h n v v=some true):bV h (n+1) (.tup vs) (.tup vs)=some true:=by
 have hf:¬(bY (.tup vs)=true/\bY (.tup vs)=true):=λz=>by cases z.1
 rw[bV,if_neg hf,if_neg (λz=>by cases z)];show(if false=false then if false=true/\vs.length≠vs.length then some false else(eP (bV h n) vs vs).map λb=>b&&decide (vs.length=vs.length) else some false)=_;rw[if_pos rfl,if_neg (λz=>by cases z.1),Bh rfl (λi x y e1 e2=>by rw[e1]at e2;cases e2;exact H x (List.mem_of_getElem? e1))]
 simp
theorem sN{h:AH}{n:Nat}{a:Option Int}:bV h (n+1) (oI a) (oI a)=some true:=by rw[qq,decide_eq_true rfl]
theorem fu{h:AH}{n:Nat}{a:Int}:bV h (n+1) (.int a) (.int a)=some true:=sN (a:=some a)
theorem CM{h:AH}{n:Nat}{a:PySem.Str}:bV h (n+1) (.str a) (.str a)=some true:=by simp[bV,bY,iB]
theorem CO{h:AH}{n:Nat}{x:Sl}:bV h (n+4) x.av x.av=some true:=by
 unfold Sl.av De.av Tm.av;refine fw λv hv=>?_;simp only[List.mem_cons,List.not_mem_nil,or_false]at hv;rcases hv with rfl|rfl|rfl|rfl|rfl|rfl
 .exact fu
 .exact fu
 .refine fw λv hv=>?_;obtain⟨o,_,rfl⟩:=List.mem_map.mp hv;exact sN
 .exact sN
 .refine fw λv hv=>?_;simp only[List.mem_cons,List.not_mem_nil,or_false]at hv;rcases hv with rfl|rfl|rfl|rfl|rfl|rfl
  .exact fu
  .exact sN
  .exact sN
  .exact sN
  .exact sN
  .rw[Mm,decide_eq_true rfl]
 .refine fw λv hv=>?_;simp only[List.mem_cons,List.not_mem_nil,or_false]at hv;rcases hv with rfl|rfl|rfl|rfl<;>exact fu
theorem CL{h:AH}{n:Nat}{r:aC}:bV h (n+2) r.av r.av=some true:=by
 cases r<;>exact fw λv hv=>by
  simp only[List.mem_cons,List.not_mem_nil,or_false]at hv;rcases hv with rfl|hv
  .exact CM
  .rcases hv with rfl|rfl|rfl<;>exact fu
theorem Ms{h:AH}{n m:Nat}{b1 b2:Bool}{vs:List AV}(e1:h.ob n=some (.lst b1 vs))(e2:h.ob m=some (.lst b2 vs))(H:∀v∈vs,bV h 11 v v=some true):eqT h (.ref n) (.ref m)=some true:=
 Mx e1 e2 (CK e1 e2 rfl (Bh rfl λi x y a b=>by rw[a]at b;cases b;exact H x (List.mem_of_getElem? a)))
theorem Mt{h:AH}{n m:Nat}{b1 b2:Bool}{xs:List Sl}(e1:h.ob n=some (.lst b1 (xs.map Sl.av)))(e2:h.ob m=some (.lst b2 (xs.map Sl.av))):eqT h (.ref n) (.ref m)=some true:=Ms e1 e2 λv hv=>by obtain⟨x,_,rfl⟩:=List.mem_map.mp hv;exact CO
theorem CP{h:AH}{n m:Nat}{b1 b2:Bool}{xs:List aC}(e1:h.ob n=some (.lst b1 (xs.map aC.av)))(e2:h.ob m=some (.lst b2 (xs.map aC.av))):eqT h (.ref n) (.ref m)=some true:=Ms e1 e2 λv hv=>by obtain⟨x,_,rfl⟩:=List.mem_map.mp hv;exact CL
theorem Ox{k:Nat}{a:Int}{h:AH}{R:AV->AH->Prop}(q:R (.bl true) h):Wp (run pg (k+1) DO [.int a,.int a]) h R:=by
 refine bF rfl rfl ?_;unfold Jh;walk_at "w"
 rw[decide_eq_true rfl];exact q
structure Al(ns:List Int)(rs:List aC)(st:Sd)(xs:List Sl)(np ns' nh na:Nat)(h:AH):Prop where
 o0:h.ob 0=some (.lst false (ns.map AV.int))
 op:h.ob np=some (.lst true (rs.map aC.av))
 oh:h.ob nh=some (.lst true (xs.map Sl.av))
 oa:h.ob na=some (.lst true (rs.map aC.av))
 sp:Sp rs st xs ns' h
 lt:0<h.nx/\np<h.nx/\nh<h.nx/\na<h.nx
theorem Al.kp{ns:List Int}{rs:List aC}{st:Sd}{xs:List Sl}{np ns' nh na:Nat}{h h':AH}(s:Al ns rs st xs np ns' nh na h)(k:Kp h h'):Al ns rs st xs np ns' nh na h':=by obtain⟨l1,l2,l3,l4⟩:=s.lt;have:=k.nx;exact⟨k.get l1 s.o0,k.get l2 s.op,k.get l3 s.oh,k.get l4 s.oa,s.sp.kp k,by walk_at "om",by walk_at "om",by walk_at "om",by walk_at "om"⟩
def Cj:aP:=pV (dQ hZ 9)
def Pu:aP:=dI hZ 10
theorem IC{i np ns' nh na:Nat}{ns:List Int}{rs:List aC}{st:Sd}{xs:List Sl}{h:AH}{v1 v4 v9 v10 v11:Option AV}{R:AV->AH->Prop}{N B C:aE->AH->Prop}(A:Al ns rs st xs np ns' nh na h)(ok:eN st)(hl:0<xs.length)(hz:0<rs.length)(hi:i<5)
  (q:∀h' v9 v10 v11,Kp h h'->N [some (.ref 0),v1,some (.ref np),some (sV st),v4,some (.ref ns'),some (.ref nh),some (.ref na),some (.int (i:Int)),v9,v10,v11] h') :
  Wt (λ_ _=>False) (cD (run pg 11) Cj [some (.ref 0),v1,some (.ref np),some (sV st),v4,some (.ref ns'),some (.ref nh),some (.ref na),some (.int (i:Int)),v9,v10,v11]) h N R B C:=by
 have le:=A.sp.le;dsimp only[Cj,pV,dQ,hZ];walk_at "w"
 refine qe (k:=10) A.o0 (by walk_at "om") λz=>?_;walk_at "w"
 refine qL (k:=10) (by walk_at "om") (by walk_at "om") λnu n0 n1=>?_;walk_at "w"
 refine ZN (k:=7) A.sp A.op A.lt.2.1 hl hz n0 λh1 m0 m ys due kp1 lm0 lm o0 om bad=>?_;obtain⟨w1,w2,w3,w4,w5⟩:=bad.all A.sp.al;have A1:=A.kp kp1;refine Hq (bA o0) rfl ?_;walk_at "w"
 refine ni (bA om) ?_;have k2:Kp h1 (h1.new (.lst true (ys.map Sl.av))):=Kp.refl.new;have ok2:(h1.new (.lst true (ys.map Sl.av))).ob h1.nx=some (.lst true (ys.map Sl.av)):=aU;have lk2:h1.nx<(h1.new (.lst true (ys.map Sl.av))).nx:=Nat.lt_succ_self _;generalize h1.nx=mk at ok2 lk2 ⊢;generalize h1.new (.lst true (ys.map Sl.av))=h2 at *;have A2:=A1.kp k2;have om2:=k2.get lm om;have lm2:=Nat.lt_of_lt_of_le lm k2.nx;walk_at "w"
 refine nv (k:=3) A2.oa A2.lt.2.2.2 om2 lm2 A2.sp.hr ok (by walk_at "om") λh3 k3=>?_;rw[w1];walk_at "w"
 refine Ox (k:=10) ?_;walk_at "w"
 have A3:=A2.kp k3;have om3:=k3.get lm2 om2;have lm3:=Nat.lt_of_lt_of_le lm2 k3.nx;refine zg (show dY (.ref _) (.ref _)=none from rfl) (Mt om3 (k3.get lk2 ok2)) ?_;walk_at "w"
 refine lZ om3 ?_;rw[show(due:Int)+1=((due+1:Nat):Int) by walk_at "om",mF,<- List.map_take];have k4:Kp h3 (h3.new (.lst true ((ys.take (due+1)).map Sl.av))):=Kp.refl.new;have o4:(h3.new (.lst true ((ys.take (due+1)).map Sl.av))).ob h3.nx=some (.lst true ((ys.take (due+1)).map Sl.av)):=aU;have l4:h3.nx<(h3.new (.lst true ((ys.take (due+1)).map Sl.av))).nx:=Nat.lt_succ_self _;generalize h3.nx=m4 at o4 l4 ⊢;generalize h3.new (.lst true ((ys.take (due+1)).map Sl.av))=h4 at *;have A4:=A3.kp k4;walk_at "w"
 refine nv (k:=3) A4.oa A4.lt.2.2.2 o4 l4 A4.sp.hr ok (by rw[List.length_take];walk_at "om") λh5 k5=>?_;rw[w2];walk_at "w"
 refine Ox (k:=10) ?_;walk_at "w"
 have A5:=A4.kp k5;have om5:=(k4.trans k5).get lm3 om3;refine lZ om5 ?_;rw[mF,<- List.map_take];have k6:Kp h5 (h5.new (.lst true ((ys.take due).map Sl.av))):=Kp.refl.new;have o6:(h5.new (.lst true ((ys.take due).map Sl.av))).ob h5.nx=some (.lst true ((ys.take due).map Sl.av)):=aU;have l6:h5.nx<(h5.new (.lst true ((ys.take due).map Sl.av))).nx:=Nat.lt_succ_self _;generalize h5.nx=m6 at o6 l6 ⊢;generalize h5.new (.lst true ((ys.take due).map Sl.av))=h6 at *;have A6:=A5.kp k6;walk_at "w"
 refine nv (k:=3) A6.oa A6.lt.2.2.2 o6 l6 A6.sp.hr ok (by rw[List.length_take];walk_at "om") λh7 k7=>?_;rw[w3];walk_at "w"
 exact q h7 _ _ _ (kp1.trans (k2.trans (k3.trans (k4.trans (k5.trans (k6.trans k7))))))
end
section
def Ci:aP:=dI hZ 7
theorem IB{np ns' nh na:Nat}{ns:List Int}{rs:List aC}{st:Sd}{xs:List Sl}{h:AH}{v1 v4:Option AV}{B C:aE->AH->Prop}{N:aE->AH->Prop}(A:Al ns rs st xs np ns' nh na h)(ok:eN st) :
  Wt (λ_ _=>False) (cD (run pg 11) Ci [some (.ref 0),v1,some (.ref np),some (sV st),v4,some (.ref ns'),some (.ref nh),some (.ref na),none,none,none,none]) h N (λv _=>v = .bl true) B C:=by
 have le:=A.sp.le;rw[show Ci = .cons (dQ hZ 7) (.cons (dQ hZ 8) (.cons (.fV (.nm 8) (.nA (.cons (.val (.int 5)) .nil)) Cj) Pu)) from rfl];dsimp only[dQ,hZ];walk_at "w"
 refine nv (k:=3) A.oa A.lt.2.2.2 A.oh A.lt.2.2.1 A.sp.hr ok (by walk_at "om") λh1 k1=>?_;rw[Hz A.sp.al];walk_at "w"
 have A1:=A.kp k1;have k2:Kp h1 (h1.new (.lst true (([]:List Sl).map Sl.av))):=Kp.refl.new;have o2:(h1.new (.lst true (([]:List Sl).map Sl.av))).ob h1.nx=some (.lst true (([]:List Sl).map Sl.av)):=aU;have l2:h1.nx<(h1.new (.lst true (([]:List Sl).map Sl.av))).nx:=Nat.lt_succ_self _;show Wp (run pg 11 Ni [.ref na,sV st,.ref h1.nx]) (h1.new (.lst true (([]:List Sl).map Sl.av))) _;generalize h1.nx=m2 at o2 l2 ⊢;generalize h1.new (.lst true (([]:List Sl).map Sl.av))=h2 at *;have A2:=A1.kp k2;refine nv (k:=3) A2.oa A2.lt.2.2.2 o2 l2 A2.sp.hr ok (by decide) λh3 k3=>?_;rw[show eX rs (aV st) []=none from rfl];have A3:=A2.kp k3;walk_at "w"
 have k4:Kp h3 (h3.new (.lst true [])):=Kp.refl.new;have A4:=A3.kp k4;refine dy (show dY (.ref _) (.ref _)=none from rfl) (qp A4.sp.ob aU) ?_;rw[qo];generalize h3.new (.lst true [])=h4 at *;refine⟨_,rfl,?_⟩;by_cases hx:xs=[]
 .rw[decide_eq_true hx];walk_at "w"
  have A5:=A4.kp (Kp.refl.new (o:=.lst true []));refine dy (show dY (.ref _) (.ref _)=none from rfl) (qp A5.oh aU) ?_;rw[qo,decide_eq_true hx]
 .rw[decide_eq_false hx];have hl:=List.length_pos_iff.mpr hx;have hz:0<rs.length:=by obtain⟨x,hx⟩:∃x,xs[0]?=some x:=⟨_,List.getElem?_eq_getElem hl⟩;obtain⟨r,e1,-⟩:=dH (mZ A.sp.al hx);have:=(List.getElem?_eq_some_iff.mp e1).1;walk_at "om"
  walk_at "w"
  refine Np (lo:=0) (λi U h2=>Kp h4 h2/\∃v8 v9 v10 v11,U=[some (.ref 0),v1,some (.ref np),some (sV st),v4,some (.ref ns'),some (.ref nh),some (.ref na),v8,v9,v10,v11]) (by rw[eY];decide) ⟨Kp.refl,_,_,_,_,rfl⟩ (λi U h5 hi hI=>?_) (λU h5 hI=>?_)
  .obtain⟨kp,v8,v9,v10,v11,ee⟩:=hI;subst ee;walk_at "w"
   rw[show(0:Int)+(i:Int)=(i:Int) by walk_at "om"];exact IC (A4.kp kp) ok hl hz (by simpa using hi) λh6 u9 u10 u11 k6=>⟨kp.trans k6,_,_,_,_,rfl⟩
  .obtain⟨kp,v8,v9,v10,v11,ee⟩:=hI;subst ee;have A5:=A4.kp kp;dsimp only[Pu,dI,hZ];walk_at "w"
   refine dy (show dY (.ref _) (.ref _)=none from rfl) (Mt A5.oh A5.sp.ob) ?_;walk_at "w"
   refine dy (show dY (.ref _) (.ref _)=none from rfl) (CP A5.oa A5.op) ?_;rfl
theorem keeps:Keeps pg 12 DJ:=Keeps.of λns hl=>by
 have e0:(AM.h0 ns).ob 0=some (.lst false (ns.map AV.int)):=rfl;have x0:0<(AM.h0 ns).nx:=Nat.zero_lt_one;refine bF (k:=11) rfl rfl ?_;rw[show hZ=pre hZ 7 Ci from rfl];dsimp only[pre,hZ];generalize AM.h0 ns=h at *;walk_at "w"
 refine lZ e0 ?_;rw[Za];have hlen:(wB ns (some 4) (some 63)).length<=63:=Nat.le_trans (Yz ns (some 4) (some 63)) hl;generalize wB ns (some 4) (some 63)=cs at hlen;have kp1:Kp h (h.new (.lst true (cs.map AV.int))):=Kp.refl.new;have hc:(h.new (.lst true (cs.map AV.int))).ob h.nx=some (.lst true (cs.map AV.int)):=aU;have hn:h.nx<(h.new (.lst true (cs.map AV.int))).nx:=Nat.lt_succ_self _;generalize h.nx=nc at hc hn ⊢;generalize h.new (.lst true (cs.map AV.int))=h1 at *;walk_at "w"
 refine⟨_,_,_,rfl,hc,?_⟩;refine Yq (λi ys U h'=>(Kp h1 h'/\nc<h'.nx)/\∃(rs:List aC) (a b:Option AV),ys=rs.map aC.av/\rs.length=i/\(∀r∈rs,dP r)/\U=[a,b,some (.ref nc)]) (by rw[List.length_map,eY];walk_at "om") ⟨⟨Kp.refl,hn⟩,[],_,_,rfl,rfl,(λr hr=>by cases hr),rfl⟩ (λi ys U h' z=>(z.1.1.ob nc hn).trans hc) ?_ ?_
 .rintro i x ys U h' hx ⟨⟨kp,hn'⟩,rs,a,b,rfl,hrl,hrb,rfl⟩
  have hi:i<cs.length:=by have:=(List.getElem?_eq_some_iff.mp hx).1;simpa using this
  rw[List.getElem?_map]at hx;obtain⟨c,_,rfl⟩:=Option.map_eq_some_iff.mp hx;walk_at "w"
  refine Ht (bA ((kp.ob nc hn).trans hc)) ?_;walk_at "w"
  refine WD (by walk_at "om") (by walk_at "om") (by walk_at "om") λr h2 kp2 hb=>?_;refine⟨by rw[List.length_map];have:=eU;walk_at "om",⟨kp.trans kp2,Nat.lt_of_lt_of_le hn' kp2.nx⟩,rs++[r],_,_,by simp,by simp[hrl],λr' hr'=>?_,rfl⟩;rcases List.mem_append.mp hr' with hr'|hr'
  .exact hrb r' hr'
  .rw[List.mem_singleton]at hr';subst hr';exact hb
 rintro ys U h' ⟨⟨kp,hn'⟩,rs,a,b,rfl,hrl,hrb,rfl⟩
 have k2:Kp h (h'.new (.lst true (rs.map aC.av))):=(kp1.trans kp).new;have o2:(h'.new (.lst true (rs.map aC.av))).ob h'.nx=some (.lst true (rs.map aC.av)):=aU;have l2:h'.nx<(h'.new (.lst true (rs.map aC.av))).nx:=Nat.lt_succ_self _;generalize h'.nx=np at o2 l2 ⊢;generalize h'.new (.lst true (rs.map aC.av))=h2 at *;have e2:=k2.get x0 e0;have x2:=Nat.lt_of_lt_of_le x0 k2.nx;walk_at "w"
 refine qe e2 (by decide) λc1=>?_;walk_at "w"
 refine qe e2 (by decide) λc2=>?_;walk_at "w"
 refine ZO (k:=9) λbs mem h3 kp3 hw hb hwm hm0 hm1=>?_;have ok:eN ⟨0,bs,mem⟩:=⟨hb,hw,hwm,hm1⟩;have o3:=kp3.get l2 o2;have l3:=Nat.lt_of_lt_of_le l2 kp3.nx;have e3:=kp3.get x2 e2;have x3:=Nat.lt_of_lt_of_le x2 kp3.nx;walk_at "w"
 refine NQ (k:=8) (m:=30) (s0:=⟨0,bs,mem⟩) o3 l3 hrb ok (by decide) λn1 n2 h4 kp4 g1 lt1 g2 lt2 od os=>?_;walk_at "w"
 have o4:=kp4.get l3 o3;have l4:=Nat.lt_of_lt_of_le l3 kp4.nx;have e4:=kp4.get x3 e3;have x4:=Nat.lt_of_lt_of_le x3 kp4.nx;refine qe e4 (by decide) λc3=>?_;walk_at "w"
 refine ZC (k:=9) (st:=⟨0,bs,mem⟩) o4 l4 od lt1 λh5 xs kp5 l5 o5 al len=>?_;have t30:=Hj (rs:=rs) (n:=30) (s:=⟨0,bs,mem⟩);walk_at "w"
 refine ni (bA o5) ?_;walk_at "w"
 have kp6:Kp h5 (h5.new (.lst true (xs.map Sl.av))):=Kp.refl.new;have o6:(h5.new (.lst true (xs.map Sl.av))).ob h5.nx=some (.lst true (xs.map Sl.av)):=aU;have l6:h5.nx<(h5.new (.lst true (xs.map Sl.av))).nx:=Nat.lt_succ_self _;generalize h5.nx=nh at o6 l6 ⊢;generalize h5.new (.lst true (xs.map Sl.av))=h6 at *;have kp46:=kp5.trans kp6;refine ni (bA (kp46.get l4 o4)) ?_;have kp7:Kp h6 (h6.new (.lst true (rs.map aC.av))):=Kp.refl.new;have o7:(h6.new (.lst true (rs.map aC.av))).ob h6.nx=some (.lst true (rs.map aC.av)):=aU;have l7:h6.nx<(h6.new (.lst true (rs.map aC.av))).nx:=Nat.lt_succ_self _;generalize h6.nx=na at o7 l7 ⊢;generalize h6.new (.lst true (rs.map aC.av))=h7 at *;have kp47:=kp46.trans kp7;have n6:=kp6.nx;have n7:=kp7.nx;have n47:=kp47.nx;walk_at "w"
 exact IB (st:=⟨0,bs,mem⟩) ⟨kp47.get x4 e4,kp47.get l4 o4,kp7.get l6 o6,o7,⟨al,hrb,by walk_at "om",kp7.get (by walk_at "om") (kp6.get l5 o5),by walk_at "om"⟩,by walk_at "om",by walk_at "om",by walk_at "om",l7⟩ ok
end
def pr:Pr:=⟨[nS,nT,oG,oU,pF,pP,pQ,pR,pS,pT,nU,nV,nW,nX,nY,nZ,oA,oB,oE,oF,oH,oJ,oK,oM,oO,oP,oQ,oR,oS,oT,oV,oW,oX,oY,oZ,pA,pB,pC,pD,pE,pG,pH,pI,pJ,pK,pL,pM,mG,pN,pO],48,[("BITS",.int 64),("BEYOND",.int 18446744073709551616),("WAYS",.tup [.str "sum",.str "less",.str "times",.str "share",.str "rest",.str "both",.str "some",.str "odd",.str "up",.str "down",.str "below",.str "same"])],["len","int","min","max","divmod","tuple","list","all","isinstance","bool","range","enumerate"],[],[],[],[("state",[2]),("latest",[2]),("storers",[2]),("fillers",[2])],[("follow",[(2,49)])],[(("Trace",1),(2,48,[]))],[],[]⟩
theorem Zx:pr.bodyOf nS=bI.getD 0 (0,0,.nil):=by kernel_rfl
theorem Zy:pr.bodyOf nT=bI.getD 1 (0,0,.nil):=by kernel_rfl
theorem AL:pr.bodyOf oG=bI.getD 2 (0,0,.nil):=by kernel_rfl
theorem BA:pr.bodyOf oU=bI.getD 3 (0,0,.nil):=by kernel_rfl
theorem BL:pr.bodyOf pF=bI.getD 4 (0,0,.nil):=by kernel_rfl
theorem BX:pr.bodyOf pP=bI.getD 5 (0,0,.nil):=by kernel_rfl
theorem BY:pr.bodyOf pQ=bI.getD 6 (0,0,.nil):=by kernel_rfl
theorem BZ:pr.bodyOf pR=bI.getD 7 (0,0,.nil):=by kernel_rfl
theorem CA:pr.bodyOf pS=bI.getD 8 (0,0,.nil):=by kernel_rfl
theorem CB:pr.bodyOf pT=bI.getD 9 (0,0,.nil):=by kernel_rfl
theorem Zz:pr.bodyOf nU=bI.getD 10 (0,0,.nil):=by kernel_rfl
theorem AA:pr.bodyOf nV=bI.getD 11 (0,0,.nil):=by kernel_rfl
theorem AB:pr.bodyOf nW=bI.getD 12 (0,0,.nil):=by kernel_rfl
theorem AD:pr.bodyOf nX=bI.getD 13 (0,0,.nil):=by kernel_rfl
theorem AE:pr.bodyOf nY=bI.getD 14 (0,0,.nil):=by kernel_rfl
theorem AF:pr.bodyOf nZ=bI.getD 15 (0,0,.nil):=by kernel_rfl
theorem AG:pr.bodyOf oA=bI.getD 16 (0,0,.nil):=by kernel_rfl
theorem AI:pr.bodyOf oB=bI.getD 17 (0,0,.nil):=by kernel_rfl
theorem AJ:pr.bodyOf oE=bI.getD 18 (0,0,.nil):=by kernel_rfl
theorem AK:pr.bodyOf oF=bI.getD 19 (0,0,.nil):=by kernel_rfl
theorem AN:pr.bodyOf oH=bI.getD 20 (0,0,.nil):=by kernel_rfl
theorem AO:pr.bodyOf oJ=bI.getD 21 (0,0,.nil):=by kernel_rfl
theorem AQ:pr.bodyOf oK=bI.getD 22 (0,0,.nil):=by kernel_rfl
theorem AR:pr.bodyOf oM=bI.getD 23 (0,0,.nil):=by kernel_rfl
theorem AS:pr.bodyOf oO=bI.getD 24 (0,0,.nil):=by kernel_rfl
theorem AU:pr.bodyOf oP=bI.getD 25 (0,0,.nil):=by kernel_rfl
theorem AW:pr.bodyOf oQ=bI.getD 26 (0,0,.nil):=by kernel_rfl
theorem AX:pr.bodyOf oR=bI.getD 27 (0,0,.nil):=by kernel_rfl
theorem AY:pr.bodyOf oS=bI.getD 28 (0,0,.nil):=by kernel_rfl
theorem AZ:pr.bodyOf oT=bI.getD 29 (0,0,.nil):=by kernel_rfl
theorem BB:pr.bodyOf oV=bI.getD 30 (0,0,.nil):=by kernel_rfl
theorem BC:pr.bodyOf oW=bI.getD 31 (0,0,.nil):=by kernel_rfl
theorem BD:pr.bodyOf oX=bI.getD 32 (0,0,.nil):=by kernel_rfl
theorem BE:pr.bodyOf oY=bI.getD 33 (0,0,.nil):=by kernel_rfl
theorem BF:pr.bodyOf oZ=bI.getD 34 (0,0,.nil):=by kernel_rfl
theorem BG:pr.bodyOf pA=bI.getD 35 (0,0,.nil):=by kernel_rfl
theorem BH:pr.bodyOf pB=bI.getD 36 (0,0,.nil):=by kernel_rfl
theorem BI:pr.bodyOf pC=bI.getD 37 (0,0,.nil):=by kernel_rfl
theorem BJ:pr.bodyOf pD=bI.getD 38 (0,0,.nil):=by kernel_rfl
theorem BK:pr.bodyOf pE=bI.getD 39 (0,0,.nil):=by kernel_rfl
theorem BM:pr.bodyOf pG=bI.getD 40 (0,0,.nil):=by kernel_rfl
theorem BN:pr.bodyOf pH=bI.getD 41 (0,0,.nil):=by kernel_rfl
theorem BO:pr.bodyOf pI=bI.getD 42 (0,0,.nil):=by kernel_rfl
theorem BP:pr.bodyOf pJ=bI.getD 43 (0,0,.nil):=by kernel_rfl
theorem BQ:pr.bodyOf pK=bI.getD 44 (0,0,.nil):=by kernel_rfl
theorem BR:pr.bodyOf pL=bI.getD 45 (0,0,.nil):=by kernel_rfl
theorem BS:pr.bodyOf pM=bI.getD 46 (0,0,.nil):=by kernel_rfl
theorem BU:pr.bodyOf mG=bI.getD 47 (0,0,.nil):=by kernel_rfl
theorem BV:pr.bodyOf pN=bI.getD 48 (0,0,.nil):=by kernel_rfl
theorem BW:pr.bodyOf pO=bI.getD 49 (0,0,.nil):=by kernel_rfl
theorem GO:pr.ir=pg:=by
 have e:pr.defs.map pr.bodyOf=bI:=by show[pr.bodyOf nS,pr.bodyOf nT,pr.bodyOf oG,pr.bodyOf oU,pr.bodyOf pF,pr.bodyOf pP,pr.bodyOf pQ,pr.bodyOf pR,pr.bodyOf pS,pr.bodyOf pT,pr.bodyOf nU,pr.bodyOf nV,pr.bodyOf nW,pr.bodyOf nX,pr.bodyOf nY,pr.bodyOf nZ,pr.bodyOf oA,pr.bodyOf oB,pr.bodyOf oE,pr.bodyOf oF,pr.bodyOf oH,pr.bodyOf oJ,pr.bodyOf oK,pr.bodyOf oM,pr.bodyOf oO,pr.bodyOf oP,pr.bodyOf oQ,pr.bodyOf oR,pr.bodyOf oS,pr.bodyOf oT,pr.bodyOf oV,pr.bodyOf oW,pr.bodyOf oX,pr.bodyOf oY,pr.bodyOf oZ,pr.bodyOf pA,pr.bodyOf pB,pr.bodyOf pC,pr.bodyOf pD,pr.bodyOf pE,pr.bodyOf pG,pr.bodyOf pH,pr.bodyOf pI,pr.bodyOf pJ,pr.bodyOf pK,pr.bodyOf pL,pr.bodyOf pM,pr.bodyOf mG,pr.bodyOf pN,pr.bodyOf pO]=bI;rw[Zx,Zy,AL,BA,BL,BX,BY,BZ,CA,CB,Zz,AA,AB,AD,AE,AF,AG,AI,AJ,AK,AN,AO,AQ,AR,AS,AU,AW,AX,AY,AZ,BB,BC,BD,BE,BF,BG,BH,BI,BJ,BK,BM,BN,BO,BP,BQ,BR,BS,BU,BV,BW];rfl
 funext i
 show(pr.defs[i]?).map pr.bodyOf=bI[i]?;rw[<- e,List.getElem?_map]
theorem WJ:bG nS.N nS.ps (aF nS.st):=⟨by kernel_rfl,by kernel_rfl,by kernel_rfl,by decide +kernel,by kernel_rfl,by decide +kernel,by decide +kernel⟩
theorem WK:bG nT.N nT.ps (aF nT.st):=⟨by kernel_rfl,by kernel_rfl,by kernel_rfl,by decide +kernel,by kernel_rfl,by decide +kernel,by decide +kernel⟩
theorem WW:bG oG.N oG.ps (aF oG.st):=⟨by kernel_rfl,by kernel_rfl,by kernel_rfl,by decide +kernel,by kernel_rfl,by decide +kernel,by decide +kernel⟩
theorem XH:bG oU.N oU.ps (aF oU.st):=⟨by kernel_rfl,by kernel_rfl,by kernel_rfl,by decide +kernel,by kernel_rfl,by decide +kernel,by decide +kernel⟩
theorem XW:bG pF.N pF.ps (aF pF.st):=⟨by kernel_rfl,by kernel_rfl,by kernel_rfl,by decide +kernel,by kernel_rfl,by decide +kernel,by decide +kernel⟩
theorem YH:bG pP.N pP.ps (aF pP.st):=⟨by kernel_rfl,by kernel_rfl,by kernel_rfl,by decide +kernel,by kernel_rfl,by decide +kernel,by decide +kernel⟩
theorem YI:bG pQ.N pQ.ps (aF pQ.st):=⟨by kernel_rfl,by kernel_rfl,by kernel_rfl,by decide +kernel,by kernel_rfl,by decide +kernel,by decide +kernel⟩
theorem YJ:bG pR.N pR.ps (aF pR.st):=⟨by kernel_rfl,by kernel_rfl,by kernel_rfl,by decide +kernel,by kernel_rfl,by decide +kernel,by decide +kernel⟩
theorem YK:bG pS.N pS.ps (aF pS.st):=⟨by kernel_rfl,by kernel_rfl,by kernel_rfl,by decide +kernel,by kernel_rfl,by decide +kernel,by decide +kernel⟩
theorem YL:bG pT.N pT.ps (aF pT.st):=⟨by kernel_rfl,by kernel_rfl,by kernel_rfl,by decide +kernel,by kernel_rfl,by decide +kernel,by decide +kernel⟩
theorem WL:bG nU.N nU.ps (aF nU.st):=⟨by kernel_rfl,by kernel_rfl,by kernel_rfl,by decide +kernel,by kernel_rfl,by decide +kernel,by decide +kernel⟩
theorem WM:bG nV.N nV.ps (aF nV.st):=⟨by kernel_rfl,by kernel_rfl,by kernel_rfl,by decide +kernel,by kernel_rfl,by decide +kernel,by decide +kernel⟩
theorem WN:bG nW.N nW.ps (aF nW.st):=⟨by kernel_rfl,by kernel_rfl,by kernel_rfl,by decide +kernel,by kernel_rfl,by decide +kernel,by decide +kernel⟩
theorem WO:bG nX.N nX.ps (aF nX.st):=⟨by kernel_rfl,by kernel_rfl,by kernel_rfl,by decide +kernel,by kernel_rfl,by decide +kernel,by decide +kernel⟩
theorem WQ:bG nY.N nY.ps (aF nY.st):=⟨by kernel_rfl,by kernel_rfl,by kernel_rfl,by decide +kernel,by kernel_rfl,by decide +kernel,by decide +kernel⟩
theorem WR:bG nZ.N nZ.ps (aF nZ.st):=⟨by kernel_rfl,by kernel_rfl,by kernel_rfl,by decide +kernel,by kernel_rfl,by decide +kernel,by decide +kernel⟩
theorem WS:bG oA.N oA.ps (aF oA.st):=⟨by kernel_rfl,by kernel_rfl,by kernel_rfl,by decide +kernel,by kernel_rfl,by decide +kernel,by decide +kernel⟩
theorem WT:bG oB.N oB.ps (aF oB.st):=⟨by kernel_rfl,by kernel_rfl,by kernel_rfl,by decide +kernel,by kernel_rfl,by decide +kernel,by decide +kernel⟩
theorem WU:bG oE.N oE.ps (aF oE.st):=⟨by kernel_rfl,by kernel_rfl,by kernel_rfl,by decide +kernel,by kernel_rfl,by decide +kernel,by decide +kernel⟩
theorem WV:bG oF.N oF.ps (aF oF.st):=⟨by kernel_rfl,by kernel_rfl,by kernel_rfl,by decide +kernel,by kernel_rfl,by decide +kernel,by decide +kernel⟩
theorem WX:bG oH.N oH.ps (aF oH.st):=⟨by kernel_rfl,by kernel_rfl,by kernel_rfl,by decide +kernel,by kernel_rfl,by decide +kernel,by decide +kernel⟩
theorem WY:bG oJ.N oJ.ps (aF oJ.st):=⟨by kernel_rfl,by kernel_rfl,by kernel_rfl,by decide +kernel,by kernel_rfl,by decide +kernel,by decide +kernel⟩
theorem WZ:bG oK.N oK.ps (aF oK.st):=⟨by kernel_rfl,by kernel_rfl,by kernel_rfl,by decide +kernel,by kernel_rfl,by decide +kernel,by decide +kernel⟩
theorem XA:bG oM.N oM.ps (aF oM.st):=⟨by kernel_rfl,by kernel_rfl,by kernel_rfl,by decide +kernel,by kernel_rfl,by decide +kernel,by decide +kernel⟩
theorem XB:bG oO.N oO.ps (aF oO.st):=⟨by kernel_rfl,by kernel_rfl,by kernel_rfl,by decide +kernel,by kernel_rfl,by decide +kernel,by decide +kernel⟩
theorem XC:bG oP.N oP.ps (aF oP.st):=⟨by kernel_rfl,by kernel_rfl,by kernel_rfl,by decide +kernel,by kernel_rfl,by decide +kernel,by decide +kernel⟩
theorem XD:bG oQ.N oQ.ps (aF oQ.st):=⟨by kernel_rfl,by kernel_rfl,by kernel_rfl,by decide +kernel,by kernel_rfl,by decide +kernel,by decide +kernel⟩
theorem XE:bG oR.N oR.ps (aF oR.st):=⟨by kernel_rfl,by kernel_rfl,by kernel_rfl,by decide +kernel,by kernel_rfl,by decide +kernel,by decide +kernel⟩
theorem XF:bG oS.N oS.ps (aF oS.st):=⟨by kernel_rfl,by kernel_rfl,by kernel_rfl,by decide +kernel,by kernel_rfl,by decide +kernel,by decide +kernel⟩
theorem XG:bG oT.N oT.ps (aF oT.st):=⟨by kernel_rfl,by kernel_rfl,by kernel_rfl,by decide +kernel,by kernel_rfl,by decide +kernel,by decide +kernel⟩
theorem XI:bG oV.N oV.ps (aF oV.st):=⟨by kernel_rfl,by kernel_rfl,by kernel_rfl,by decide +kernel,by kernel_rfl,by decide +kernel,by decide +kernel⟩
theorem XJ:bG oW.N oW.ps (aF oW.st):=⟨by kernel_rfl,by kernel_rfl,by kernel_rfl,by decide +kernel,by kernel_rfl,by decide +kernel,by decide +kernel⟩
theorem XM:bG oX.N oX.ps (aF oX.st):=⟨by kernel_rfl,by kernel_rfl,by kernel_rfl,by decide +kernel,by kernel_rfl,by decide +kernel,by decide +kernel⟩
theorem XN:bG oY.N oY.ps (aF oY.st):=⟨by kernel_rfl,by kernel_rfl,by kernel_rfl,by decide +kernel,by kernel_rfl,by decide +kernel,by decide +kernel⟩
theorem XO:bG oZ.N oZ.ps (aF oZ.st):=⟨by kernel_rfl,by kernel_rfl,by kernel_rfl,by decide +kernel,by kernel_rfl,by decide +kernel,by decide +kernel⟩
theorem XQ:bG pA.N pA.ps (aF pA.st):=⟨by kernel_rfl,by kernel_rfl,by kernel_rfl,by decide +kernel,by kernel_rfl,by decide +kernel,by decide +kernel⟩
theorem XR:bG pB.N pB.ps (aF pB.st):=⟨by kernel_rfl,by kernel_rfl,by kernel_rfl,by decide +kernel,by kernel_rfl,by decide +kernel,by decide +kernel⟩
theorem XS:bG pC.N pC.ps (aF pC.st):=⟨by kernel_rfl,by kernel_rfl,by kernel_rfl,by decide +kernel,by kernel_rfl,by decide +kernel,by decide +kernel⟩
theorem XT:bG pD.N pD.ps (aF pD.st):=⟨by kernel_rfl,by kernel_rfl,by kernel_rfl,by decide +kernel,by kernel_rfl,by decide +kernel,by decide +kernel⟩
theorem XU:bG pE.N pE.ps (aF pE.st):=⟨by kernel_rfl,by kernel_rfl,by kernel_rfl,by decide +kernel,by kernel_rfl,by decide +kernel,by decide +kernel⟩
theorem XX:bG pG.N pG.ps (aF pG.st):=⟨by kernel_rfl,by kernel_rfl,by kernel_rfl,by decide +kernel,by kernel_rfl,by decide +kernel,by decide +kernel⟩
theorem XY:bG pH.N pH.ps (aF pH.st):=⟨by kernel_rfl,by kernel_rfl,by kernel_rfl,by decide +kernel,by kernel_rfl,by decide +kernel,by decide +kernel⟩
theorem XZ:bG pI.N pI.ps (aF pI.st):=⟨by kernel_rfl,by kernel_rfl,by kernel_rfl,by decide +kernel,by kernel_rfl,by decide +kernel,by decide +kernel⟩
theorem YA:bG pJ.N pJ.ps (aF pJ.st):=⟨by kernel_rfl,by kernel_rfl,by kernel_rfl,by decide +kernel,by kernel_rfl,by decide +kernel,by decide +kernel⟩
theorem YB:bG pK.N pK.ps (aF pK.st):=⟨by kernel_rfl,by kernel_rfl,by kernel_rfl,by decide +kernel,by kernel_rfl,by decide +kernel,by decide +kernel⟩
theorem YC:bG pL.N pL.ps (aF pL.st):=⟨by kernel_rfl,by kernel_rfl,by kernel_rfl,by decide +kernel,by kernel_rfl,by decide +kernel,by decide +kernel⟩
theorem YD:bG pM.N pM.ps (aF pM.st):=⟨by kernel_rfl,by kernel_rfl,by kernel_rfl,by decide +kernel,by kernel_rfl,by decide +kernel,by decide +kernel⟩
theorem YE:bG mG.N mG.ps (aF mG.st):=⟨by kernel_rfl,by kernel_rfl,by kernel_rfl,by decide +kernel,by kernel_rfl,by decide +kernel,by decide +kernel⟩
theorem YF:bG pN.N pN.ps (aF pN.st):=⟨by kernel_rfl,by kernel_rfl,by kernel_rfl,by decide +kernel,by kernel_rfl,by decide +kernel,by decide +kernel⟩
theorem YG:bG pO.N pO.ps (aF pO.st):=⟨by kernel_rfl,by kernel_rfl,by kernel_rfl,by decide +kernel,by kernel_rfl,by decide +kernel,by decide +kernel⟩
theorem gw{α:Type}{x:Str}{v:α}(h:([]:List (Str×α)).lookup x=some v):False:=by cases h
theorem qH{α:Type}{x k:Str}{v u:α}{r:List (Str×α)}(h:((k,u)::r).lookup x=some v):(x=k/\v=u)\/r.lookup x=some v:=by
 rw[List.lookup_cons]at h;split at h
 .rename_i q;exact .inl ⟨eq_of_beq q,(Option.some.inj h).symm⟩
 .exact .inr h
theorem HV{α:Type}{x:Nat}{v:α}(h:([]:List (Nat×α)).lookup x=some v):False:=by cases h
theorem HU{α:Type}{x k:Nat}{v u:α}{r:List (Nat×α)}(h:((k,u)::r).lookup x=some v):(x=k/\v=u)\/r.lookup x=some v:=by
 rw[List.lookup_cons]at h;split at h
 .rename_i q;exact .inl ⟨eq_of_beq q,(Option.some.inj h).symm⟩
 .exact .inr h
theorem HS{α:Type}{x:Str×Nat}{v:α}(h:([]:List ((Str×Nat)×α)).lookup x=some v):False:=by cases h
theorem HR{α:Type}{x y:Str}{m n:Nat}{v u:α}{r:List ((Str×Nat)×α)}(h:(((y,m),u)::r).lookup (x,n)=some v):(x=y/\n=m/\v=u)\/r.lookup (x,n)=some v:=by
 rw[List.lookup_cons]at h;split at h
 .rename_i q;have q:=eq_of_beq q;cases q;exact .inl ⟨rfl,rfl,(Option.some.inj h).symm⟩
 .exact .inr h
theorem all_mk{l:W.OpenLaw} {w:World} {K:W.Frag} {h:Heap} {mg:Str->Option Value} {fa:Addr} (X:K.In h) (G:h.Ns mainGlobals mg) (hfa:mg "law"=some (.ref fa))
  {C_2:Addr}
  {f_0:Addr} {oc_0 kV_0 dc_0 pm_0 cd_0 ct_0:Value} {od_0 an_0:Option Addr} {sl_0:Array (Option Value)}
  {f_1:Addr} {oc_1 kV_1 dc_1 pm_1 cd_1 ct_1:Value} {od_1 an_1:Option Addr} {sl_1:Array (Option Value)}
  {f_2:Addr} {oc_2 kV_2 dc_2 pm_2 cd_2 ct_2:Value} {od_2 an_2:Option Addr} {sl_2:Array (Option Value)}
  {f_3:Addr} {oc_3 kV_3 dc_3 pm_3 cd_3 ct_3:Value} {od_3 an_3:Option Addr} {sl_3:Array (Option Value)}
  {f_4:Addr} {oc_4 kV_4 dc_4 pm_4 cd_4 ct_4:Value} {od_4 an_4:Option Addr} {sl_4:Array (Option Value)}
  {f_5:Addr} {oc_5 kV_5 dc_5 pm_5 cd_5 ct_5:Value} {od_5 an_5:Option Addr} {sl_5:Array (Option Value)}
  {f_6:Addr} {oc_6 kV_6 dc_6 pm_6 cd_6 ct_6:Value} {od_6 an_6:Option Addr} {sl_6:Array (Option Value)}
  {f_7:Addr} {oc_7 kV_7 dc_7 pm_7 cd_7 ct_7:Value} {od_7 an_7:Option Addr} {sl_7:Array (Option Value)}
  {f_8:Addr} {oc_8 kV_8 dc_8 pm_8 cd_8 ct_8:Value} {od_8 an_8:Option Addr} {sl_8:Array (Option Value)}
  {f_9:Addr} {oc_9 kV_9 dc_9 pm_9 cd_9 ct_9:Value} {od_9 an_9:Option Addr} {sl_9:Array (Option Value)}
  {f_10:Addr} {oc_10 kV_10 dc_10 pm_10 cd_10 ct_10:Value} {od_10 an_10:Option Addr} {sl_10:Array (Option Value)}
  {f_11:Addr} {oc_11 kV_11 dc_11 pm_11 cd_11 ct_11:Value} {od_11 an_11:Option Addr} {sl_11:Array (Option Value)}
  {f_12:Addr} {oc_12 kV_12 dc_12 pm_12 cd_12 ct_12:Value} {od_12 an_12:Option Addr} {sl_12:Array (Option Value)}
  {f_13:Addr} {oc_13 kV_13 dc_13 pm_13 cd_13 ct_13:Value} {od_13 an_13:Option Addr} {sl_13:Array (Option Value)}
  {f_14:Addr} {oc_14 kV_14 dc_14 pm_14 cd_14 ct_14:Value} {od_14 an_14:Option Addr} {sl_14:Array (Option Value)}
  {f_15:Addr} {oc_15 kV_15 dc_15 pm_15 cd_15 ct_15:Value} {od_15 an_15:Option Addr} {sl_15:Array (Option Value)}
  {f_16:Addr} {oc_16 kV_16 dc_16 pm_16 cd_16 ct_16:Value} {od_16 an_16:Option Addr} {sl_16:Array (Option Value)}
  {f_17:Addr} {oc_17 kV_17 dc_17 pm_17 cd_17 ct_17:Value} {od_17 an_17:Option Addr} {sl_17:Array (Option Value)}
  {f_18:Addr} {oc_18 kV_18 dc_18 pm_18 cd_18 ct_18:Value} {od_18 an_18:Option Addr} {sl_18:Array (Option Value)}
  {f_19:Addr} {oc_19 kV_19 dc_19 pm_19 cd_19 ct_19:Value} {od_19 an_19:Option Addr} {sl_19:Array (Option Value)}
  {f_20:Addr} {oc_20 kV_20 dc_20 pm_20 cd_20 ct_20:Value} {od_20 an_20:Option Addr} {sl_20:Array (Option Value)}
  {f_21:Addr} {oc_21 kV_21 dc_21 pm_21 cd_21 ct_21:Value} {od_21 an_21:Option Addr} {sl_21:Array (Option Value)}
  {f_22:Addr} {oc_22 kV_22 dc_22 pm_22 cd_22 ct_22:Value} {od_22 an_22:Option Addr} {sl_22:Array (Option Value)}
  {f_23:Addr} {oc_23 kV_23 dc_23 pm_23 cd_23 ct_23:Value} {od_23 an_23:Option Addr} {sl_23:Array (Option Value)}
  {f_24:Addr} {oc_24 kV_24 dc_24 pm_24 cd_24 ct_24:Value} {od_24 an_24:Option Addr} {sl_24:Array (Option Value)}
  {f_25:Addr} {oc_25 kV_25 dc_25 pm_25 cd_25 ct_25:Value} {od_25 an_25:Option Addr} {sl_25:Array (Option Value)}
  {f_26:Addr} {oc_26 kV_26 dc_26 pm_26 cd_26 ct_26:Value} {od_26 an_26:Option Addr} {sl_26:Array (Option Value)}
  {f_27:Addr} {oc_27 kV_27 dc_27 pm_27 cd_27 ct_27:Value} {od_27 an_27:Option Addr} {sl_27:Array (Option Value)}
  {f_28:Addr} {oc_28 kV_28 dc_28 pm_28 cd_28 ct_28:Value} {od_28 an_28:Option Addr} {sl_28:Array (Option Value)}
  {f_29:Addr} {oc_29 kV_29 dc_29 pm_29 cd_29 ct_29:Value} {od_29 an_29:Option Addr} {sl_29:Array (Option Value)}
  {f_30:Addr} {oc_30 kV_30 dc_30 pm_30 cd_30 ct_30:Value} {od_30 an_30:Option Addr} {sl_30:Array (Option Value)}
  {f_31:Addr} {oc_31 kV_31 dc_31 pm_31 cd_31 ct_31:Value} {od_31 an_31:Option Addr} {sl_31:Array (Option Value)}
  {f_32:Addr} {oc_32 kV_32 dc_32 pm_32 cd_32 ct_32:Value} {od_32 an_32:Option Addr} {sl_32:Array (Option Value)}
  {f_33:Addr} {oc_33 kV_33 dc_33 pm_33 cd_33 ct_33:Value} {od_33 an_33:Option Addr} {sl_33:Array (Option Value)}
  {f_34:Addr} {oc_34 kV_34 dc_34 pm_34 cd_34 ct_34:Value} {od_34 an_34:Option Addr} {sl_34:Array (Option Value)}
  {f_35:Addr} {oc_35 kV_35 dc_35 pm_35 cd_35 ct_35:Value} {od_35 an_35:Option Addr} {sl_35:Array (Option Value)}
  {f_36:Addr} {oc_36 kV_36 dc_36 pm_36 cd_36 ct_36:Value} {od_36 an_36:Option Addr} {sl_36:Array (Option Value)}
  {f_37:Addr} {oc_37 kV_37 dc_37 pm_37 cd_37 ct_37:Value} {od_37 an_37:Option Addr} {sl_37:Array (Option Value)}
  {f_38:Addr} {oc_38 kV_38 dc_38 pm_38 cd_38 ct_38:Value} {od_38 an_38:Option Addr} {sl_38:Array (Option Value)}
  {f_39:Addr} {oc_39 kV_39 dc_39 pm_39 cd_39 ct_39:Value} {od_39 an_39:Option Addr} {sl_39:Array (Option Value)}
  {f_40:Addr} {oc_40 kV_40 dc_40 pm_40 cd_40 ct_40:Value} {od_40 an_40:Option Addr} {sl_40:Array (Option Value)}
  {f_41:Addr} {oc_41 kV_41 dc_41 pm_41 cd_41 ct_41:Value} {od_41 an_41:Option Addr} {sl_41:Array (Option Value)}
  {f_42:Addr} {oc_42 kV_42 dc_42 pm_42 cd_42 ct_42:Value} {od_42 an_42:Option Addr} {sl_42:Array (Option Value)}
  {f_43:Addr} {oc_43 kV_43 dc_43 pm_43 cd_43 ct_43:Value} {od_43 an_43:Option Addr} {sl_43:Array (Option Value)}
  {f_44:Addr} {oc_44 kV_44 dc_44 pm_44 cd_44 ct_44:Value} {od_44 an_44:Option Addr} {sl_44:Array (Option Value)}
  {f_45:Addr} {oc_45 kV_45 dc_45 pm_45 cd_45 ct_45:Value} {od_45 an_45:Option Addr} {sl_45:Array (Option Value)}
  {f_46:Addr} {oc_46 kV_46 dc_46 pm_46 cd_46 ct_46:Value} {od_46 an_46:Option Addr} {sl_46:Array (Option Value)}
  {f_47:Addr} {oc_47 kV_47 dc_47 pm_47 cd_47 ct_47:Value} {od_47 an_47:Option Addr} {sl_47:Array (Option Value)}
  {f_48:Addr} {oc_48 kV_48 dc_48 pm_48 cd_48 ct_48:Value} {od_48 an_48:Option Addr} {sl_48:Array (Option Value)}
  {f_49:Addr} {oc_49 kV_49 dc_49 pm_49 cd_49 ct_49:Value} {od_49 an_49:Option Addr} {sl_49:Array (Option Value)}
  {t_BITS:Tok}
  {t_BEYOND:Tok}
  {g_WAYS:Addr} {t0_WAYS t1_WAYS t2_WAYS t3_WAYS t4_WAYS t5_WAYS t6_WAYS t7_WAYS t8_WAYS t9_WAYS t10_WAYS t11_WAYS:Tok} {dd_WAYS:Option Addr} {nn_WAYS:Nat} {ss_WAYS:Array (Option Value)}
  (xc_2:W.nsIn K mainGlobals "Trace"=some (some (.ref C_2)))
  (x_0:W.nsIn K mainGlobals "word_of"=some (some (.ref f_0)))
  (l_0:K.lookup f_0=some ⟨oc_0,od_0,.func (W.fnOf "word_of" "word_of" (aI gT) (aH gT) (aF gT) .none kV_0 dc_0 pm_0 an_0 cd_0 ct_0),sl_0⟩)
  (c_0:W.codeIn K cd_0 "word_of"=true)
  (k_0:W.keepIn K (.ref f_0)=true)
  (x_1:W.nsIn K mainGlobals "shared"=some (some (.ref f_1)))
  (l_1:K.lookup f_1=some ⟨oc_1,od_1,.func (W.fnOf "shared" "shared" (aI iY) (aH iY) (aF iY) .none kV_1 dc_1 pm_1 an_1 cd_1 ct_1),sl_1⟩)
  (c_1:W.codeIn K cd_1 "shared"=true)
  (k_1:W.keepIn K (.ref f_1)=true)
  (x_2:W.nsIn K mainGlobals "leaves_some"=some (some (.ref f_2)))
  (l_2:K.lookup f_2=some ⟨oc_2,od_2,.func (W.fnOf "leaves_some" "leaves_some" (aI jJ) (aH jJ) (aF jJ) .none kV_2 dc_2 pm_2 an_2 cd_2 ct_2),sl_2⟩)
  (c_2:W.codeIn K cd_2 "leaves_some"=true)
  (k_2:W.keepIn K (.ref f_2)=true)
  (x_3:W.nsIn K mainGlobals "moved_up"=some (some (.ref f_3)))
  (l_3:K.lookup f_3=some ⟨oc_3,od_3,.func (W.fnOf "moved_up" "moved_up" (aI jU) (aH jU) (aF jU) .none kV_3 dc_3 pm_3 an_3 cd_3 ct_3),sl_3⟩)
  (c_3:W.codeIn K cd_3 "moved_up"=true)
  (k_3:W.keepIn K (.ref f_3)=true)
  (x_4:W.nsIn K mainGlobals "moved_down"=some (some (.ref f_4)))
  (l_4:K.lookup f_4=some ⟨oc_4,od_4,.func (W.fnOf "moved_down" "moved_down" (aI kF) (aH kF) (aF kF) .none kV_4 dc_4 pm_4 an_4 cd_4 ct_4),sl_4⟩)
  (c_4:W.codeIn K cd_4 "moved_down"=true)
  (k_4:W.keepIn K (.ref f_4)=true)
  (x_5:W.nsIn K mainGlobals "worked"=some (some (.ref f_5)))
  (l_5:K.lookup f_5=some ⟨oc_5,od_5,.func (W.fnOf "worked" "worked" (aI kQ) (aH kQ) (aF kQ) .none kV_5 dc_5 pm_5 an_5 cd_5 ct_5),sl_5⟩)
  (c_5:W.codeIn K cd_5 "worked"=true)
  (k_5:W.keepIn K (.ref f_5)=true)
  (x_6:W.nsIn K mainGlobals "wants"=some (some (.ref f_6)))
  (l_6:K.lookup f_6=some ⟨oc_6,od_6,.func (W.fnOf "wants" "wants" (aI kR) (aH kR) (aF kR) .none kV_6 dc_6 pm_6 an_6 cd_6 ct_6),sl_6⟩)
  (c_6:W.codeIn K cd_6 "wants"=true)
  (k_6:W.keepIn K (.ref f_6)=true)
  (x_7:W.nsIn K mainGlobals "fills"=some (some (.ref f_7)))
  (l_7:K.lookup f_7=some ⟨oc_7,od_7,.func (W.fnOf "fills" "fills" (aI kS) (aH kS) (aF kS) .none kV_7 dc_7 pm_7 an_7 cd_7 ct_7),sl_7⟩)
  (c_7:W.codeIn K cd_7 "fills"=true)
  (k_7:W.keepIn K (.ref f_7)=true)
  (x_8:W.nsIn K mainGlobals "place_of"=some (some (.ref f_8)))
  (l_8:K.lookup f_8=some ⟨oc_8,od_8,.func (W.fnOf "place_of" "place_of" (aI kT) (aH kT) (aF kT) .none kV_8 dc_8 pm_8 an_8 cd_8 ct_8),sl_8⟩)
  (c_8:W.codeIn K cd_8 "place_of"=true)
  (k_8:W.keepIn K (.ref f_8)=true)
  (x_9:W.nsIn K mainGlobals "goes"=some (some (.ref f_9)))
  (l_9:K.lookup f_9=some ⟨oc_9,od_9,.func (W.fnOf "goes" "goes" (aI kU) (aH kU) (aF kU) .none kV_9 dc_9 pm_9 an_9 cd_9 ct_9),sl_9⟩)
  (c_9:W.codeIn K cd_9 "goes"=true)
  (k_9:W.keepIn K (.ref f_9)=true)
  (x_10:W.nsIn K mainGlobals "fault_of"=some (some (.ref f_10)))
  (l_10:K.lookup f_10=some ⟨oc_10,od_10,.func (W.fnOf "fault_of" "fault_of" (aI iZ) (aH iZ) (aF iZ) .none kV_10 dc_10 pm_10 an_10 cd_10 ct_10),sl_10⟩)
  (c_10:W.codeIn K cd_10 "fault_of"=true)
  (k_10:W.keepIn K (.ref f_10)=true)
  (x_11:W.nsIn K mainGlobals "brought"=some (some (.ref f_11)))
  (l_11:K.lookup f_11=some ⟨oc_11,od_11,.func (W.fnOf "brought" "brought" (aI jA) (aH jA) (aF jA) .none kV_11 dc_11 pm_11 an_11 cd_11 ct_11),sl_11⟩)
  (c_11:W.codeIn K cd_11 "brought"=true)
  (k_11:W.keepIn K (.ref f_11)=true)
  (x_12:W.nsIn K mainGlobals "made"=some (some (.ref f_12)))
  (l_12:K.lookup f_12=some ⟨oc_12,od_12,.func (W.fnOf "made" "made" (aI jB) (aH jB) (aF jB) .none kV_12 dc_12 pm_12 an_12 cd_12 ct_12),sl_12⟩)
  (c_12:W.codeIn K cd_12 "made"=true)
  (k_12:W.keepIn K (.ref f_12)=true)
  (x_13:W.nsIn K mainGlobals "in_memory"=some (some (.ref f_13)))
  (l_13:K.lookup f_13=some ⟨oc_13,od_13,.func (W.fnOf "in_memory" "in_memory" (aI jC) (aH jC) (aF jC) .none kV_13 dc_13 pm_13 an_13 cd_13 ct_13),sl_13⟩)
  (c_13:W.codeIn K cd_13 "in_memory"=true)
  (k_13:W.keepIn K (.ref f_13)=true)
  (x_14:W.nsIn K mainGlobals "held_for"=some (some (.ref f_14)))
  (l_14:K.lookup f_14=some ⟨oc_14,od_14,.func (W.fnOf "held_for" "held_for" (aI jD) (aH jD) (aF jD) .none kV_14 dc_14 pm_14 an_14 cd_14 ct_14),sl_14⟩)
  (c_14:W.codeIn K cd_14 "held_for"=true)
  (k_14:W.keepIn K (.ref f_14)=true)
  (x_15:W.nsIn K mainGlobals "replaced"=some (some (.ref f_15)))
  (l_15:K.lookup f_15=some ⟨oc_15,od_15,.func (W.fnOf "replaced" "replaced" (aI jE) (aH jE) (aF jE) .none kV_15 dc_15 pm_15 an_15 cd_15 ct_15),sl_15⟩)
  (c_15:W.codeIn K cd_15 "replaced"=true)
  (k_15:W.keepIn K (.ref f_15)=true)
  (x_16:W.nsIn K mainGlobals "does"=some (some (.ref f_16)))
  (l_16:K.lookup f_16=some ⟨oc_16,od_16,.func (W.fnOf "does" "does" (aI jF) (aH jF) (aF jF) .none kV_16 dc_16 pm_16 an_16 cd_16 ct_16),sl_16⟩)
  (c_16:W.codeIn K cd_16 "does"=true)
  (k_16:W.keepIn K (.ref f_16)=true)
  (x_17:W.nsIn K mainGlobals "behind"=some (some (.ref f_17)))
  (l_17:K.lookup f_17=some ⟨oc_17,od_17,.func (W.fnOf "behind" "behind" (aI jG) (aH jG) (aF jG) .none kV_17 dc_17 pm_17 an_17 cd_17 ct_17),sl_17⟩)
  (c_17:W.codeIn K cd_17 "behind"=true)
  (k_17:W.keepIn K (.ref f_17)=true)
  (x_18:W.nsIn K mainGlobals "wrong"=some (some (.ref f_18)))
  (l_18:K.lookup f_18=some ⟨oc_18,od_18,.func (W.fnOf "wrong" "wrong" (aI jH) (aH jH) (aF jH) .none kV_18 dc_18 pm_18 an_18 cd_18 ct_18),sl_18⟩)
  (c_18:W.codeIn K cd_18 "wrong"=true)
  (k_18:W.keepIn K (.ref f_18)=true)
  (x_19:W.nsIn K mainGlobals "is_right"=some (some (.ref f_19)))
  (l_19:K.lookup f_19=some ⟨oc_19,od_19,.func (W.fnOf "is_right" "is_right" (aI jI) (aH jI) (aF jI) .none kV_19 dc_19 pm_19 an_19 cd_19 ct_19),sl_19⟩)
  (c_19:W.codeIn K cd_19 "is_right"=true)
  (k_19:W.keepIn K (.ref f_19)=true)
  (x_20:W.nsIn K mainGlobals "stands_behind"=some (some (.ref f_20)))
  (l_20:K.lookup f_20=some ⟨oc_20,od_20,.func (W.fnOf "stands_behind" "stands_behind" (aI jK) (aH jK) (aF jK) .none kV_20 dc_20 pm_20 an_20 cd_20 ct_20),sl_20⟩)
  (c_20:W.codeIn K cd_20 "stands_behind"=true)
  (k_20:W.keepIn K (.ref f_20)=true)
  (x_21:W.nsIn K mainGlobals "times_rise"=some (some (.ref f_21)))
  (l_21:K.lookup f_21=some ⟨oc_21,od_21,.func (W.fnOf "times_rise" "times_rise" (aI jL) (aH jL) (aF jL) .none kV_21 dc_21 pm_21 an_21 cd_21 ct_21),sl_21⟩)
  (c_21:W.codeIn K cd_21 "times_rise"=true)
  (k_21:W.keepIn K (.ref f_21)=true)
  (x_22:W.nsIn K mainGlobals "giver_of"=some (some (.ref f_22)))
  (l_22:K.lookup f_22=some ⟨oc_22,od_22,.func (W.fnOf "giver_of" "giver_of" (aI jM) (aH jM) (aF jM) .none kV_22 dc_22 pm_22 an_22 cd_22 ct_22),sl_22⟩)
  (c_22:W.codeIn K cd_22 "giver_of"=true)
  (k_22:W.keepIn K (.ref f_22)=true)
  (x_23:W.nsIn K mainGlobals "names_are_right"=some (some (.ref f_23)))
  (l_23:K.lookup f_23=some ⟨oc_23,od_23,.func (W.fnOf "names_are_right" "names_are_right" (aI jN) (aH jN) (aF jN) .none kV_23 dc_23 pm_23 an_23 cd_23 ct_23),sl_23⟩)
  (c_23:W.codeIn K cd_23 "names_are_right"=true)
  (k_23:W.keepIn K (.ref f_23)=true)
  (x_24:W.nsIn K mainGlobals "_law_cell_at"=some (some (.ref f_24)))
  (l_24:K.lookup f_24=some ⟨oc_24,od_24,.func (W.fnOf "_law_cell_at" "_law_cell_at" (aI jO) (aH jO) (aF jO) .none kV_24 dc_24 pm_24 an_24 cd_24 ct_24),sl_24⟩)
  (c_24:W.codeIn K cd_24 "_law_cell_at"=true)
  (k_24:W.keepIn K (.ref f_24)=true)
  (x_25:W.nsIn K mainGlobals "_law_number"=some (some (.ref f_25)))
  (l_25:K.lookup f_25=some ⟨oc_25,od_25,.func (W.fnOf "_law_number" "_law_number" (aI jP) (aH jP) (aF jP) .none kV_25 dc_25 pm_25 an_25 cd_25 ct_25),sl_25⟩)
  (c_25:W.codeIn K cd_25 "_law_number"=true)
  (k_25:W.keepIn K (.ref f_25)=true)
  (x_26:W.nsIn K mainGlobals "_law_word_by"=some (some (.ref f_26)))
  (l_26:K.lookup f_26=some ⟨oc_26,od_26,.func (W.fnOf "_law_word_by" "_law_word_by" (aI jQ) (aH jQ) (aF jQ) .none kV_26 dc_26 pm_26 an_26 cd_26 ct_26),sl_26⟩)
  (c_26:W.codeIn K cd_26 "_law_word_by"=true)
  (k_26:W.keepIn K (.ref f_26)=true)
  (x_27:W.nsIn K mainGlobals "_law_turn_row"=some (some (.ref f_27)))
  (l_27:K.lookup f_27=some ⟨oc_27,od_27,.func (W.fnOf "_law_turn_row" "_law_turn_row" (aI jR) (aH jR) (aF jR) .none kV_27 dc_27 pm_27 an_27 cd_27 ct_27),sl_27⟩)
  (c_27:W.codeIn K cd_27 "_law_turn_row"=true)
  (k_27:W.keepIn K (.ref f_27)=true)
  (x_28:W.nsIn K mainGlobals "_law_row"=some (some (.ref f_28)))
  (l_28:K.lookup f_28=some ⟨oc_28,od_28,.func (W.fnOf "_law_row" "_law_row" (aI jS) (aH jS) (aF jS) .none kV_28 dc_28 pm_28 an_28 cd_28 ct_28),sl_28⟩)
  (c_28:W.codeIn K cd_28 "_law_row"=true)
  (k_28:W.keepIn K (.ref f_28)=true)
  (x_29:W.nsIn K mainGlobals "_law_stand"=some (some (.ref f_29)))
  (l_29:K.lookup f_29=some ⟨oc_29,od_29,.func (W.fnOf "_law_stand" "_law_stand" (aI jT) (aH jT) (aF jT) .none kV_29 dc_29 pm_29 an_29 cd_29 ct_29),sl_29⟩)
  (c_29:W.codeIn K cd_29 "_law_stand"=true)
  (k_29:W.keepIn K (.ref f_29)=true)
  (x_30:W.nsIn K mainGlobals "_law_worked"=some (some (.ref f_30)))
  (l_30:K.lookup f_30=some ⟨oc_30,od_30,.func (W.fnOf "_law_worked" "_law_worked" (aI jV) (aH jV) (aF jV) .none kV_30 dc_30 pm_30 an_30 cd_30 ct_30),sl_30⟩)
  (c_30:W.codeIn K cd_30 "_law_worked"=true)
  (k_30:W.keepIn K (.ref f_30)=true)
  (x_31:W.nsIn K mainGlobals "_law_place_deed"=some (some (.ref f_31)))
  (l_31:K.lookup f_31=some ⟨oc_31,od_31,.func (W.fnOf "_law_place_deed" "_law_place_deed" (aI jW) (aH jW) (aF jW) .none kV_31 dc_31 pm_31 an_31 cd_31 ct_31),sl_31⟩)
  (c_31:W.codeIn K cd_31 "_law_place_deed"=true)
  (k_31:W.keepIn K (.ref f_31)=true)
  (x_32:W.nsIn K mainGlobals "_law_deed"=some (some (.ref f_32)))
  (l_32:K.lookup f_32=some ⟨oc_32,od_32,.func (W.fnOf "_law_deed" "_law_deed" (aI jX) (aH jX) (aF jX) .none kV_32 dc_32 pm_32 an_32 cd_32 ct_32),sl_32⟩)
  (c_32:W.codeIn K cd_32 "_law_deed"=true)
  (k_32:W.keepIn K (.ref f_32)=true)
  (x_33:W.nsIn K mainGlobals "_law_plain_run"=some (some (.ref f_33)))
  (l_33:K.lookup f_33=some ⟨oc_33,od_33,.func (W.fnOf "_law_plain_run" "_law_plain_run" (aI jY) (aH jY) (aF jY) .none kV_33 dc_33 pm_33 an_33 cd_33 ct_33),sl_33⟩)
  (c_33:W.codeIn K cd_33 "_law_plain_run"=true)
  (k_33:W.keepIn K (.ref f_33)=true)
  (x_34:W.nsIn K mainGlobals "_law_wants"=some (some (.ref f_34)))
  (l_34:K.lookup f_34=some ⟨oc_34,od_34,.func (W.fnOf "_law_wants" "_law_wants" (aI jZ) (aH jZ) (aF jZ) .none kV_34 dc_34 pm_34 an_34 cd_34 ct_34),sl_34⟩)
  (c_34:W.codeIn K cd_34 "_law_wants"=true)
  (k_34:W.keepIn K (.ref f_34)=true)
  (x_35:W.nsIn K mainGlobals "_law_slips_of"=some (some (.ref f_35)))
  (l_35:K.lookup f_35=some ⟨oc_35,od_35,.func (W.fnOf "_law_slips_of" "_law_slips_of" (aI kA) (aH kA) (aF kA) .none kV_35 dc_35 pm_35 an_35 cd_35 ct_35),sl_35⟩)
  (c_35:W.codeIn K cd_35 "_law_slips_of"=true)
  (k_35:W.keepIn K (.ref f_35)=true)
  (x_36:W.nsIn K mainGlobals "_law_other_names"=some (some (.ref f_36)))
  (l_36:K.lookup f_36=some ⟨oc_36,od_36,.func (W.fnOf "_law_other_names" "_law_other_names" (aI kB) (aH kB) (aF kB) .none kV_36 dc_36 pm_36 an_36 cd_36 ct_36),sl_36⟩)
  (c_36:W.codeIn K cd_36 "_law_other_names"=true)
  (k_36:W.keepIn K (.ref f_36)=true)
  (x_37:W.nsIn K mainGlobals "_law_other_giver"=some (some (.ref f_37)))
  (l_37:K.lookup f_37=some ⟨oc_37,od_37,.func (W.fnOf "_law_other_giver" "_law_other_giver" (aI kC) (aH kC) (aF kC) .none kV_37 dc_37 pm_37 an_37 cd_37 ct_37),sl_37⟩)
  (c_37:W.codeIn K cd_37 "_law_other_giver"=true)
  (k_37:W.keepIn K (.ref f_37)=true)
  (x_38:W.nsIn K mainGlobals "_law_other_fault"=some (some (.ref f_38)))
  (l_38:K.lookup f_38=some ⟨oc_38,od_38,.func (W.fnOf "_law_other_fault" "_law_other_fault" (aI kD) (aH kD) (aF kD) .none kV_38 dc_38 pm_38 an_38 cd_38 ct_38),sl_38⟩)
  (c_38:W.codeIn K cd_38 "_law_other_fault"=true)
  (k_38:W.keepIn K (.ref f_38)=true)
  (x_39:W.nsIn K mainGlobals "_law_other_deed"=some (some (.ref f_39)))
  (l_39:K.lookup f_39=some ⟨oc_39,od_39,.func (W.fnOf "_law_other_deed" "_law_other_deed" (aI kE) (aH kE) (aF kE) .none kV_39 dc_39 pm_39 an_39 cd_39 ct_39),sl_39⟩)
  (c_39:W.codeIn K cd_39 "_law_other_deed"=true)
  (k_39:W.keepIn K (.ref f_39)=true)
  (x_40:W.nsIn K mainGlobals "_law_other_times"=some (some (.ref f_40)))
  (l_40:K.lookup f_40=some ⟨oc_40,od_40,.func (W.fnOf "_law_other_times" "_law_other_times" (aI kG) (aH kG) (aF kG) .none kV_40 dc_40 pm_40 an_40 cd_40 ct_40),sl_40⟩)
  (c_40:W.codeIn K cd_40 "_law_other_times"=true)
  (k_40:W.keepIn K (.ref f_40)=true)
  (x_41:W.nsIn K mainGlobals "_law_one_spoiled"=some (some (.ref f_41)))
  (l_41:K.lookup f_41=some ⟨oc_41,od_41,.func (W.fnOf "_law_one_spoiled" "_law_one_spoiled" (aI kH) (aH kH) (aF kH) .none kV_41 dc_41 pm_41 an_41 cd_41 ct_41),sl_41⟩)
  (c_41:W.codeIn K cd_41 "_law_one_spoiled"=true)
  (k_41:W.keepIn K (.ref f_41)=true)
  (x_42:W.nsIn K mainGlobals "_law_one_more"=some (some (.ref f_42)))
  (l_42:K.lookup f_42=some ⟨oc_42,od_42,.func (W.fnOf "_law_one_more" "_law_one_more" (aI kI) (aH kI) (aF kI) .none kV_42 dc_42 pm_42 an_42 cd_42 ct_42),sl_42⟩)
  (c_42:W.codeIn K cd_42 "_law_one_more"=true)
  (k_42:W.keepIn K (.ref f_42)=true)
  (x_43:W.nsIn K mainGlobals "_law_earlier"=some (some (.ref f_43)))
  (l_43:K.lookup f_43=some ⟨oc_43,od_43,.func (W.fnOf "_law_earlier" "_law_earlier" (aI kJ) (aH kJ) (aF kJ) .none kV_43 dc_43 pm_43 an_43 cd_43 ct_43),sl_43⟩)
  (c_43:W.codeIn K cd_43 "_law_earlier"=true)
  (k_43:W.keepIn K (.ref f_43)=true)
  (x_44:W.nsIn K mainGlobals "_law_earlier_told"=some (some (.ref f_44)))
  (l_44:K.lookup f_44=some ⟨oc_44,od_44,.func (W.fnOf "_law_earlier_told" "_law_earlier_told" (aI kK) (aH kK) (aF kK) .none kV_44 dc_44 pm_44 an_44 cd_44 ct_44),sl_44⟩)
  (c_44:W.codeIn K cd_44 "_law_earlier_told"=true)
  (k_44:W.keepIn K (.ref f_44)=true)
  (x_45:W.nsIn K mainGlobals "_law_spoiled"=some (some (.ref f_45)))
  (l_45:K.lookup f_45=some ⟨oc_45,od_45,.func (W.fnOf "_law_spoiled" "_law_spoiled" (aI kL) (aH kL) (aF kL) .none kV_45 dc_45 pm_45 an_45 cd_45 ct_45),sl_45⟩)
  (c_45:W.codeIn K cd_45 "_law_spoiled"=true)
  (k_45:W.keepIn K (.ref f_45)=true)
  (x_46:W.nsIn K mainGlobals "_law_is"=some (some (.ref f_46)))
  (l_46:K.lookup f_46=some ⟨oc_46,od_46,.func (W.fnOf "_law_is" "_law_is" (aI kM) (aH kM) (aF kM) .none kV_46 dc_46 pm_46 an_46 cd_46 ct_46),sl_46⟩)
  (c_46:W.codeIn K cd_46 "_law_is"=true)
  (k_46:W.keepIn K (.ref f_46)=true)
  (x_47:W.nsIn K mainGlobals "law"=some (some (.ref f_47)))
  (l_47:K.lookup f_47=some ⟨oc_47,od_47,.func (W.fnOf "law" "law" (aI kN) (aH kN) (aF kN) .none kV_47 dc_47 pm_47 an_47 cd_47 ct_47),sl_47⟩)
  (c_47:W.codeIn K cd_47 "law"=true)
  (k_47:W.keepIn K (.ref f_47)=true)
  (x_48:W.findIn K (.ref C_2) "__init__"=some (some (.ref f_48)))
  (l_48:K.lookup f_48=some ⟨oc_48,od_48,.func (W.fnOf "__init__" "Trace.__init__" (aI kO) (aH kO) (aF kO) .none kV_48 dc_48 pm_48 an_48 cd_48 ct_48),sl_48⟩)
  (c_48:W.codeIn K cd_48 "Trace.__init__"=true)
  (k_48:W.keepIn K (.ref f_48)=true)
  (x_49:W.findIn K (.ref C_2) "follow"=some (some (.ref f_49)))
  (l_49:K.lookup f_49=some ⟨oc_49,od_49,.func (W.fnOf "follow" "Trace.follow" (aI kP) (aH kP) (aF kP) .none kV_49 dc_49 pm_49 an_49 cd_49 ct_49),sl_49⟩)
  (c_49:W.codeIn K cd_49 "Trace.follow"=true)
  (k_49:W.keepIn K (.ref f_49)=true)
  (pg_2:W.plainGet K C_2 Str.empty=true)
  (hd_2:W.hasDictIn K C_2=true)
  (po_2:W.plainOver K C_2=true)
  (sa_2:W.findIn K (.ref C_2) "__setattr__"=some (some (.builtin "object.__setattr__")))
  (na_2_state:W.findIn K (.ref C_2) "state"=some none)
  (na_2_latest:W.findIn K (.ref C_2) "latest"=some none)
  (na_2_storers:W.findIn K (.ref C_2) "storers"=some none)
  (na_2_fillers:W.findIn K (.ref C_2) "fillers"=some none)
  (a_2_follow:W.findIn K (.ref C_2) "follow"=some (some (.ref f_49)))
  (fn_49:W.isFn K (.ref f_49)=true)
  (a_2_init:W.findIn K (.ref C_2) "__init__"=some (some (.ref f_48)))
  (fn_48:W.isFn K (.ref f_48)=true)
  (mk_2:W.makesIn K C_2=true)
  (kc_2:W.keepIn K (.ref C_2)=true)
  (x_BITS:W.nsIn K mainGlobals "BITS"=some (some (.int 64 t_BITS)))
  (x_BEYOND:W.nsIn K mainGlobals "BEYOND"=some (some (.int 18446744073709551616 t_BEYOND)))
  (x_WAYS:W.nsIn K mainGlobals "WAYS"=some (some (.ref g_WAYS)))
  (l_WAYS:K.lookup g_WAYS=some ⟨.type "tuple",dd_WAYS,.seq #[Value.str "sum" t0_WAYS,Value.str "less" t1_WAYS,Value.str "times" t2_WAYS,Value.str "share" t3_WAYS,Value.str "rest" t4_WAYS,Value.str "both" t5_WAYS,Value.str "some" t6_WAYS,Value.str "odd" t7_WAYS,Value.str "up" t8_WAYS,Value.str "down" t9_WAYS,Value.str "below" t10_WAYS,Value.str "same" t11_WAYS] nn_WAYS,ss_WAYS⟩)
  (z_len:W.nsIn K mainGlobals "len"=some none)
  (z_int:W.nsIn K mainGlobals "int"=some none)
  (z_min:W.nsIn K mainGlobals "min"=some none)
  (z_max:W.nsIn K mainGlobals "max"=some none)
  (z_divmod:W.nsIn K mainGlobals "divmod"=some none)
  (z_tuple:W.nsIn K mainGlobals "tuple"=some none)
  (z_list:W.nsIn K mainGlobals "list"=some none)
  (z_all:W.nsIn K mainGlobals "all"=some none)
  (z_isinstance:W.nsIn K mainGlobals "isinstance"=some none)
  (z_bool:W.nsIn K mainGlobals "bool"=some none)
  (z_range:W.nsIn K mainGlobals "range"=some none)
  (z_enumerate:W.nsIn K mainGlobals "enumerate"=some none) :
  ∃fd:FuncData,(∀(s:Shared) (v:Value),BindsTo s fd ⟨[v],[]⟩ [("_law_script",v)])/\∀base:Heap,K.In base->base.Ns mainGlobals mg->dX l.prog w K mg base (eI l.prog w) (2*12) fa fd ["_law_script"] (yo K):=by
 have e:=hfa.symm.trans (W.mg_of X G x_47);cases e;have F_0:bL K "word_of" "word_of" gT f_0 _:=⟨⟨_,_,_,_,_,_,_,_,_,_,rfl,l_0,c_0⟩,k_0⟩;have b_0:Binds K (W.fnOf "word_of" "word_of" (aI gT) (aH gT) (aF gT) .none kV_0 dc_0 pm_0 an_0 cd_0 ct_0) ["number"] []:=.all λus hl=>by obtain⟨v0,rfl⟩:=AM.nH hl;rfl
 have F_1:bL K "shared" "shared" iY f_1 _:=⟨⟨_,_,_,_,_,_,_,_,_,_,rfl,l_1,c_1⟩,k_1⟩;have b_1:Binds K (W.fnOf "shared" "shared" (aI iY) (aH iY) (aF iY) .none kV_1 dc_1 pm_1 an_1 cd_1 ct_1) ["one","other"] []:=.all λus hl=>by obtain⟨v0,v1,rfl⟩:=AM.eW hl;rfl
 have F_2:bL K "leaves_some" "leaves_some" jJ f_2 _:=⟨⟨_,_,_,_,_,_,_,_,_,_,rfl,l_2,c_2⟩,k_2⟩;have b_2:Binds K (W.fnOf "leaves_some" "leaves_some" (aI jJ) (aH jJ) (aF jJ) .none kV_2 dc_2 pm_2 an_2 cd_2 ct_2) ["places"] []:=.all λus hl=>by obtain⟨v0,rfl⟩:=AM.nH hl;rfl
 have F_3:bL K "moved_up" "moved_up" jU f_3 _:=⟨⟨_,_,_,_,_,_,_,_,_,_,rfl,l_3,c_3⟩,k_3⟩;have b_3:Binds K (W.fnOf "moved_up" "moved_up" (aI jU) (aH jU) (aF jU) .none kV_3 dc_3 pm_3 an_3 cd_3 ct_3) ["one","places"] []:=.all λus hl=>by obtain⟨v0,v1,rfl⟩:=AM.eW hl;rfl
 have F_4:bL K "moved_down" "moved_down" kF f_4 _:=⟨⟨_,_,_,_,_,_,_,_,_,_,rfl,l_4,c_4⟩,k_4⟩;have b_4:Binds K (W.fnOf "moved_down" "moved_down" (aI kF) (aH kF) (aF kF) .none kV_4 dc_4 pm_4 an_4 cd_4 ct_4) ["one","places"] []:=.all λus hl=>by obtain⟨v0,v1,rfl⟩:=AM.eW hl;rfl
 have F_5:bL K "worked" "worked" kQ f_5 _:=⟨⟨_,_,_,_,_,_,_,_,_,_,rfl,l_5,c_5⟩,k_5⟩;have b_5:Binds K (W.fnOf "worked" "worked" (aI kQ) (aH kQ) (aF kQ) .none kV_5 dc_5 pm_5 an_5 cd_5 ct_5) ["way","one","other"] []:=.all λus hl=>by obtain⟨v0,v1,v2,rfl⟩:=AM.fI hl;rfl
 have F_6:bL K "wants" "wants" kR f_6 _:=⟨⟨_,_,_,_,_,_,_,_,_,_,rfl,l_6,c_6⟩,k_6⟩;have b_6:Binds K (W.fnOf "wants" "wants" (aI kR) (aH kR) (aF kR) .none kV_6 dc_6 pm_6 an_6 cd_6 ct_6) ["row"] []:=.all λus hl=>by obtain⟨v0,rfl⟩:=AM.nH hl;rfl
 have F_7:bL K "fills" "fills" kS f_7 _:=⟨⟨_,_,_,_,_,_,_,_,_,_,rfl,l_7,c_7⟩,k_7⟩;have b_7:Binds K (W.fnOf "fills" "fills" (aI kS) (aH kS) (aF kS) .none kV_7 dc_7 pm_7 an_7 cd_7 ct_7) ["row"] []:=.all λus hl=>by obtain⟨v0,rfl⟩:=AM.nH hl;rfl
 have F_8:bL K "place_of" "place_of" kT f_8 _:=⟨⟨_,_,_,_,_,_,_,_,_,_,rfl,l_8,c_8⟩,k_8⟩;have b_8:Binds K (W.fnOf "place_of" "place_of" (aI kT) (aH kT) (aF kT) .none kV_8 dc_8 pm_8 an_8 cd_8 ct_8) ["row","words"] []:=.all λus hl=>by obtain⟨v0,v1,rfl⟩:=AM.eW hl;rfl
 have F_9:bL K "goes" "goes" kU f_9 _:=⟨⟨_,_,_,_,_,_,_,_,_,_,rfl,l_9,c_9⟩,k_9⟩;have b_9:Binds K (W.fnOf "goes" "goes" (aI kU) (aH kU) (aF kU) .none kV_9 dc_9 pm_9 an_9 cd_9 ct_9) ["row","at","words"] []:=.all λus hl=>by obtain⟨v0,v1,v2,rfl⟩:=AM.fI hl;rfl
 have F_10:bL K "fault_of" "fault_of" iZ f_10 _:=⟨⟨_,_,_,_,_,_,_,_,_,_,rfl,l_10,c_10⟩,k_10⟩;have b_10:Binds K (W.fnOf "fault_of" "fault_of" (aI iZ) (aH iZ) (aF iZ) .none kV_10 dc_10 pm_10 an_10 cd_10 ct_10) ["row","words","room"] []:=.all λus hl=>by obtain⟨v0,v1,v2,rfl⟩:=AM.fI hl;rfl
 have F_11:bL K "brought" "brought" jA f_11 _:=⟨⟨_,_,_,_,_,_,_,_,_,_,rfl,l_11,c_11⟩,k_11⟩;have b_11:Binds K (W.fnOf "brought" "brought" (aI jA) (aH jA) (aF jA) .none kV_11 dc_11 pm_11 an_11 cd_11 ct_11) ["row","words","held"] []:=.all λus hl=>by obtain⟨v0,v1,v2,rfl⟩:=AM.fI hl;rfl
 have F_12:bL K "made" "made" jB f_12 _:=⟨⟨_,_,_,_,_,_,_,_,_,_,rfl,l_12,c_12⟩,k_12⟩;have b_12:Binds K (W.fnOf "made" "made" (aI jB) (aH jB) (aF jB) .none kV_12 dc_12 pm_12 an_12 cd_12 ct_12) ["row","at","words","room","held"] []:=.all λus hl=>by obtain⟨v0,v1,v2,v3,v4,rfl⟩:=AM.Wd hl;rfl
 have F_13:bL K "in_memory" "in_memory" jC f_13 _:=⟨⟨_,_,_,_,_,_,_,_,_,_,rfl,l_13,c_13⟩,k_13⟩;have b_13:Binds K (W.fnOf "in_memory" "in_memory" (aI jC) (aH jC) (aF jC) .none kV_13 dc_13 pm_13 an_13 cd_13 ct_13) ["place","memory"] []:=.all λus hl=>by obtain⟨v0,v1,rfl⟩:=AM.eW hl;rfl
 have F_14:bL K "held_for" "held_for" jD f_14 _:=⟨⟨_,_,_,_,_,_,_,_,_,_,rfl,l_14,c_14⟩,k_14⟩;have b_14:Binds K (W.fnOf "held_for" "held_for" (aI jD) (aH jD) (aF jD) .none kV_14 dc_14 pm_14 an_14 cd_14 ct_14) ["row","words","memory"] []:=.all λus hl=>by obtain⟨v0,v1,v2,rfl⟩:=AM.fI hl;rfl
 have F_15:bL K "replaced" "replaced" jE f_15 _:=⟨⟨_,_,_,_,_,_,_,_,_,_,rfl,l_15,c_15⟩,k_15⟩;have b_15:Binds K (W.fnOf "replaced" "replaced" (aI jE) (aH jE) (aF jE) .none kV_15 dc_15 pm_15 an_15 cd_15 ct_15) ["words","number","word"] []:=.all λus hl=>by obtain⟨v0,v1,v2,rfl⟩:=AM.fI hl;rfl
 have F_16:bL K "does" "does" jF f_16 _:=⟨⟨_,_,_,_,_,_,_,_,_,_,rfl,l_16,c_16⟩,k_16⟩;have b_16:Binds K (W.fnOf "does" "does" (aI jF) (aH jF) (aF jF) .none kV_16 dc_16 pm_16 an_16 cd_16 ct_16) ["program","stand"] []:=.all λus hl=>by obtain⟨v0,v1,rfl⟩:=AM.eW hl;rfl
 have F_17:bL K "behind" "behind" jG f_17 _:=⟨⟨_,_,_,_,_,_,_,_,_,_,rfl,l_17,c_17⟩,k_17⟩;have b_17:Binds K (W.fnOf "behind" "behind" (aI jG) (aH jG) (aF jG) .none kV_17 dc_17 pm_17 an_17 cd_17 ct_17) ["stand","deed"] []:=.all λus hl=>by obtain⟨v0,v1,rfl⟩:=AM.eW hl;rfl
 have F_18:bL K "wrong" "wrong" jH f_18 _:=⟨⟨_,_,_,_,_,_,_,_,_,_,rfl,l_18,c_18⟩,k_18⟩;have b_18:Binds K (W.fnOf "wrong" "wrong" (aI jH) (aH jH) (aF jH) .none kV_18 dc_18 pm_18 an_18 cd_18 ct_18) ["program","stand","slips"] []:=.all λus hl=>by obtain⟨v0,v1,v2,rfl⟩:=AM.fI hl;rfl
 have F_19:bL K "is_right" "is_right" jI f_19 _:=⟨⟨_,_,_,_,_,_,_,_,_,_,rfl,l_19,c_19⟩,k_19⟩;have b_19:Binds K (W.fnOf "is_right" "is_right" (aI jI) (aH jI) (aF jI) .none kV_19 dc_19 pm_19 an_19 cd_19 ct_19) ["program","trace","slip"] []:=.all λus hl=>by obtain⟨v0,v1,v2,rfl⟩:=AM.fI hl;rfl
 have F_20:bL K "stands_behind" "stands_behind" jK f_20 _:=⟨⟨_,_,_,_,_,_,_,_,_,_,rfl,l_20,c_20⟩,k_20⟩;have b_20:Binds K (W.fnOf "stands_behind" "stands_behind" (aI jK) (aH jK) (aF jK) .none kV_20 dc_20 pm_20 an_20 cd_20 ct_20) ["latest","slip"] []:=.all λus hl=>by obtain⟨v0,v1,rfl⟩:=AM.eW hl;rfl
 have F_21:bL K "times_rise" "times_rise" jL f_21 _:=⟨⟨_,_,_,_,_,_,_,_,_,_,rfl,l_21,c_21⟩,k_21⟩;have b_21:Binds K (W.fnOf "times_rise" "times_rise" (aI jL) (aH jL) (aF jL) .none kV_21 dc_21 pm_21 an_21 cd_21 ct_21) ["times"] []:=.all λus hl=>by obtain⟨v0,rfl⟩:=AM.nH hl;rfl
 have F_22:bL K "giver_of" "giver_of" jM f_22 _:=⟨⟨_,_,_,_,_,_,_,_,_,_,rfl,l_22,c_22⟩,k_22⟩;have b_22:Binds K (W.fnOf "giver_of" "giver_of" (aI jM) (aH jM) (aF jM) .none kV_22 dc_22 pm_22 an_22 cd_22 ct_22) ["trace","deed"] []:=.all λus hl=>by obtain⟨v0,v1,rfl⟩:=AM.eW hl;rfl
 have F_23:bL K "names_are_right" "names_are_right" jN f_23 _:=⟨⟨_,_,_,_,_,_,_,_,_,_,rfl,l_23,c_23⟩,k_23⟩;have b_23:Binds K (W.fnOf "names_are_right" "names_are_right" (aI jN) (aH jN) (aF jN) .none kV_23 dc_23 pm_23 an_23 cd_23 ct_23) ["trace","slip","boxes"] []:=.all λus hl=>by obtain⟨v0,v1,v2,rfl⟩:=AM.fI hl;rfl
 have F_24:bL K "_law_cell_at" "_law_cell_at" jO f_24 _:=⟨⟨_,_,_,_,_,_,_,_,_,_,rfl,l_24,c_24⟩,k_24⟩;have b_24:Binds K (W.fnOf "_law_cell_at" "_law_cell_at" (aI jO) (aH jO) (aF jO) .none kV_24 dc_24 pm_24 an_24 cd_24 ct_24) ["_law_script","_law_k"] []:=.all λus hl=>by obtain⟨v0,v1,rfl⟩:=AM.eW hl;rfl
 have F_25:bL K "_law_number" "_law_number" jP f_25 _:=⟨⟨_,_,_,_,_,_,_,_,_,_,rfl,l_25,c_25⟩,k_25⟩;have b_25:Binds K (W.fnOf "_law_number" "_law_number" (aI jP) (aH jP) (aF jP) .none kV_25 dc_25 pm_25 an_25 cd_25 ct_25) ["_law_cell","_law_k"] []:=.all λus hl=>by obtain⟨v0,v1,rfl⟩:=AM.eW hl;rfl
 have F_26:bL K "_law_word_by" "_law_word_by" jQ f_26 _:=⟨⟨_,_,_,_,_,_,_,_,_,_,rfl,l_26,c_26⟩,k_26⟩;have b_26:Binds K (W.fnOf "_law_word_by" "_law_word_by" (aI jQ) (aH jQ) (aF jQ) .none kV_26 dc_26 pm_26 an_26 cd_26 ct_26) ["_law_number_here"] []:=.all λus hl=>by obtain⟨v0,rfl⟩:=AM.nH hl;rfl
 have F_27:bL K "_law_turn_row" "_law_turn_row" jR f_27 _:=⟨⟨_,_,_,_,_,_,_,_,_,_,rfl,l_27,c_27⟩,k_27⟩;have b_27:Binds K (W.fnOf "_law_turn_row" "_law_turn_row" (aI jR) (aH jR) (aF jR) .none kV_27 dc_27 pm_27 an_27 cd_27 ct_27) ["_law_kind","_law_x","_law_part","_law_spot"] []:=.all λus hl=>by obtain⟨v0,v1,v2,v3,rfl⟩:=AM.dn hl;rfl
 have F_28:bL K "_law_row" "_law_row" jS f_28 _:=⟨⟨_,_,_,_,_,_,_,_,_,_,rfl,l_28,c_28⟩,k_28⟩;have b_28:Binds K (W.fnOf "_law_row" "_law_row" (aI jS) (aH jS) (aF jS) .none kV_28 dc_28 pm_28 an_28 cd_28 ct_28) ["_law_cell","_law_k","_law_many"] []:=.all λus hl=>by obtain⟨v0,v1,v2,rfl⟩:=AM.fI hl;rfl
 have F_29:bL K "_law_stand" "_law_stand" jT f_29 _:=⟨⟨_,_,_,_,_,_,_,_,_,_,rfl,l_29,c_29⟩,k_29⟩;have b_29:Binds K (W.fnOf "_law_stand" "_law_stand" (aI jT) (aH jT) (aF jT) .none kV_29 dc_29 pm_29 an_29 cd_29 ct_29) ["_law_cell","_law_other"] []:=.all λus hl=>by obtain⟨v0,v1,rfl⟩:=AM.eW hl;rfl
 have F_30:bL K "_law_worked" "_law_worked" jV f_30 _:=⟨⟨_,_,_,_,_,_,_,_,_,_,rfl,l_30,c_30⟩,k_30⟩;have b_30:Binds K (W.fnOf "_law_worked" "_law_worked" (aI jV) (aH jV) (aF jV) .none kV_30 dc_30 pm_30 an_30 cd_30 ct_30) ["_law_way","_law_one","_law_other"] []:=.all λus hl=>by obtain⟨v0,v1,v2,rfl⟩:=AM.fI hl;rfl
 have F_31:bL K "_law_place_deed" "_law_place_deed" jW f_31 _:=⟨⟨_,_,_,_,_,_,_,_,_,_,rfl,l_31,c_31⟩,k_31⟩;have b_31:Binds K (W.fnOf "_law_place_deed" "_law_place_deed" (aI jW) (aH jW) (aF jW) .none kV_31 dc_31 pm_31 an_31 cd_31 ct_31) ["_law_row_here","_law_at","_law_boxes","_law_memory"] []:=.all λus hl=>by obtain⟨v0,v1,v2,v3,rfl⟩:=AM.dn hl;rfl
 have F_32:bL K "_law_deed" "_law_deed" jX f_32 _:=⟨⟨_,_,_,_,_,_,_,_,_,_,rfl,l_32,c_32⟩,k_32⟩;have b_32:Binds K (W.fnOf "_law_deed" "_law_deed" (aI jX) (aH jX) (aF jX) .none kV_32 dc_32 pm_32 an_32 cd_32 ct_32) ["_law_row_here","_law_at","_law_boxes","_law_memory"] []:=.all λus hl=>by obtain⟨v0,v1,v2,v3,rfl⟩:=AM.dn hl;rfl
 have F_33:bL K "_law_plain_run" "_law_plain_run" jY f_33 _:=⟨⟨_,_,_,_,_,_,_,_,_,_,rfl,l_33,c_33⟩,k_33⟩;have b_33:Binds K (W.fnOf "_law_plain_run" "_law_plain_run" (aI jY) (aH jY) (aF jY) .none kV_33 dc_33 pm_33 an_33 cd_33 ct_33) ["_law_program","_law_stand_here","_law_most"] []:=.all λus hl=>by obtain⟨v0,v1,v2,rfl⟩:=AM.fI hl;rfl
 have F_34:bL K "_law_wants" "_law_wants" jZ f_34 _:=⟨⟨_,_,_,_,_,_,_,_,_,_,rfl,l_34,c_34⟩,k_34⟩;have b_34:Binds K (W.fnOf "_law_wants" "_law_wants" (aI jZ) (aH jZ) (aF jZ) .none kV_34 dc_34 pm_34 an_34 cd_34 ct_34) ["_law_row_here"] []:=.all λus hl=>by obtain⟨v0,rfl⟩:=AM.nH hl;rfl
 have F_35:bL K "_law_slips_of" "_law_slips_of" kA f_35 _:=⟨⟨_,_,_,_,_,_,_,_,_,_,rfl,l_35,c_35⟩,k_35⟩;have b_35:Binds K (W.fnOf "_law_slips_of" "_law_slips_of" (aI kA) (aH kA) (aF kA) .none kV_35 dc_35 pm_35 an_35 cd_35 ct_35) ["_law_program","_law_deeds","_law_cell"] []:=.all λus hl=>by obtain⟨v0,v1,v2,rfl⟩:=AM.fI hl;rfl
 have F_36:bL K "_law_other_names" "_law_other_names" kB f_36 _:=⟨⟨_,_,_,_,_,_,_,_,_,_,rfl,l_36,c_36⟩,k_36⟩;have b_36:Binds K (W.fnOf "_law_other_names" "_law_other_names" (aI kB) (aH kB) (aF kB) .none kV_36 dc_36 pm_36 an_36 cd_36 ct_36) ["_law_names","_law_part"] []:=.all λus hl=>by obtain⟨v0,v1,rfl⟩:=AM.eW hl;rfl
 have F_37:bL K "_law_other_giver" "_law_other_giver" kC f_37 _:=⟨⟨_,_,_,_,_,_,_,_,_,_,rfl,l_37,c_37⟩,k_37⟩;have b_37:Binds K (W.fnOf "_law_other_giver" "_law_other_giver" (aI kC) (aH kC) (aF kC) .none kV_37 dc_37 pm_37 an_37 cd_37 ct_37) ["_law_giver","_law_part"] []:=.all λus hl=>by obtain⟨v0,v1,rfl⟩:=AM.eW hl;rfl
 have F_38:bL K "_law_other_fault" "_law_other_fault" kD f_38 _:=⟨⟨_,_,_,_,_,_,_,_,_,_,rfl,l_38,c_38⟩,k_38⟩;have b_38:Binds K (W.fnOf "_law_other_fault" "_law_other_fault" (aI kD) (aH kD) (aF kD) .none kV_38 dc_38 pm_38 an_38 cd_38 ct_38) ["_law_deed_here","_law_part"] []:=.all λus hl=>by obtain⟨v0,v1,rfl⟩:=AM.eW hl;rfl
 have F_39:bL K "_law_other_deed" "_law_other_deed" kE f_39 _:=⟨⟨_,_,_,_,_,_,_,_,_,_,rfl,l_39,c_39⟩,k_39⟩;have b_39:Binds K (W.fnOf "_law_other_deed" "_law_other_deed" (aI kE) (aH kE) (aF kE) .none kV_39 dc_39 pm_39 an_39 cd_39 ct_39) ["_law_deed_here","_law_part","_law_size"] []:=.all λus hl=>by obtain⟨v0,v1,v2,rfl⟩:=AM.fI hl;rfl
 have F_40:bL K "_law_other_times" "_law_other_times" kG f_40 _:=⟨⟨_,_,_,_,_,_,_,_,_,_,rfl,l_40,c_40⟩,k_40⟩;have b_40:Binds K (W.fnOf "_law_other_times" "_law_other_times" (aI kG) (aH kG) (aF kG) .none kV_40 dc_40 pm_40 an_40 cd_40 ct_40) ["_law_slips","_law_n","_law_part"] []:=.all λus hl=>by obtain⟨v0,v1,v2,rfl⟩:=AM.fI hl;rfl
 have F_41:bL K "_law_one_spoiled" "_law_one_spoiled" kH f_41 _:=⟨⟨_,_,_,_,_,_,_,_,_,_,rfl,l_41,c_41⟩,k_41⟩;have b_41:Binds K (W.fnOf "_law_one_spoiled" "_law_one_spoiled" (aI kH) (aH kH) (aF kH) .none kV_41 dc_41 pm_41 an_41 cd_41 ct_41) ["_law_slips","_law_n","_law_way","_law_part","_law_size"] []:=.all λus hl=>by obtain⟨v0,v1,v2,v3,v4,rfl⟩:=AM.Wd hl;rfl
 have F_42:bL K "_law_one_more" "_law_one_more" kI f_42 _:=⟨⟨_,_,_,_,_,_,_,_,_,_,rfl,l_42,c_42⟩,k_42⟩;have b_42:Binds K (W.fnOf "_law_one_more" "_law_one_more" (aI kI) (aH kI) (aF kI) .none kV_42 dc_42 pm_42 an_42 cd_42 ct_42) ["_law_slips","_law_part","_law_size"] []:=.all λus hl=>by obtain⟨v0,v1,v2,rfl⟩:=AM.fI hl;rfl
 have F_43:bL K "_law_earlier" "_law_earlier" kJ f_43 _:=⟨⟨_,_,_,_,_,_,_,_,_,_,rfl,l_43,c_43⟩,k_43⟩;have b_43:Binds K (W.fnOf "_law_earlier" "_law_earlier" (aI kJ) (aH kJ) (aF kJ) .none kV_43 dc_43 pm_43 an_43 cd_43 ct_43) ["_law_slips","_law_n","_law_program","_law_part"] []:=.all λus hl=>by obtain⟨v0,v1,v2,v3,rfl⟩:=AM.dn hl;rfl
 have F_44:bL K "_law_earlier_told" "_law_earlier_told" kK f_44 _:=⟨⟨_,_,_,_,_,_,_,_,_,_,rfl,l_44,c_44⟩,k_44⟩;have b_44:Binds K (W.fnOf "_law_earlier_told" "_law_earlier_told" (aI kK) (aH kK) (aF kK) .none kV_44 dc_44 pm_44 an_44 cd_44 ct_44) ["_law_slips","_law_n","_law_program","_law_part"] []:=.all λus hl=>by obtain⟨v0,v1,v2,v3,rfl⟩:=AM.dn hl;rfl
 have F_45:bL K "_law_spoiled" "_law_spoiled" kL f_45 _:=⟨⟨_,_,_,_,_,_,_,_,_,_,rfl,l_45,c_45⟩,k_45⟩;have b_45:Binds K (W.fnOf "_law_spoiled" "_law_spoiled" (aI kL) (aH kL) (aF kL) .none kV_45 dc_45 pm_45 an_45 cd_45 ct_45) ["_law_slips","_law_number_here","_law_program"] []:=.all λus hl=>by obtain⟨v0,v1,v2,rfl⟩:=AM.fI hl;rfl
 have F_46:bL K "_law_is" "_law_is" kM f_46 _:=⟨⟨_,_,_,_,_,_,_,_,_,_,rfl,l_46,c_46⟩,k_46⟩;have b_46:Binds K (W.fnOf "_law_is" "_law_is" (aI kM) (aH kM) (aF kM) .none kV_46 dc_46 pm_46 an_46 cd_46 ct_46) ["_law_found","_law_due"] []:=.all λus hl=>by obtain⟨v0,v1,rfl⟩:=AM.eW hl;rfl
 have F_47:bL K "law" "law" kN fa _:=⟨⟨_,_,_,_,_,_,_,_,_,_,rfl,l_47,c_47⟩,k_47⟩;have b_47:Binds K (W.fnOf "law" "law" (aI kN) (aH kN) (aF kN) .none kV_47 dc_47 pm_47 an_47 cd_47 ct_47) ["_law_script"] []:=.all λus hl=>by obtain⟨v0,rfl⟩:=AM.nH hl;rfl
 have F_48:bL K "__init__" "Trace.__init__" kO f_48 _:=⟨⟨_,_,_,_,_,_,_,_,_,_,rfl,l_48,c_48⟩,k_48⟩;have b_48:Binds K (W.fnOf "__init__" "Trace.__init__" (aI kO) (aH kO) (aF kO) .none kV_48 dc_48 pm_48 an_48 cd_48 ct_48) ["self","stand"] []:=.all λus hl=>by obtain⟨v0,v1,rfl⟩:=AM.eW hl;rfl
 have F_49:bL K "follow" "Trace.follow" kP f_49 _:=⟨⟨_,_,_,_,_,_,_,_,_,_,rfl,l_49,c_49⟩,k_49⟩;have b_49:Binds K (W.fnOf "follow" "Trace.follow" (aI kP) (aH kP) (aF kP) .none kV_49 dc_49 pm_49 an_49 cd_49 ct_49) ["self","slip"] []:=.all λus hl=>by obtain⟨v0,v1,rfl⟩:=AM.eW hl;rfl
 have O:zy l.prog w pr ⟨K,λkvs a=>False,λi=>match i with|2=>some C_2|_=>none⟩ mg (λi=>([f_0,f_1,f_2,f_3,f_4,f_5,f_6,f_7,f_8,f_9,f_10,f_11,f_12,f_13,f_14,f_15,f_16,f_17,f_18,f_19,f_20,f_21,f_22,f_23,f_24,f_25,f_26,f_27,f_28,f_29,f_30,f_31,f_32,f_33,f_34,f_35,f_36,f_37,f_38,f_39,f_40,f_41,f_42,f_43,f_44,f_45,f_46,fa,f_48,f_49]:List Addr).getD i 0) (λi=>([W.fnOf "word_of" "word_of" (aI gT) (aH gT) (aF gT) .none kV_0 dc_0 pm_0 an_0 cd_0 ct_0,W.fnOf "shared" "shared" (aI iY) (aH iY) (aF iY) .none kV_1 dc_1 pm_1 an_1 cd_1 ct_1,W.fnOf "leaves_some" "leaves_some" (aI jJ) (aH jJ) (aF jJ) .none kV_2 dc_2 pm_2 an_2 cd_2 ct_2,W.fnOf "moved_up" "moved_up" (aI jU) (aH jU) (aF jU) .none kV_3 dc_3 pm_3 an_3 cd_3 ct_3,W.fnOf "moved_down" "moved_down" (aI kF) (aH kF) (aF kF) .none kV_4 dc_4 pm_4 an_4 cd_4 ct_4,W.fnOf "worked" "worked" (aI kQ) (aH kQ) (aF kQ) .none kV_5 dc_5 pm_5 an_5 cd_5 ct_5,W.fnOf "wants" "wants" (aI kR) (aH kR) (aF kR) .none kV_6 dc_6 pm_6 an_6 cd_6 ct_6,W.fnOf "fills" "fills" (aI kS) (aH kS) (aF kS) .none kV_7 dc_7 pm_7 an_7 cd_7 ct_7,W.fnOf "place_of" "place_of" (aI kT) (aH kT) (aF kT) .none kV_8 dc_8 pm_8 an_8 cd_8 ct_8,W.fnOf "goes" "goes" (aI kU) (aH kU) (aF kU) .none kV_9 dc_9 pm_9 an_9 cd_9 ct_9,W.fnOf "fault_of" "fault_of" (aI iZ) (aH iZ) (aF iZ) .none kV_10 dc_10 pm_10 an_10 cd_10 ct_10,W.fnOf "brought" "brought" (aI jA) (aH jA) (aF jA) .none kV_11 dc_11 pm_11 an_11 cd_11 ct_11,W.fnOf "made" "made" (aI jB) (aH jB) (aF jB) .none kV_12 dc_12 pm_12 an_12 cd_12 ct_12,W.fnOf "in_memory" "in_memory" (aI jC) (aH jC) (aF jC) .none kV_13 dc_13 pm_13 an_13 cd_13 ct_13,W.fnOf "held_for" "held_for" (aI jD) (aH jD) (aF jD) .none kV_14 dc_14 pm_14 an_14 cd_14 ct_14,W.fnOf "replaced" "replaced" (aI jE) (aH jE) (aF jE) .none kV_15 dc_15 pm_15 an_15 cd_15 ct_15,W.fnOf "does" "does" (aI jF) (aH jF) (aF jF) .none kV_16 dc_16 pm_16 an_16 cd_16 ct_16,W.fnOf "behind" "behind" (aI jG) (aH jG) (aF jG) .none kV_17 dc_17 pm_17 an_17 cd_17 ct_17,W.fnOf "wrong" "wrong" (aI jH) (aH jH) (aF jH) .none kV_18 dc_18 pm_18 an_18 cd_18 ct_18,W.fnOf "is_right" "is_right" (aI jI) (aH jI) (aF jI) .none kV_19 dc_19 pm_19 an_19 cd_19 ct_19,W.fnOf "stands_behind" "stands_behind" (aI jK) (aH jK) (aF jK) .none kV_20 dc_20 pm_20 an_20 cd_20 ct_20,W.fnOf "times_rise" "times_rise" (aI jL) (aH jL) (aF jL) .none kV_21 dc_21 pm_21 an_21 cd_21 ct_21,W.fnOf "giver_of" "giver_of" (aI jM) (aH jM) (aF jM) .none kV_22 dc_22 pm_22 an_22 cd_22 ct_22,W.fnOf "names_are_right" "names_are_right" (aI jN) (aH jN) (aF jN) .none kV_23 dc_23 pm_23 an_23 cd_23 ct_23,W.fnOf "_law_cell_at" "_law_cell_at" (aI jO) (aH jO) (aF jO) .none kV_24 dc_24 pm_24 an_24 cd_24 ct_24,W.fnOf "_law_number" "_law_number" (aI jP) (aH jP) (aF jP) .none kV_25 dc_25 pm_25 an_25 cd_25 ct_25,W.fnOf "_law_word_by" "_law_word_by" (aI jQ) (aH jQ) (aF jQ) .none kV_26 dc_26 pm_26 an_26 cd_26 ct_26,W.fnOf "_law_turn_row" "_law_turn_row" (aI jR) (aH jR) (aF jR) .none kV_27 dc_27 pm_27 an_27 cd_27 ct_27,W.fnOf "_law_row" "_law_row" (aI jS) (aH jS) (aF jS) .none kV_28 dc_28 pm_28 an_28 cd_28 ct_28,W.fnOf "_law_stand" "_law_stand" (aI jT) (aH jT) (aF jT) .none kV_29 dc_29 pm_29 an_29 cd_29 ct_29,W.fnOf "_law_worked" "_law_worked" (aI jV) (aH jV) (aF jV) .none kV_30 dc_30 pm_30 an_30 cd_30 ct_30,W.fnOf "_law_place_deed" "_law_place_deed" (aI jW) (aH jW) (aF jW) .none kV_31 dc_31 pm_31 an_31 cd_31 ct_31,W.fnOf "_law_deed" "_law_deed" (aI jX) (aH jX) (aF jX) .none kV_32 dc_32 pm_32 an_32 cd_32 ct_32,W.fnOf "_law_plain_run" "_law_plain_run" (aI jY) (aH jY) (aF jY) .none kV_33 dc_33 pm_33 an_33 cd_33 ct_33,W.fnOf "_law_wants" "_law_wants" (aI jZ) (aH jZ) (aF jZ) .none kV_34 dc_34 pm_34 an_34 cd_34 ct_34,W.fnOf "_law_slips_of" "_law_slips_of" (aI kA) (aH kA) (aF kA) .none kV_35 dc_35 pm_35 an_35 cd_35 ct_35,W.fnOf "_law_other_names" "_law_other_names" (aI kB) (aH kB) (aF kB) .none kV_36 dc_36 pm_36 an_36 cd_36 ct_36,W.fnOf "_law_other_giver" "_law_other_giver" (aI kC) (aH kC) (aF kC) .none kV_37 dc_37 pm_37 an_37 cd_37 ct_37,W.fnOf "_law_other_fault" "_law_other_fault" (aI kD) (aH kD) (aF kD) .none kV_38 dc_38 pm_38 an_38 cd_38 ct_38,W.fnOf "_law_other_deed" "_law_other_deed" (aI kE) (aH kE) (aF kE) .none kV_39 dc_39 pm_39 an_39 cd_39 ct_39,W.fnOf "_law_other_times" "_law_other_times" (aI kG) (aH kG) (aF kG) .none kV_40 dc_40 pm_40 an_40 cd_40 ct_40,W.fnOf "_law_one_spoiled" "_law_one_spoiled" (aI kH) (aH kH) (aF kH) .none kV_41 dc_41 pm_41 an_41 cd_41 ct_41,W.fnOf "_law_one_more" "_law_one_more" (aI kI) (aH kI) (aF kI) .none kV_42 dc_42 pm_42 an_42 cd_42 ct_42,W.fnOf "_law_earlier" "_law_earlier" (aI kJ) (aH kJ) (aF kJ) .none kV_43 dc_43 pm_43 an_43 cd_43 ct_43,W.fnOf "_law_earlier_told" "_law_earlier_told" (aI kK) (aH kK) (aF kK) .none kV_44 dc_44 pm_44 an_44 cd_44 ct_44,W.fnOf "_law_spoiled" "_law_spoiled" (aI kL) (aH kL) (aF kL) .none kV_45 dc_45 pm_45 an_45 cd_45 ct_45,W.fnOf "_law_is" "_law_is" (aI kM) (aH kM) (aF kM) .none kV_46 dc_46 pm_46 an_46 cd_46 ct_46,W.fnOf "law" "law" (aI kN) (aH kN) (aF kN) .none kV_47 dc_47 pm_47 an_47 cd_47 ct_47,W.fnOf "__init__" "Trace.__init__" (aI kO) (aH kO) (aF kO) .none kV_48 dc_48 pm_48 an_48 cd_48 ct_48,W.fnOf "follow" "Trace.follow" (aI kP) (aH kP) (aF kP) .none kV_49 dc_49 pm_49 an_49 cd_49 ct_49]:List FuncData).getD i (W.fnOf "word_of" "word_of" (aI gT) (aH gT) (aF gT) .none kV_0 dc_0 pm_0 an_0 cd_0 ct_0)):=by
  refine⟨λi d hd=>?_,λi d hd=>?_,λx v hx=>?_,λx hx=>?_,λkvs a ht=>?_,λf cs hx=>?_,λm dp hx c i hi=>?_,λx n c i dv hx=>?_,λy cs hx=>?_,λx m i hx=>?_⟩
  .exact vM.get (ds:=[nS,nT,oG,oU,pF,pP,pQ,pR,pS,pT,nU,nV,nW,nX,nY,nZ,oA,oB,oE,oF,oH,oJ,oK,oM,oO,oP,oQ,oR,oS,oT,oV,oW,oX,oY,oZ,pA,pB,pC,pD,pE,pG,pH,pI,pJ,pK,pL,pM,mG,pN,pO]) (.cons ⟨F_0,b_0,WJ⟩ (.cons ⟨F_1,b_1,WK⟩ (.cons ⟨F_2,b_2,WW⟩ (.cons ⟨F_3,b_3,XH⟩ (.cons ⟨F_4,b_4,XW⟩ (.cons ⟨F_5,b_5,YH⟩ (.cons ⟨F_6,b_6,YI⟩ (.cons ⟨F_7,b_7,YJ⟩ (.cons ⟨F_8,b_8,YK⟩ (.cons ⟨F_9,b_9,YL⟩ (.cons ⟨F_10,b_10,WL⟩ (.cons ⟨F_11,b_11,WM⟩ (.cons ⟨F_12,b_12,WN⟩ (.cons ⟨F_13,b_13,WO⟩ (.cons ⟨F_14,b_14,WQ⟩ (.cons ⟨F_15,b_15,WR⟩ (.cons ⟨F_16,b_16,WS⟩ (.cons ⟨F_17,b_17,WT⟩ (.cons ⟨F_18,b_18,WU⟩ (.cons ⟨F_19,b_19,WV⟩ (.cons ⟨F_20,b_20,WX⟩ (.cons ⟨F_21,b_21,WY⟩ (.cons ⟨F_22,b_22,WZ⟩ (.cons ⟨F_23,b_23,XA⟩ (.cons ⟨F_24,b_24,XB⟩ (.cons ⟨F_25,b_25,XC⟩ (.cons ⟨F_26,b_26,XD⟩ (.cons ⟨F_27,b_27,XE⟩ (.cons ⟨F_28,b_28,XF⟩ (.cons ⟨F_29,b_29,XG⟩ (.cons ⟨F_30,b_30,XI⟩ (.cons ⟨F_31,b_31,XJ⟩ (.cons ⟨F_32,b_32,XM⟩ (.cons ⟨F_33,b_33,XN⟩ (.cons ⟨F_34,b_34,XO⟩ (.cons ⟨F_35,b_35,XQ⟩ (.cons ⟨F_36,b_36,XR⟩ (.cons ⟨F_37,b_37,XS⟩ (.cons ⟨F_38,b_38,XT⟩ (.cons ⟨F_39,b_39,XU⟩ (.cons ⟨F_40,b_40,XX⟩ (.cons ⟨F_41,b_41,XY⟩ (.cons ⟨F_42,b_42,XZ⟩ (.cons ⟨F_43,b_43,YA⟩ (.cons ⟨F_44,b_44,YB⟩ (.cons ⟨F_45,b_45,YC⟩ (.cons ⟨F_46,b_46,YD⟩ (.cons ⟨F_47,b_47,YE⟩ (.cons ⟨F_48,b_48,YF⟩ (.cons ⟨F_49,b_49,YG⟩ .nil)))))))))))))))))))))))))))))))))))))))))))))))))) i d hd
  .exact vN.get (ds:=[nS,nT,oG,oU,pF,pP,pQ,pR,pS,pT,nU,nV,nW,nX,nY,nZ,oA,oB,oE,oF,oH,oJ,oK,oM,oO,oP,oQ,oR,oS,oT,oV,oW,oX,oY,oZ,pA,pB,pC,pD,pE,pG,pH,pI,pJ,pK,pL,pM,mG]) (as:=[f_0,f_1,f_2,f_3,f_4,f_5,f_6,f_7,f_8,f_9,f_10,f_11,f_12,f_13,f_14,f_15,f_16,f_17,f_18,f_19,f_20,f_21,f_22,f_23,f_24,f_25,f_26,f_27,f_28,f_29,f_30,f_31,f_32,f_33,f_34,f_35,f_36,f_37,f_38,f_39,f_40,f_41,f_42,f_43,f_44,f_45,f_46,fa,f_48,f_49]) (.cons (W.mg_of X G x_0) (.cons (W.mg_of X G x_1) (.cons (W.mg_of X G x_2) (.cons (W.mg_of X G x_3) (.cons (W.mg_of X G x_4) (.cons (W.mg_of X G x_5) (.cons (W.mg_of X G x_6) (.cons (W.mg_of X G x_7) (.cons (W.mg_of X G x_8) (.cons (W.mg_of X G x_9) (.cons (W.mg_of X G x_10) (.cons (W.mg_of X G x_11) (.cons (W.mg_of X G x_12) (.cons (W.mg_of X G x_13) (.cons (W.mg_of X G x_14) (.cons (W.mg_of X G x_15) (.cons (W.mg_of X G x_16) (.cons (W.mg_of X G x_17) (.cons (W.mg_of X G x_18) (.cons (W.mg_of X G x_19) (.cons (W.mg_of X G x_20) (.cons (W.mg_of X G x_21) (.cons (W.mg_of X G x_22) (.cons (W.mg_of X G x_23) (.cons (W.mg_of X G x_24) (.cons (W.mg_of X G x_25) (.cons (W.mg_of X G x_26) (.cons (W.mg_of X G x_27) (.cons (W.mg_of X G x_28) (.cons (W.mg_of X G x_29) (.cons (W.mg_of X G x_30) (.cons (W.mg_of X G x_31) (.cons (W.mg_of X G x_32) (.cons (W.mg_of X G x_33) (.cons (W.mg_of X G x_34) (.cons (W.mg_of X G x_35) (.cons (W.mg_of X G x_36) (.cons (W.mg_of X G x_37) (.cons (W.mg_of X G x_38) (.cons (W.mg_of X G x_39) (.cons (W.mg_of X G x_40) (.cons (W.mg_of X G x_41) (.cons (W.mg_of X G x_42) (.cons (W.mg_of X G x_43) (.cons (W.mg_of X G x_44) (.cons (W.mg_of X G x_45) (.cons (W.mg_of X G x_46) (.cons (W.mg_of X G x_47) .nil)))))))))))))))))))))))))))))))))))))))))))))))) i d hd
  .rcases qH hx with⟨rfl,rfl⟩|hx
   .exact⟨_,.int 64,W.mg_of X G x_BITS,⟨_,rfl⟩,λ_ _=>.int _⟩
   rcases qH hx with⟨rfl,rfl⟩|hx
   .exact⟨_,.int 18446744073709551616,W.mg_of X G x_BEYOND,⟨_,rfl⟩,λ_ _=>.int _⟩
   rcases qH hx with⟨rfl,rfl⟩|hx
   .exact⟨_,.ref g_WAYS,W.mg_of X G x_WAYS,rfl,λ_ _=>.tup (ys:=[.str "sum",.str "less",.str "times",.str "share",.str "rest",.str "both",.str "some",.str "odd",.str "up",.str "down",.str "below",.str "same"]) (.inr ⟨_,_,_,l_WAYS,rfl,rfl,(by decide:12<=sizeLine),(.cons ⟨_,rfl⟩ (.cons ⟨_,rfl⟩ (.cons ⟨_,rfl⟩ (.cons ⟨_,rfl⟩ (.cons ⟨_,rfl⟩ (.cons ⟨_,rfl⟩ (.cons ⟨_,rfl⟩ (.cons ⟨_,rfl⟩ (.cons ⟨_,rfl⟩ (.cons ⟨_,rfl⟩ (.cons ⟨_,rfl⟩ (.cons ⟨_,rfl⟩ .nil))))))))))))⟩) (.cons (.str _) (.cons (.str _) (.cons (.str _) (.cons (.str _) (.cons (.str _) (.cons (.str _) (.cons (.str _) (.cons (.str _) (.cons (.str _) (.cons (.str _) (.cons (.str _) (.cons (.str _) .nil))))))))))))⟩
   exact(gw hx).elim
  .have hx:x∈(["len","int","min","max","divmod","tuple","list","all","isinstance","bool","range","enumerate"]:List Str):=List.contains_iff_mem.mp hx;simp only[List.mem_cons,List.not_mem_nil,or_false]at hx;rcases hx with rfl|rfl|rfl|rfl|rfl|rfl|rfl|rfl|rfl|rfl|rfl|rfl
   .exact W.mg_none_of X G z_len
   .exact W.mg_none_of X G z_int
   .exact W.mg_none_of X G z_min
   .exact W.mg_none_of X G z_max
   .exact W.mg_none_of X G z_divmod
   .exact W.mg_none_of X G z_tuple
   .exact W.mg_none_of X G z_list
   .exact W.mg_none_of X G z_all
   .exact W.mg_none_of X G z_isinstance
   .exact W.mg_none_of X G z_bool
   .exact W.mg_none_of X G z_range
   .exact W.mg_none_of X G z_enumerate
  .exact ht.elim
  .rcases qH hx with⟨rfl,rfl⟩|hx
   .intro c D hc hD;rw[List.contains_iff_mem]at hc;simp only[List.mem_cons,List.not_mem_nil,or_false]at hc;rcases hc with rfl
    .cases hD;exact⟨⟨pg_2,hd_2,po_2,sa_2⟩,na_2_state⟩
   rcases qH hx with⟨rfl,rfl⟩|hx
   .intro c D hc hD;rw[List.contains_iff_mem]at hc;simp only[List.mem_cons,List.not_mem_nil,or_false]at hc;rcases hc with rfl
    .cases hD;exact⟨⟨pg_2,hd_2,po_2,sa_2⟩,na_2_latest⟩
   rcases qH hx with⟨rfl,rfl⟩|hx
   .intro c D hc hD;rw[List.contains_iff_mem]at hc;simp only[List.mem_cons,List.not_mem_nil,or_false]at hc;rcases hc with rfl
    .cases hD;exact⟨⟨pg_2,hd_2,po_2,sa_2⟩,na_2_storers⟩
   rcases qH hx with⟨rfl,rfl⟩|hx
   .intro c D hc hD;rw[List.contains_iff_mem]at hc;simp only[List.mem_cons,List.not_mem_nil,or_false]at hc;rcases hc with rfl
    .cases hD;exact⟨⟨pg_2,hd_2,po_2,sa_2⟩,na_2_fillers⟩
   exact(gw hx).elim
  .rcases qH hx with⟨rfl,rfl⟩|hx
   .rcases HU hi with⟨rfl,rfl⟩|hi
    .exact⟨pO,C_2,rfl,rfl,⟨pg_2,hd_2,po_2,sa_2⟩,a_2_follow,fn_49,k_49⟩
    exact(HV hi).elim
   exact(gw hx).elim
  .rcases HR hx with⟨rfl,rfl,hv⟩|hx
   .cases hv;exact⟨pN,C_2,[],[],rfl,rfl,⟨mk_2,a_2_init,fn_48,kc_2⟩,W.mg_of X G xc_2,b_48,.nil,λ_ _=>.nil⟩
   exact(HS hx).elim
  .exact(gw hx).elim
  .obtain⟨r,h1,h2⟩:=Option.bind_eq_some_iff.mp hx;clear hx;exact(gw h1).elim
 have hk:Keeps pr.ir 12 47:=by rw[GO];exact keeps
 exact⟨_,λs v=>.of_eq rfl,λbase _ _=>HN (T:=⟨K,λkvs a=>False,λi=>match i with|2=>some C_2|_=>none⟩) (d:=mG) O rfl hk⟩
end AMx
open PySem PySem.W PyProof.Rows
namespace PySem.W.Fast
def bB:List Stmt->Nat->Stmt|a::_,0=>a|_::l,n+1=>bB l n | [],_=>.Pass (.mk 0 0 0 0)
def qP:Stmt->List Stmt | .FunctionDef _ _ b _ _ _ _ _ _ _=>b | .ClassDef _ _ _ b _ _ _ _ _ _ _=>b|_=>[]
def zM:Stmt->Arguments | .FunctionDef _ p _ _ _ _ _ _ _ _=>p|_=>default
def cu:Stmt->Scope | .FunctionDef _ _ _ _ _ _ s _ _ _=>s | .ClassDef _ _ _ _ _ _ s _ _ _ _=>s|_=>default
def qf(o:Obj):BT:=.node o .nil .nil
def qb(s:String)(x:Data):Obj:=⟨.type s,.none,x,#[]⟩
def qd(P:Params)(n:Str)(i:Nat)(v:Value):DictEntry:=⟨PySem.PyData.keyHash P n,.str n i,v⟩
def qF(a:Str)(s u:Stmt):Obj:=(.mk .none .none (.func (.mk a a (zM s) (.stmts (qP s)) (cu u) 0 [] .none .none .none .none .none .none .none 0)) #[])
def qG(z:String)(a:Str)(s u:Stmt)(n:Str)(i r:Nat):Obj:=qb z (.func (.mk a a (zM s) (.stmts (qP s)) (cu u) 3 [] .none .none .none (.str n i) .none (.ref r) .none 0))
def qC(z:String)(a:Str)(i:Nat)(b:Str)(l:Int)(m f:Int)(r p:Nat)(u:Nat):Obj:=qb z (.fields #[(.str a i),(.str a (i+1)),(.str b (i+2)),(.int l 0),(.int m 0),(.int 0 0),(.int 0 0),(.int f 0),(.ref r),(.bool .true),(.int p 0),(.ref (r+1)),.none,(.ref (r+2)),(.ref (r+3)),(.ref (r+4)),(.int u 0),(.int l 0),(.str b (u+1))])
def Rc:List Str->Nat->List Value | [],_=>[] | a::l,n=>.str a n::Rc l (n+1)
def qT(z:String)(l:List Str)(n:Nat):Obj:=qb z (.seq (Rc l n).toArray 0)
def bM:String:=PySem.W.SL.s2766695959194262286x5
def bJ:String:=PySem.W.SL.s5856160107412720595x4
def ye:String:=PySem.W.SL.s658472552662922059x5
def gZ:String:=PySem.W.SL.s14018661285674007319x4
def vI:String:=PySem.W.SL.s7097527257260152453x26
def cv:String:=PySem.W.SL.s6070975301684473832x10
def yf:String:=PySem.W.SL.s11030030927630378310x26
def VD:String:=PySem.W.SL.s10062305145149207511x16
def lz:String:=PySem.W.SL.s17162191345867700912x4
def Gj:String:=PySem.W.SL.s5946037652744460706x9
def Ge:String:=PySem.W.SL.s4278001404047624695x13
def ly:String:=PySem.W.SL.s2742458400755230247x6
def Gf:String:=PySem.W.SL.s4209523147560561109x18
def Gg:String:=PySem.W.SL.s14755015743595814543x17
def Tx:String:=PySem.W.SL.s10220274742760427390x26
def Gh:String:=PySem.W.SL.s4290257624100764138x5
def Gi:String:=PySem.W.SL.s4860613602091757760x24
def bN:String:=PySem.W.SL.s7174869446012820540x8
def VA:String:=PySem.W.SL.s11443829558043349243x14
def VB:String:=PySem.W.SL.s6511155373996960695x17
def VC:String:=PySem.W.SL.s12411053484034534018x21
def TU:Stmt:=bB qMB 0
def Tp:Stmt:=bB qMB 1
def Tq:Stmt:=bB qMB 2
def TZ:Stmt:=bB qMB 3
def Ts:Stmt:=bB qMB 4
def Tu:Stmt:=bB qMB 5
def Tv:Stmt:=bB qMB 6
def cm:Stmt:=bB qMB 7
def cp:Stmt:=bB qMB 8
def cq:Stmt:=bB qMB 9
def zN:Stmt:=bB qMB 10
def zO:Stmt:=bB qMB 11
def zP:Stmt:=bB qMB 12
def TV:Stmt:=bB qMB 13
def rP:Stmt:=bB qMB 14
def yc:Stmt:=bB qMB 15
def zQ:Stmt:=bB qMB 16
def zR:Stmt:=bB qMB 17
def zS:Stmt:=bB qMB 18
def zT:Stmt:=bB qMB 19
def zU:Stmt:=bB qMB 20
def TX:Stmt:=bB qMB 21
def zV:Stmt:=bB qMB 22
def zW:Stmt:=bB qMB 23
def zX:Stmt:=bB qMB 24
def zY:Stmt:=bB qMB 25
def zZ:Stmt:=bB qMB 26
def TY:Stmt:=bB qMB 27
def yd:Stmt:=bB qMB 28
def aa:Stmt:=bB (qP yd) 0
def ae:Stmt:=bB (qP yd) 1
def af:Stmt:=bB qMB 29
def ag:Stmt:=bB qMB 30
def ah:Stmt:=bB qMB 31
def ai:Stmt:=bB qMB 32
def aj:Stmt:=bB qMB 33
def ak:Stmt:=bB qMB 34
def UA:Stmt:=bB qMB 35
def ao:Stmt:=bB qMB 36
def aq:Stmt:=bB qMB 37
def au:Stmt:=bB qMB 38
def aw:Stmt:=bB qMB 39
def ax:Stmt:=bB qMB 40
def ay:Stmt:=bB qMB 41
def az:Stmt:=bB qMB 42
def ba:Stmt:=bB qMB 43
def bc:Stmt:=bB qMB 44
def bf:Stmt:=bB qMB 45
def bg:Stmt:=bB qMB 46
def bh:Stmt:=bB qMB 47
def bj:Stmt:=bB qMB 48
def bo:Stmt:=bB qMB 49
def bp:Stmt:=bB qMB 50
def bq:Stmt:=bB qMB 51
def bu:Stmt:=bB qMB 52
def bw:Stmt:=bB qMB 53
def bz:Stmt:=bB qMB 54
def cb:Stmt:=bB qMB 55
def cf:Stmt:=bB qMB 56
def cg:Stmt:=bB qMB 57
def cj:Stmt:=bB qMB 58
def ck:Stmt:=bB qMB 59
def Rn:Str:=.mk #[60,109,111,100,117,108,101,62]
def aW:Str:=.mk #[47,99,108,97,105,109,47,99,117,116,46,112,121]
def RV:Str:=.mk #[95,95,109,97,105,110,95,95]
def tW:Str:=.mk #[95,95,110,97,109,101,95,95]
def tX:Str:=.mk #[97,104,101,97,100,109,105,108,108,46,101,114,114,111,114,115]
def lP:Str:=.mk #[95,95,100,111,99,95,95]
def tY:Str:=.mk #[95,95,112,97,99,107,97,103,101,95,95]
def uB:Str:=.mk #[95,95,108,111,97,100,101,114,95,95]
def uF:Str:=.mk #[95,95,115,112,101,99,95,95]
def uG:Str:=.mk #[95,95,97,110,110,111,116,97,116,105,111,110,115,95,95]
def tR:Str:=.mk #[95,95,98,117,105,108,116,105,110,115,95,95]
def tT:Str:=.mk #[95,95,102,105,108,101,95,95]
def tU:Str:=.mk #[95,95,99,97,99,104,101,100,95,95]
def fH:Str:=.mk #[77,105,108,108,69,114,114,111,114]
def xB:Str:=.mk #[95,95,109,111,100,117,108,101,95,95]
def Ds:Str:=.mk #[95,95,113,117,97,108,110,97,109,101,95,95]
def xE:Str:=.mk #[95,95,102,105,114,115,116,108,105,110,101,110,111,95,95]
def xF:Str:=.mk #[95,95,115,116,97,116,105,99,95,97,116,116,114,105,98,117,116,101,115,95,95]
def vb:Str:=.mk #[95,95,119,101,97,107,114,101,102,95,95]
def tV:Str:=.mk #[97,104,101,97,100,109,105,108,108,46,119,111,114,100,115]
def gY:Str:=.mk #[78,111,117,103,104,116]
def xG:Str:=.mk #[66,73,84,83]
def xH:Str:=.mk #[66,69,89,79,78,68]
def xI:Str:=.mk #[87,65,89,83]
def mV:Str:=.mk #[119,111,114,100,95,111,102]
def mW:Str:=.mk #[115,104,97,114,101,100]
def mX:Str:=.mk #[108,101,97,118,101,115,95,115,111,109,101]
def mY:Str:=.mk #[109,111,118,101,100,95,117,112]
def RW:Str:=.mk #[115,117,109]
def RX:Str:=.mk #[108,101,115,115]
def Ry:Str:=.mk #[116,105,109,101,115]
def RY:Str:=.mk #[115,104,97,114,101]
def RZ:Str:=.mk #[114,101,115,116]
def SA:Str:=.mk #[98,111,116,104]
def SD:Str:=.mk #[115,111,109,101]
def SE:Str:=.mk #[111,100,100]
def SG:Str:=.mk #[117,112]
def SH:Str:=.mk #[100,111,119,110]
def SI:Str:=.mk #[98,101,108,111,119]
def SJ:Str:=.mk #[115,97,109,101]
def Dv:Str:=.mk #[110,117,109,98,101,114]
def vc:Str:=.mk #[111,110,101]
def Rz:Str:=.mk #[111,116,104,101,114]
def Dw:Str:=.mk #[112,108,97,99,101,115]
def xJ:Str:=.mk #[97,104,101,97,100,109,105,108,108,46,112,108,97,105,110]
def qQ:Str:=.mk #[109,111,118,101,100,95,100,111,119,110]
def qR:Str:=.mk #[119,111,114,107,101,100]
def qS:Str:=.mk #[119,97,110,116,115]
def qU:Str:=.mk #[102,105,108,108,115]
def qV:Str:=.mk #[112,108,97,99,101,95,111,102]
def qW:Str:=.mk #[103,111,101,115]
def qX:Str:=.mk #[102,97,117,108,116,95,111,102]
def qY:Str:=.mk #[98,114,111,117,103,104,116]
def qZ:Str:=.mk #[109,97,100,101]
def rA:Str:=.mk #[105,110,95,109,101,109,111,114,121]
def rB:Str:=.mk #[104,101,108,100,95,102,111,114]
def rD:Str:=.mk #[114,101,112,108,97,99,101,100]
def SK:Str:=.mk #[119,97,121]
def rE:Str:=.mk #[114,111,119]
def ve:Str:=.mk #[107,105,110,100]
def tZ:Str:=.mk #[97,104,101,97,100,109,105,108,108,46,114,111,119,115]
def uA:Str:=.mk #[119,111,114,100,115]
def Sa:Str:=.mk #[97,116]
def Sb:Str:=.mk #[114,111,111,109]
def vf:Str:=.mk #[112,108,97,99,101]
def Se:Str:=.mk #[104,101,108,100]
def SM:Str:=.mk #[102,97,117,108,116]
def Sf:Str:=.mk #[109,101,109,111,114,121]
def Sg:Str:=.mk #[119,111,114,100]
def iH:Str:=.mk #[97,104,101,97,100,109,105,108,108,46,99,104,101,99,107,115]
def rF:Str:=.mk #[100,111,101,115]
def uC:Str:=.mk #[98,101,104,105,110,100]
def iV:Str:=.mk #[84,114,97,99,101]
def uD:Str:=.mk #[119,114,111,110,103]
def uE:Str:=.mk #[105,115,95,114,105,103,104,116]
def Dx:Str:=.mk #[115,116,97,110,100]
def Dy:Str:=.mk #[100,101,101,100]
def SN:Str:=.mk #[98,111,120]
def SO:Str:=.mk #[97,102,116,101,114]
def jm:Str:=.mk #[95,95,105,110,105,116,95,95]
def jn:Str:=.mk #[102,111,108,108,111,119]
def Sh:Str:=.mk #[115,101,108,102]
def Dz:Str:=.mk #[84,114,97,99,101,46,95,95,105,110,105,116,95,95]
def vg:Str:=.mk #[115,108,105,112]
def Ea:Str:=.mk #[84,114,97,99,101,46,102,111,108,108,111,119]
def SQ:Str:=.mk #[102,105,108,108,101,114,115]
def Si:Str:=.mk #[108,97,116,101,115,116]
def SR:Str:=.mk #[115,116,97,116,101]
def SS:Str:=.mk #[115,116,111,114,101,114,115]
def Sj:Str:=.mk #[95,95,100,105,99,116,95,95]
def Sk:Str:=.mk #[112,114,111,103,114,97,109]
def SU:Str:=.mk #[115,108,105,112,115]
def Eb:Str:=.mk #[116,114,97,99,101]
def cY:Str:=.mk #[108,97,119,95,97,104,101,97,100,109,105,108,108,95,107,53,49,95,119,114,111,110,103,95,115,108,105,112,115,95,116,111,108,100]
def xK:Str:=.mk #[115,116,97,110,100,115,95,98,101,104,105,110,100]
def xM:Str:=.mk #[116,105,109,101,115,95,114,105,115,101]
def xN:Str:=.mk #[103,105,118,101,114,95,111,102]
def uH:Str:=.mk #[110,97,109,101,115,95,97,114,101,95,114,105,103,104,116]
def xO:Str:=.mk #[95,108,97,119,95,99,101,108,108,95,97,116]
def xP:Str:=.mk #[95,108,97,119,95,110,117,109,98,101,114]
def wR:Str:=.mk #[95,108,97,119,95,119,111,114,100,95,98,121]
def wU:Str:=.mk #[95,108,97,119,95,116,117,114,110,95,114,111,119]
def wV:Str:=.mk #[95,108,97,119,95,114,111,119]
def tS:Str:=.mk #[95,108,97,119,95,115,116,97,110,100]
def wW:Str:=.mk #[95,108,97,119,95,119,111,114,107,101,100]
def wX:Str:=.mk #[95,108,97,119,95,112,108,97,99,101,95,100,101,101,100]
def QV:Str:=.mk #[95,108,97,119,95,115,99,114,105,112,116]
def wY:Str:=.mk #[95,108,97,119,95,107]
def Ro:Str:=.mk #[95,108,97,119,95,99,101,108,108]
def uo:Str:=.mk #[95,108,97,119,95,110,117,109,98,101,114,95,104,101,114,101]
def wZ:Str:=.mk #[95,108,97,119,95,107,105,110,100]
def gX:Str:=.mk #[95,108,97,119,95,112,97,114,116]
def Rr:Str:=.mk #[95,108,97,119,95,120]
def QX:Str:=.mk #[95,108,97,119,95,115,112,111,116]
def Rt:Str:=.mk #[95,108,97,119,95,109,97,110,121]
def QY:Str:=.mk #[95,108,97,119,95,116,97,114,103,101,116]
def QZ:Str:=.mk #[95,108,97,119,95,121]
def RA:Str:=.mk #[95,108,97,119,95,122]
def RC:Str:=.mk #[95,108,97,119,95,119,97,121,115]
def uq:Str:=.mk #[95,108,97,119,95,119,97,121]
def Dl:Str:=.mk #[95,108,97,119,95,111,110,101]
def Dn:Str:=.mk #[95,108,97,119,95,111,116,104,101,114]
def Dp:Str:=.mk #[95,108,97,119,95,114,111,119,95,104,101,114,101]
def lO:Str:=.mk #[95,108,97,119,95,97,116]
def Dq:Str:=.mk #[95,108,97,119,95,98,111,120,101,115]
def Dr:Str:=.mk #[95,108,97,119,95,109,101,109,111,114,121]
def Ru:Str:=.mk #[95,108,97,119,95,112,108,97,99,101]
def iw:Str:=.mk #[95,108,97,119,95,100,101,101,100]
def ja:Str:=.mk #[95,108,97,119,95,112,108,97,105,110,95,114,117,110]
def jb:Str:=.mk #[95,108,97,119,95,119,97,110,116,115]
def xA:Str:=.mk #[95,108,97,119,95,115,108,105,112,115,95,111,102]
def jc:Str:=.mk #[95,108,97,119,95,111,116,104,101,114,95,110,97,109,101,115]
def jd:Str:=.mk #[95,108,97,119,95,111,116,104,101,114,95,103,105,118,101,114]
def je:Str:=.mk #[95,108,97,119,95,111,116,104,101,114,95,102,97,117,108,116]
def jf:Str:=.mk #[95,108,97,119,95,111,116,104,101,114,95,100,101,101,100]
def jg:Str:=.mk #[95,108,97,119,95,111,116,104,101,114,95,116,105,109,101,115]
def jh:Str:=.mk #[95,108,97,119,95,111,110,101,95,115,112,111,105,108,101,100]
def ji:Str:=.mk #[95,108,97,119,95,111,110,101,95,109,111,114,101]
def ur:Str:=.mk #[95,108,97,119,95,112,114,111,103,114,97,109]
def RD:Str:=.mk #[95,108,97,119,95,115,116,97,110,100,95,104,101,114,101]
def RE:Str:=.mk #[95,108,97,119,95,109,111,115,116]
def RF:Str:=.mk #[95,108,97,119,95,100,101,101,100,115]
def RG:Str:=.mk #[95,108,97,119,95,115,116,97,110,100,115]
def xC:Str:=.mk #[95,108,97,119,95,100,101,101,100,95,104,101,114,101]
def uu:Str:=.mk #[95,108,97,119,95,110,97,109,101,115]
def RH:Str:=.mk #[95,108,97,119,95,110,97,109,101]
def uv:Str:=.mk #[95,108,97,119,95,103,105,118,101,114]
def uw:Str:=.mk #[95,108,97,119,95,115,105,122,101]
def Rv:Str:=.mk #[95,108,97,119,95,98,111,120]
def RJ:Str:=.mk #[95,108,97,119,95,119,111,114,100]
def RK:Str:=.mk #[95,108,97,119,95,97,102,116,101,114]
def RL:Str:=.mk #[95,108,97,119,95,102,97,117,108,116]
def RM:Str:=.mk #[95,108,97,119,95,109,111,114,101]
def xD:Str:=.mk #[95,108,97,119,95,115,108,105,112,115]
def jk:Str:=.mk #[95,108,97,119,95,110]
def RN:Str:=.mk #[95,108,97,119,95,112,117,116,95,105,110]
def RP:Str:=.mk #[95,108,97,119,95,115,116,97,114,116,101,100]
def RQ:Str:=.mk #[95,108,97,119,95,102,105,110,105,115,104,101,100]
def RS:Str:=.mk #[95,108,97,119,95,111,102,102]
def Rw:Str:=.mk #[95,108,97,119,95,115,108,105,112]
def Dt:Str:=.mk #[95,108,97,119,95,116,105,99,107,101,116]
def Du:Str:=.mk #[95,108,97,119,95,116,105,109,101,115]
def RT:Str:=.mk #[95,108,97,119,95,108,97,116,101,114]
def ux:Str:=.mk #[95,108,97,119,95,101,97,114,108,105,101,114]
def uy:Str:=.mk #[95,108,97,119,95,101,97,114,108,105,101,114,95,116,111,108,100]
def uz:Str:=.mk #[95,108,97,119,95,115,112,111,105,108,101,100]
def va:Str:=.mk #[95,108,97,119,95,105,115]
def jl:Str:=.mk #[108,97,119]
def Rx:Str:=.mk #[95,108,97,119,95,102,111,117,110,100]
def RU:Str:=.mk #[95,108,97,119,95,100,117,101]
variable (P:Params)
def tw8861859041995713618:Params->W.Frag:=λ_=>[]
theorem te8861859041995713618:tw8861859041995713618=tw8861859041995713618:=rfl
def tw3940585879922098391:Program:={ PySem.Challenge.rw_aheadmill_k51_wrong_slips_told.row.toRowW.1 with main:={ PySem.Challenge.rw_aheadmill_k51_wrong_slips_told.row.toRowW.1.main with body:=[Tp,Tq,Ts,Tu,Tv,cm,cp,cq,zN,zO,zP,rP,yc,zQ,zR,zS,zT,zU,zV,zW,zX,zY,zZ,yd,af,ag,ah,ai,aj,ak,ao,aq,au,aw,ax,ay,az,ba,bc,bf,bg,bh,bj,bo,bp,bq,bu,bw,bz,cb,cf,cg,cj,ck] } }
theorem te3940585879922098391:tw3940585879922098391=tw3940585879922098391:=rfl
def aA:=qb bM (.seq #[] 0)
def aD:Obj:=(.mk .none .none (.fields #[]) #[])
def lQ:=qb bJ (.fields #[(.str Rn 182),(.str Rn 183),(.str aW 184),(.int 1 0),(.int 0 0),(.int 0 0),(.int 0 0),(.int 0 0),(.ref 11),(.bool .false),(.int 181 0),(.ref 12),.none,.none,.none,.none,(.int 185 0),(.int 1 0),(.str aW 186)])
def lR:Obj:=(.mk (.type ye) .none .plain #[(.some (.ref 13)),(.some (.ref 3)),(.some (.ref 3)),.none,(.some (.str RV 164)),.none,(.some (.ref 0))])
def tw16680032484958068794:Params->Heap:=λP=>(.mk #[(boot_o_0 P),(boot_o_1 P),(boot_o_2 P),(boot_o_3 P),(boot_o_4 P),(boot_o_5 P),(boot_o_6 P),(boot_o_7 P),(boot_o_8 P),(boot_o_9 P),(boot_o_10 P),aA,aD,lQ,lR] (.mk [] [] [] 0 [] [] .false #[] [] 0 .false .false .false 0 [2000,10,10] .false 0 .true [] [] 0 .false))
theorem te16680032484958068794:tw16680032484958068794=tw16680032484958068794:=rfl
def tw18253343144758413960:Params->BT:=λP=>(.node (boot_o_0 P) (.node (boot_o_1 P) (.node (boot_o_3 P) (qf (boot_o_7 P)) (qf aA)) (.node (boot_o_5 P) (qf (boot_o_9 P)) (qf lQ))) (.node (boot_o_2 P) (.node (boot_o_4 P) (qf (boot_o_8 P)) (qf aD)) (.node (boot_o_6 P) (qf (boot_o_10 P)) (qf lR))))
theorem te18253343144758413960:tw18253343144758413960=tw18253343144758413960:=rfl
def TJ:=qb gZ (.dict #[(qd P tW 165 (.str tX 187)),(qd P lP 166 .none),(qd P tY 167 .none),(qd P uB 168 (.builtin vI)),(qd P uF 169 .none),(qd P uG 170 (.ref 6)),(qd P tR 171 (.ref 4)),(qd P tT 173 (.str aW 172)),(qd P tU 174 .none),(qd P fH 206 (.ref 24))] 10)
def tw5850992854046768443:List Stmt:=[TU,Tp]
theorem te5850992854046768443:tw5850992854046768443=tw5850992854046768443:=rfl
def TK:Obj:=(.mk .none .none (.fields #[(.int 2 0),(.int 0 0),(.ref 20)]) #[])
def rG:=qb bM (.seq #[(.type cv)] 0)
def eM:=qb yf (.fields #[(.builtin VD),(.type lz)])
def rH:=qb gZ (.dict #[(qd P xB 196 (.str tX 187)),(qd P Ds 198 (.str fH 197)),(qd P xE 200 (.int 2 199)),(qd P xF 201 (.ref 22))] 4)
def rJ:=qb bJ (.fields #[(.str fH 191),(.str fH 192),(.str aW 193),(.int 2 0),(.int 0 0),(.int 0 0),(.int 0 0),(.int 0 0),(.ref 18),(.bool .false),(.int 181 0),(.ref 19),.none,.none,.none,.none,(.int 194 0),(.int 2 0),(.str aW 195)])
def rK:Obj:=(.mk (.type ye) .none .plain #[(.some (.ref 20)),(.some (.ref 3)),(.some (.ref 17)),.none,(.some (.str tX 187)),.none,(.some (.ref 0))])
def rL:=qb gZ (.dict #[(qd P xB 196 (.str tX 187)),(qd P xE 200 (.int 2 199)),(qd P xF 201 (.ref 22)),(qd P vb 203 (.ref 25)),(qd P lP 204 .none)] 3)
def TL:Obj:=(.mk (.type lz) .none (.cls (.mk fH [(.type cv)] [(.ref 24),(.type cv),(.type Gj),(.type Ge),(.type ly)] 23 fH .true [] [] .false .none .false)) #[(.some (.ref 15)),.none,(.some (.str fH 189)),(.some (.str fH 197)),(.some (.builtin Gf)),(.some (.bool .true))])
def rM:=qb Gg (.fields #[(.str vb 202),(.ref 24),(.builtin Tx),.none])
def rN:=qb Gh (.fields #[(.ref 24),(.ref 24),(.ref 24)])
def rO:=qb yf (.fields #[(.builtin Gi),(.ref 24)])
def tw13107124001897209213:Params->BT:=λP=>(.node (boot_o_0 P) (.node (boot_o_1 P) (.node (TJ P) (.node (boot_o_7 P) (qf rG) (qf (rL P))) (.node aA (qf aD) (qf rO))) (.node (boot_o_5 P) (.node (boot_o_9 P) (qf (rH P)) (qf rM)) (.node lQ (qf rK) .nil))) (.node (boot_o_2 P) (.node (boot_o_4 P) (.node (boot_o_8 P) (qf eM) (qf TL)) (.node TK (qf rJ) .nil)) (.node (boot_o_6 P) (.node (boot_o_10 P) (qf aA) (qf rN)) (.node lR (qf aA) .nil))))
theorem te13107124001897209213:tw13107124001897209213=tw13107124001897209213:=rfl
def TM:=qb gZ (.dict #[(qd P tW 165 (.str tV 223)),(qd P lP 166 .none),(qd P tY 167 .none),(qd P uB 168 (.builtin vI)),(qd P uF 169 .none),(qd P uG 170 (.ref 6)),(qd P tR 171 (.ref 4)),(qd P tT 173 (.str aW 172)),(qd P tU 174 .none),(qd P fH 206 (.ref 24)),(qd P gY 222 (.ref 37)),(qd P xG 226 (.int 64 225)),(qd P xH 228 (.int 18446744073709551616 227)),(qd P xI 241 (.ref 40)),(qd P mV 248 (.ref 47)),(qd P mW 256 (.ref 54)),(qd P mX 263 (.ref 61)),(qd P mY 271 (.ref 68))] 18)
def tw4537681315413750786:List Stmt:=[Tq,TZ,Ts,Tu,Tv,cm,cp,cq,zN]
theorem te4537681315413750786:tw4537681315413750786=tw4537681315413750786:=rfl
def TN:Obj:=(.mk .none .none (.fields #[(.int 2 0),(.int 0 0),(.ref 20),(.int 4 0),(.int 0 0),(.ref 33),(.int 10 0),(.int 0 0),(.ref 46),(.int 12 0),(.int 0 0),(.ref 53),(.int 16 0),(.int 0 0),(.ref 60),(.int 18 0),(.int 0 0),(.ref 67)]) #[])
def uN:Obj:=(.mk (.type lz) .none (.cls (.mk fH [(.type cv)] [(.ref 24),(.type cv),(.type Gj),(.type Ge),(.type ly)] 23 fH .true [] [(.ref 37)] .false .none .false)) #[(.some (.ref 15)),.none,(.some (.str fH 189)),(.some (.str fH 197)),(.some (.builtin Gf)),(.some (.bool .true))])
def uO:=qb bM (.seq #[(.ref 24)] 0)
def uP:=qb gZ (.dict #[(qd P xB 214 (.str tX 187)),(qd P Ds 216 (.str gY 215)),(qd P xE 218 (.int 4 217)),(qd P xF 219 (.ref 35))] 4)
def uQ:=qb bJ (.fields #[(.str gY 209),(.str gY 210),(.str aW 211),(.int 4 0),(.int 0 0),(.int 0 0),(.int 0 0),(.int 0 0),(.ref 31),(.bool .false),(.int 181 0),(.ref 32),.none,.none,.none,.none,(.int 212 0),(.int 4 0),(.str aW 213)])
def uR:Obj:=(.mk (.type ye) .none .plain #[(.some (.ref 33)),(.some (.ref 3)),(.some (.ref 30)),.none,(.some (.str tX 187)),.none,(.some (.ref 0))])
def uS:=qb gZ (.dict #[(qd P xB 214 (.str tX 187)),(qd P xE 218 (.int 4 217)),(qd P xF 219 (.ref 35)),(qd P lP 220 .none)] 2)
def uT:Obj:=(.mk (.type lz) .none (.cls (.mk gY [(.ref 24)] [(.ref 37),(.ref 24),(.type cv),(.type Gj),(.type Ge),(.type ly)] 36 gY .true [] [] .false .none .false)) #[(.some (.ref 28)),.none,(.some (.str gY 207)),(.some (.str gY 215)),(.some (.builtin Gf)),(.some (.bool .true))])
def uU:=qb Gh (.fields #[(.ref 37),(.ref 37),(.ref 37)])
def uV:=qb yf (.fields #[(.builtin Gi),(.ref 37)])
def uW:=qT bM [RW,RX,Ry,RY,RZ,SA,SD,SE,SG,SH,SI,SJ] 229
def uX:=qb bM (.seq #[(.str Dv 245)] 0)
def uY:=qF mV cm cm
def uZ:=qC bJ mV 242 aW 10 1 3 41 181 246
def vA:=qG bN mV cm cm tV 223 46
def vB:=qT bM [vc,Rz] 252
def vC:=qF mW cp cp
def vD:=qC bJ mW 249 aW 12 2 3 48 181 254
def vE:=qG bN mW cp cp tV 223 53
def vF:=qb bM (.seq #[(.str Dw 260)] 0)
def vG:=qF mX cq cq
def vH:=qC bJ mX 257 aW 16 1 3 55 181 261
def uI:=qG bN mX cq cq tV 223 60
def uJ:=qT bM [vc,Dw] 267
def uK:=qF mY zN zN
def uL:=qC bJ mY 264 aW 18 2 3 62 181 269
def uM:=qG bN mY zN zN tV 223 67
def tw7861426923403595397:Params->BT:=λP=>(.node (boot_o_0 P) (.node (boot_o_1 P) (.node (TM P) (.node (boot_o_7 P) (.node rG (.node aA (qf aD) .nil) (qf vA)) (.node (rL P) (qf uV) (qf aA))) (.node aA (.node aD (.node aA (qf uL) .nil) (qf aA)) (.node rO (qf uX) (qf vG)))) (.node (boot_o_5 P) (.node (boot_o_9 P) (.node (rH P) (.node uQ (qf aA) .nil) (qf aD)) (.node rM (qf aA) (qf vF))) (.node lQ (.node rK (qf uT) (qf vD)) (.node eM (qf uY) (qf uI))))) (.node (boot_o_2 P) (.node (boot_o_4 P) (.node (boot_o_8 P) (.node eM (.node aD (qf uJ) .nil) (qf aA)) (.node uN (qf uW) (qf aD))) (.node TN (.node rJ (.node (uS P) (qf uM) .nil) (qf vC)) (.node uO (qf aA) (qf vH)))) (.node (boot_o_6 P) (.node (boot_o_10 P) (.node aA (.node uR (qf uK) .nil) (qf vB)) (.node rN (qf aD) (qf aA))) (.node lR (.node aA (qf uU) (qf vE)) (.node (uP P) (qf uZ) (qf aA))))))
theorem te7861426923403595397:tw7861426923403595397=tw7861426923403595397:=rfl
def SV:=qb gZ (.dict #[(qd P tW 165 (.str xJ 357)),(qd P lP 166 .none),(qd P tY 167 .none),(qd P uB 168 (.builtin vI)),(qd P uF 169 .none),(qd P uG 170 (.ref 6)),(qd P tR 171 (.ref 4)),(qd P tT 173 (.str aW 172)),(qd P tU 174 .none),(qd P fH 206 (.ref 24)),(qd P gY 222 (.ref 37)),(qd P xG 226 (.int 64 225)),(qd P xH 228 (.int 18446744073709551616 227)),(qd P xI 241 (.ref 40)),(qd P mV 248 (.ref 47)),(qd P mW 256 (.ref 54)),(qd P mX 263 (.ref 61)),(qd P mY 271 (.ref 68)),(qd P qQ 279 (.ref 75)),(qd P qR 288 (.ref 82)),(qd P qS 298 (.ref 89)),(qd P qU 306 (.ref 96)),(qd P qV 314 (.ref 103)),(qd P qW 323 (.ref 110)),(qd P qX 334 (.ref 117)),(qd P qY 344 (.ref 124)),(qd P qZ 356 (.ref 131)),(qd P rA 366 (.ref 138)),(qd P rB 376 (.ref 145)),(qd P rD 385 (.ref 152))] 30)
def tw2014974032049569471:List Stmt:=[zO,zP,TV,rP,yc,zQ,zR,zS,zT,zU,TX,zV,zW,zX]
theorem te2014974032049569471:tw2014974032049569471=tw2014974032049569471:=rfl
def SW:Obj:=(.mk .none .none (.fields #[(.int 2 0),(.int 0 0),(.ref 20),(.int 4 0),(.int 0 0),(.ref 33),(.int 10 0),(.int 0 0),(.ref 46),(.int 12 0),(.int 0 0),(.ref 53),(.int 16 0),(.int 0 0),(.ref 60),(.int 18 0),(.int 0 0),(.ref 67),(.int 20 0),(.int 0 0),(.ref 74),(.int 22 0),(.int 0 0),(.ref 81),(.int 47 0),(.int 0 0),(.ref 88),(.int 58 0),(.int 0 0),(.ref 95),(.int 63 0),(.int 0 0),(.ref 102),(.int 69 0),(.int 0 0),(.ref 109),(.int 75 0),(.int 0 0),(.ref 116),(.int 85 0),(.int 0 0),(.ref 123),(.int 96 0),(.int 0 0),(.ref 130),(.int 102 0),(.int 0 0),(.ref 137),(.int 104 0),(.int 0 0),(.ref 144),(.int 109 0),(.int 0 0),(.ref 151)]) #[])
def xQ:=qT bM [vc,Dw] 275
def xR:=qF qQ zO zO
def xS:=qC bJ qQ 272 aW 20 2 3 69 181 277
def xT:=qG bN qQ zO zO tV 223 74
def xU:=qT bM [SK,vc,Rz] 283
def xV:=qF qR zP zP
def xW:=qC bJ qR 280 aW 22 3 3 76 181 286
def xX:=qG bN qR zP zP tV 223 81
def xY:=qT bM [rE,ve] 294
def xZ:=qF qS rP rP
def yA:=qC bJ qS 291 aW 47 1 3 83 181 296
def yB:=qG bN qS rP rP tZ 289 88
def yC:=qT bM [rE,ve] 302
def yD:=qF qU yc rP
def yE:=qC bJ qU 299 aW 58 1 3 90 181 304
def yF:=qG bN qU yc rP tZ 289 95
def yG:=qT bM [rE,uA] 310
def yH:=qF qV zQ zQ
def yI:=qC bJ qV 307 aW 63 2 3 97 181 312
def yJ:=qG bN qV zQ zQ tZ 289 102
def yK:=qT bM [rE,Sa,uA] 318
def yL:=qF qW zR zR
def yM:=qC bJ qW 315 aW 69 3 3 104 181 321
def yN:=qG bN qW zR zR tZ 289 109
def yO:=qT bM [rE,uA,Sb,ve,vf] 327
def yP:=qF qX zS zS
def yQ:=qC bJ qX 324 aW 75 3 3 111 181 332
def yR:=qG bN qX zS zS tZ 289 116
def yS:=qT bM [rE,uA,Se,ve] 338
def yT:=qF qY zT zT
def yU:=qC bJ qY 335 aW 85 3 3 118 181 342
def yV:=qG bN qY zT zT tZ 289 123
def yW:=qT bM [rE,Sa,uA,Sb,Se,SM] 348
def yX:=qF qZ zU zU
def yY:=qC bJ qZ 345 aW 96 5 3 125 181 354
def yZ:=qG bN qZ zU zU tZ 289 130
def zA:=qT bM [vf,Sf] 362
def zB:=qF rA zV zV
def zC:=qC bJ rA 359 aW 102 2 3 132 181 364
def zD:=qG bN rA zV zV xJ 357 137
def zE:=qT bM [rE,uA,Sf,vf] 370
def zF:=qF rB zW zW
def zG:=qC bJ rB 367 aW 104 3 3 139 181 374
def zH:=qG bN rB zW zW xJ 357 144
def zI:=qT bM [uA,Dv,Sg] 380
def zJ:=qF rD zX zX
def zK:=qC bJ rD 377 aW 109 3 3 146 181 383
def zL:=qG bN rD zX zX xJ 357 151
def tw6003650813539992620:Params->BT:=λP=>(.node (boot_o_0 P) (.node (boot_o_1 P) (.node (SV P) (.node (boot_o_7 P) (.node rG (.node aA (.node aD (qf yW) .nil) (qf yE)) (.node vA (.node aA (qf zF) .nil) (qf aA))) (.node (rL P) (.node uV (.node xQ (qf aA) .nil) (qf yJ)) (.node aA (.node xZ (qf zK) .nil) (qf aD)))) (.node aA (.node aD (.node aA (.node uL (qf yZ) .nil) (qf yG)) (.node aA (.node aA (qf aD) .nil) (qf yP))) (.node rO (.node uX (.node xT (qf aA) .nil) (qf aA)) (.node vG (qf aD) (qf yU))))) (.node (boot_o_5 P) (.node (boot_o_9 P) (.node (rH P) (.node uQ (.node aA (qf yX) .nil) (qf aA)) (.node aD (.node xW (qf zH) .nil) (qf yO))) (.node rM (.node aA (.node xR (qf zC) .nil) (qf aD)) (.node vF (qf yB) (qf aA)))) (.node lQ (.node rK (.node uT (.node aA (qf aD) .nil) (qf yH)) (.node vD (.node xY (qf aA) .nil) (qf yR))) (.node eM (.node uY (.node aD (qf zE) .nil) (qf yM)) (.node uI (qf aA) (qf aA)))))) (.node (boot_o_2 P) (.node (boot_o_4 P) (.node (boot_o_8 P) (.node eM (.node aD (.node uJ (qf aA) .nil) (qf yF)) (.node aA (.node xV (qf zG) .nil) (qf aD))) (.node uN (.node uW (.node aA (qf zB) .nil) (qf aA)) (.node aD (.node yA (qf zL) .nil) (qf yS)))) (.node SW (.node rJ (.node (uS P) (.node uM (qf aA) .nil) (qf aA)) (.node vC (.node aD (qf zI) .nil) (qf yQ))) (.node uO (.node aA (.node aA (qf aD) .nil) (qf yL)) (.node vH (qf yC) (qf yV))))) (.node (boot_o_6 P) (.node (boot_o_10 P) (.node aA (.node uR (.node uK (qf yY) .nil) (qf aD)) (.node vB (.node xX (qf aA) .nil) (qf aA))) (.node rN (.node aD (.node xS (qf zD) .nil) (qf yK)) (.node aA (qf aA) (qf yT)))) (.node lR (.node aA (.node uU (.node aD (qf zA) .nil) (qf yI)) (.node vE (.node aA (qf zJ) .nil) (qf aA))) (.node (uP P) (.node uZ (.node xU (qf aA) .nil) (qf yN)) (.node aA (qf yD) (qf aD)))))))
theorem te6003650813539992620:tw6003650813539992620=tw6003650813539992620:=rfl
def SX:=qb gZ (.dict #[(qd P tW 165 (.str iH 404)),(qd P lP 166 .none),(qd P tY 167 .none),(qd P uB 168 (.builtin vI)),(qd P uF 169 .none),(qd P uG 170 (.ref 6)),(qd P tR 171 (.ref 4)),(qd P tT 173 (.str aW 172)),(qd P tU 174 .none),(qd P fH 206 (.ref 24)),(qd P gY 222 (.ref 37)),(qd P xG 226 (.int 64 225)),(qd P xH 228 (.int 18446744073709551616 227)),(qd P xI 241 (.ref 40)),(qd P mV 248 (.ref 47)),(qd P mW 256 (.ref 54)),(qd P mX 263 (.ref 61)),(qd P mY 271 (.ref 68)),(qd P qQ 279 (.ref 75)),(qd P qR 288 (.ref 82)),(qd P qS 298 (.ref 89)),(qd P qU 306 (.ref 96)),(qd P qV 314 (.ref 103)),(qd P qW 323 (.ref 110)),(qd P qX 334 (.ref 117)),(qd P qY 344 (.ref 124)),(qd P qZ 356 (.ref 131)),(qd P rA 366 (.ref 138)),(qd P rB 376 (.ref 145)),(qd P rD 385 (.ref 152)),(qd P rF 391 (.ref 157)),(qd P uC 403 (.ref 164)),(qd P iV 446 (.ref 188)),(qd P uD 458 (.ref 199)),(qd P uE 467 (.ref 206))] 35)
def tw2236819600845055672:List Stmt:=[zY,zZ,TY,yd,af,ag]
theorem te2236819600845055672:tw2236819600845055672=tw2236819600845055672:=rfl
def SY:Obj:=(.mk .none .none (.fields #[(.int 2 0),(.int 0 0),(.ref 20),(.int 4 0),(.int 0 0),(.ref 33),(.int 10 0),(.int 0 0),(.ref 46),(.int 12 0),(.int 0 0),(.ref 53),(.int 16 0),(.int 0 0),(.ref 60),(.int 18 0),(.int 0 0),(.ref 67),(.int 20 0),(.int 0 0),(.ref 74),(.int 22 0),(.int 0 0),(.ref 81),(.int 47 0),(.int 0 0),(.ref 88),(.int 58 0),(.int 0 0),(.ref 95),(.int 63 0),(.int 0 0),(.ref 102),(.int 69 0),(.int 0 0),(.ref 109),(.int 75 0),(.int 0 0),(.ref 116),(.int 85 0),(.int 0 0),(.ref 123),(.int 96 0),(.int 0 0),(.ref 130),(.int 102 0),(.int 0 0),(.ref 137),(.int 104 0),(.int 0 0),(.ref 144),(.int 109 0),(.int 0 0),(.ref 151),(.int 111 0),(.int 0 0),(.ref 156),(.int 119 0),(.int 0 0),(.ref 163),(.int 132 0),(.int 0 0),(.ref 170),(.int 148 0),(.int 0 0),(.ref 198),(.int 155 0),(.int 0 0),(.ref 205)]) #[])
def jo:=qF rF zY zY
def jq:=qb bJ (.fields #[(.str rF 386),(.str rF 387),(.str aW 388),(.int 111 0),(.int 2 0),(.int 0 0),(.int 0 0),(.int 3 0),(.ref 153),(.bool .true),(.int 181 0),(.ref 154),.none,.none,.none,(.ref 155),(.int 389 0),(.int 111 0),(.str aW 390)])
def jr:=qG bN rF zY zY xJ 357 156
def js:=qT bM [Dx,Dy,SN,vf,Sg,SO] 395
def ju:=qF uC zZ zZ
def jv:=qC bJ uC 392 aW 119 2 3 158 181 401
def jw:=qG bN uC zZ zZ xJ 357 163
def jx:=qb gZ (.dict #[(qd P xB 413 (.str iH 404)),(qd P Ds 415 (.str iV 414)),(qd P xE 417 (.int 132 416)),(qd P jm 425 (.ref 178)),(qd P jn 434 (.ref 185)),(qd P xF 439 (.ref 186))] 6)
def jy:Obj:=(.mk .none .none (.fields #[(.int 134 0),(.int 4 0),(.ref 177),(.int 140 0),(.int 4 0),(.ref 184)]) #[])
def jz:=qb bJ (.fields #[(.str iV 408),(.str iV 409),(.str aW 410),(.int 132 0),(.int 0 0),(.int 0 0),(.int 0 0),(.int 0 0),(.ref 168),(.bool .false),(.int 181 0),(.ref 169),.none,.none,.none,.none,(.int 411 0),(.int 132 0),(.str aW 412)])
def ka:Obj:=(.mk (.type ye) .none .plain #[(.some (.ref 170)),(.some (.ref 3)),(.some (.ref 167)),.none,(.some (.str iH 404)),.none,(.some (.ref 0))])
def kb:=qT bM [Sh,Dx] 421
def ke:Obj:=(.mk .none .none (.func (.mk jm Dz (zM aa) (.stmts (qP aa)) (cu aa) 0 [] .none .none .none .none .none .none .none 0)) #[])
def kf:=qb bJ (.fields #[(.str jm 418),(.str Dz 419),(.str aW 420),(.int 134 0),(.int 2 0),(.int 0 0),(.int 0 0),(.int 3 0),(.ref 172),(.bool .true),(.int 181 0),(.ref 173),.none,(.ref 174),(.ref 175),(.ref 176),(.int 423 0),(.int 134 0),(.str aW 424)])
def kg:=qb bN (.func (.mk jm Dz (zM aa) (.stmts (qP aa)) (cu aa) 3 [] .none .none .none (.str iH 404) .none (.ref 177) .none 0))
def kh:=qT bM [Sh,vg,Dy] 429
def ki:Obj:=(.mk .none .none (.func (.mk jn Ea (zM ae) (.stmts (qP ae)) (cu ae) 0 [] .none .none .none .none .none .none .none 0)) #[])
def kj:=qb bJ (.fields #[(.str jn 426),(.str Ea 427),(.str aW 428),(.int 140 0),(.int 2 0),(.int 0 0),(.int 0 0),(.int 3 0),(.ref 179),(.bool .true),(.int 181 0),(.ref 180),.none,(.ref 181),(.ref 182),(.ref 183),(.int 432 0),(.int 140 0),(.str aW 433)])
def kl:=qb bN (.func (.mk jn Ea (zM ae) (.stmts (qP ae)) (cu ae) 3 [] .none .none .none (.str iH 404) .none (.ref 184) .none 0))
def km:=qT bM [SQ,Si,SR,SS] 435
def kn:=qb gZ (.dict #[(qd P xB 413 (.str iH 404)),(qd P xE 417 (.int 132 416)),(qd P jm 425 (.ref 178)),(qd P jn 434 (.ref 185)),(qd P xF 439 (.ref 186)),(qd P Sj 441 (.ref 189)),(qd P vb 443 (.ref 190)),(qd P lP 444 .none)] 4)
def ko:Obj:=(.mk (.type lz) .none (.cls (.mk iV [(.type ly)] [(.ref 188),(.type ly)] 187 iV .true [] [] .false .none .false)) #[.none,.none,(.some (.str iV 406)),(.some (.str iV 414)),(.some (.builtin VA)),(.some (.bool .true))])
def kr:=qb Gg (.fields #[(.str Sj 440),(.ref 188),(.builtin VB),(.builtin VC)])
def ku:=qb Gg (.fields #[(.str vb 442),(.ref 188),(.builtin Tx),.none])
def kx:=qb Gh (.fields #[(.ref 188),(.ref 188),(.ref 188)])
def ky:=qb yf (.fields #[(.builtin Gi),(.ref 188)])
def kz:=qT bM [Sk,Dx,SU,Eb,Dv,vg] 450
def lg:=qF uD af af
def lh:=qC bJ uD 447 aW 148 3 3 193 181 456
def lj:=qG bN uD af af iH 404 198
def lp:=qT bM [Sk,Eb,vg] 462
def lq:=qF uE ag ag
def lr:=qC bJ uE 459 aW 155 3 3 200 181 465
def lu:=qG bN uE ag ag iH 404 205
def tw17906158027073218839:Params->BT:=λP=>(.node (boot_o_0 P) (.node (boot_o_1 P) (.node (SX P) (.node (boot_o_7 P) (.node rG (.node aA (.node aD (qf yW) (qf kx)) (.node yE (qf aD) .nil)) (.node vA (.node aA (qf zF) .nil) (.node aA (qf aA) .nil))) (.node (rL P) (.node uV (.node xQ (qf aA) (qf lj)) (.node yJ (qf (jx P)) .nil)) (.node aA (.node xZ (qf zK) .nil) (.node aD (qf ki) .nil)))) (.node aA (.node aD (.node aA (.node uL (qf yZ) (qf kz)) (.node yG (qf jv) .nil)) (.node aA (.node aA (qf aD) .nil) (.node yP (qf aA) .nil))) (.node rO (.node uX (.node xT (qf aA) (qf aA)) (.node aA (qf ka) .nil)) (.node vG (.node aD (qf jo) .nil) (.node yU (qf (kn P)) .nil))))) (.node (boot_o_5 P) (.node (boot_o_9 P) (.node (rH P) (.node uQ (.node aA (qf yX) (qf aA)) (.node aA (qf aA) .nil)) (.node aD (.node xW (qf zH) .nil) (.node yO (qf kf) .nil))) (.node rM (.node aA (.node xR (qf zC) (qf aD)) (.node aD (qf jy) .nil)) (.node vF (.node yB (qf aA) .nil) (.node aA (qf kl) .nil)))) (.node lQ (.node rK (.node uT (.node aA (qf aD) (qf lg)) (.node yH (qf aA) .nil)) (.node vD (.node xY (qf aA) .nil) (.node yR (qf kh) .nil))) (.node eM (.node uY (.node aD (qf zE) (qf lr)) (.node yM (qf aD) .nil)) (.node uI (.node aA (qf jr) .nil) (.node aA (qf kr) .nil)))))) (.node (boot_o_2 P) (.node (boot_o_4 P) (.node (boot_o_8 P) (.node eM (.node aD (.node uJ (qf aA) (qf ky)) (.node yF (qf js) .nil)) (.node aA (.node xV (qf zG) .nil) (.node aD (qf ke) .nil))) (.node uN (.node uW (.node aA (qf zB) (qf aA)) (.node aA (qf aA) .nil)) (.node aD (.node yA (qf zL) .nil) (.node yS (qf kj) .nil)))) (.node SY (.node rJ (.node (uS P) (.node uM (qf aA) (qf aA)) (.node aA (qf jw) .nil)) (.node vC (.node aD (qf zI) .nil) (.node yQ (qf aD) .nil))) (.node uO (.node aA (.node aA (qf aD) (qf lq)) (.node yL (qf aA) .nil)) (.node vH (.node yC (qf jq) .nil) (.node yV (qf ko) .nil))))) (.node (boot_o_6 P) (.node (boot_o_10 P) (.node aA (.node uR (.node uK (qf yY) (qf aD)) (.node aD (qf ju) .nil)) (.node vB (.node xX (qf aA) .nil) (.node aA (qf kg) .nil))) (.node rN (.node aD (.node xS (qf zD) (qf lp)) (.node yK (qf jz) .nil)) (.node aA (.node aA (qf aD) .nil) (.node yT (qf km) .nil)))) (.node lR (.node aA (.node uU (.node aD (qf zA) (qf lh)) (.node yI (qf eM) .nil)) (.node vE (.node aA (qf zJ) .nil) (.node aA (qf aA) .nil))) (.node (uP P) (.node uZ (.node xU (qf aA) (qf lu)) (.node yN (qf kb) .nil)) (.node aA (.node yD (qf aA) .nil) (.node aD (qf ku) .nil)))))))
theorem te17906158027073218839:tw17906158027073218839=tw17906158027073218839:=rfl
def TB:=qb gZ (.dict #[(qd P tW 165 (.str cY 497)),(qd P lP 166 .none),(qd P tY 167 .none),(qd P uB 168 (.builtin vI)),(qd P uF 169 .none),(qd P uG 170 (.ref 6)),(qd P tR 171 (.ref 4)),(qd P tT 173 (.str aW 172)),(qd P tU 174 .none),(qd P fH 206 (.ref 24)),(qd P gY 222 (.ref 37)),(qd P xG 226 (.int 64 225)),(qd P xH 228 (.int 18446744073709551616 227)),(qd P xI 241 (.ref 40)),(qd P mV 248 (.ref 47)),(qd P mW 256 (.ref 54)),(qd P mX 263 (.ref 61)),(qd P mY 271 (.ref 68)),(qd P qQ 279 (.ref 75)),(qd P qR 288 (.ref 82)),(qd P qS 298 (.ref 89)),(qd P qU 306 (.ref 96)),(qd P qV 314 (.ref 103)),(qd P qW 323 (.ref 110)),(qd P qX 334 (.ref 117)),(qd P qY 344 (.ref 124)),(qd P qZ 356 (.ref 131)),(qd P rA 366 (.ref 138)),(qd P rB 376 (.ref 145)),(qd P rD 385 (.ref 152)),(qd P rF 391 (.ref 157)),(qd P uC 403 (.ref 164)),(qd P iV 446 (.ref 188)),(qd P uD 458 (.ref 199)),(qd P uE 467 (.ref 206)),(qd P xK 475 (.ref 213)),(qd P xM 482 (.ref 220)),(qd P xN 490 (.ref 227)),(qd P uH 496 (.ref 232)),(qd P xO 506 (.ref 239)),(qd P xP 514 (.ref 246)),(qd P wR 523 (.ref 253)),(qd P wU 536 (.ref 260)),(qd P wV 552 (.ref 267)),(qd P tS 558 (.ref 272)),(qd P wW 567 (.ref 279)),(qd P wX 578 (.ref 286))] 47)
def tw16200420208972872281:List Stmt:=[ah,ai,aj,ak,UA,ao,aq,au,aw,ax,ay,az,ba]
theorem te16200420208972872281:tw16200420208972872281=tw16200420208972872281:=rfl
def TC:Obj:=(.mk .none .none (.fields #[(.int 2 0),(.int 0 0),(.ref 20),(.int 4 0),(.int 0 0),(.ref 33),(.int 10 0),(.int 0 0),(.ref 46),(.int 12 0),(.int 0 0),(.ref 53),(.int 16 0),(.int 0 0),(.ref 60),(.int 18 0),(.int 0 0),(.ref 67),(.int 20 0),(.int 0 0),(.ref 74),(.int 22 0),(.int 0 0),(.ref 81),(.int 47 0),(.int 0 0),(.ref 88),(.int 58 0),(.int 0 0),(.ref 95),(.int 63 0),(.int 0 0),(.ref 102),(.int 69 0),(.int 0 0),(.ref 109),(.int 75 0),(.int 0 0),(.ref 116),(.int 85 0),(.int 0 0),(.ref 123),(.int 96 0),(.int 0 0),(.ref 130),(.int 102 0),(.int 0 0),(.ref 137),(.int 104 0),(.int 0 0),(.ref 144),(.int 109 0),(.int 0 0),(.ref 151),(.int 111 0),(.int 0 0),(.ref 156),(.int 119 0),(.int 0 0),(.ref 163),(.int 132 0),(.int 0 0),(.ref 170),(.int 148 0),(.int 0 0),(.ref 198),(.int 155 0),(.int 0 0),(.ref 205),(.int 163 0),(.int 0 0),(.ref 212),(.int 169 0),(.int 0 0),(.ref 219),(.int 171 0),(.int 0 0),(.ref 226),(.int 175 0),(.int 0 0),(.ref 231),(.int 181 0),(.int 0 0),(.ref 238),(.int 185 0),(.int 0 0),(.ref 245),(.int 187 0),(.int 0 0),(.ref 252),(.int 195 0),(.int 0 0),(.ref 259),(.int 207 0),(.int 0 0),(.ref 266),(.int 224 0),(.int 0 0),(.ref 271),(.int 231 0),(.int 0 0),(.ref 278),(.int 255 0),(.int 0 0),(.ref 285)]) #[])
def vh:=qT bM [Si,vg] 471
def vi:=qF xK ah ah
def vj:=qC bJ xK 468 aW 163 2 3 207 181 473
def vk:=qG bN xK ah ah iH 404 212
def vm:=qb bM (.seq #[(.str Ry 479)] 0)
def vn:=qF xM ai ai
def vo:=qC bJ xM 476 aW 169 1 3 214 181 480
def vp:=qG bN xM ai ai iH 404 219
def vq:=qT bM [Eb,Dy] 486
def vt:=qF xN aj aj
def vv:=qC bJ xN 483 aW 171 2 3 221 181 488
def vw:=qG bN xN aj aj iH 404 226
def vx:=qF uH ak ak
def vy:=qb bJ (.fields #[(.str uH 491),(.str uH 492),(.str aW 493),(.int 175 0),(.int 3 0),(.int 0 0),(.int 0 0),(.int 3 0),(.ref 228),(.bool .true),(.int 181 0),(.ref 229),.none,.none,.none,(.ref 230),(.int 494 0),(.int 175 0),(.str aW 495)])
def vz:=qG bN uH ak ak iH 404 231
def wc:=qT bM [QV,wY] 502
def we:=qF xO ao ao
def wg:=qC bJ xO 499 aW 181 2 3 233 181 504
def wj:=qG bN xO ao ao cY 497 238
def wo:=qT bM [Ro,wY] 510
def wt:=qF xP aq aq
def wx:=qC bJ xP 507 aW 185 2 3 240 181 512
def wy:=qG bN xP aq aq cY 497 245
def xa:=qT bM [uo,wZ,gX] 518
def xb:=qF wR au au
def xc:=qC bJ wR 515 aW 187 1 3 247 181 521
def xf:=qG bN wR au au cY 497 252
def xg:=qT bM [wZ,Rr,gX,QX,wY,Rt,QY] 527
def xh:=qF wU aw aw
def xi:=qC bJ wU 524 aW 195 4 3 254 181 534
def xj:=qG bN wU aw aw cY 497 259
def xk:=qT bM [Ro,wY,Rt,uo,Rr,QZ,RA,gX,wZ,RC] 540
def xl:=qF wV ax ax
def xm:=qC bJ wV 537 aW 207 3 3 261 181 550
def xn:=qG bN wV ax ax cY 497 266
def xp:=qF tS ay ay
def xq:=qb bJ (.fields #[(.str tS 553),(.str tS 554),(.str aW 555),(.int 224 0),(.int 2 0),(.int 0 0),(.int 0 0),(.int 3 0),(.ref 268),(.bool .true),(.int 181 0),(.ref 269),.none,.none,.none,(.ref 270),(.int 556 0),(.int 224 0),(.str aW 557)])
def xr:=qG bN tS ay ay cY 497 271
def xt:=qT bM [uq,Dl,Dn] 562
def xu:=qF wW az az
def xv:=qC bJ wW 559 aW 231 3 3 273 181 565
def xw:=qG bN wW az az cY 497 278
def xx:=qT bM [Dp,lO,Dq,Dr,Ru] 571
def xy:=qF wX ba ba
def ya:=qC bJ wX 568 aW 255 4 3 280 181 576
def yb:=qG bN wX ba ba cY 497 285
def tw4817529385044186808:Params->BT:=λP=>(.node (boot_o_0 P) (.node (boot_o_1 P) (.node (TB P) (.node (boot_o_7 P) (.node rG (.node aA (.node aD (.node yW (qf aD) .nil) (qf kx)) (.node yE (qf aD) (qf vq))) (.node vA (.node aA (.node zF (qf xq) .nil) (qf aA)) (.node aA (qf aA) (qf wj)))) (.node (rL P) (.node uV (.node xQ (.node aA (qf xk) .nil) (qf lj)) (.node yJ (qf (jx P)) (qf vy))) (.node aA (.node xZ (.node zK (qf xw) .nil) (qf aD)) (.node aD (qf ki) (qf aA))))) (.node aA (.node aD (.node aA (.node uL (.node yZ (qf xi) .nil) (qf kz)) (.node yG (qf jv) (qf vw))) (.node aA (.node aA (.node aD (qf xt) .nil) (qf vi)) (.node yP (qf aA) (qf aA)))) (.node rO (.node uX (.node xT (.node aA (qf xn) .nil) (qf aA)) (.node aA (qf ka) (qf wc))) (.node vG (.node aD (.node jo (qf aA) .nil) (qf vo)) (.node yU (qf (kn P)) (qf xb)))))) (.node (boot_o_5 P) (.node (boot_o_9 P) (.node (rH P) (.node uQ (.node aA (.node yX (qf aA) .nil) (qf aA)) (.node aA (qf aA) (qf vt))) (.node aD (.node xW (.node zH (qf aA) .nil) (qf vh)) (.node yO (qf kf) (qf aD)))) (.node rM (.node aA (.node xR (.node zC (qf xl) .nil) (qf aD)) (.node aD (qf jy) (qf aA))) (.node vF (.node yB (.node aA (qf aD) .nil) (qf aA)) (.node aA (qf kl) (qf xa))))) (.node lQ (.node rK (.node uT (.node aA (.node aD (qf aA) .nil) (qf lg)) (.node yH (qf aA) (qf aD))) (.node vD (.node xY (.node aA (qf xu) .nil) (qf vk)) (.node yR (qf kh) (qf wx)))) (.node eM (.node uY (.node aD (.node zE (qf aD) .nil) (qf lr)) (.node yM (qf aD) (qf we))) (.node uI (.node aA (.node jr (qf ya) .nil) (qf aA)) (.node aA (qf kr) (qf xf))))))) (.node (boot_o_2 P) (.node (boot_o_4 P) (.node (boot_o_8 P) (.node eM (.node aD (.node uJ (.node aA (qf xg) .nil) (qf ky)) (.node yF (qf js) (qf aA))) (.node aA (.node xV (.node zG (qf xr) .nil) (qf aD)) (.node aD (qf ke) (qf aA)))) (.node uN (.node uW (.node aA (.node zB (qf aA) .nil) (qf aA)) (.node aA (qf aA) (qf vz))) (.node aD (.node yA (.node zL (qf aA) .nil) (qf vm)) (.node yS (qf kj) (qf aD))))) (.node TC (.node rJ (.node (uS P) (.node uM (.node aA (qf xj) .nil) (qf aA)) (.node aA (qf jw) (qf aA))) (.node vC (.node aD (.node zI (qf aA) .nil) (qf vj)) (.node yQ (qf aD) (qf wt)))) (.node uO (.node aA (.node aA (.node aD (qf aA) .nil) (qf lq)) (.node yL (qf aA) (qf aA))) (.node vH (.node yC (.node jq (qf xy) .nil) (qf vp)) (.node yV (qf ko) (qf xc)))))) (.node (boot_o_6 P) (.node (boot_o_10 P) (.node aA (.node uR (.node uK (.node yY (qf xh) .nil) (qf aD)) (.node aD (qf ju) (qf vv))) (.node vB (.node xX (.node aA (qf aD) .nil) (qf aA)) (.node aA (qf kg) (qf wo)))) (.node rN (.node aD (.node xS (.node zD (qf xm) .nil) (qf lp)) (.node yK (qf jz) (qf aD))) (.node aA (.node aA (.node aD (qf xx) .nil) (qf vn)) (.node yT (qf km) (qf aA))))) (.node lR (.node aA (.node uU (.node aD (.node zA (qf aD) .nil) (qf lh)) (.node yI (qf eM) (qf vx))) (.node vE (.node aA (.node zJ (qf xv) .nil) (qf aA)) (.node aA (qf aA) (qf wy)))) (.node (uP P) (.node uZ (.node xU (.node aA (qf xp) .nil) (qf lu)) (.node yN (qf kb) (qf wg))) (.node aA (.node yD (.node aA (qf yb) .nil) (qf aD)) (.node aD (qf ku) (qf aA))))))))
theorem te4817529385044186808:tw4817529385044186808=tw4817529385044186808:=rfl
def TF:=qb gZ (.dict #[(qd P tW 165 (.str cY 497)),(qd P lP 166 .none),(qd P tY 167 .none),(qd P uB 168 (.builtin vI)),(qd P uF 169 .none),(qd P uG 170 (.ref 6)),(qd P tR 171 (.ref 4)),(qd P tT 173 (.str aW 172)),(qd P tU 174 .none),(qd P fH 206 (.ref 24)),(qd P gY 222 (.ref 37)),(qd P xG 226 (.int 64 225)),(qd P xH 228 (.int 18446744073709551616 227)),(qd P xI 241 (.ref 40)),(qd P mV 248 (.ref 47)),(qd P mW 256 (.ref 54)),(qd P mX 263 (.ref 61)),(qd P mY 271 (.ref 68)),(qd P qQ 279 (.ref 75)),(qd P qR 288 (.ref 82)),(qd P qS 298 (.ref 89)),(qd P qU 306 (.ref 96)),(qd P qV 314 (.ref 103)),(qd P qW 323 (.ref 110)),(qd P qX 334 (.ref 117)),(qd P qY 344 (.ref 124)),(qd P qZ 356 (.ref 131)),(qd P rA 366 (.ref 138)),(qd P rB 376 (.ref 145)),(qd P rD 385 (.ref 152)),(qd P rF 391 (.ref 157)),(qd P uC 403 (.ref 164)),(qd P iV 446 (.ref 188)),(qd P uD 458 (.ref 199)),(qd P uE 467 (.ref 206)),(qd P xK 475 (.ref 213)),(qd P xM 482 (.ref 220)),(qd P xN 490 (.ref 227)),(qd P uH 496 (.ref 232)),(qd P xO 506 (.ref 239)),(qd P xP 514 (.ref 246)),(qd P wR 523 (.ref 253)),(qd P wU 536 (.ref 260)),(qd P wV 552 (.ref 267)),(qd P tS 558 (.ref 272)),(qd P wW 567 (.ref 279)),(qd P wX 578 (.ref 286)),(qd P iw 591 (.ref 293)),(qd P ja 606 (.ref 300)),(qd P jb 614 (.ref 307)),(qd P xA 620 (.ref 312)),(qd P jc 631 (.ref 319)),(qd P jd 639 (.ref 326)),(qd P je 650 (.ref 333)),(qd P jf 666 (.ref 340)),(qd P jg 681 (.ref 347)),(qd P jh 698 (.ref 354)),(qd P ji 714 (.ref 361))] 58)
def tw16964057164497045988:List Stmt:=[bc,bf,bg,bh,bj,bo,bp,bq,bu,bw,bz]
theorem te16964057164497045988:tw16964057164497045988=tw16964057164497045988:=rfl
def TH:Obj:=(.mk .none .none (.fields #[(.int 2 0),(.int 0 0),(.ref 20),(.int 4 0),(.int 0 0),(.ref 33),(.int 10 0),(.int 0 0),(.ref 46),(.int 12 0),(.int 0 0),(.ref 53),(.int 16 0),(.int 0 0),(.ref 60),(.int 18 0),(.int 0 0),(.ref 67),(.int 20 0),(.int 0 0),(.ref 74),(.int 22 0),(.int 0 0),(.ref 81),(.int 47 0),(.int 0 0),(.ref 88),(.int 58 0),(.int 0 0),(.ref 95),(.int 63 0),(.int 0 0),(.ref 102),(.int 69 0),(.int 0 0),(.ref 109),(.int 75 0),(.int 0 0),(.ref 116),(.int 85 0),(.int 0 0),(.ref 123),(.int 96 0),(.int 0 0),(.ref 130),(.int 102 0),(.int 0 0),(.ref 137),(.int 104 0),(.int 0 0),(.ref 144),(.int 109 0),(.int 0 0),(.ref 151),(.int 111 0),(.int 0 0),(.ref 156),(.int 119 0),(.int 0 0),(.ref 163),(.int 132 0),(.int 0 0),(.ref 170),(.int 148 0),(.int 0 0),(.ref 198),(.int 155 0),(.int 0 0),(.ref 205),(.int 163 0),(.int 0 0),(.ref 212),(.int 169 0),(.int 0 0),(.ref 219),(.int 171 0),(.int 0 0),(.ref 226),(.int 175 0),(.int 0 0),(.ref 231),(.int 181 0),(.int 0 0),(.ref 238),(.int 185 0),(.int 0 0),(.ref 245),(.int 187 0),(.int 0 0),(.ref 252),(.int 195 0),(.int 0 0),(.ref 259),(.int 207 0),(.int 0 0),(.ref 266),(.int 224 0),(.int 0 0),(.ref 271),(.int 231 0),(.int 0 0),(.ref 278),(.int 255 0),(.int 0 0),(.ref 285),(.int 262 0),(.int 0 0),(.ref 292),(.int 281 0),(.int 0 0),(.ref 299),(.int 298 0),(.int 0 0),(.ref 306),(.int 309 0),(.int 0 0),(.ref 311),(.int 334 0),(.int 0 0),(.ref 318),(.int 345 0),(.int 0 0),(.ref 325),(.int 349 0),(.int 0 0),(.ref 332),(.int 359 0),(.int 0 0),(.ref 339),(.int 383 0),(.int 0 0),(.ref 346),(.int 406 0),(.int 0 0),(.ref 353),(.int 421 0),(.int 0 0),(.ref 360)]) #[])
def Ec:=qT bM [Dp,lO,Dq,Dr,wZ,Dl,Dn] 582
def Ed:=qF iw bc bc
def Ee:=qC bJ iw 579 aW 262 4 3 287 181 589
def Ef:=qG bN iw bc bc cY 497 292
def Eg:=qT bM [ur,RD,RE,lO,Dq,Dr,RF,RG,xC] 595
def Eh:=qF ja bf bf
def Ei:=qC bJ ja 592 aW 281 3 3 294 181 604
def Ej:=qG bN ja bf bf cY 497 299
def Ek:=qT bM [Dp,wZ] 610
def El:=qF jb bg bg
def Em:=qC bJ jb 607 aW 298 1 3 301 181 612
def En:=qG bN jb bg bg cY 497 306
def Eo:=qF xA bh bh
def Ep:=qb bJ (.fields #[(.str xA 615),(.str xA 616),(.str aW 617),(.int 309 0),(.int 3 0),(.int 0 0),(.int 0 0),(.int 3 0),(.ref 308),(.bool .true),(.int 181 0),(.ref 309),.none,.none,.none,(.ref 310),(.int 618 0),(.int 309 0),(.str aW 619)])
def Er:=qG bN xA bh bh cY 497 311
def Es:=qT bM [uu,gX,lO,RH,Dn] 624
def Et:=qF jc bj bj
def Eu:=qC bJ jc 621 aW 334 2 3 313 181 629
def Ew:=qG bN jc bj bj cY 497 318
def Ey:=qT bM [uv,gX] 635
def Ez:=qF jd bo bo
def Fb:=qC bJ jd 632 aW 345 2 3 320 181 637
def Fc:=qG bN jd bo bo cY 497 325
def Fd:=qT bM [xC,gX,lO,wZ,uo] 643
def Fe:=qF je bp bp
def Ff:=qC bJ je 640 aW 349 2 3 327 181 648
def Fg:=qG bN je bp bp cY 497 332
def Fh:=qT bM [xC,gX,uw,lO,Rv,Ru,RJ,RK,RL,RM] 654
def Fi:=qF jf bq bq
def Fj:=qC bJ jf 651 aW 359 3 3 334 181 664
def Fl:=qG bN jf bq bq cY 497 339
def Fm:=qT bM [xD,jk,gX,RN,RP,RQ,RS,uq,Rw] 670
def Fp:=qF jg bu bu
def Fq:=qC bJ jg 667 aW 383 3 3 341 181 679
def Fs:=qG bN jg bu bu cY 497 346
def Ft:=qT bM [xD,jk,uq,gX,uw,Dt,lO,uu,uv,xC,Du] 685
def Fu:=qF jh bw bw
def Fv:=qC bJ jh 682 aW 406 5 3 348 181 696
def Fw:=qG bN jh bw bw cY 497 353
def Fx:=qT bM [xD,gX,uw,Dt,lO,uu,uv,xC,Du,RT] 702
def Fy:=qF ji bz bz
def Fz:=qC bJ ji 699 aW 421 3 3 355 181 712
def Ga:=qG bN ji bz bz cY 497 360
def tw417012770060168347:Params->BT:=λP=>(.node (boot_o_0 P) (.node (boot_o_1 P) (.node (TF P) (.node (boot_o_7 P) (.node rG (.node aA (.node aD (.node yW (qf aD) .nil) (.node kx (qf Ew) .nil)) (.node yE (.node aD (qf aA) .nil) (.node vq (qf aA) .nil))) (.node vA (.node aA (.node zF (qf xq) .nil) (.node aA (qf aD) .nil)) (.node aA (.node aA (qf Ek) .nil) (qf wj)))) (.node (rL P) (.node uV (.node xQ (.node aA (qf xk) .nil) (.node lj (qf aA) .nil)) (.node yJ (.node (jx P) (qf aD) .nil) (.node vy (qf Fy) .nil))) (.node aA (.node xZ (.node zK (qf xw) .nil) (.node aD (qf Fm) .nil)) (.node aD (.node ki (qf Ep) .nil) (qf aA))))) (.node aA (.node aD (.node aA (.node uL (.node yZ (qf xi) .nil) (.node kz (qf aA) .nil)) (.node yG (.node jv (qf Ed) .nil) (.node vw (qf aA) .nil))) (.node aA (.node aA (.node aD (qf xt) .nil) (.node vi (qf Fj) .nil)) (.node yP (.node aA (qf En) .nil) (qf aA)))) (.node rO (.node uX (.node xT (.node aA (qf xn) .nil) (.node aA (qf Fe) .nil)) (.node aA (.node ka (qf Ei) .nil) (qf wc))) (.node vG (.node aD (.node jo (qf aA) .nil) (.node vo (qf Fs) .nil)) (.node yU (.node (kn P) (qf Es) .nil) (qf xb)))))) (.node (boot_o_5 P) (.node (boot_o_9 P) (.node (rH P) (.node uQ (.node aA (.node yX (qf aA) .nil) (.node aA (qf aD) .nil)) (.node aA (.node aA (qf Ec) .nil) (.node vt (qf Fv) .nil))) (.node aD (.node xW (.node zH (qf aA) .nil) (.node vh (qf aA) .nil)) (.node yO (.node kf (qf El) .nil) (qf aD)))) (.node rM (.node aA (.node xR (.node zC (qf xl) .nil) (.node aD (qf Fd) .nil)) (.node aD (.node jy (qf aA) .nil) (.node aA (qf Ga) .nil))) (.node vF (.node yB (.node aA (qf aD) .nil) (.node aA (qf Fp) .nil)) (.node aA (.node kl (qf aA) .nil) (qf xa))))) (.node lQ (.node rK (.node uT (.node aA (.node aD (qf aA) .nil) (.node lg (qf Fb) .nil)) (.node yH (.node aA (qf Ef) .nil) (.node aD (qf Fx) .nil))) (.node vD (.node xY (.node aA (qf xu) .nil) (.node vk (qf aA) .nil)) (.node yR (.node kh (qf aD) .nil) (qf wx)))) (.node eM (.node uY (.node aD (.node zE (qf aD) .nil) (.node lr (qf Fg) .nil)) (.node yM (.node aD (qf aA) .nil) (qf we))) (.node uI (.node aA (.node jr (qf ya) .nil) (.node aA (qf aD) .nil)) (.node aA (.node kr (qf Et) .nil) (qf xf))))))) (.node (boot_o_2 P) (.node (boot_o_4 P) (.node (boot_o_8 P) (.node eM (.node aD (.node uJ (.node aA (qf xg) .nil) (.node ky (qf aA) .nil)) (.node yF (.node js (qf aD) .nil) (.node aA (qf Fu) .nil))) (.node aA (.node xV (.node zG (qf xr) .nil) (.node aD (qf Fh) .nil)) (.node aD (.node ke (qf aA) .nil) (qf aA)))) (.node uN (.node uW (.node aA (.node zB (qf aA) .nil) (.node aA (qf aD) .nil)) (.node aA (.node aA (qf Eg) .nil) (.node vz (qf Fz) .nil))) (.node aD (.node yA (.node zL (qf aA) .nil) (.node vm (qf aA) .nil)) (.node yS (.node kj (qf Er) .nil) (qf aD))))) (.node TH (.node rJ (.node (uS P) (.node uM (.node aA (qf xj) .nil) (.node aA (qf Ez) .nil)) (.node aA (.node jw (qf Ee) .nil) (.node aA (qf aD) .nil))) (.node vC (.node aD (.node zI (qf aA) .nil) (.node vj (qf Fl) .nil)) (.node yQ (.node aD (qf aA) .nil) (qf wt)))) (.node uO (.node aA (.node aA (.node aD (qf aA) .nil) (.node lq (qf Ff) .nil)) (.node yL (.node aA (qf Ej) .nil) (qf aA))) (.node vH (.node yC (.node jq (qf xy) .nil) (.node vp (qf aA) .nil)) (.node yV (.node ko (qf aA) .nil) (qf xc)))))) (.node (boot_o_6 P) (.node (boot_o_10 P) (.node aA (.node uR (.node uK (.node yY (qf xh) .nil) (.node aD (qf Ey) .nil)) (.node aD (.node ju (qf aA) .nil) (.node vv (qf Fw) .nil))) (.node vB (.node xX (.node aA (qf aD) .nil) (.node aA (qf Fi) .nil)) (.node aA (.node kg (qf Em) .nil) (qf wo)))) (.node rN (.node aD (.node xS (.node zD (qf xm) .nil) (.node lp (qf aA) .nil)) (.node yK (.node jz (qf Eh) .nil) (qf aD))) (.node aA (.node aA (.node aD (qf xx) .nil) (.node vn (qf Fq) .nil)) (.node yT (.node km (qf aD) .nil) (qf aA))))) (.node lR (.node aA (.node uU (.node aD (.node zA (qf aD) .nil) (.node lh (qf Fc) .nil)) (.node yI (.node eM (qf aA) .nil) (.node vx (qf aA) .nil))) (.node vE (.node aA (.node zJ (qf xv) .nil) (.node aA (qf aD) .nil)) (.node aA (.node aA (qf Eo) .nil) (qf wy)))) (.node (uP P) (.node uZ (.node xU (.node aA (qf xp) .nil) (.node lu (qf aA) .nil)) (.node yN (.node kb (qf aD) .nil) (qf wg))) (.node aA (.node yD (.node aA (qf yb) .nil) (.node aD (qf Ft) .nil)) (.node aD (.node ku (qf Eu) .nil) (qf aA))))))))
theorem te417012770060168347:tw417012770060168347=tw417012770060168347:=rfl
def Sm:=qb gZ (.dict #[(qd P tW 165 (.str cY 497)),(qd P lP 166 .none),(qd P tY 167 .none),(qd P uB 168 (.builtin vI)),(qd P uF 169 .none),(qd P uG 170 (.ref 6)),(qd P tR 171 (.ref 4)),(qd P tT 173 (.str aW 172)),(qd P tU 174 .none),(qd P fH 206 (.ref 24)),(qd P gY 222 (.ref 37)),(qd P xG 226 (.int 64 225)),(qd P xH 228 (.int 18446744073709551616 227)),(qd P xI 241 (.ref 40)),(qd P mV 248 (.ref 47)),(qd P mW 256 (.ref 54)),(qd P mX 263 (.ref 61)),(qd P mY 271 (.ref 68)),(qd P qQ 279 (.ref 75)),(qd P qR 288 (.ref 82)),(qd P qS 298 (.ref 89)),(qd P qU 306 (.ref 96)),(qd P qV 314 (.ref 103)),(qd P qW 323 (.ref 110)),(qd P qX 334 (.ref 117)),(qd P qY 344 (.ref 124)),(qd P qZ 356 (.ref 131)),(qd P rA 366 (.ref 138)),(qd P rB 376 (.ref 145)),(qd P rD 385 (.ref 152)),(qd P rF 391 (.ref 157)),(qd P uC 403 (.ref 164)),(qd P iV 446 (.ref 188)),(qd P uD 458 (.ref 199)),(qd P uE 467 (.ref 206)),(qd P xK 475 (.ref 213)),(qd P xM 482 (.ref 220)),(qd P xN 490 (.ref 227)),(qd P uH 496 (.ref 232)),(qd P xO 506 (.ref 239)),(qd P xP 514 (.ref 246)),(qd P wR 523 (.ref 253)),(qd P wU 536 (.ref 260)),(qd P wV 552 (.ref 267)),(qd P tS 558 (.ref 272)),(qd P wW 567 (.ref 279)),(qd P wX 578 (.ref 286)),(qd P iw 591 (.ref 293)),(qd P ja 606 (.ref 300)),(qd P jb 614 (.ref 307)),(qd P xA 620 (.ref 312)),(qd P jc 631 (.ref 319)),(qd P jd 639 (.ref 326)),(qd P je 650 (.ref 333)),(qd P jf 666 (.ref 340)),(qd P jg 681 (.ref 347)),(qd P jh 698 (.ref 354)),(qd P ji 714 (.ref 361)),(qd P ux 734 (.ref 368)),(qd P uy 747 (.ref 375)),(qd P uz 760 (.ref 382)),(qd P va 768 (.ref 389)),(qd P jl 774 (.ref 394))] 63)
def tw3099415199201529411:List Stmt:=[cb,cf,cg,cj,ck]
theorem te3099415199201529411:tw3099415199201529411=tw3099415199201529411:=rfl
def Sn:Obj:=(.mk .none .none (.fields #[(.int 2 0),(.int 0 0),(.ref 20),(.int 4 0),(.int 0 0),(.ref 33),(.int 10 0),(.int 0 0),(.ref 46),(.int 12 0),(.int 0 0),(.ref 53),(.int 16 0),(.int 0 0),(.ref 60),(.int 18 0),(.int 0 0),(.ref 67),(.int 20 0),(.int 0 0),(.ref 74),(.int 22 0),(.int 0 0),(.ref 81),(.int 47 0),(.int 0 0),(.ref 88),(.int 58 0),(.int 0 0),(.ref 95),(.int 63 0),(.int 0 0),(.ref 102),(.int 69 0),(.int 0 0),(.ref 109),(.int 75 0),(.int 0 0),(.ref 116),(.int 85 0),(.int 0 0),(.ref 123),(.int 96 0),(.int 0 0),(.ref 130),(.int 102 0),(.int 0 0),(.ref 137),(.int 104 0),(.int 0 0),(.ref 144),(.int 109 0),(.int 0 0),(.ref 151),(.int 111 0),(.int 0 0),(.ref 156),(.int 119 0),(.int 0 0),(.ref 163),(.int 132 0),(.int 0 0),(.ref 170),(.int 148 0),(.int 0 0),(.ref 198),(.int 155 0),(.int 0 0),(.ref 205),(.int 163 0),(.int 0 0),(.ref 212),(.int 169 0),(.int 0 0),(.ref 219),(.int 171 0),(.int 0 0),(.ref 226),(.int 175 0),(.int 0 0),(.ref 231),(.int 181 0),(.int 0 0),(.ref 238),(.int 185 0),(.int 0 0),(.ref 245),(.int 187 0),(.int 0 0),(.ref 252),(.int 195 0),(.int 0 0),(.ref 259),(.int 207 0),(.int 0 0),(.ref 266),(.int 224 0),(.int 0 0),(.ref 271),(.int 231 0),(.int 0 0),(.ref 278),(.int 255 0),(.int 0 0),(.ref 285),(.int 262 0),(.int 0 0),(.ref 292),(.int 281 0),(.int 0 0),(.ref 299),(.int 298 0),(.int 0 0),(.ref 306),(.int 309 0),(.int 0 0),(.ref 311),(.int 334 0),(.int 0 0),(.ref 318),(.int 345 0),(.int 0 0),(.ref 325),(.int 349 0),(.int 0 0),(.ref 332),(.int 359 0),(.int 0 0),(.ref 339),(.int 383 0),(.int 0 0),(.ref 346),(.int 406 0),(.int 0 0),(.ref 353),(.int 421 0),(.int 0 0),(.ref 360),(.int 429 0),(.int 0 0),(.ref 367),(.int 445 0),(.int 0 0),(.ref 374),(.int 452 0),(.int 0 0),(.ref 381),(.int 466 0),(.int 0 0),(.ref 388),(.int 468 0),(.int 0 0),(.ref 393)]) #[])
def So:=qT bM [xD,jk,ur,gX,Dt,lO,uu,uv,xC,Du,Rx,Rw,wY,Rv] 718
def Sq:=qF ux cb cb
def Sr:=qC bJ ux 715 aW 429 4 3 362 181 732
def Ss:=qG bN ux cb cb cY 497 367
def Su:=qT bM [xD,jk,ur,gX,wY,lO,Dl] 738
def Sv:=qF uy cf cf
def Sw:=qC bJ uy 735 aW 445 4 3 369 181 745
def Sy:=qG bN uy cf cf cY 497 374
def Sz:=qT bM [xD,uo,ur,jk,uq,gX,uw] 751
def Ta:=qF uz cg cg
def Tb:=qC bJ uz 748 aW 452 3 3 376 181 758
def Td:=qG bN uz cg cg cY 497 381
def Te:=qT bM [Rx,RU] 764
def Tf:=qF va cj cj
def Th:=qC bJ va 761 aW 466 2 3 383 181 766
def Ti:=qG bN va cj cj cY 497 388
def Tj:=qF jl ck ck
def Tn:=qb bJ (.fields #[(.str jl 769),(.str jl 770),(.str aW 771),(.int 468 0),(.int 1 0),(.int 0 0),(.int 0 0),(.int 3 0),(.ref 390),(.bool .true),(.int 181 0),(.ref 391),.none,.none,.none,(.ref 392),(.int 772 0),(.int 468 0),(.str aW 773)])
def To:=qG bN jl ck ck cY 497 393
def tw13559009909895666271:Params->BT:=λP=>(.node (boot_o_0 P) (.node (boot_o_1 P) (.node (Sm P) (.node (boot_o_7 P) (.node rG (.node aA (.node aD (.node yW (qf aD) (qf aA)) (.node kx (qf Ew) .nil)) (.node yE (.node aD (qf aA) .nil) (.node vq (qf aA) .nil))) (.node vA (.node aA (.node zF (qf xq) .nil) (.node aA (qf aD) .nil)) (.node aA (.node aA (qf Ek) .nil) (.node wj (qf Sr) .nil)))) (.node (rL P) (.node uV (.node xQ (.node aA (qf xk) (qf aD)) (.node lj (qf aA) .nil)) (.node yJ (.node (jx P) (qf aD) .nil) (.node vy (qf Fy) .nil))) (.node aA (.node xZ (.node zK (qf xw) .nil) (.node aD (qf Fm) .nil)) (.node aD (.node ki (qf Ep) .nil) (.node aA (qf Sy) .nil))))) (.node aA (.node aD (.node aA (.node uL (.node yZ (qf xi) (qf Tf)) (.node kz (qf aA) .nil)) (.node yG (.node jv (qf Ed) .nil) (.node vw (qf aA) .nil))) (.node aA (.node aA (.node aD (qf xt) .nil) (.node vi (qf Fj) .nil)) (.node yP (.node aA (qf En) .nil) (.node aA (qf Su) .nil)))) (.node rO (.node uX (.node xT (.node aA (qf xn) .nil) (.node aA (qf Fe) .nil)) (.node aA (.node ka (qf Ei) .nil) (.node wc (qf aD) .nil))) (.node vG (.node aD (.node jo (qf aA) .nil) (.node vo (qf Fs) .nil)) (.node yU (.node (kn P) (qf Es) .nil) (.node xb (qf aA) .nil)))))) (.node (boot_o_5 P) (.node (boot_o_9 P) (.node (rH P) (.node uQ (.node aA (.node yX (qf aA) (qf Te)) (.node aA (qf aD) .nil)) (.node aA (.node aA (qf Ec) .nil) (.node vt (qf Fv) .nil))) (.node aD (.node xW (.node zH (qf aA) .nil) (.node vh (qf aA) .nil)) (.node yO (.node kf (qf El) .nil) (.node aD (qf aA) .nil)))) (.node rM (.node aA (.node xR (.node zC (qf xl) (qf Tn)) (.node aD (qf Fd) .nil)) (.node aD (.node jy (qf aA) .nil) (.node aA (qf Ga) .nil))) (.node vF (.node yB (.node aA (qf aD) .nil) (.node aA (qf Fp) .nil)) (.node aA (.node kl (qf aA) .nil) (.node xa (qf aD) .nil))))) (.node lQ (.node rK (.node uT (.node aA (.node aD (qf aA) (qf Ti)) (.node lg (qf Fb) .nil)) (.node yH (.node aA (qf Ef) .nil) (.node aD (qf Fx) .nil))) (.node vD (.node xY (.node aA (qf xu) .nil) (.node vk (qf aA) .nil)) (.node yR (.node kh (qf aD) .nil) (.node wx (qf Sv) .nil)))) (.node eM (.node uY (.node aD (.node zE (qf aD) .nil) (.node lr (qf Fg) .nil)) (.node yM (.node aD (qf aA) .nil) (.node we (qf aA) .nil))) (.node uI (.node aA (.node jr (qf ya) .nil) (.node aA (qf aD) .nil)) (.node aA (.node kr (qf Et) .nil) (.node xf (qf Tb) .nil))))))) (.node (boot_o_2 P) (.node (boot_o_4 P) (.node (boot_o_8 P) (.node eM (.node aD (.node uJ (.node aA (qf xg) (qf aD)) (.node ky (qf aA) .nil)) (.node yF (.node js (qf aD) .nil) (.node aA (qf Fu) .nil))) (.node aA (.node xV (.node zG (qf xr) .nil) (.node aD (qf Fh) .nil)) (.node aD (.node ke (qf aA) .nil) (.node aA (qf Ss) .nil)))) (.node uN (.node uW (.node aA (.node zB (qf aA) (qf Tj)) (.node aA (qf aD) .nil)) (.node aA (.node aA (qf Eg) .nil) (.node vz (qf Fz) .nil))) (.node aD (.node yA (.node zL (qf aA) .nil) (.node vm (qf aA) .nil)) (.node yS (.node kj (qf Er) .nil) (.node aD (qf aA) .nil))))) (.node Sn (.node rJ (.node (uS P) (.node uM (.node aA (qf xj) (qf Th)) (.node aA (qf Ez) .nil)) (.node aA (.node jw (qf Ee) .nil) (.node aA (qf aD) .nil))) (.node vC (.node aD (.node zI (qf aA) .nil) (.node vj (qf Fl) .nil)) (.node yQ (.node aD (qf aA) .nil) (.node wt (qf aA) .nil)))) (.node uO (.node aA (.node aA (.node aD (qf aA) .nil) (.node lq (qf Ff) .nil)) (.node yL (.node aA (qf Ej) .nil) (.node aA (qf So) .nil))) (.node vH (.node yC (.node jq (qf xy) .nil) (.node vp (qf aA) .nil)) (.node yV (.node ko (qf aA) .nil) (.node xc (qf Ta) .nil)))))) (.node (boot_o_6 P) (.node (boot_o_10 P) (.node aA (.node uR (.node uK (.node yY (qf xh) (qf aA)) (.node aD (qf Ey) .nil)) (.node aD (.node ju (qf aA) .nil) (.node vv (qf Fw) .nil))) (.node vB (.node xX (.node aA (qf aD) .nil) (.node aA (qf Fi) .nil)) (.node aA (.node kg (qf Em) .nil) (.node wo (qf aD) .nil)))) (.node rN (.node aD (.node xS (.node zD (qf xm) (qf To)) (.node lp (qf aA) .nil)) (.node yK (.node jz (qf Eh) .nil) (.node aD (qf aA) .nil))) (.node aA (.node aA (.node aD (qf xx) .nil) (.node vn (qf Fq) .nil)) (.node yT (.node km (qf aD) .nil) (.node aA (qf Sz) .nil))))) (.node lR (.node aA (.node uU (.node aD (.node zA (qf aD) (qf aA)) (.node lh (qf Fc) .nil)) (.node yI (.node eM (qf aA) .nil) (.node vx (qf aA) .nil))) (.node vE (.node aA (.node zJ (qf xv) .nil) (.node aA (qf aD) .nil)) (.node aA (.node aA (qf Eo) .nil) (.node wy (qf Sw) .nil)))) (.node (uP P) (.node uZ (.node xU (.node aA (qf xp) .nil) (.node lu (qf aA) .nil)) (.node yN (.node kb (qf aD) .nil) (.node wg (qf Sq) .nil))) (.node aA (.node yD (.node aA (qf yb) .nil) (.node aD (qf Ft) .nil)) (.node aD (.node ku (qf Eu) .nil) (.node aA (qf Td) .nil))))))))
theorem te13559009909895666271:tw13559009909895666271=tw13559009909895666271:=rfl
def tw15649708975864570598:Params->Heap:=λP=>(.mk #[(boot_o_0 P),(boot_o_1 P),(boot_o_2 P),(Sm P),(boot_o_4 P),(boot_o_5 P),(boot_o_6 P),(boot_o_7 P),(boot_o_8 P),(boot_o_9 P),(boot_o_10 P),aA,Sn,lQ,lR,rG,eM,(rH P),aA,aD,rJ,rK,aA,(rL P),uN,rM,rN,rO,uO,eM,(uP P),aA,aD,uQ,uR,aA,(uS P),uT,uU,uV,uW,aA,aD,uX,aA,uY,uZ,vA,aA,aD,vB,aA,vC,vD,vE,aA,aD,vF,aA,vG,vH,uI,aA,aD,uJ,aA,uK,uL,uM,aA,aD,xQ,aA,xR,xS,xT,aA,aD,xU,aA,xV,xW,xX,aA,aD,xY,aA,xZ,yA,yB,aA,aD,yC,aA,yD,yE,yF,aA,aD,yG,aA,yH,yI,yJ,aA,aD,yK,aA,yL,yM,yN,aA,aD,yO,aA,yP,yQ,yR,aA,aD,yS,aA,yT,yU,yV,aA,aD,yW,aA,yX,yY,yZ,aA,aD,zA,aA,zB,zC,zD,aA,aD,zE,aA,zF,zG,zH,aA,aD,zI,aA,zJ,zK,zL,aA,aD,jo,jq,jr,aA,aD,js,aA,ju,jv,jw,aA,eM,(jx P),aA,jy,jz,ka,aA,aD,kb,aA,ke,kf,kg,aA,aD,kh,aA,ki,kj,kl,km,(kn P),ko,kr,ku,kx,ky,aA,aD,kz,aA,lg,lh,lj,aA,aD,lp,aA,lq,lr,lu,aA,aD,vh,aA,vi,vj,vk,aA,aD,vm,aA,vn,vo,vp,aA,aD,vq,aA,vt,vv,vw,aA,aD,vx,vy,vz,aA,aD,wc,aA,we,wg,wj,aA,aD,wo,aA,wt,wx,wy,aA,aD,xa,aA,xb,xc,xf,aA,aD,xg,aA,xh,xi,xj,aA,aD,xk,aA,xl,xm,xn,aA,aD,xp,xq,xr,aA,aD,xt,aA,xu,xv,xw,aA,aD,xx,aA,xy,ya,yb,aA,aD,Ec,aA,Ed,Ee,Ef,aA,aD,Eg,aA,Eh,Ei,Ej,aA,aD,Ek,aA,El,Em,En,aA,aD,Eo,Ep,Er,aA,aD,Es,aA,Et,Eu,Ew,aA,aD,Ey,aA,Ez,Fb,Fc,aA,aD,Fd,aA,Fe,Ff,Fg,aA,aD,Fh,aA,Fi,Fj,Fl,aA,aD,Fm,aA,Fp,Fq,Fs,aA,aD,Ft,aA,Fu,Fv,Fw,aA,aD,Fx,aA,Fy,Fz,Ga,aA,aD,So,aA,Sq,Sr,Ss,aA,aD,Su,aA,Sv,Sw,Sy,aA,aD,Sz,aA,Ta,Tb,Td,aA,aD,Te,aA,Tf,Th,Ti,aA,aD,Tj,Tn,To] (.mk [] [] [] 0 [] [] .false #[] [] 0 .false .false .false 0 [2000,10,10] .false 0 .true [] [] 0 .false))
theorem te15649708975864570598:tw15649708975864570598=tw15649708975864570598:=rfl
def tw3187918739084174840:Program:=PySem.Challenge.pw_aheadmill_k51_wrong_slips_told
theorem te3187918739084174840:tw3187918739084174840=tw3187918739084174840:=rfl
end PySem.W.Fast
theorem PySem.Challenge.cw_aheadmill_k51_wrong_slips_told_holds : PySem.Challenge.rw_aheadmill_k51_wrong_slips_told.Holds := by
 w_on;o_law;k_head;(case hw=>w_witness2)
 k_fill
 refine AM.walk (k:=2*12) (x:="_law_script") (l:=PySem.Challenge.rw_aheadmill_k51_wrong_slips_told) rfl rfl ⟨rfl,by decide,by decide⟩ (λw h Y=>W.kIn_of Y) ?F
 case F=>
  intro w mg fa h KX G hmg;refine' AMx.all_mk KX G hmg ?xc_2 ?x_0 ?l_0 ?c_0 ?k_0 ?x_1 ?l_1 ?c_1 ?k_1 ?x_2 ?l_2 ?c_2 ?k_2 ?x_3 ?l_3 ?c_3 ?k_3 ?x_4 ?l_4 ?c_4 ?k_4 ?x_5 ?l_5 ?c_5 ?k_5 ?x_6 ?l_6 ?c_6 ?k_6 ?x_7 ?l_7 ?c_7 ?k_7 ?x_8 ?l_8 ?c_8 ?k_8 ?x_9 ?l_9 ?c_9 ?k_9 ?x_10 ?l_10 ?c_10 ?k_10 ?x_11 ?l_11 ?c_11 ?k_11 ?x_12 ?l_12 ?c_12 ?k_12 ?x_13 ?l_13 ?c_13 ?k_13 ?x_14 ?l_14 ?c_14 ?k_14 ?x_15 ?l_15 ?c_15 ?k_15 ?x_16 ?l_16 ?c_16 ?k_16 ?x_17 ?l_17 ?c_17 ?k_17 ?x_18 ?l_18 ?c_18 ?k_18 ?x_19 ?l_19 ?c_19 ?k_19 ?x_20 ?l_20 ?c_20 ?k_20 ?x_21 ?l_21 ?c_21 ?k_21 ?x_22 ?l_22 ?c_22 ?k_22 ?x_23 ?l_23 ?c_23 ?k_23 ?x_24 ?l_24 ?c_24 ?k_24 ?x_25 ?l_25 ?c_25 ?k_25 ?x_26 ?l_26 ?c_26 ?k_26 ?x_27 ?l_27 ?c_27 ?k_27 ?x_28 ?l_28 ?c_28 ?k_28 ?x_29 ?l_29 ?c_29 ?k_29 ?x_30 ?l_30 ?c_30 ?k_30 ?x_31 ?l_31 ?c_31 ?k_31 ?x_32 ?l_32 ?c_32 ?k_32 ?x_33 ?l_33 ?c_33 ?k_33 ?x_34 ?l_34 ?c_34 ?k_34 ?x_35 ?l_35 ?c_35 ?k_35 ?x_36 ?l_36 ?c_36 ?k_36 ?x_37 ?l_37 ?c_37 ?k_37 ?x_38 ?l_38 ?c_38 ?k_38 ?x_39 ?l_39 ?c_39 ?k_39 ?x_40 ?l_40 ?c_40 ?k_40 ?x_41 ?l_41 ?c_41 ?k_41 ?x_42 ?l_42 ?c_42 ?k_42 ?x_43 ?l_43 ?c_43 ?k_43 ?x_44 ?l_44 ?c_44 ?k_44 ?x_45 ?l_45 ?c_45 ?k_45 ?x_46 ?l_46 ?c_46 ?k_46 ?x_47 ?l_47 ?c_47 ?k_47 ?x_48 ?l_48 ?c_48 ?k_48 ?x_49 ?l_49 ?c_49 ?k_49 ?pg_2 ?hd_2 ?po_2 ?sa_2 ?na_2_state ?na_2_latest ?na_2_storers ?na_2_fillers ?a_2_follow ?fn_49 ?a_2_init ?fn_48 ?mk_2 ?kc_2 ?x_BITS ?x_BEYOND ?x_WAYS ?l_WAYS ?z_len ?z_int ?z_min ?z_max ?z_divmod ?z_tuple ?z_list ?z_all ?z_isinstance ?z_bool ?z_range ?z_enumerate
  (case xc_2=>k_is)
  (case x_0=>k_is)
  (case l_0=>k_is)
  (case c_0=>k_is)
  (case k_0=>k_is)
  (case x_1=>k_is)
  (case l_1=>k_is)
  (case c_1=>k_is)
  (case k_1=>k_is)
  (case x_2=>k_is)
  (case l_2=>k_is)
  (case c_2=>k_is)
  (case k_2=>k_is)
  (case x_3=>k_is)
  (case l_3=>k_is)
  (case c_3=>k_is)
  (case k_3=>k_is)
  (case x_4=>k_is)
  (case l_4=>k_is)
  (case c_4=>k_is)
  (case k_4=>k_is)
  (case x_5=>k_is)
  (case l_5=>k_is)
  (case c_5=>k_is)
  (case k_5=>k_is)
  (case x_6=>k_is)
  (case l_6=>k_is)
  (case c_6=>k_is)
  (case k_6=>k_is)
  (case x_7=>k_is)
  (case l_7=>k_is)
  (case c_7=>k_is)
  (case k_7=>k_is)
  (case x_8=>k_is)
  (case l_8=>k_is)
  (case c_8=>k_is)
  (case k_8=>k_is)
  (case x_9=>k_is)
  (case l_9=>k_is)
  (case c_9=>k_is)
  (case k_9=>k_is)
  (case x_10=>k_is)
  (case l_10=>k_is)
  (case c_10=>k_is)
  (case k_10=>k_is)
  (case x_11=>k_is)
  (case l_11=>k_is)
  (case c_11=>k_is)
  (case k_11=>k_is)
  (case x_12=>k_is)
  (case l_12=>k_is)
  (case c_12=>k_is)
  (case k_12=>k_is)
  (case x_13=>k_is)
  (case l_13=>k_is)
  (case c_13=>k_is)
  (case k_13=>k_is)
  (case x_14=>k_is)
  (case l_14=>k_is)
  (case c_14=>k_is)
  (case k_14=>k_is)
  (case x_15=>k_is)
  (case l_15=>k_is)
  (case c_15=>k_is)
  (case k_15=>k_is)
  (case x_16=>k_is)
  (case l_16=>k_is)
  (case c_16=>k_is)
  (case k_16=>k_is)
  (case x_17=>k_is)
  (case l_17=>k_is)
  (case c_17=>k_is)
  (case k_17=>k_is)
  (case x_18=>k_is)
  (case l_18=>k_is)
  (case c_18=>k_is)
  (case k_18=>k_is)
  (case x_19=>k_is)
  (case l_19=>k_is)
  (case c_19=>k_is)
  (case k_19=>k_is)
  (case x_20=>k_is)
  (case l_20=>k_is)
  (case c_20=>k_is)
  (case k_20=>k_is)
  (case x_21=>k_is)
  (case l_21=>k_is)
  (case c_21=>k_is)
  (case k_21=>k_is)
  (case x_22=>k_is)
  (case l_22=>k_is)
  (case c_22=>k_is)
  (case k_22=>k_is)
  (case x_23=>k_is)
  (case l_23=>k_is)
  (case c_23=>k_is)
  (case k_23=>k_is)
  (case x_24=>k_is)
  (case l_24=>k_is)
  (case c_24=>k_is)
  (case k_24=>k_is)
  (case x_25=>k_is)
  (case l_25=>k_is)
  (case c_25=>k_is)
  (case k_25=>k_is)
  (case x_26=>k_is)
  (case l_26=>k_is)
  (case c_26=>k_is)
  (case k_26=>k_is)
  (case x_27=>k_is)
  (case l_27=>k_is)
  (case c_27=>k_is)
  (case k_27=>k_is)
  (case x_28=>k_is)
  (case l_28=>k_is)
  (case c_28=>k_is)
  (case k_28=>k_is)
  (case x_29=>k_is)
  (case l_29=>k_is)
  (case c_29=>k_is)
  (case k_29=>k_is)
  (case x_30=>k_is)
  (case l_30=>k_is)
  (case c_30=>k_is)
  (case k_30=>k_is)
  (case x_31=>k_is)
  (case l_31=>k_is)
  (case c_31=>k_is)
  (case k_31=>k_is)
  (case x_32=>k_is)
  (case l_32=>k_is)
  (case c_32=>k_is)
  (case k_32=>k_is)
  (case x_33=>k_is)
  (case l_33=>k_is)
  (case c_33=>k_is)
  (case k_33=>k_is)
  (case x_34=>k_is)
  (case l_34=>k_is)
  (case c_34=>k_is)
  (case k_34=>k_is)
  (case x_35=>k_is)
  (case l_35=>k_is)
  (case c_35=>k_is)
  (case k_35=>k_is)
  (case x_36=>k_is)
  (case l_36=>k_is)
  (case c_36=>k_is)
  (case k_36=>k_is)
  (case x_37=>k_is)
  (case l_37=>k_is)
  (case c_37=>k_is)
  (case k_37=>k_is)
  (case x_38=>k_is)
  (case l_38=>k_is)
  (case c_38=>k_is)
  (case k_38=>k_is)
  (case x_39=>k_is)
  (case l_39=>k_is)
  (case c_39=>k_is)
  (case k_39=>k_is)
  (case x_40=>k_is)
  (case l_40=>k_is)
  (case c_40=>k_is)
  (case k_40=>k_is)
  (case x_41=>k_is)
  (case l_41=>k_is)
  (case c_41=>k_is)
  (case k_41=>k_is)
  (case x_42=>k_is)
  (case l_42=>k_is)
  (case c_42=>k_is)
  (case k_42=>k_is)
  (case x_43=>k_is)
  (case l_43=>k_is)
  (case c_43=>k_is)
  (case k_43=>k_is)
  (case x_44=>k_is)
  (case l_44=>k_is)
  (case c_44=>k_is)
  (case k_44=>k_is)
  (case x_45=>k_is)
  (case l_45=>k_is)
  (case c_45=>k_is)
  (case k_45=>k_is)
  (case x_46=>k_is)
  (case l_46=>k_is)
  (case c_46=>k_is)
  (case k_46=>k_is)
  (case x_47=>k_is)
  (case l_47=>k_is)
  (case c_47=>k_is)
  (case k_47=>k_is)
  (case x_48=>k_is)
  (case l_48=>k_is)
  (case c_48=>k_is)
  (case k_48=>k_is)
  (case x_49=>k_is)
  (case l_49=>k_is)
  (case c_49=>k_is)
  (case k_49=>k_is)
  (case pg_2=>k_is)
  (case hd_2=>k_is)
  (case po_2=>k_is)
  (case sa_2=>k_is)
  (case na_2_state=>k_is)
  (case na_2_latest=>k_is)
  (case na_2_storers=>k_is)
  (case na_2_fillers=>k_is)
  (case a_2_follow=>k_is)
  (case fn_49=>k_is)
  (case a_2_init=>k_is)
  (case fn_48=>k_is)
  (case mk_2=>k_is)
  (case kc_2=>k_is)
  (case x_BITS=>k_is)
  (case x_BEYOND=>k_is)
  (case x_WAYS=>k_is)
  (case l_WAYS=>k_is)
  (case z_len=>k_is)
  (case z_int=>k_is)
  (case z_min=>k_is)
  (case z_max=>k_is)
  (case z_divmod=>k_is)
  (case z_tuple=>k_is)
  (case z_list=>k_is)
  (case z_all=>k_is)
  (case z_isinstance=>k_is)
  (case z_bool=>k_is)
  (case z_range=>k_is)
  (case z_enumerate=>k_is)
