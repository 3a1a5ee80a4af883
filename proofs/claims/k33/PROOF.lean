import PyProof.Rows.All
import Wide.All
import OpenK.AllK
import Wide.FinOn
import Lean
import PyProof.EqAt
import PyProof.EqKinds
import PyProof.TupleCall
import OpenK.KOwn
import PySem.Challenge.RW_aheadmill_k33_shelf_left_and_thrown
import PyProof.NeKinds
import PyProof.DictWalks
import KE.KSortKey
import KE.KDictSum
set_option Elab.async false
set_option linter.all false
set_option maxRecDepth 100000
set_option exponentiation.threshold 2000
set_option maxHeartbeats 0
set_option compiler.extract_closed false
set_option genSizeOf false
local macro_rules | `(command| $d:definition) => `(command| noncomputable $d:definition)
namespace L2
open PySem PySem.Spec PyProof.Rows
abbrev aD:=Sum Int Str
def wG:aD->Value->Bool
 |.inl k,v=>Value.isInt k v
 |.inr x,v=>Value.isStrOf x v
def GF(w:World):aD->Int
 |.inl k=>hashInt k
 |.inr x=>hashStr w x
theorem oK:∀{k:aD} {v:Value},wG k v=true->(∃i t,k=Sum.inl i/\v=Value.int i t)\/(∃x t,k=Sum.inr x/\v=Value.str x t)
 |.inl i,v,h=>by obtain⟨t,e⟩:=Value.isInt_shape (k:=i) (v:=v) h;exact .inl ⟨i,t,rfl,e⟩
 |.inr x,v,h=>by obtain⟨t,e⟩:=Value.isStrOf_shape (x:=x) (v:=v) h;exact .inr ⟨x,t,rfl,e⟩
theorem GG(i:Int)(t:Tok):wG (.inl i) (.int i t)=true:=by simp[wG,Value.isInt]
theorem GH(x:Str)(t:Tok):wG (.inr x) (.str x t)=true:=by simp[wG,Value.isStrOf]
theorem GJ(a b:Int):decide ((Sum.inl a:aD)=Sum.inl b)=(a==b):=by
 by_cases e:a=b
 .subst e;simp
 .have h:¬(Sum.inl a:aD)=Sum.inl b:=λq=>e (Sum.inl.inj q);rw[decide_eq_false h];exact(beq_eq_false_iff_ne.mpr e).symm
theorem GO(a b:Str):decide ((Sum.inr a:aD)=Sum.inr b)=decide (a=b):=by
 by_cases e:a=b
 .subst e;simp
 .have h:¬(Sum.inr a:aD)=Sum.inr b:=λq=>e (Sum.inr.inj q);rw[decide_eq_false h,decide_eq_false e]
theorem GK(a:Int)(b:Str):decide ((Sum.inl a:aD)=Sum.inr b)=false:=decide_eq_false (λq=>nomatch q)
theorem GN(a:Str)(b:Int):decide ((Sum.inr a:aD)=Sum.inl b)=false:=decide_eq_false (λq=>nomatch q)
def dQ(prog:Program)(w:World):PySem.KeyKind prog w aD where
 is:=wG
 hash:=GF w
 inj:=λv a b ha hb=>by
  rcases oK ha with⟨i,t,rfl,rfl⟩|⟨x,t,rfl,rfl⟩
  .rcases oK hb with⟨j,u,rfl,e⟩|⟨y,u,rfl,e⟩
   .injection e with e1 _;rw[e1]
   .exact nomatch e
  .rcases oK hb with⟨j,u,rfl,e⟩|⟨y,u,rfl,e⟩
   .exact nomatch e
   .injection e with e1 _;rw[e1]
 byValue:=λk v h=>by rcases oK h with⟨i,t,rfl,rfl⟩|⟨x,t,rfl,rfl⟩<;>rfl
 pyHash:=λhv h=>by
  rcases oK hv with⟨i,t,rfl,rfl⟩|⟨x,t,rfl,rfl⟩
  .exact wpAny_pyHash_int h
  .exact wpAny_pyHash_str h
 eqBool:=λhu hv h=>by
  rcases oK hu with⟨i,t,rfl,rfl⟩|⟨x,t,rfl,rfl⟩
  .rcases oK hv with⟨j,u,rfl,rfl⟩|⟨y,u,rfl,rfl⟩
   .rw[GJ]at h;exact wpAny_eqBool_int h
   .rw[GK]at h;exact SeqAt.EqAt.int_str i t y u _ _ _ _ h
  .rcases oK hv with⟨j,u,rfl,rfl⟩|⟨y,u,rfl,rfl⟩
   .rw[GN]at h;exact SeqAt.EqAt.str_int x t j u _ _ _ _ h
   .rw[GO]at h;exact wpAny_eqBool_str h
 «strs»:=λk x t v h=>by
  rcases oK h with⟨i,u,rfl,e⟩|⟨y,u,rfl,e⟩
  .exact nomatch e
  .injection e with e1 _;subst e1;cases v<;>rfl
theorem HR(prog:Program)(w:World)(i:Int)(t:Tok):(dQ prog w).is (.inl i) (.int i t)=true:=GG i t
theorem HS(prog:Program)(w:World)(x:Str)(t:Tok):(dQ prog w).is (.inr x) (.str x t)=true:=GH x t
inductive V where
 |aC|bl (b:Bool)|int (i:Int)|str (x:Str)|iD (b:Array UInt8)|vV (b:UInt64)|ref (a:Addr)|ty (n:String)
 deriving DecidableEq
def RelV:V->Value->Prop
 |.aC,u=>u=Value.none
 |.bl b,u=>u=Value.bool b
 |.int i,u=>∃t,u=Value.int i t
 |.str x,u=>∃t,u=Value.str x t
 |.iD b,u=>∃t,u=Value.bytes b t
 |.vV b,u=>∃t,u=Value.float b t
 |.ref a,u=>u=Value.ref a
 |.ty n,u=>u=Value.type n
abbrev Vals:List V->List Value->Prop:=Paired RelV
theorem Vals.length{xs:List V}{us:List Value}(r:Vals xs us):xs.length=us.length:=Paired.length r
theorem Vals.get:∀{xs:List V} {us:List Value} {i:Nat} {x:V},Vals xs us->xs[i]?=some x->∃u,us[i]?=some u/\RelV x u
 |_,_,_,_,.nil,e=>by simp at e
 |_,_,0,_,.cons r _,e=>by simp at e;subst e;exact⟨_,rfl,r⟩
 |_,_,i+1,x,.cons _ t,e=>by obtain⟨u,h1,h2⟩:=Vals.get (i:=i) (x:=x) t (by simpa using e);exact⟨u,by simpa using h1,h2⟩
theorem Vals.set{x:V}{u:Value}(r:RelV x u):∀{xs:List V} {us:List Value} (i:Nat),Vals xs us->Vals (xs.set i x) (us.set i u)
 |_,_,_,.nil=>.nil
 |_,_,0,.cons _ t=>.cons r t
 |_,_,i+1,.cons q t=>.cons q (Vals.set r i t)
theorem Vals.append:∀{xs ys:List V} {us ws:List Value},Vals xs us->Vals ys ws->Vals (xs++ys) (us++ws)
 |_,_,_,_,.nil,s=>s
 |_,_,_,_,.cons r t,s=>.cons r (Vals.append t s)
theorem Vals.take:∀{xs:List V} {us:List Value} (n:Nat),Vals xs us->Vals (xs.take n) (us.take n)
 |_,_,0,_=>.nil
 |_,_,_+1,.nil=>.nil
 |_,_,n+1,.cons r t=>.cons r (Vals.take n t)
theorem Vals.drop:∀{xs:List V} {us:List Value} (n:Nat),Vals xs us->Vals (xs.drop n) (us.drop n)
 |_,_,0,r=>r
 |_,_,_+1,.nil=>.nil
 |_,_,n+1,.cons _ t=>Vals.drop n t
theorem Vals.none_of:∀{xs:List V} {us:List Value} {i:Nat},Vals xs us->xs[i]?=none->us[i]?=none:=λ{xs us i} r e=>by have h1:=r.length;have h2:xs.length<=i:=List.getElem?_eq_none_iff.mp e;exact List.getElem?_eq_none_iff.mpr (by omega)
def eK:Option V->Option Value->Prop
 |some v,some u=>RelV v u
 |none,none=>True
 |_,_=>False
def KV{κ:Type}:List (κ×V)->List (κ×Value)->Prop:=Paired λ(p:κ×V) (q:κ×Value)=>p.1=q.1/\RelV p.2 q.2
def kV:aD->V
 |.inl i=>.int i
 |.inr x=>.str x
inductive HO where
 |lst (xs:List V)
 |tup (xs:List V)
 |dK (kvs:List (aD×V))|dT (kvs:List (List aD×V))
 |set (S:Int->Bool) (n:Nat)
 |ins (C dx:Addr) (fs:List (Str×V))
 |own (x:Addr)
 |xd (fs:List (Str×V))
 |met (f x:Addr)
 |vn (lo hi:Int)
 |bH (o:Obj) (u:HO)
 |vJ (ps:Array Value)
 |ext (φ:Heap->Prop)
abbrev Hp:=Addr->Option HO
def aJ(H:Hp)(a:Addr)(o:HO):Hp:=λb=>if b=a then some o else H b
theorem dN{H:Hp}{a:Addr}{o:HO}:aJ H a o a=some o:=by unfold aJ;rw[if_pos rfl]
theorem aR{H:Hp}{a b:Addr}{o:HO}(h:b≠a):aJ H a o b=H b:=by unfold aJ;rw[if_neg h]
theorem lX{H:Hp}{a b:Addr}{o u:HO}(h:H a=some o)(h':H b=some u)(d:o≠u):a≠b:=by intro e;subst e;rw[h]at h';exact d (Option.some.inj h')
theorem dW{H:Hp}{a b:Addr}{o:HO}(h:H a=some o)(h':H b=none):a≠b:=by intro e;subst e;rw[h]at h';cases h'
section
variable (P:Program)(w:World)
def cX(H:Hp)(h:Heap)(a:Addr):HO->Prop
 |.lst xs=>xs.length<=sizeLine/\∃(its:List Value) (n:Nat),Vals xs its/\h.get? a=some { cls:=.type "list",data:=.seq its.toArray n }
 |.tup xs=>xs.length<=sizeLine/\∃its:List Value,Vals xs its/\IsTup h a its.toArray
 |.dK kvs=>kvs.length<=sizeLine/\(a==sysModules)=false/\∃vs,KV kvs vs/\h.DictOf (dQ P w) a vs
 |.dT kvs=>kvs.length<=sizeLine/\(a==sysModules)=false/\∃xs:List (List aD×Addr×Value),
  Paired (λ(p:List aD×V) (q:List aD×Addr×Value)=>p.1=q.1/\H q.2.1=some (.tup (p.1.map kV))/\RelV p.2 q.2.2) kvs xs /\
  ∃o es ep,h.get? a=some o/\o.ExactDict/\o.data = .dict es ep/\es.toList=xs.map (entryOfKey (tupleKind (dQ P w)))/\(xs.map (·.1)).Nodup
 |.set S n=>h.SetOf (intKind P w) a S n
 |.ins C dx fs=>H dx=some (.own a)/\fs.length<=1000/\dx≠a/\h.get? a=some (W.instObj C dx) /\
  ∃mA,h.Ns1 dx mA/\(∀f,eK (fs.lookup f) (mA f))/\PySem.Within mA (fs.map (·.1))
 |.own _=>∃o,h.get? a=some o
 |.xd fs=>∃mA,h.Ns1 a mA/\∀f,eK (fs.lookup f) (mA f)
 |.vn lo hi=>∃t u v,h.get? a=some { cls:=.type "range",data:=.fields #[.int lo t,.int hi u,.int 1 v] }
 |.bH o u=>h.get? a=some o/\cX H h a u
 |.vJ ps=>h.get? a=some { cls:=.none,data:=.fields ps }
 |.met f x=>h.get? a=some (W.methodObj (.ref f) (.ref x))
 |.ext φ=>φ h/\(∃o,h.get? a=some o)/\∀h1 h2:Heap,φ h1->(∀o,h1.get? a=some o->h2.get? a=some o)->φ h2
def bY(H:Hp)(h:Heap):Prop:=∀a o,H a=some o->cX P w H h a o
end
section
variable {P:Program}{w:World}{H H':Hp}{h h':Heap}{a:Addr}{o:HO}
theorem cX.lt(x:cX P w H h a o):a<h.objs.size:=by
 cases o with
 |lst xs=>obtain⟨_,_,_,_,e⟩:=x;exact Heap.lt_size e|tup xs=>obtain⟨_,_,_,p⟩:=x;exact p.lt|dK kvs=>obtain⟨_,_,_,_,o,_,_,e,_⟩:=x;exact Heap.lt_size e|dT kvs=>obtain⟨_,_,_,_,o,_,_,e,_⟩:=x;exact Heap.lt_size e|set S n=>obtain⟨o,_,_,_,e,_⟩:=x;exact Heap.lt_size e|ins C dx fs=>obtain⟨_,_,_,e,_⟩:=x;exact Heap.lt_size e|own y=>obtain⟨_,e⟩:=x;exact Heap.lt_size e|xd fs=>obtain⟨_,⟨_,_,_,e,_⟩,_⟩:=x;exact Heap.lt_size e|vn lo hi=>obtain⟨_,_,_,e⟩:=x;exact Heap.lt_size e|bH ob u=>obtain⟨e,_⟩:=x;exact Heap.lt_size e|vJ ps=>exact Heap.lt_size (show h.get? a=some _ from x)|met f y=>exact Heap.lt_size (show h.get? a=some _ from x)|ext φ=>obtain⟨_,⟨_,e⟩,_⟩:=x;exact Heap.lt_size e
theorem Paired.Ay{α β:Type}{F G:α->β->Prop}:∀{l₁:List α} {l₂:List β},Paired F l₁ l₂->(∀a b,F a b->G a b)->Paired G l₁ l₂
 |_,_,.nil,_=>.nil
 |_,_,.cons r t,f=>.cons (f _ _ r) (Paired.Ay t f)
theorem cX.gQ(x:cX P w H h a o)(k:∀b u,(b=a\/H b=some (.own a))->h.get? b=some u->h'.get? b=some u)
  (ho:∀b,H b=some (.own a)->H' b=some (.own a)) (ht:∀b xs,H b=some (.tup xs)->H' b=some (.tup xs)):cX P w H' h' a o:=by
 induction o with
 |lst xs=>obtain⟨z,its,n,r,e⟩:=x;exact⟨z,its,n,r,k _ _ (.inl rfl) e⟩|tup xs=>obtain⟨z,its,r,ob,e,c⟩:=x;exact⟨z,its,r,ob,k _ _ (.inl rfl) e,c⟩|dK kvs=>obtain⟨z,y,vs,r,ob,es,ep,e,c⟩:=x;exact⟨z,y,vs,r,ob,es,ep,k _ _ (.inl rfl) e,c⟩|dT kvs=>obtain⟨z,y,xs,r,ob,es,ep,e,c⟩:=x;exact⟨z,y,xs,Paired.Ay r λp q z=>⟨z.1,ht _ _ z.2.1,z.2.2⟩,ob,es,ep,k _ _ (.inl rfl) e,c⟩
 |set S n=>obtain⟨ob,es,ep,t,e,c⟩:=x;exact⟨ob,es,ep,t,k _ _ (.inl rfl) e,c⟩|ins C dx fs=>obtain⟨d,z,ne,e,mA,⟨od,es,ep,e2,c⟩,r⟩:=x;exact⟨ho _ d,z,ne,k _ _ (.inl rfl) e,mA,⟨od,es,ep,k _ _ (.inr d) e2,c⟩,r⟩
 |own y=>obtain⟨ob,e⟩:=x;exact⟨ob,k _ _ (.inl rfl) e⟩|xd fs=>obtain⟨mA,⟨od,es,ep,e,c⟩,r⟩:=x;exact⟨mA,⟨od,es,ep,k _ _ (.inl rfl) e,c⟩,r⟩|vn lo hi=>obtain⟨t,u,v,e⟩:=x;exact⟨t,u,v,k _ _ (.inl rfl) e⟩|bH ob u ih=>obtain⟨e,q⟩:=x;exact⟨k _ _ (.inl rfl) e,ih q⟩|vJ ps=>have e:h.get? a=some { cls:=.none,data:=.fields ps }:=x;show h'.get? a=some { cls:=.none,data:=.fields ps };exact k a _ (.inl rfl) e
 |met f y=>have e:h.get? a=some (W.methodObj (.ref f) (.ref y)):=x;show h'.get? a=some (W.methodObj (.ref f) (.ref y));exact k a _ (.inl rfl) e
 |ext φ=>obtain⟨p,⟨o,e⟩,st⟩:=x;exact⟨st _ _ p λo q=>k _ _ (.inl rfl) q,⟨o,k _ _ (.inl rfl) e⟩,st⟩
theorem bY.lt(x:bY P w H h)(e:H a=some o):a<h.objs.size:=(x a o e).lt
theorem bY.fresh(x:bY P w H h)(e:h.objs.size<=a):H a=none:=by
 cases q:H a with
 |none=>rfl|some u=>exact absurd (Nat.lt_of_lt_of_le (x.lt q) e) (Nat.lt_irrefl _)
theorem bY.kept(x:bY P w H h)(k:∀b u,h.get? b=some u->h'.get? b=some u):bY P w H h':=λa o e=>
 (x a o e).gQ (λb u _ q=>k b u q) (λ_ q=>q) λ_ _ q=>q
theorem bY.laid(x:bY P w H h)(k:∀b u,h.get? b=some u->h'.get? b=some u)(hp:h.objs.size<=a)(new:cX P w (aJ H a o) h' a o):bY P w (aJ H a o) h':=λb u e=>by
 have hn:=x.fresh hp;by_cases hb:b=a
 .subst hb;rw[dN]at e;cases e;exact new
 .rw[aR hb]at e;exact(x b u e).gQ (λc v _ q=>k c v q) (λc q=>by rw[aR (dW q hn)];exact q) λc xs q=>by rw[aR (dW q hn)];exact q
end
def Rd(H:Hp)(a:Addr)(u:HO):Prop:=H a=some u\/∃o,H a=some (.bH o u)
theorem Rd.ok{P:Program}{w:World}{H:Hp}{h:Heap}{a:Addr}{u:HO}(r:Rd H a u)(x:bY P w H h):cX P w H h a u:=by
 rcases r with r|⟨o,r⟩
 .exact x a u r
 .obtain⟨_,q⟩:=x a _ r;exact q
def yI:Option HO->Prop
 |some (.lst _)=>True
 |some (.dK _)=>True
 |some (.dT _)=>True
 |some (.set _ _)=>True
 |some (.ins _ _ _)=>True
 |some (.ext _)=>True
 |_=>False
section
variable {P:Program}{w:World}{H:Hp}{h h':Heap}{x e:Addr}{o':HO}
theorem bY.write(ok:bY P w H h)(mu:yI (H x))(he:e=x\/H e=some (.own x))(k:∀b u,b≠e->h.get? b=some u->h'.get? b=some u)(heo:∃u,h'.get? e=some u)
  (new:cX P w (aJ H x o') h' x o'):bY P w (aJ H x o') h':=λb u q=>by
 have nown:∀c y,H c=some (.own y)->c≠x:=λc y r z=>by subst z;rw[r]at mu;exact mu
 have ntup:∀c xs,H c=some (.tup xs)->c≠x:=λc xs r z=>by subst z;rw[r]at mu;exact mu
 by_cases hb:b=x
 .subst hb;rw[dN]at q;cases q;exact new
 .rw[aR hb]at q;by_cases hbe:b=e
  .have q':H b=some (.own x):=by
    rcases he with z|z
    .exact absurd (hbe.trans z) hb
    .rw[hbe];exact z
   rw[q]at q';cases q';obtain⟨v,hv⟩:=heo;exact⟨v,by rw[hbe];exact hv⟩
  .refine(ok b u q).gQ (λc v hc r=>k c v ?_ r) (λc r=>by rw[aR (nown c b r)];exact r) λc xs r=>by rw[aR (ntup c xs r)];exact r
   rcases hc with rfl|hc
   .exact hbe
   .rintro rfl
    rcases he with z|z
    .exact nown c b hc z
    .rw[hc]at z;cases z;exact hb rfl
end
structure Un(fs ex:List Addr)(H H':Hp)(h h':Heap):Prop where
 keep:∀b o,h.get? b=some o->H b=none->b∉fs->b∉ex->h'.get? b=some o
 slot:∀b o,h.get? b=some o->H b=none->b∈fs->b∉ex->∃sl,h'.get? b=some { o with slots:=sl }
 free:∀b o,h.get? b=some o->H b=none->b∉ex->H' b=none
 there:∀b o,h.get? b=some o->b∉ex->∃o',h'.get? b=some o'
 iQ:∀b xs,H b=some (.tup xs)->H' b=some (.tup xs)
 gK:∀b o u,H b=some (.bH o u)->H' b=some (.bH o u)
 iP:∀b ps,H b=some (.vJ ps)->∃more,H' b=some (.vJ (ps++more))
section
variable {fs fs' ex ex':List Addr}{H H1 H2:Hp}{h h1 h2 h':Heap}{a x e:Addr}{o:HO}
theorem Un.any(u:Un fs ex H H1 h h1){b:Addr}{ob:Obj}(q:h.get? b=some ob)(n:H b=none)(hx:b∉ex):∃sl,h1.get? b=some { ob with slots:=sl }:=by
 by_cases hb:b∈fs
 .exact u.slot b ob q n hb hx
 .exact⟨ob.slots,u.keep b ob q n hb hx⟩
theorem Un.kept(k:∀b u,h.get? b=some u->h'.get? b=some u):Un fs ex H H h h':=
 ⟨λb ob q _ _ _=>k b ob q,λb ob q _ _ _=>⟨ob.slots,k b ob q⟩,λ_ _ _ n _=>n,λb ob q _=>⟨ob,k b ob q⟩,λ_ _ q=>q,λ_ _ _ q=>q,λ_ ps q=>⟨#[],by rw[q];simp⟩⟩
theorem Un.refl:Un fs ex H H h h:=Un.kept λ_ _ q=>q
theorem Un.laid(k:∀b u,h.get? b=some u->h'.get? b=some u)(hp:h.objs.size<=a)(hn:H a=none):Un fs ex H (aJ H a o) h h' where
 keep:=λb u q _ _ _=>k b u q
 slot:=λb u q _ _ _=>⟨u.slots,k b u q⟩
 free:=λb u q n _=>by rw[aR (Nat.ne_of_lt (Nat.lt_of_lt_of_le (Heap.lt_size q) hp))];exact n
 there:=λb u q _=>⟨u,k b u q⟩
 iQ:=λb xs q=>by rw[aR (dW q hn)];exact q
 gK:=λb u xs q=>by rw[aR (dW q hn)];exact q
 iP:=λb ps q=>⟨#[],by rw[aR (dW q hn),q];simp⟩
theorem Un.write(mu:yI (H x))(he:e=x\/H e=some (.own x))(k:∀b u,b≠e->h.get? b=some u->h'.get? b=some u)(heo:∃u,h'.get? e=some u):Un fs ex H (aJ H x o) h h':=by
 have hx:∀b,H b=none->b≠x:=λb n z=>by subst z;rw[n]at mu;exact mu
 have hb:∀b,H b=none->b≠e:=λb n z=>by
  subst z;rcases he with r|r
  .exact hx b n r
  .rw[n]at r;cases r
 have hm:∀b u,H b=some u->¬yI (some u)->b≠x:=λb u q nm z=>by subst z;rw[q]at mu;exact nm mu
 refine⟨λb u q n _ _=>k b u (hb b n) q,λb u q n _ _=>⟨u.slots,k b u (hb b n) q⟩,λb u q n _=>by rw[aR (hx b n)];exact n,λb u q _=>?_,
  λb xs q=>by rw[aR (hm b _ q λz=>z)];exact q,λb u xs q=>by rw[aR (hm b _ q λz=>z)];exact q,λb ps q=>⟨#[],by rw[aR (hm b _ q λz=>z),q];simp⟩⟩
 by_cases hbe:b=e
 .subst hbe;exact heo
 .exact⟨u,k b u hbe q⟩
end
def wm(h:Heap)(H:Hp):List Addr:=(List.range h.objs.size).filter λa=>(H a).isSome
def qB(h:Heap)(H:Hp):Heap:=W.hideAll h (wm h H)
theorem EN(h:Heap)(H:Hp):(qB h H).objs.size=h.objs.size:=W.hideAll_size _ _
theorem EM{h:Heap}{H:Hp}{b:Addr}{o:Obj}(e:h.get? b=some o)(n:H b=none):(qB h H).get? b=some o:=
 W.hideAll_get _ e λhm=>by have q:(H b).isSome=true:=(List.mem_filter.mp hm).2;rw[n]at q;simp at q
theorem IE{h:Heap}{H:Hp}{b:Addr}{o:Obj}(e:(qB h H).get? b=some o):h.get? b=some o/\H b=none:=by
 have e':h.get? b=some o:=W.of_hideAll (wm h H) e;refine⟨e',?_⟩;cases q:H b with
 |none=>rfl|some x=>have hm:b∈wm h H:=List.mem_filter.mpr ⟨List.mem_range.mpr (Heap.lt_size e'),by simp[q]⟩;have z:(qB h H).get? b=none:=W.hideAll_none (wm h H) hm;rw[z]at e;cases e
structure Mod(K:W.Frag)(mg:Str->Option Value)(base:Heap):Prop where
 tE:K.In base
 glob:base.Ns mainGlobals mg
 blt:∃mb,base.Ns builtinsNs mb/\∀x:Str,x≠"__name__"->mb x=bootBuiltins x
 nolimit:base.NoLimit
structure Cx where
 prog:Program
 w:World
 K:W.Frag
 mg:Str->Option Value
 base:Heap
 A:Around
 N:List Str
 s₀:Shared
 H₀:Hp
 env:Env
 outer:List Env
 stack:List Env
 ex:List Addr
 fn:Str->Bool
 calm:Bool
 pn:List (Addr×Obj)
 xe:Value->Shared->Prop
def cN(l:List Env):List Addr:=l.filterMap (·.frame)
noncomputable abbrev Cx.fs(X:Cx):List Addr:=cN X.outer
def br(sc:Scope)(x:Str):Prop:=sc.names.lookup x=some .local\/sc.names.lookup x=some .cell\/sc.names.lookup x=some .free
def pK(sc:Scope)(x:Str):Prop:=sc.names.lookup x=some .local\/sc.names.lookup x=some .cell
def Xr(env:Env)(h:Heap)(m:Str->Option Value)(x:Str)(u:Value):Prop:=
 (env.kindOf x=some .local/\m x=some u)\/((env.kindOf x=some .cell\/env.kindOf x=some .free)/\∃c,env.cells.lookup x=some c/\h.IsCell c (some u))
structure Cx.Ok(X:Cx):Prop where
 mod:Mod X.K X.mg X.base
 kind:X.env.scope.kind = .function
 glob:X.env.globals=mainGlobals
 blt:X.env.builtins=builtinsNs
 above:X.s₀.heap.objs.size<=X.env.locals
 inj:∀x y c,X.env.cells.lookup x=some c->X.env.cells.lookup y=some c->x=y
 has:∀x,(X.env.kindOf x=some .cell\/X.env.kindOf x=some .free)->∃c,X.env.cells.lookup x=some c
 pN:∀x c,X.fn x=true->X.env.cells.lookup x=some c->X.s₀.heap.objs.size<=c
 hd:X.calm=true->X.A.handled=none
 frames:X.A.frames=some X.stack
 gG:X.stack=X.outer\/(X.stack=X.env::X.outer/\X.env.frame=some X.env.locals)
 pV:∀b∈X.ex,b≠X.env.locals/\∀x c,X.env.cells.lookup x=some c->c≠b
 bs:∀b o,X.base.get? b=some o->X.s₀.heap.get? b=some o/\X.H₀ b=none
 iC:X.base.objs.size<=X.s₀.heap.objs.size
 qF:∀b o,X.base.get? b=some o->b∉X.ex
 oB:∀b∈X.ex,b∉X.fs
 fX:X.s₀.heap.FunFrames X.base X.outer
 jY:∀b∈X.fs,X.H₀ b=none
structure Inv(X:Cx)(pins:List (Addr×Obj))(U:List (Option V))(H:Hp)(s:Shared):Prop where
 ok:X.Ok
 os:s.os=X.s₀.os
 bare:AllBare s.gens
 base:Un X.fs X.ex X.H₀ H X.s₀.heap s.heap
 loc:∃m,s.heap.Ns X.env.locals m/\∀(i:Nat) (x:Str) (v:V),X.N[i]?=some x->U[i]?=some (some v)->br X.env.scope x->∃u,RelV v u/\Xr X.env s.heap m x u
 cell:∀x c,X.env.cells.lookup x=some c->∃v,s.heap.IsCell c v
 free:H X.env.locals=none
 fM:∀x c,X.env.cells.lookup x=some c->H c=none
 pin:∀p∈X.pn++pins,s.heap.get? p.1=some p.2/\H p.1=none/\p.1≠X.env.locals/\p.1∉X.fs/\∀v,p.2.data ≠ .cell v
 aE:bY X.prog X.w H s.heap
 len:U.length=X.N.length
section
variable {X:Cx}{pins:List (Addr×Obj)}{U:List (Option V)}{H H':Hp}{s:Shared}{h':Heap}
theorem Cx.Ok.IC(ok:X.Ok){b:Addr}{o:Obj}(e:X.base.get? b=some o):b∉X.fs:=λhb=>by have:=(ok.fX.mem hb).1;rw[e]at this;cases this
theorem Inv.bs(I:Inv X pins U H s):∀b o,X.base.get? b=some o->s.heap.get? b=some o/\H b=none:=λb o e=>
 ⟨I.base.keep b o (I.ok.bs b o e).1 (I.ok.bs b o e).2 (I.ok.IC e) (I.ok.qF b o e),I.base.free b o (I.ok.bs b o e).1 (I.ok.bs b o e).2 (I.ok.qF b o e)⟩
theorem Inv.bk(I:Inv X pins U H s):∀b o,X.base.get? b=some o->s.heap.get? b=some o:=λb o e=>(I.bs b o e).1
theorem Inv.mod(I:Inv X pins U H s):Mod X.K X.mg X.base:=I.ok.mod
theorem Inv.bN(I:Inv X pins U H s):X.K.In s.heap:=I.ok.mod.tE.keeps I.bk
theorem Inv.lt(I:Inv X pins U H s):X.env.locals<s.heap.objs.size:=let ⟨_,hn,_⟩:=I.loc;hn.lt
theorem Inv.sz(I:Inv X pins U H s):X.s₀.heap.objs.size<=s.heap.objs.size:=Nat.le_trans I.ok.above (Nat.le_of_lt I.lt)
theorem Inv.Ox(I:Inv X pins U H s){a:Addr}(h:s.heap.objs.size<=a):a∉X.fs:=λhb=>by obtain⟨_,o,ho,_⟩:=I.ok.fX.mem hb;exact absurd (Nat.lt_of_lt_of_le (Heap.lt_size ho) (Nat.le_trans I.sz h)) (Nat.lt_irrefl _)
theorem Inv.lQ(I:Inv X pins U H s):∀x c,X.env.cells.lookup x=some c->c≠X.env.locals:=λx c e z=>by obtain⟨v,o,ho,hd⟩:=I.cell x c e;obtain⟨m,⟨o',es,ep,ho',hd',_⟩,_⟩:=I.loc;rw[z,ho']at ho;cases ho;rw[hd']at hd;cases hd
theorem Inv.fX(I:Inv X pins U H s):s.heap.FunFrames X.base X.outer:=by
 have all:∀(l:List Env),(∀b∈cN l,b∈X.fs)->X.s₀.heap.FunFrames X.base l->s.heap.FunFrames X.base l:=by
  intro l;induction l with
  |nil=>intro _ _;trivial|cons env r ih=>intro hs hl;obtain⟨hk,⟨L,o,hf,hn,ho,hd⟩,hr⟩:=hl;have hL:L∈X.fs:=hs L (by unfold cN;rw[List.filterMap_cons,hf];exact List.mem_cons_self);obtain⟨sl,e⟩:=I.base.slot L o ho (I.ok.jY L hL) hL λz=>I.ok.oB L z hL;exact⟨hk,⟨L,_,hf,hn,e,hd⟩,ih (λb hb=>hs b (by unfold cN;rw[List.filterMap_cons,hf];exact List.mem_cons_of_mem _ hb)) hr⟩
 exact all X.outer (λ_ hb=>hb) I.ok.fX
theorem Inv.stack(I:Inv X pins U H s):s.heap.FunFrames X.base X.stack:=by
 rcases I.ok.gG with e|⟨e,hf⟩
 .rw[e];exact I.fX
 .rw[e];obtain⟨m,hn,_⟩:=I.loc;refine .cons (by rw[I.ok.kind];decide) hf hn ?_ I.fX;exact Heap.get?_none_of_le (Nat.le_trans I.ok.iC I.ok.above)
theorem Inv.ij(I:Inv X pins U H s):∀b∈cN X.stack,b∈X.env.locals::X.fs:=λb hb=>by
 rcases I.ok.gG with e|⟨e,hf⟩
 .rw[e]at hb;exact List.mem_cons_of_mem _ hb
 .rw[e]at hb;unfold cN at hb;rw[List.filterMap_cons,hf]at hb;exact hb
theorem Inv.aw(I:Inv X pins U H s):∀b∈cN X.stack,H b=none:=λb hb=>by
 rcases List.mem_cons.mp (I.ij b hb)with e|hb
 .rw[e];exact I.free
 .obtain⟨_,o,ho,_⟩:=I.ok.fX.mem hb;exact I.base.free b o ho (I.ok.jY b hb) λz=>I.ok.oB b z hb
theorem Inv.step{g':Array GenState}{t':Nat}{d':Drawn}{ch:List Addr}(I:Inv X pins U H s)
  (hch:∀b∈ch,(b∈X.ex\/X.s₀.heap.objs.size<=b)/\b≠X.env.locals/\(∀x c,X.env.cells.lookup x=some c->c≠b)/\∀p∈X.pn++pins,p.1≠b)
  (keep:∀b o,b≠X.env.locals->b∉X.fs->b∉ch->s.heap.get? b=some o->H b=none->h'.get? b=some o)
  (slot:∀b o,b≠X.env.locals->b∈X.fs->b∉ch->s.heap.get? b=some o->H b=none->∃sl,h'.get? b=some { o with slots:=sl }) (free:∀b o,b∉ch->s.heap.get? b=some o->H b=none->H' b=none)
  (there:∀b o,b∉ch->s.heap.get? b=some o->∃o',h'.get? b=some o')
  (iQ:∀b xs,H b=some (.tup xs)->H' b=some (.tup xs)) (gK:∀b o u,H b=some (.bH o u)->H' b=some (.bH o u)) (iP:∀b ps,H b=some (.vJ ps)->∃more,H' b=some (.vJ (ps++more)))
  (ns:∀m,s.heap.Ns X.env.locals m->h'.Ns X.env.locals m) (aE:bY X.prog X.w H' h') (hg:AllBare g') :
  Inv X pins U H' { s with heap:=h',gens:=g',drawn:=d',toks:=t' }:=by
 have neL:∀b o,X.s₀.heap.get? b=some o->b≠X.env.locals:=λb o e=>Nat.ne_of_lt (Nat.lt_of_lt_of_le (Heap.lt_size e) I.ok.above);have neC:∀b o,X.s₀.heap.get? b=some o->b∉X.ex->b∉ch:=λb o e hx hb=>by
  rcases(hch b hb).1 with z|z
  .exact hx z
  .exact absurd (Nat.lt_of_lt_of_le (Heap.lt_size e) z) (Nat.lt_irrefl _)
 have cellK:∀x c,X.env.cells.lookup x=some c->∀v,s.heap.IsCell c v->h'.IsCell c v:=λx c e v ⟨o,ho,hd⟩=>by
  have nch:c∉ch:=λz=>(hch c z).2.2.1 x c e rfl;by_cases hc:c∈X.fs
  .obtain⟨sl,q⟩:=slot c o (I.lQ x c e) hc nch ho (I.fM x c e);exact⟨_,q,hd⟩
  .exact⟨o,keep c o (I.lQ x c e) hc nch ho (I.fM x c e),hd⟩
 refine⟨I.ok,I.os,hg,⟨λb o e n hb hx=>?_,λb o e n hb hx=>?_,λb o e n hx=>?_,λb o e hx=>?_,λb xs e=>iQ b xs (I.base.iQ b xs e),λb o xs e=>gK b o xs (I.base.gK b o xs e),λb ps e=>?_⟩,?_,λx c e=>?_,?_,λx c e=>?_,λp hp=>?_,aE,I.len⟩
 .exact keep b o (neL b o e) hb (neC b o e hx) (I.base.keep b o e n hb hx) (I.base.free b o e n hx)
 .obtain⟨sl,e1⟩:=I.base.slot b o e n hb hx;obtain⟨sl',e2⟩:=slot b _ (neL b o e) hb (neC b o e hx) e1 (I.base.free b o e n hx);exact⟨sl',e2⟩
 .obtain⟨o',e1⟩:=I.base.there b o e hx;exact free b o' (neC b o e hx) e1 (I.base.free b o e n hx)
 .obtain⟨o',e1⟩:=I.base.there b o e hx;exact there b o' (neC b o e hx) e1
 .obtain⟨m1,e1⟩:=I.base.iP b ps e;obtain⟨m2,e2⟩:=iP b _ e1;exact⟨m1++m2,by rw[e2,Array.append_assoc]⟩
 .obtain⟨m,hn,hl⟩:=I.loc;refine⟨m,ns m hn,λi x v e1 e2 e3=>?_⟩;obtain⟨u,r,l⟩:=hl i x v e1 e2 e3;refine⟨u,r,?_⟩;rcases l with l|⟨k,c,e,z⟩
  .exact .inl l
  .exact .inr ⟨k,c,e,cellK x c e _ z⟩
 .obtain⟨v,z⟩:=I.cell x c e;exact⟨v,cellK x c e v z⟩
 .obtain⟨m,⟨o,_,_,ho,_⟩,_⟩:=I.loc;exact free _ o (λz=>(hch _ z).2.1 rfl) ho I.free
 .obtain⟨v,o,ho,hd⟩:=I.cell x c e;exact free c o (λz=>(hch c z).2.2.1 x c e rfl) ho (I.fM x c e)
 .obtain⟨e,n,ne,nf,d⟩:=I.pin p hp;have nch:p.1∉ch:=λz=>(hch p.1 z).2.2.2 p hp rfl;exact⟨keep p.1 p.2 ne nf nch e n,free p.1 p.2 nch e n,ne,nf,d⟩
theorem Inv.un{t':Nat}(I:Inv X pins U H s)(u:Un X.fs [] H H' s.heap h')(aE:bY X.prog X.w H' h'):Inv X pins U H' { s with heap:=h',toks:=t' }:=by
 obtain⟨m,⟨o,es,ep,ho,r⟩,_⟩:=id I.loc;obtain⟨sl,hL⟩:=u.any ho I.free (by simp);exact I.step (g':=s.gens) (d':=s.drawn) (ch:=[]) (λ_ z=>nomatch z) (λb o _ hb _ e n=>u.keep b o e n hb (by simp)) (λb o _ hb _ e n=>u.slot b o e n hb (by simp)) (λb o _ e n=>u.free b o e n (by simp)) (λb o _ e=>u.there b o e (by simp)) u.iQ u.gK u.iP (λm' hm=>by obtain⟨o',es',ep',ho',r'⟩:=hm;rw[ho]at ho';cases ho';exact⟨_,es',ep',hL,r'⟩) aE I.bare
theorem Inv.call{g':Array GenState}{t':Nat}{d':Drawn}{ch:List Addr}(I:Inv X pins U H s)(u:Un (cN X.stack) ch H H' s.heap h')(aE:bY X.prog X.w H' h')(hg:AllBare g')
  (hch:∀b∈ch,(b∈X.ex\/X.s₀.heap.objs.size<=b)/\b≠X.env.locals/\(∀x c,X.env.cells.lookup x=some c->c≠b)/\∀p∈X.pn++pins,p.1≠b) :
  Inv X pins U H' { s with heap:=h',gens:=g',drawn:=d',toks:=t' }:=by
 obtain⟨m,⟨o,es,ep,ho,r⟩,_⟩:=id I.loc;obtain⟨sl,hL⟩:=u.any ho I.free λz=>(hch _ z).2.1 rfl;exact I.step (ch:=ch) hch (λb o hL hb hc e n=>u.keep b o e n (λz=>(List.mem_cons.mp (I.ij b z)).elim hL hb) hc) (λb o _ _ hc e n=>u.any e n hc) (λb o hc e n=>u.free b o e n hc) (λb o hc e=>u.there b o e hc) u.iQ u.gK u.iP (λm' hm=>by obtain⟨o',es',ep',ho',r'⟩:=hm;rw[ho]at ho';cases ho';exact⟨_,es',ep',hL,r'⟩) aE hg
theorem Inv.turned{t':Nat}{it:Addr}(I:Inv X pins U H s)(k:∀b o,b≠it->s.heap.get? b=some o->h'.get? b=some o)(hn:H it=none)(hL:it≠X.env.locals)
  (h1:it∈X.ex\/X.s₀.heap.objs.size<=it) (h2:∀x c,X.env.cells.lookup x=some c->c≠it) (h3:∀p∈X.pn++pins,p.1≠it):Inv X pins U H { s with heap:=h',toks:=t' }:=by
 have nit:∀b u,H b=some u->b≠it:=λb u e z=>by rw[z,hn]at e;cases e
 refine I.step (g':=s.gens) (d':=s.drawn) (ch:=[it]) (λb hb=>?_) (λb o _ _ hc e _=>k b o (λz=>hc (by simp[z])) e) (λb o _ _ hc e _=>⟨o.slots,k b o (λz=>hc (by simp[z])) e⟩) (λ_ _ _ _ n=>n)
  (λb o hc e=>⟨o,k b o (λz=>hc (by simp[z])) e⟩) (λ_ _ e=>e) (λ_ _ _ e=>e) (λb ps e=>⟨#[],by rw[e];simp⟩) (λm hm=>?_) (λb u e=>?_) I.bare
 .have e:b=it:=by simpa using hb
  subst e;exact⟨h1,hL,h2,h3⟩
 .obtain⟨o,es,ep,ho,r⟩:=hm;exact⟨o,es,ep,k _ o (Ne.symm hL) ho,r⟩
 .refine(I.aE b u e).gQ (λc v hc q=>k c v ?_ q) (λ_ q=>q) λ_ _ q=>q;rcases hc with z|z
  .rw[z];exact nit b u e
  .exact nit c _ z
theorem Inv.tok(I:Inv X pins U H s)(t:Nat):Inv X pins U H { s with toks:=t }:=I.un (h':=s.heap) (t':=t) Un.refl I.aE
theorem Inv.kept{t':Nat}(I:Inv X pins U H s)(k:∀b u,s.heap.get? b=some u->h'.get? b=some u):Inv X pins U H { s with heap:=h',toks:=t' }:=I.un (Un.kept k) (I.aE.kept k)
theorem Inv.laid{a:Addr}{o:HO}{t':Nat}(I:Inv X pins U H s)(k:∀b u,s.heap.get? b=some u->h'.get? b=some u)(hp:s.heap.objs.size<=a)(new:cX X.prog X.w (aJ H a o) h' a o) :
 Inv X pins U (aJ H a o) { s with heap:=h',toks:=t' }:=I.un (Un.laid k hp (I.aE.fresh hp)) (I.aE.laid k hp new)
theorem Inv.write{x e:Addr}{o:HO}{t':Nat}(I:Inv X pins U H s)(mu:yI (H x))(he:e=x\/H e=some (.own x))(k:∀b u,b≠e->s.heap.get? b=some u->h'.get? b=some u)(heo:∃u,h'.get? e=some u)
 (new:cX X.prog X.w (aJ H x o) h' x o):Inv X pins U (aJ H x o) { s with heap:=h',toks:=t' }:=I.un (Un.write mu he k heo) (I.aE.write mu he k heo new)
theorem Inv.oQ{pins':List (Addr×Obj)}(I:Inv X pins U H s)(h:∀p∈pins',s.heap.get? p.1=some p.2/\H p.1=none/\p.1≠X.env.locals/\p.1∉X.fs/\∀v,p.2.data ≠ .cell v):Inv X pins' U H s:=
 ⟨I.ok,I.os,I.bare,I.base,I.loc,I.cell,I.free,I.fM,λp hp=>(List.mem_append.mp hp).elim (λz=>I.pin p (List.mem_append_left _ z)) (h p),I.aE,I.len⟩
theorem Bg{N:List Str}(hN:N.Nodup){i j:Nat}{x:Str}(a:N[i]?=some x)(b:N[j]?=some x):i=j:=by obtain⟨h1,e1⟩:=List.getElem?_eq_some_iff.mp a;obtain⟨h2,e2⟩:=List.getElem?_eq_some_iff.mp b;exact(List.getElem_inj hN).mp (e1.trans e2.symm)
theorem XW{M:Model}{A:Around}{E:Value->Shared->Prop}{i:Nat}{x:Str}{v:V}{u:Value}{Q:Unit->Shared->Prop}(I:Inv X pins U H s)(hN:X.N.Nodup)(hi:X.N[i]?=some x)(hx:pK X.env.scope x)(r:RelV v u)
  (h:∀s',Inv X pins (U.set i (some v)) H s'->(∃a,Heap.SameBut a s.heap s'.heap/\(a=X.env.locals\/X.env.cells.lookup x=some a))->Q () s') (hf:X.fn x=true\/X.env.scope.names.lookup x=some .local:=by first|exact .inl rfl|exact .inr rfl|assumption):wpAny M A (storeName X.env x u) Q E s:=by
 obtain⟨m,hn,hl⟩:=id I.loc;have hcls:(X.env.scope.kind == .class||(X.env.scope.kind == .module&&X.env.locals != X.env.globals))=false:=by rw[I.ok.kind];rfl
 have hiU:i<U.length:=by rw[I.len];exact(List.getElem?_eq_some_iff.mp hi).1
 have lQ:=I.lQ;have tracked:∀{a:Addr} {h':Heap},(∃o,s.heap.get? a=some o/\H a=none)->Heap.SameBut a s.heap h'->bY X.prog X.w H h':=λ{a h'} ha hs b ob e=>by
  obtain⟨_,_,hfree⟩:=ha;refine(I.aE b ob e).gQ (λc w' hc q=>(hs.2 c ?_).trans q) (λ_ q=>q) λ_ _ q=>q;rintro rfl
  rcases hc with rfl|hc
  .rw[hfree]at e;cases e
  .rw[hfree]at hc;cases hc
 rcases hx with hk|hk
 .refine wpAny_storeName_local hk hn (λh' hn' hs=>?_) hcls;obtain⟨oL,_,_,hoL,_⟩:=id hn;refine h _ ⟨I.ok,I.os,I.bare,⟨λb o e n hb hx=>?_,λb o e n hb hx=>?_,I.base.free,λb o e hx=>?_,I.base.iQ,I.base.gK,I.base.iP⟩,⟨_,hn',λj y v' e1 e2 e3=>?_⟩,λy c e=>?_,I.free,I.fM,λp hp=>?_,tracked ⟨oL,hoL,I.free⟩ hs,by simpa using I.len⟩ ⟨_,hs,.inl rfl⟩
  .exact(hs.2 b (Nat.ne_of_lt (Nat.lt_of_lt_of_le (Heap.lt_size e) I.ok.above))).trans (I.base.keep b o e n hb hx)
  .obtain⟨sl,e1⟩:=I.base.slot b o e n hb hx;exact⟨sl,(hs.2 b (Nat.ne_of_lt (Nat.lt_of_lt_of_le (Heap.lt_size e) I.ok.above))).trans e1⟩
  .obtain⟨o',e1⟩:=I.base.there b o e hx;exact⟨o',(hs.2 b (Nat.ne_of_lt (Nat.lt_of_lt_of_le (Heap.lt_size e) I.ok.above))).trans e1⟩
  .by_cases hj:j=i
   .subst hj;rw[hi]at e1;cases e1;rw[List.getElem?_set_self hiU]at e2;cases e2;exact⟨u,r,.inl ⟨hk,by simp⟩⟩
   .rw[List.getElem?_set_ne (Ne.symm hj)]at e2;obtain⟨u',r',q⟩:=hl j y v' e1 e2 e3;refine⟨u',r',?_⟩;rcases q with⟨k,e⟩|⟨k,c,e,z⟩
    .refine .inl ⟨k,?_⟩;have:y≠x:=λe=>hj (Bg hN e1 (e▸hi));simp[this,e]
    .exact .inr ⟨k,c,e,z.sameBut hs (lQ y c e)⟩
  .obtain⟨w',z⟩:=I.cell y c e;exact⟨w',z.sameBut hs (lQ y c e)⟩
  .obtain⟨e,n,ne,nf,d⟩:=I.pin p hp;exact⟨(hs.2 p.1 ne).trans e,n,ne,nf,d⟩
 .have hfn:X.fn x=true:=by
   rcases hf with z|z
   .exact z
   .rw[z]at hk;cases hk
  obtain⟨c,hc⟩:=I.ok.has x (.inl hk);obtain⟨w',z⟩:=I.cell x c hc;refine wpAny_storeName_cell I.ok.kind hk hc z (λh' hc' hs=>?_);obtain⟨oc,hoc,hocd⟩:=id z;refine h { s with heap:=h' } ⟨I.ok,I.os,I.bare,⟨λb o e n hb hx=>?_,λb o e n hb hx=>?_,I.base.free,λb o e hx=>?_,I.base.iQ,I.base.gK,I.base.iP⟩,⟨m,hn.sameBut hs (Ne.symm (lQ x c hc)),λj y v' e1 e2 e3=>?_⟩,λy c' e=>?_,I.free,I.fM,λp hp=>?_,tracked ⟨oc,hoc,I.fM x c hc⟩ hs,by simpa using I.len⟩ ⟨c,hs,.inr hc⟩
  .exact(hs.2 b (Nat.ne_of_lt (Nat.lt_of_lt_of_le (Heap.lt_size e) (I.ok.pN x c hfn hc)))).trans (I.base.keep b o e n hb hx)
  .obtain⟨sl,e1⟩:=I.base.slot b o e n hb hx;exact⟨sl,(hs.2 b (Nat.ne_of_lt (Nat.lt_of_lt_of_le (Heap.lt_size e) (I.ok.pN x c hfn hc)))).trans e1⟩
  .obtain⟨o',e1⟩:=I.base.there b o e hx;exact⟨o',(hs.2 b (Nat.ne_of_lt (Nat.lt_of_lt_of_le (Heap.lt_size e) (I.ok.pN x c hfn hc)))).trans e1⟩
  .by_cases hj:j=i
   .subst hj;rw[hi]at e1;cases e1;rw[List.getElem?_set_self hiU]at e2;cases e2;exact⟨u,r,.inr ⟨.inl hk,c,hc,hc'⟩⟩
   .rw[List.getElem?_set_ne (Ne.symm hj)]at e2;obtain⟨u',r',q⟩:=hl j y v' e1 e2 e3;refine⟨u',r',?_⟩;rcases q with q|⟨k,c',e,z'⟩
    .exact .inl q
    .refine .inr ⟨k,c',e,z'.sameBut hs ?_⟩;rintro rfl
     exact hj (Bg hN e1 (I.ok.inj _ _ _ e hc▸hi))
  .by_cases hcc:c'=c
   .subst hcc;exact⟨_,hc'⟩
   .obtain⟨w2,z2⟩:=I.cell y c' e;exact⟨w2,z2.sameBut hs hcc⟩
  .obtain⟨e,n,ne,nf,d⟩:=I.pin p hp;refine⟨(hs.2 p.1 ?_).trans e,n,ne,nf,d⟩;intro q;rw[q,hoc]at e;have q':oc=p.2:=Option.some.inj e;exact d w' (by rw[<- q'];exact hocd)
theorem vy{M:Model}{A:Around}{E:Value->Shared->Prop}{i:Nat}{x:Str}{v:V}{u:Value}{Q:Unit->Shared->Prop}(I:Inv X pins U H s)(hN:X.N.Nodup)(hi:X.N[i]?=some x)(hx:pK X.env.scope x)(r:RelV v u)
  (h:∀s',Inv X pins (U.set i (some v)) H s'->Q () s') (hf:X.fn x=true\/X.env.scope.names.lookup x=some .local:=by first|exact .inl rfl|exact .inr rfl|assumption):wpAny M A (storeName X.env x u) Q E s:=
 XW I hN hi hx r (λs' I' _=>h s' I') hf
theorem Inv.Kq{s':Shared}{ch:List Addr}(I:Inv X pins U H s)(ho:s'.os=s.os)(u:Un (cN X.stack) ch H H' s.heap s'.heap)(aE:bY X.prog X.w H' s'.heap)(hg:AllBare s'.gens)
  (hch:∀b∈ch,(b∈X.ex\/X.s₀.heap.objs.size<=b)/\b≠X.env.locals/\(∀x c,X.env.cells.lookup x=some c->c≠b)/\∀p∈X.pn++pins,p.1≠b):Inv X pins U H' s':=by
 obtain⟨h',g',d',t',o'⟩:=s';have e:o'=s.os:=ho;subst e;exact I.call (g':=g') (t':=t') (d':=d') u aE hg hch
end
abbrev XK:=Value->Option Addr->Hp->Prop
abbrev St:=List (Option V)
abbrev VK:=V->Hp->Prop
abbrev TE:=St->Hp->VK->Prop
abbrev TT:=St->Hp->(Bool->Hp->Prop)->Prop
abbrev TA:=St->Hp->(List V->Hp->Prop)->Prop
structure Ends where
 nx:St->Hp->Prop
 rt:VK
 bk:St->Hp->Prop:=λ_ _=>False
 ct:St->Hp->Prop:=λ_ _=>False
abbrev TS:=Ends->St->Hp->Prop
def EP(X:Cx)(pins:List (Addr×Obj))(U:St)(Q:VK)(u:Value)(s':Shared):Prop:=∃v H',Inv X pins U H' s'/\RelV v u/\Q v H'
def TP(X:Cx)(pins:List (Addr×Obj))(U:St)(Q:Bool->Hp->Prop)(b:Bool)(s':Shared):Prop:=∃H',Inv X pins U H' s'/\Q b H'
def AP(X:Cx)(pins:List (Addr×Obj))(U:St)(Q:List V->Hp->Prop)(us:List Value)(s':Shared):Prop:=∃vs H',Inv X pins U H' s'/\Vals vs us/\Q vs H'
def SP(X:Cx)(pins:List (Addr×Obj))(D:Ends)(f:Flow)(s':Shared):Prop:=
 match f with
 |.next=>∃U' H',Inv X pins U' H' s'/\D.nx U' H'
 |.brk=>∃U' H',Inv X pins U' H' s'/\D.bk U' H'
 |.cont=>∃U' H',Inv X pins U' H' s'/\D.ct U' H'
 |.ret u=>∃v U' H',Inv X pins U' H' s'/\RelV v u/\D.rt v H'
def PE(X:Cx)(e:Expr)(t:TE):Prop:=
 ∀(pins:List (Addr×Obj)) (s:Shared) (U:St) (H:Hp) (Q:VK),Inv X pins U H s->t U H Q->wpAny (model X.prog X.w) X.A (eval e X.env) (EP X pins U Q) X.xe s
def PT(X:Cx)(e:Expr)(t:TT):Prop:=
 ∀(pins:List (Addr×Obj)) (s:Shared) (U:St) (H:Hp) (Q:Bool->Hp->Prop),Inv X pins U H s->t U H Q->wpAny (model X.prog X.w) X.A (isTrue e X.env (eval e X.env)) (TP X pins U Q) X.xe s
def PW(X:Cx)(e:Expr)(t:TT):Prop:=
 ∀(whole:Sem Value) (pins:List (Addr×Obj)) (s:Shared) (U:St) (H:Hp) (Q:Bool->Hp->Prop),Inv X pins U H s->t U H Q->wpAny (model X.prog X.w) X.A (isTrue e X.env whole) (TP X pins U Q) X.xe s
theorem PW.pt{X:Cx}{e:Expr}{t:TT}(h:PW X e t):PT X e t:=h _
def PA(X:Cx)(es:List Expr)(t:TA):Prop:=
 ∀(pos:Pos) (pins:List (Addr×Obj)) (s:Shared) (U:St) (H:Hp) (Q:List V->Hp->Prop),Inv X pins U H s->t U H Q->wpAny (model X.prog X.w) X.A (spliced (backTo pos (starEach es X.env))) (AP X pins U Q) X.xe s
def PS(X:Cx)(st:Stmt)(t:TS):Prop:=
 ∀(pins:List (Addr×Obj)) (s:Shared) (U:St) (H:Hp) (D:Ends),Inv X pins U H s->t D U H->wpAny (model X.prog X.w) X.A (exec st X.env) (SP X pins D) X.xe s
def hZ(X:Cx)(st:List Stmt)(t:TS):Prop:=
 ∀(pins:List (Addr×Obj)) (s:Shared) (U:St) (H:Hp) (D:Ends),Inv X pins U H s->t D U H->wpAny (model X.prog X.w) X.A (execs st X.env) (SP X pins D) X.xe s
theorem aN{α:Type}{t:Sem α}{Q Q':α->Shared->Prop}{M:Model}{A:Around}{E:Value->Shared->Prop}{s:Shared}(h:wpAny M A t Q E s)(hQ:∀a s,Q a s->Q' a s):wpAny M A t Q' E s:=wpAny_mono h hQ λ_ _ x=>x
section
variable {X:Cx}
def ZA(i:Nat):TE:=λU H Q=>∃v,U[i]?=some (some v)/\Q v H
def tC(v:V):TE:=λ_ H Q=>Q v H
theorem LW{i:Nat} {x:Str} {pos:Pos} (hN:X.N[i]?=some x) (hv:br X.env.scope x) (hd:(x==("__debug__":Str))=false:=by decide) (hcd:(x==("__classdict__":Str))=false:=by decide):PE X (.Name x pos) (ZA i):=by
 intro pins s U H Q I h;obtain⟨v,e,h⟩:=h;obtain⟨m,hn,hl⟩:=I.loc;obtain⟨u,r,l⟩:=hl i x v hN e hv;have fin:EP X pins U Q u s:=⟨v,H,I,r,h⟩;rcases l with⟨hk,hm⟩|⟨hk,c,hc,hcell⟩
 .exact wpAny_Name (wpAny_loadName_local I.ok.kind hk hn hm fin) hd
 .rcases hk with hk|hk
  .exact wpAny_Name (wpAny_loadName_cell I.ok.kind hk hc hcell fin) hd
  .exact wpAny_Name (wpAny_loadName_free I.ok.kind hk hc hcell fin hcd) hd
theorem Bl{i j pos}:PE X (.Constant (.int i) j pos) (tC (.int i)):=λ_ _ _ H _ I h=>wpAny_Constant_int ⟨.int i,H,I.tok _,⟨_,rfl⟩,h⟩
theorem mx{b j pos}:PE X (.Constant (.bool b) j pos) (tC (.bl b)):=λ_ _ _ H _ I h=>Constant_bool ⟨.bl b,H,I,rfl,h⟩
theorem my{j pos}:PE X (.Constant .none j pos) (tC .aC):=λ_ _ _ H _ I h=>Constant_none ⟨.aC,H,I,rfl,h⟩
theorem Bm{x j pos}:PE X (.Constant (.str x) j pos) (tC (.str x)):=λ_ _ _ H _ I h=>Calls.Constant_str ⟨.str x,H,I.tok _,⟨_,rfl⟩,h⟩
def Gl(X:Cx)(x:Str):Prop:=X.env.kindOf x=some .globalImplicit
theorem qE{E:Value->Shared->Prop}{pins:List (Addr×Obj)}{s:Shared}{U:St}{H:Hp}{x:Str}{u:Value}{pos:Pos}{Q:Value->Shared->Prop}(I:Inv X pins U H s)(hg:Gl X x)(hm:X.mg x=some u)(h:Q u s)
  (hd:(x==("__debug__":Str))=false:=by decide):wpAny (model X.prog X.w) X.A (eval (.Name x pos) X.env) Q E s:=
 Calls.Name_function_global I.ok.kind hg (Calls.loadGlobal_global (by rw[I.ok.glob];exact I.mod.glob.keeps I.bk) hm h) hd
theorem tF{E:Value->Shared->Prop}{pins:List (Addr×Obj)}{s:Shared}{U:St}{H:Hp}{x:Str}{u:Value}{pos:Pos}{Q:Value->Shared->Prop}(I:Inv X pins U H s)(hg:Gl X x)(hm:X.mg x=none)(hv:bootBuiltins x=some u)(h:Q u s)
  (hn:x≠"__name__":=by decide) (hd:(x==("__debug__":Str))=false:=by decide):wpAny (model X.prog X.w) X.A (eval (.Name x pos) X.env) Q E s:=by
 obtain⟨mb,h1,h2⟩:=I.mod.blt;exact Calls.Name_function_global I.ok.kind hg (Calls.loadGlobal_builtin (by rw[I.ok.glob];exact I.mod.glob.keeps I.bk) hm (by rw[I.ok.blt];exact h1.keeps I.bk) ((h2 x hn).trans hv) h) hd
theorem dw{x:Str} {v:V} {u:Value} {pos:Pos} (hg:Gl X x) (hm:X.mg x=some u) (r:RelV v u) (hd:(x==("__debug__":Str))=false:=by decide):PE X (.Name x pos) (tC v):=
 λ_ _ _ H _ I h=>qE I hg hm ⟨v,H,I,r,h⟩ hd
theorem Pk{x:Str} {v:V} {u:Value} {pos:Pos} (hg:Gl X x) (hm:X.mg x=none) (hv:bootBuiltins x=some u) (r:RelV v u) (hn:x≠"__name__":=by decide) (hd:(x==("__debug__":Str))=false:=by decide):PE X (.Name x pos) (tC v):=
 λ_ _ _ H _ I h=>tF I hg hm hv ⟨v,H,I,r,h⟩ hn hd
variable {a b:Expr}{ta tb:TE}{pos:Pos}
variable {tA tB':TT}{rest:List Expr}
def YC(t u:TT):TT:=λU H Q=>t U H λc H1=>if c=true then u U H1 Q else Q false H1
def YS(t u:TT):TT:=λU H Q=>t U H λc H1=>if c=true then Q true H1 else u U H1 Q
def YQ(t:TT):TT:=λU H Q=>t U H λc H1=>Q (!c) H1
theorem NV(ha:PT X a tA):PW X (.BoolOp .And [a] pos) tA:=by
 intro wh pins s U H Q I h;refine isTrue_and (aN (ha pins s U H Q I h) λc s1 e=>?_);cases c with
 |true=>exact isTrue_and_nil e|false=>exact e
theorem NX(ha:PT X a tA):PW X (.BoolOp .Or [a] pos) tA:=by
 intro wh pins s U H Q I h;refine isTrue_or (aN (ha pins s U H Q I h) λc s1 e=>?_);cases c with
 |false=>exact isTrue_or_nil e|true=>exact e
theorem NU(ha:PT X a tA)(hb:PW X (.BoolOp .And (b::rest) pos) tB'):PW X (.BoolOp .And (a::b::rest) pos) (YC tA tB'):=by
 intro wh pins s U H Q I h;refine isTrue_and (aN (ha pins s U H _ I h) λc s1 ⟨H1,I1,q1⟩=>?_);cases c with
 |true=>exact hb wh pins s1 U H1 Q I1 q1|false=>exact⟨H1,I1,q1⟩
theorem NW(ha:PT X a tA)(hb:PW X (.BoolOp .Or (b::rest) pos) tB'):PW X (.BoolOp .Or (a::b::rest) pos) (YS tA tB'):=by
 intro wh pins s U H Q I h;refine isTrue_or (aN (ha pins s U H _ I h) λc s1 ⟨H1,I1,q1⟩=>?_);cases c with
 |true=>exact⟨H1,I1,q1⟩|false=>exact hb wh pins s1 U H1 Q I1 q1
theorem NP(ha:PT X a tA):PT X (.UnaryOp .Not a pos) (YQ tA):=by intro pins s U H Q I h;exact isTrue_not (ha pins s U H (λc H1=>Q (!c) H1) I h)
theorem LO{op}{t:TE}(h:PE X a t):PE X (.BoolOp op [a] pos) t:=λpins s U H Q I hw=>BoolOp_one (h pins s U H Q I hw)
def YK(t:TT)(ta tb:TE):TE:=λU H Q=>t U H λc H1=>if c=true then ta U H1 Q else tb U H1 Q
theorem LF{c:Expr}(hc:PT X c tA)(ha:PE X a ta)(hb:PE X b tb):PE X (.IfExp c a b pos) (YK tA ta tb):=by
 intro pins s U H Q I h;refine wpAny_IfExp (aN (hc pins s U H _ I h) λd s1 ⟨H1,I1,q1⟩=>?_);cases d with
 |true=>exact ha pins s1 U H1 Q I1 q1|false=>exact hb pins s1 U H1 Q I1 q1
end
def bO(K:W.Frag)(H:Hp)(a:Addr)(xs:List V):Prop:=
 Rd H a (.lst xs) \/
  ∃(o:Obj) (its:Array Value) (n:Nat),K.lookup a=some o/\o.cls = .type "list"/\o.dict=none/\o.data = .seq its n/\its.size<=sizeLine/\Vals xs its.toList
def cU(K:W.Frag)(H:Hp)(a:Addr)(xs:List V):Prop:=
 Rd H a (.tup xs) \/
  ∃(o:Obj) (its:Array Value) (n:Nat),K.lookup a=some o/\o.cls = .type "tuple"/\o.data = .seq its n/\its.size<=sizeLine/\Vals xs its.toList
def Xv:Value->Option V
 |.none=>some .aC
 |.bool b=>some (.bl b)
 |.int i _=>some (.int i)
 |.str x _=>some (.str x)
 |.bytes b _=>some (.iD b)
 |.float b _=>some (.vV b)
 |.ref a=>some (.ref a)
 |.type n=>some (.ty n)
 |_=>none
theorem RelV.abs{x:V}{u:Value}(r:RelV x u):Xv u=some x:=by
 cases x with
 |aC=>cases r;rfl|bl _=>cases r;rfl|int _=>obtain⟨t,rfl⟩:=r;rfl|str _=>obtain⟨t,rfl⟩:=r;rfl|iD _=>obtain⟨t,rfl⟩:=r;rfl|vV _=>obtain⟨t,rfl⟩:=r;rfl|ref _=>cases r;rfl|ty _=>cases r;rfl
theorem RelV.inj{x y:V}{u:Value}(r:RelV x u)(q:RelV y u):x=y:=Option.some.inj (r.abs.symm.trans q.abs)
theorem Vals.inj:∀{xs ys:List V} {us:List Value},Vals xs us->Vals ys us->xs=ys
 |_,_,_,.nil,.nil=>rfl|_,_,_,.cons r t,.cons r' t'=>by rw[r.inj r',Vals.inj t t']
section
variable {X:Cx}{pins:List (Addr×Obj)}{U:St}{H:Hp}{s:Shared}{a:Addr}{xs ys:List V}
theorem bO.of{K:W.Frag}(h:H a=some (.lst xs)):bO K H a xs:=.inl (.inl h)
theorem cU.of{K:W.Frag}(h:H a=some (.tup xs)):cU K H a xs:=.inl (.inl h)
theorem Inv.list(I:Inv X pins U H s)(h:bO X.K H a xs):∃its:List Value,Vals xs its/\PlainL s.heap a its.toArray/\xs.length<=sizeLine:=by
 rcases h with h|⟨o,its,n,hk,hc,hd,hs,hz,r⟩
 .obtain⟨z,its,n,r,e⟩:=h.ok I.aE;exact⟨its,r,⟨_,n,e,rfl,rfl,rfl⟩,z⟩
 .refine⟨its.toList,r,⟨o,n,I.bN a o hk,hc,hd,by simpa using hs⟩,?_⟩;have e:=r.length;simp only[Array.length_toList]at e;omega
theorem Inv.tuple(I:Inv X pins U H s)(h:cU X.K H a xs):∃its:List Value,Vals xs its/\IsTup s.heap a its.toArray/\xs.length<=sizeLine:=by
 rcases h with h|⟨o,its,n,hk,hc,hs,hz,r⟩
 .obtain⟨z,its,r,p⟩:=h.ok I.aE;exact⟨its,r,p,z⟩
 .refine⟨its.toList,r,⟨o,I.bN a o hk,hc,n,by simpa using hs⟩,?_⟩;have e:=r.length;simp only[Array.length_toList]at e;omega
theorem Inv.Au(I:Inv X pins U H s)(h:bO X.K H a xs)(h':bO X.K H a ys):xs=ys:=by
 obtain⟨its,r,⟨o,n,e,_,_,d⟩,_⟩:=I.list h;obtain⟨its',r',⟨o',n',e',_,_,d'⟩,_⟩:=I.list h';rw[e]at e';cases e';rw[d]at d';injection d' with d1 _;have:its=its':=by simpa using congrArg Array.toList d1
 subst this;exact r.inj r'
theorem Inv.Wz(I:Inv X pins U H s)(h:cU X.K H a xs)(h':cU X.K H a ys):xs=ys:=by
 obtain⟨its,r,⟨o,e,_,n,d⟩,_⟩:=I.tuple h;obtain⟨its',r',⟨o',e',_,n',d'⟩,_⟩:=I.tuple h';rw[e]at e';cases e';rw[d]at d';injection d' with d1 _;have:its=its':=by simpa using congrArg Array.toList d1
 subst this;exact r.inj r'
end
abbrev Cx.qZ(X:Cx)(E:Value->Shared->Prop):Cx:={ X with xe:=E }
abbrev Cx.tJ(X:Cx):Cx:=X.qZ λ_ _=>False
theorem Cx.Ok.qZ{X:Cx}(ok:X.Ok)(E:Value->Shared->Prop):(X.qZ E).Ok:=
 ⟨ok.mod,ok.kind,ok.glob,ok.blt,ok.above,ok.inj,ok.has,ok.pN,ok.hd,ok.frames,ok.gG,ok.pV,ok.bs,ok.iC,ok.qF,ok.oB,ok.fX,ok.jY⟩
theorem Cx.Ok.Hi{X:Cx}{E:Value->Shared->Prop}(ok:(X.qZ E).Ok):X.Ok:=
 ⟨ok.mod,ok.kind,ok.glob,ok.blt,ok.above,ok.inj,ok.has,ok.pN,ok.hd,ok.frames,ok.gG,ok.pV,ok.bs,ok.iC,ok.qF,ok.oB,ok.fX,ok.jY⟩
section
variable {X:Cx}{pins:List (Addr×Obj)}{U:St}{H:Hp}{s:Shared}{E:Value->Shared->Prop}
theorem Inv.qZ(I:Inv X pins U H s)(E:Value->Shared->Prop):Inv (X.qZ E) pins U H s:=⟨I.ok.qZ E,I.os,I.bare,I.base,I.loc,I.cell,I.free,I.fM,I.pin,I.aE,I.len⟩
theorem Inv.Hi(I:Inv (X.qZ E) pins U H s):Inv X pins U H s:=⟨I.ok.Hi,I.os,I.bare,I.base,I.loc,I.cell,I.free,I.fM,I.pin,I.aE,I.len⟩
end
section
variable {X:Cx}{st:Stmt}{rest:List Stmt}{t u:TS}{e:Expr}{te:TE}{pos:Pos}
def ip:TS:=λD U H=>D.nx U H
def we(t u:TS):TS:=λD U H=>t { D with nx:=u D } U H
theorem nh:hZ X [] ip:=λ_ _ U H _ I h=>wpAny_execs_nil ⟨U,H,I,h⟩
theorem nc(h1:PS X st t)(h2:hZ X rest u):hZ X (st::rest) (we t u):=by
 intro pins s U H D I h;refine wpAny_execs_cons (aN (h1 pins s U H { D with nx:=u D } I h) λf s1 q=>?_);cases f with
 |next=>obtain⟨U',H',I',q⟩:=q;exact h2 pins s1 U' H' D I' q
 |ret v=>exact q|brk=>exact q|cont=>exact q
def YF:TS:=λD U H=>D.bk U H
def YG:TS:=λD U H=>D.ct U H
theorem ND:PS X (.Pass pos) ip:=λ_ _ U H _ I h=>wpAny_Pass ⟨U,H,I,h⟩
theorem MW:PS X (.Break pos) YF:=λ_ _ U H _ I h=>wpAny_Break ⟨U,H,I,h⟩
theorem MX:PS X (.Continue pos) YG:=λ_ _ U H _ I h=>wpAny_Continue ⟨U,H,I,h⟩
theorem Inv.quiet{pins:List (Addr×Obj)}{U:St}{H:Hp}{s:Shared}(I:Inv X pins U H s):interactive X.env=false:=by simp[interactive,I.ok.kind]
def Wb(te:TE):TS:=λD U H=>te U H λ_ H1=>D.nx U H1
theorem Po(he:PE X e te)(hs:swapsWith e none pos.line X.env=pure false:=by rfl):PS X (.Expr e pos) (Wb te):=by intro pins s U H D I h;exact wpAny_Expr_any (aN (he pins s U H _ I h) λv s1 ⟨x,H1,I1,r1,q1⟩=>⟨U,H1,I1,q1⟩) I.quiet hs
def Wi(te:TE):TS:=λD U H=>te U H D.rt
theorem Pp(he:PE X e te):PS X (.Return (some e) pos) (Wi te):=by intro pins s U H D I h;exact wpAny_Return_some (aN (he pins s U H _ I h) λv s1 ⟨x,H1,I1,r1,q1⟩=>⟨x,U,H1,I1,r1,q1⟩)
def YW:TS:=λD _ H=>D.rt .aC H
theorem NH:PS X (.Return none pos) YW:=λ_ _ U H _ I h=>wpAny_Return_none ⟨.aC,U,H,I,rfl,h⟩
def YL(c:TT)(t u:TS):TS:=λD U H=>c U H λb H1=>if b=true then t D U H1 else u D U H1
theorem NB{c:Expr}{a b:List Stmt}{tc:TT}(hc:PT X c tc)(ha:hZ X a t)(hb:hZ X b u):PS X (.If c a b pos) (YL tc t u):=by
 intro pins s U H D I h;refine wpAny_If (aN (hc pins s U H _ I h) λd s1 ⟨H1,I1,q1⟩=>?_);cases d with
 |true=>exact ha pins s1 U H1 D I1 q1|false=>exact hb pins s1 U H1 D I1 q1
def YN:TS:=λ_ _ _=>False
theorem NC:PS X st YN:=λ_ _ _ _ _ _ h=>h.elim
end
abbrev TG:=V->St->Hp->(St->Hp->Prop)->Prop
abbrev vM:=List V->St->Hp->(St->Hp->Prop)->Prop
def PG(X:Cx)(target:Expr)(t:TG):Prop:=
 ∀(pins:List (Addr×Obj)) (s:Shared) (U:St) (H:Hp) (v:V) (u:Value) (Q:St->Hp->Prop),Inv X pins U H s->RelV v u->t v U H Q ->
  wpAny (model X.prog X.w) X.A (assign target X.env u) (λ_ s'=>∃U' H',Inv X pins U' H' s'/\Q U' H') X.xe s
def bp(X:Cx)(ts:List Expr)(t:vM):Prop:=
 ∀(pins:List (Addr×Obj)) (s:Shared) (U:St) (H:Hp) (vs:List V) (us:List Value) (Q:St->Hp->Prop),Inv X pins U H s->Vals vs us->t vs U H Q ->
  wpAny (model X.prog X.w) X.A (assignInOrder ((assignEach ts X.env).map (·.2)) us) (λ_ s'=>∃U' H',Inv X pins U' H' s'/\Q U' H') X.xe s
abbrev xn:=V->V->V->Hp->(Hp->Prop)->Prop
def xk(X:Cx)(t:xn):Prop:=
 ∀(pins:List (Addr×Obj)) (s:Shared) (U:St) (H:Hp) (o i v:V) (ov iv u:Value) (Q:Hp->Prop),Inv X pins U H s->RelV o ov->RelV i iv->RelV v u->t o i v H Q ->
  wpAny (model X.prog X.w) X.A (setItem ov iv u) (λ_ s'=>∃H',Inv X pins U H' s'/\Q H') X.xe s
section
variable {X:Cx}{pos:Pos}
def kh(i:Nat):TG:=λv U H Q=>Q (U.set i (some v)) H
theorem LX{i:Nat}{x:Str}(hN:X.N.Nodup)(hi:X.N[i]?=some x)(hx:pK X.env.scope x)(hf:X.fn x=true\/X.env.scope.names.lookup x=some .local:=by first|exact .inl rfl|exact .inr rfl|assumption):PG X (.Name x pos) (kh i):=by intro pins s U H v u Q I r h;exact wpAny_assign_Name (vy I hN hi hx r (λs' I'=>⟨_,H,I',h⟩) hf)
def ED:vM:=λvs U H Q=>vs=[]/\Q U H
def EC(t:TG)(u:vM):vM:=λvs U H Q=>∃v r,vs=v::r/\t v U H λU' H'=>u r U' H' Q
theorem MC:bp X [] ED:=by intro pins s U H vs us Q I r h;obtain⟨e,h⟩:=h;subst e;cases r;exact assignInOrder_nil ⟨U,H,I,h⟩
theorem MB{e:Expr}{es:List Expr}{t:TG}{u:vM}(h1:PG X e t)(h2:bp X es u)
  (hs:(assignEach (e::es) X.env).map (·.2)=assign e X.env::(assignEach es X.env).map (·.2):=by rfl):bp X (e::es) (EC t u):=by
 intro pins s U H vs us Q I r h;obtain⟨v,vr,e1,h⟩:=h;subst e1;cases r with
 |cons r rr=>rw[hs];refine assignInOrder_cons (aN (h1 pins s U H _ _ _ I r h) λ_ s1 ⟨U1,H1,I1,q1⟩=>?_);exact h2 pins s1 U1 H1 _ _ Q I1 rr q1
def kj(to ti:TE)(t:xn):TG:=λv U H Q=>to U H λo H1=>ti U H1 λi H2=>t o i v H2 λH3=>Q U H3
theorem MA{o i:Expr}{to ti:TE}{t:xn}(ho:PE X o to)(hi:PE X i ti)(hs:xk X t)
  (ha:∀v,assign (.Subscript o i pos) X.env v=(do
   let ov <- holding [v] (eval o X.env)
   let iv <- holding [v,ov] (eval i X.env)
   standAt pos
   holding [v,ov,iv] (setItem ov iv v)
   release [v,ov,iv] []):=by intro _;rfl):PG X (.Subscript o i pos) (kj to ti t):=by
 intro pins s U H v u Q I r h;rw[ha];refine wpAny_bind (wpAny_holding (aN (ho pins s U H _ I h) λov s1 ⟨x,H1,I1,r1,q1⟩=>?_));refine wpAny_bind (wpAny_holding (aN (hi pins s1 U H1 _ I1 q1) λiv s2 ⟨y,H2,I2,r2,q2⟩=>?_));refine wpAny_bind (wpAny_standAt (wpAny_bind (wpAny_holding (aN (hs pins s2 U H2 x y v ov iv u _ I2 r1 r2 r q2) λ_ s3 ⟨H3,I3,q3⟩=>?_))));exact wpAny_release ⟨U,H3,I3,q3⟩
def vz(te:TE)(g:TG):TS:=λD U H=>te U H λx H1=>g x U H1 D.nx
theorem MV{tg e:Expr}{te:TE}{g:TG}(he:PE X e te)(hg:PG X tg g)(hs:swapsWithSole [tg] e pos.line X.env=pure false:=by rfl)(hw:swappedStores [tg] e X.env=pure none:=by rfl)
  (h1:(assignEach [tg] X.env).map (·.2)=[assign tg X.env]:=by rfl):PS X (.Assign [tg] e pos) (vz te g):=by
 intro pins s U H D I h;refine wpAny_Assign_stores (aN (he pins s U H _ I h) λv s1 ⟨x,H1,I1,r1,q1⟩=>?_) hs hw;rw[h1];exact aN (hg pins s1 U H1 x v _ I1 r1 q1) λ_ s2 q=>q
theorem NI{i:Nat}{x:Str}{e:Expr}{te:TE}{pos':Pos}(hN:X.N.Nodup)(hi:X.N[i]?=some x)(hx:pK X.env.scope x)(he:PE X e te)(hs:swapsWith e (some (.Name x pos')) pos.line X.env=pure false:=by rfl)(hf:X.fn x=true\/X.env.scope.names.lookup x=some .local:=by first|exact .inl rfl|exact .inr rfl|assumption) :
  PS X (.Assign [.Name x pos'] e pos) (vz te (kh i)):=by
 intro pins s U H D I h;refine wpAny_Assign_Name (aN (he pins s U H _ I h) λv s1 ⟨y,H1,I1,r1,q1⟩=>?_) hs;exact vy I1 hN hi hx r1 (λs2 I2=>⟨_,H1,I2,q1⟩) hf
end
structure It where
 go:Nat->Hp->Prop
 jb:Nat->Hp->V->Hp->Prop
 stop:Nat->Hp->Prop
def fK(X:Cx)(pins:List (Addr×Obj))(H:Hp)(b:Addr):Prop:=
 H b=none/\b≠X.env.locals/\b∉X.fs/\(b∈X.ex\/X.s₀.heap.objs.size<=b)/\(∀x c,X.env.cells.lookup x=some c->c≠b)/\∀p∈X.pn++pins,p.1≠b
theorem Inv.oF{X:Cx}{pins:List (Addr×Obj)}{U:St}{H H':Hp}{s:Shared}{b:Addr}(I:Inv X pins U H s)(hb:s.heap.objs.size<=b)(hn:H' b=none):fK X pins H' b:=by
 refine⟨hn,Nat.ne_of_gt (Nat.lt_of_lt_of_le I.lt hb),I.Ox hb,.inr (Nat.le_trans I.sz hb),λx c e z=>?_,λp hp z=>?_⟩
 .obtain⟨v,q⟩:=I.cell x c e;exact absurd (Nat.lt_of_lt_of_le q.lt (by rw[z];exact hb)) (Nat.lt_irrefl _)
 .exact absurd (Nat.lt_of_lt_of_le (Heap.lt_size (I.pin p hp).1) (by rw[z];exact hb)) (Nat.lt_irrefl _)
structure Turn(P:Program)(w:World)(K:W.Frag)(tg:Expr)(J:It)(fp:List Addr)(it:Addr)(tn:Nat->Heap->Prop):Prop where
 mem:it∈fp
 obj:∀i h,tn i h->∀b∈fp,∃o,h.get? b=some o/\∀v,o.data ≠ .cell v
 keep:∀i h h',tn i h->(∀b∈fp,∀o,h.get? b=some o->h'.get? b=some o)->tn i h'
 item:∀(X:Cx),X.prog=P->X.w=w->X.K=K->X.calm=true->∀(i:Nat) (pins:List (Addr×Obj)) (s:Shared) (U:St) (H:Hp) (E:Value->Shared->Prop),Inv X pins U H s->(∀b∈fp,fK X pins H b)->tn i s.heap->J.go i H ->
  wpAny (model P w) X.A (pyNext (.ref it)) (λr s1=>∃u,r=some u /\
   wpAny (model P w) X.A (letOwnedTupleGo tg (.ref it) u) (λ_ s2=>∃x H',Inv X pins U H' s2/\RelV x u/\J.jb i H x H'/\tn (i+1) s2.heap/\∀b∈fp,H' b=none) E s1) E s
 done:∀(X:Cx),X.prog=P->X.w=w->X.K=K->X.calm=true->∀(i:Nat) (pins:List (Addr×Obj)) (s:Shared) (U:St) (H:Hp) (E:Value->Shared->Prop),Inv X pins U H s->(∀b∈fp,fK X pins H b)->tn i s.heap->J.stop i H ->
  wpAny (model P w) X.A (pyNext (.ref it)) (λr s1=>r=none/\Inv X pins U H s1) E s
 self:∀(A:Around) (i:Nat) (s:Shared) (Q:Value->Shared->Prop) (E:Value->Shared->Prop),tn i s.heap->Q (.ref it) s->wpAny (model P w) A (pyIter (.ref it)) Q E s
abbrev TI:=St->Hp->(It->Hp->Prop)->Prop
def Hx(X:Cx)(pins:List (Addr×Obj))(U:St)(tg:Expr)(R:It->Hp->Prop)(itv:Value)(s2:Shared):Prop:=
 ∃(it:Addr) (fp:List Addr) (tn:Nat->Heap->Prop) (J:It) (H':Hp),itv = .ref it/\Inv X pins U H' s2/\Turn X.prog X.w X.K tg J fp it tn/\tn 0 s2.heap/\(∀b∈fp,fK X pins H' b)/\R J H'
def PI(X:Cx)(tg bG:Expr)(wi:TI):Prop:=
 ∀(pins:List (Addr×Obj)) (s:Shared) (U:St) (H:Hp) (R:It->Hp->Prop),Inv X pins U H s->wi U H R ->
  wpAny (model X.prog X.w) X.A (eval bG X.env) (λv s1=>wpAny (model X.prog X.w) X.A (pyIter v) (Hx X pins U tg R) X.xe s1) X.xe s
theorem km{M:Model}{A:Around}{E:Value->Shared->Prop}{s:Shared}{tg:Expr}{it:Addr}{u:Value}{o:Obj}{n:String}{vs:Array Value}{Q:Unit->Shared->Prop}(ho:s.heap.get? it=some o)(hc:o.cls = .type n)(hd:o.data = .fields vs)
    (hn:["enumerate","zip","dict_itemiterator","dict_reverseitemiterator","odict_iterator","itertools.zip_longest","itertools.pairwise"].contains n=false) (hQ:Q () s):wpAny M A (letOwnedTupleGo tg (.ref it) u) Q E s:=by
  unfold letOwnedTupleGo;cases tg<;>first
    |exact wpAny_pure hQ
    | (cases u<;>first
        |exact wpAny_pure hQ
        | (refine wpAny_bind (wpAny_load ho ?_)
           rw[hc,hd];show wpAny M A (if(["enumerate","zip","dict_itemiterator","dict_reverseitemiterator","odict_iterator","itertools.zip_longest","itertools.pairwise"].contains n&&vs[0]?==some (rawInt _))=true then _ else _) Q E s;rw[if_neg (by intro h;rw[hn,Bool.false_and]at h;cases h)];exact wpAny_pure hQ))
def xi(K:W.Frag)(a:Addr):It:=
 ⟨λi H=>∃xs x,bO K H a xs/\xs[i]?=some x,λi H x H'=>H'=H/\∀xs,bO K H a xs->xs[i]?=some x,λi H=>∃xs,bO K H a xs/\xs.length<=i⟩
def xj(K:W.Frag)(a:Addr):It:=
 ⟨λi H=>∃xs x,cU K H a xs/\xs[i]?=some x,λi H x H'=>H'=H/\∀xs,cU K H a xs->xs[i]?=some x,λi H=>∃xs,cU K H a xs/\xs.length<=i⟩
def bh(lo:Int)(n:Nat):It:=⟨λi _=>i<n,λi H x H'=>H'=H/\x = .int (lo+i),λi _=>n<=i⟩
theorem ZQ{P:Program}{w:World}{K:W.Frag}{tg:Expr}(a it:Addr):Turn P w K tg (xi K a) [it] it (λi h=>h.IsListIter it a i) where
 mem:=by simp
 obj:=λi h st b hb=>by
  have e:b=it:=by simpa using hb
  subst e;obtain⟨o,e,c,d⟩:=st;exact⟨o,e,λv z=>by rw[d]at z;cases z⟩
 keep:=λi h h' st k=>st.at λo e=>k it (by simp) o e
 item:=by intro X hP hw hK hc i pins s U H E I hf st hg;subst hP hw hK;obtain⟨xs,x,hq,hx⟩:=hg;obtain⟨its,rv,p,hz⟩:=I.list hq;obtain⟨u,hu,ru⟩:=rv.get hx;obtain⟨f0,f1,f2,f3,f4,f5⟩:=hf it (by simp);refine wpAny_pyNext_list_item st p.isList (x:=u) (by simpa using hu) λh' st' sb=>?_;have I1:Inv X pins U H { s with heap:=h' }:=I.turned (t':=s.toks) (λb o hb e=>(sb.2 b hb).trans e) f0 f1 f3 f4 f5;obtain⟨o,e,c,d⟩:=id st';exact⟨u,rfl,km (s:={ s with heap:=h' }) e c d (by decide) ⟨x,H,I1,ru,⟨rfl,λys hy=>by rw[I.Au hy hq];exact hx⟩,st',λb hb=>(hf b hb).1⟩⟩
 done:=by intro X hP hw hK hc i pins s U H E I hf st hg;subst hP hw hK;obtain⟨xs,hq,hx⟩:=hg;obtain⟨its,rv,p,hz⟩:=I.list hq;obtain⟨f0,f1,f2,f3,f4,f5⟩:=hf it (by simp);have hl:=rv.length;exact wpAny_pyNext_list_end (I.ok.hd hc) st p.isList (by simp;omega) λh' eb=>⟨rfl,I.turned (t':=s.toks) (λb o hb e=>eb b o hb e) f0 f1 f3 f4 f5⟩
 self:=λ_ _ _ _ _ st h=>wpAny_pyIter_listiter st h
theorem ZS{P:Program}{w:World}{K:W.Frag}{tg:Expr}(a it:Addr):Turn P w K tg (xj K a) [it] it (λi h=>h.IsTupleIter it a i) where
 mem:=by simp
 obj:=λi h st b hb=>by
  have e:b=it:=by simpa using hb
  subst e;obtain⟨o,e,c,d⟩:=st;exact⟨o,e,λv z=>by rw[d]at z;cases z⟩
 keep:=λi h h' st k=>st.at λo e=>k it (by simp) o e
 item:=by intro X hP hw hK hc i pins s U H E I hf st hg;subst hP hw hK;obtain⟨xs,x,hq,hx⟩:=hg;obtain⟨its,rv,p,hz⟩:=I.tuple hq;obtain⟨u,hu,ru⟩:=rv.get hx;obtain⟨f0,f1,f2,f3,f4,f5⟩:=hf it (by simp);refine wpAny_pyNext_tuple_item st (show s.heap.IsTuple a its.toArray from p) (x:=u) (by simpa using hu) λh' st' sb=>?_;have I1:Inv X pins U H { s with heap:=h' }:=I.turned (t':=s.toks) (λb o hb e=>(sb.2 b hb).trans e) f0 f1 f3 f4 f5;obtain⟨o,e,c,d⟩:=id st';exact⟨u,rfl,km (s:={ s with heap:=h' }) e c d (by decide) ⟨x,H,I1,ru,⟨rfl,λys hy=>by rw[I.Wz hy hq];exact hx⟩,st',λb hb=>(hf b hb).1⟩⟩
 done:=by intro X hP hw hK hc i pins s U H E I hf st hg;subst hP hw hK;obtain⟨xs,hq,hx⟩:=hg;obtain⟨its,rv,p,hz⟩:=I.tuple hq;obtain⟨f0,f1,f2,f3,f4,f5⟩:=hf it (by simp);have hl:=rv.length;exact wpAny_pyNext_tuple_end (I.ok.hd hc) st (show s.heap.IsTuple a its.toArray from p) (by simp;omega) λh' eb=>⟨rfl,I.turned (t':=s.toks) (λb o hb e=>eb b o hb e) f0 f1 f3 f4 f5⟩
 self:=λ_ _ _ _ _ st h=>wpAny_pyIter_tupleiter st h
theorem ZR{P:Program}{w:World}{K:W.Frag}{tg:Expr}(it:Addr)(lo:Int)(n:Nat):Turn P w K tg (bh lo n) [it] it (λi h=>IsRangeIter h it (lo+(i:Nat)*1) ((n:Int)-(i:Nat)) 1) where
 mem:=by simp
 obj:=λi h st b hb=>by
  have e:b=it:=by simpa using hb
  subst e;exact⟨_,st,λv z=>by have z':Data.fields _=Data.cell v:=z;cases z'⟩
 keep:=λi h h' st k=>k it (by simp) _ st
 item:=by intro X hP hw hK hc i pins s U H E I hf st hg;subst hP hw hK;obtain⟨f0,f1,f2,f3,f4,f5⟩:=hf it (by simp);have W:=Walks.range (prog:=X.prog) (w:=X.w) (I.ok.hd hc) it lo 1 n;refine W.item i s _ _ hg st λv h' tk hv st' kk=>?_;obtain⟨t,rfl⟩:=hv;have I1:Inv X pins U H { s with heap:=h',toks:=tk }:=I.turned (λb o hb e=>kk b o (by simpa using hb) e) f0 f1 f3 f4 f5;refine⟨_,rfl,km (s:={ s with heap:=h',toks:=tk }) (n:="range_iterator") st' rfl rfl (by decide) ⟨.int (lo+i),H,I1,⟨t,?_⟩,⟨rfl,rfl⟩,st',λb hb=>(hf b hb).1⟩⟩;rw[Int.mul_one]
 done:=by intro X hP hw hK hc i pins s U H E I hf st hg;subst hP hw hK;obtain⟨f0,f1,f2,f3,f4,f5⟩:=hf it (by simp);exact wpAny_pyNext_range_end (I.ok.hd hc) st (by have:n<=i:=hg;omega) λh' eb=>⟨rfl,I.turned (t':=s.toks) (λb o hb e=>eb b o hb e) f0 f1 f3 f4 f5⟩
 self:=λ_ _ _ _ _ st h=>wpAny_pyIter_rangeiter st h
section
variable {X:Cx}{tg:Expr}
theorem Uy{pins:List (Addr×Obj)}{U:St}{H:Hp}{s:Shared}{R:It->Hp->Prop}{E:Value->Shared->Prop}{lo hi:Int}{t u v:Tok}{tk:Nat}(I:Inv X pins U H s)(h1:-(2 ^ 62)<=lo)(h2:lo<2 ^ 62)(h3:-(2 ^ 62)<=hi)(h4:hi<2 ^ 62)
  (q:R (bh lo (hi-lo).toNat) H):wpAny (model X.prog X.w) X.A (pyIter (.ref s.heap.objs.size)) (Hx X pins U tg R) E { s with heap:=s.heap.push { cls:=.type "range",data:=.fields #[.int lo t,.int hi u,.int 1 v] },toks:=tk }:=by
 refine wpAny_pyIter_range (IsRange.new ..) (small_one h1 h2 h3 h4) ?_;have I1:Inv X pins U H { s with heap:=s.heap.push { cls:=.type "range",data:=.fields #[.int lo t,.int hi u,.int 1 v] },toks:=tk }:=I.kept λb o e=>Heap.get?_push_of_some _ e;refine⟨(s.heap.push { cls:=.type "range",data:=.fields #[.int lo t,.int hi u,.int 1 v] }).objs.size,[(s.heap.push { cls:=.type "range",data:=.fields #[.int lo t,.int hi u,.int 1 v] }).objs.size],_,_,H,rfl,
  I1.kept (t':=tk) λb o e=>Heap.get?_push_of_some _ e,ZR _ lo (hi-lo).toNat,?_,λb hb=>?_,q⟩
 .have e1:lo+((0:Nat):Int)*1=lo:=by simp
  have e2:(((hi-lo).toNat:Nat):Int)-((0:Nat):Int)=Builtin.Range.rangeSize lo hi 1:=by rw[rangeSize_one];split<;>omega
  show IsRangeIter _ _ (lo+((0:Nat):Int)*1) ((((hi-lo).toNat:Nat):Int)-((0:Nat):Int)) 1;rw[e1,e2];exact Heap.get?_push_size _ rfl
 .have e:b=(s.heap.push { cls:=.type "range",data:=.fields #[.int lo t,.int hi u,.int 1 v] }).objs.size:=by simpa using hb
  subst e;exact I1.oF (Nat.le_refl _) (I1.aE.fresh (Nat.le_refl _))
def ES(ta:TA):TI:=λU H R=>ta U H λvs H1=>∃j:Int,vs=[.int j]/\-(2 ^ 62)<=j/\j<2 ^ 62/\R (bh 0 j.toNat) H1
def ET(ta:TA):TI:=λU H R=>ta U H λvs H1=>∃i j:Int,vs=[.int i,.int j]/\(-(2 ^ 62)<=i/\i<2 ^ 62/\-(2 ^ 62)<=j/\j<2 ^ 62)/\R (bh i (j-i).toNat) H1
theorem MF{a:Expr} {ta:TA} {p pos:Pos} (hg:Gl X "range") (hm:X.mg "range"=none) (ha:PA X [a] ta) (hs:starEach [a] X.env=[(false,eval a X.env)]:=by rfl):PI X tg (.Call (.Name "range" p) [a] [] pos) (ES ta):=by
 intro pins s U H R I h;refine Call_ (tF I hg hm boot_range (PyProof.Rows.callWith_type1 (aN (ha pos pins s U H _ I h) λus s1 ⟨vs,H1,I1,r1,q1⟩=>?_) hs rfl));obtain⟨j,e,q1,q2,q⟩:=q1;subst e;cases r1 with
 |cons r rr=>cases rr;obtain⟨t,rfl⟩:=r;exact call_range_1 (Uy I1 (by omega) (by omega) q1 q2 (by simpa using q))
theorem MG{a b:Expr} {ta:TA} {p pos:Pos} (hg:Gl X "range") (hm:X.mg "range"=none) (ha:PA X [a,b] ta) (hs:starEach [a,b] X.env=[(false,eval a X.env),(false,eval b X.env)]:=by rfl) (hs2:starEach [b] X.env=[(false,eval b X.env)]:=by rfl) :
  PI X tg (.Call (.Name "range" p) [a,b] [] pos) (ET ta):=by
 intro pins s U H R I h;refine Call_ (tF I hg hm boot_range (PyProof.Rows.callWith_type1 (aN (ha pos pins s U H _ I h) λus s1 ⟨vs,H1,I1,r1,q1⟩=>?_) (by rw[hs,hs2]) (by rw[hs2];rfl)));obtain⟨i,j,e,⟨q1,q2,q3,q4⟩,q⟩:=q1;subst e;cases r1 with
 |cons r rr=>
  cases rr with
  |cons r' rr=>cases rr;obtain⟨t,rfl⟩:=r;obtain⟨t',rfl⟩:=r';exact call_range_2 (Uy I1 q1 q2 q3 q4 q)
def YJ(wi:TI)(g:TG)(tb:TS):TS:=λD U H=>wi U H λJ H1=>∃W:Nat->Nat->St->Hp->Prop,(∃m,W 0 m U H1)/\∀i m U H,W i m U H ->
 (J.stop i H/\D.nx U H)\/(J.go i H/\∃N:St->Hp->Prop,(∀U' H',N U' H'->∃m',m'<m/\W (i+1) m' U' H')/\∀x H',J.jb i H x H'->g x U H' λU2 H2=>tb { D with nx:=N,ct:=N,bk:=D.nx } U2 H2)
def mz(fp:List Addr)(h:Heap):List (Addr×Obj):=fp.filterMap λb=>(h.get? b).map λo=>(b,o)
theorem lx{fp:List Addr}{h:Heap}{b:Addr}{o:Obj}(hb:b∈fp)(e:h.get? b=some o):(b,o)∈mz fp h:=List.mem_filterMap.mpr ⟨b,hb,by rw[e];rfl⟩
theorem Pa{fp:List Addr}{h:Heap}{p:Addr×Obj}(hp:p∈mz fp h):p.1∈fp/\h.get? p.1=some p.2:=by
 obtain⟨b,hb,e⟩:=List.mem_filterMap.mp hp;cases q:h.get? b with
 |none=>rw[q]at e;cases e|some o=>rw[q]at e;have e':(b,o)=p:=Option.some.inj e;subst e';exact⟨hb,q⟩
theorem Inv.pinned{pins:List (Addr×Obj)}{U:St}{H:Hp}{s:Shared}{fp:List Addr}(I:Inv X pins U H s)(hf:∀b∈fp,fK X pins H b)(ho:∀b∈fp,∃o,s.heap.get? b=some o/\∀v,o.data ≠ .cell v):Inv X (pins++mz fp s.heap) U H s:=
 I.oQ λp hp=>(List.mem_append.mp hp).elim (λz=>I.pin p (List.mem_append_right _ z)) λz=>by obtain⟨hb,e⟩:=Pa z;obtain⟨f0,f1,f2,_⟩:=hf p.1 hb;obtain⟨o,e',d⟩:=ho p.1 hb;rw[e]at e';cases e';exact⟨e,f0,f1,f2,d⟩
theorem Inv.wt{pins pl:List (Addr×Obj)}{U:St}{H:Hp}{s:Shared}(I:Inv X (pins++pl) U H s):Inv X pins U H s:=I.oQ λp hp=>I.pin p (List.mem_append_right _ (List.mem_append_left _ hp))
theorem NA{bG:Expr}{body:List Stmt}{wi:TI}{g:TG}{tb:TS}{pos:Pos}(hp:PassesOwn (model X.prog X.w) X.A X.env X.xe)(hc:X.calm=true)(hi:PI X tg bG wi)(hg:PG X tg g)(hb:hZ X body tb)
  (hs:∀x,foldedSetIterable bG X.env x=pure x:=by intro _;rfl):PS X (.For tg bG body [] pos) (YJ wi g tb):=by
 intro pins s U H D I h;refine wpAny_For (aN (hi pins s U H _ I h) λv s1 h1=>aN h1 λitv s2 h2=>?_) hs;obtain⟨it,fp,tn,J,H2,e,I2,T,st2,f2,W,⟨m0,w0⟩,turn⟩:=h2;subst e;have stat:∀{H':Hp},(∀b∈fp,H' b=none)->∀b∈fp,fK X pins H' b:=λhn b hb=>⟨hn b hb,(f2 b hb).2⟩;refine codeAny_forLoop_any (λn s'=>∃i U' H',Inv X pins U' H' s'/\tn i s'.heap/\(∀b∈fp,H' b=none)/\W i n U' H') ?_ m0 ⟨0,U,H2,I2,st2,λb hb=>(f2 b hb).1,w0⟩;rintro n s3 ⟨i,U3,H3,I3,st3,fr3,w3⟩
 rcases turn i n U3 H3 w3 with⟨stop,qn⟩|⟨go,N,hN,step⟩
 .refine wpAny_passesOwn hp (aN (T.done X rfl rfl rfl hc i pins s3 U3 H3 X.xe I3 (stat fr3) st3 stop) λr s4 ⟨hr,I4⟩=>?_);subst hr;exact wpAny_execs_nil ⟨U3,H3,I4,qn⟩
 .refine wpAny_passesOwn hp (aN (T.item X rfl rfl rfl hc i pins s3 U3 H3 X.xe I3 (stat fr3) st3 go) λr s4 ⟨u,hr,h4⟩=>?_);subst hr;refine wpAny_passesOwn hp (aN h4 λ_ s5 ⟨x,H5,I5,r5,y5,st5,fr5⟩=>?_);have I5':=I5.pinned (stat fr5) (T.obj _ _ st5);refine wpAny_passesOwn hp (aN (hg _ s5 U3 H5 x u _ I5' r5 (step x H5 y5)) λ_ s6 ⟨U6,H6,I6,q6⟩=>?_);refine wpAny_passesOwn hp (aN (hb _ s6 U6 H6 _ I6 q6) λf s7 q7=>?_);have again:∀{U7:St} {H7:Hp},Inv X (pins++mz fp s5.heap) U7 H7 s7->N U7 H7->∃m,m<n/\∃i U' H',Inv X pins U' H' s7/\tn i s7.heap/\(∀b∈fp,H' b=none)/\W i m U' H':=λ{U7 H7} I7 n7=>by obtain⟨m',hm,w7⟩:=hN U7 H7 n7;refine⟨m',hm,i+1,U7,H7,I7.wt,T.keep _ _ _ st5 λb hb o e=>(I7.pin (b,o) (List.mem_append_right _ (List.mem_append_right _ (lx hb e)))).1,λb hb=>?_,w7⟩;obtain⟨o,e,d⟩:=T.obj _ _ st5 b hb;exact(I7.pin (b,o) (List.mem_append_right _ (List.mem_append_right _ (lx hb e)))).2.1
  cases f with
  |next=>obtain⟨U7,H7,I7,n7⟩:=q7;exact again I7 n7|cont=>obtain⟨U7,H7,I7,n7⟩:=q7;exact again I7 n7|brk=>obtain⟨U7,H7,I7,q7⟩:=q7;exact⟨U7,H7,I7.wt,q7⟩|ret v=>obtain⟨x7,U7,H7,I7,r7,q7⟩:=q7;exact⟨x7,U7,H7,I7.wt,r7,q7⟩
end
abbrev R2:=V->V->Hp->VK->Prop
def bJ(X:Cx)(f:Value->Value->Sem Value)(r:R2):Prop:=
 ∀(pins:List (Addr×Obj)) (s:Shared) (U:St) (H:Hp) (x y:V) (v u:Value) (Q:VK),Inv X pins U H s->RelV x v->RelV y u->r x y H Q ->
  wpAny (model X.prog X.w) X.A (f v u) (EP X pins U Q) X.xe s
def jh(X:Cx)(f:Value->Sem Value)(r:V->Hp->VK->Prop):Prop:=
 ∀(pins:List (Addr×Obj)) (s:Shared) (U:St) (H:Hp) (x:V) (v:Value) (Q:VK),Inv X pins U H s->RelV x v->r x H Q ->
  wpAny (model X.prog X.w) X.A (f v) (EP X pins U Q) X.xe s
def eI(X:Cx)(f:Value)(r:List V->Hp->VK->Prop):Prop:=
 ∀(pins:List (Addr×Obj)) (s:Shared) (U:St) (H:Hp) (xs:List V) (us:List Value) (Q:VK),Inv X pins U H s->Vals xs us->r xs H Q ->
  wpAny (model X.prog X.w) X.A (call f us) (EP X pins U Q) X.xe s
def Xu(X:Cx)(r:V->Hp->(Bool->Hp->Prop)->Prop):Prop:=
 ∀(pins:List (Addr×Obj)) (s:Shared) (U:St) (H:Hp) (x:V) (v:Value) (Q:Bool->Hp->Prop),Inv X pins U H s->RelV x v->r x H Q ->
  wpAny (model X.prog X.w) X.A (truthy v) (TP X pins U Q) X.xe s
def wc(r:R2)(ta tb:TE):TE:=λU H Q=>ta U H λx H1=>tb U H1 λy H2=>r x y H2 Q
def YZ(r:V->Hp->VK->Prop)(ta:TE):TE:=λU H Q=>ta U H λx H1=>r x H1 Q
def rI(C:Int->Int->Prop)(g:Int->Int->V):R2:=λx y H Q=>∃i j,x = .int i/\y = .int j/\C i j/\Q (g i j) H
def jT(g:Int->Int->V):R2:=λx y H Q=>∃i j,x = .int i/\y = .int j/\Q (g i j) H
def rU(g:Int->V):V->Hp->VK->Prop:=λx H Q=>∃i,x = .int i/\Q (g i) H
section
variable {X:Cx}{a b c:Expr}{ta tb tc:TE}{pos:Pos}
theorem xt(ha:PE X a ta)(hb:PE X b tb){pins:List (Addr×Obj)}{s:Shared}{U:St}{H:Hp}{R:V->V->Hp->Prop}(I:Inv X pins U H s)
  (h:ta U H λx H1=>tb U H1 λy H2=>R x y H2) {Q:Value->Shared->Prop} {f:Value->Value->Sem Value}
  (hf:∀v u s2 x y H2,Inv X pins U H2 s2->RelV x v->RelV y u->R x y H2->wpAny (model X.prog X.w) X.A (f v u) Q X.xe s2) :
  wpAny (model X.prog X.w) X.A (eval a X.env) (λv s₁=>wpAny (model X.prog X.w) X.A (eval b X.env) (λu s₂=>wpAny (model X.prog X.w) X.A (f v u) Q X.xe s₂) X.xe s₁) X.xe s:=by
 refine aN (ha pins s U H _ I h) λv s1 ⟨x,H1,I1,r1,q1⟩=>?_;refine aN (hb pins s1 U H1 _ I1 q1) λu s2 ⟨y,H2,I2,r2,q2⟩=>?_;exact hf v u s2 x y H2 I2 r1 r2 q2
theorem LP{op:Operator}{r:R2}(ho:bJ X (binaryOp op) r)(ha:PE X a ta)(hb:PE X b tb):PE X (.BinOp a op b pos) (wc r ta tb):=by intro pins s U H Q I h;exact wpAny_BinOp (xt ha hb I h λv u s2 x y H2 I2 rx ry q=>ho pins s2 U H2 x y v u Q I2 rx ry q)
theorem LV{op:UnaryOp}{r:V->Hp->VK->Prop}(ho:jh X (unaryOp op) r)(ha:PE X a ta):PE X (.UnaryOp op a pos) (YZ r ta):=by intro pins s U H Q I h;exact UnaryOp_ (aN (ha pins s U H _ I h) λv s1 ⟨x,H1,I1,r1,q1⟩=>ho pins s1 U H1 x v Q I1 r1 q1)
theorem yY{f:Value->Value->Sem Value}{C:Int->Int->Prop}{g:Int->Int->Int}
  (rule:∀(i j:Int) (t u:Tok) (s:Shared) (Q:Value->Shared->Prop) (E:Value->Shared->Prop),C i j->Q (.int (g i j) s.toks) { s with toks:=s.toks+1 }->wpAny (model X.prog X.w) X.A (f (.int i t) (.int j u)) Q E s) :
  bJ X f (rI C λi j=>.int (g i j)):=by
 intro pins s U H x y v u Q I rx ry h;obtain⟨i,j,rfl,rfl,hc,q⟩:=h;obtain⟨t,rfl⟩:=rx;obtain⟨t',rfl⟩:=ry;exact rule i j t t' s _ _ hc ⟨.int (g i j),H,I.tok _,⟨_,rfl⟩,q⟩
theorem du{f:Value->Value->Sem Value}{g:Int->Int->Int}
  (rule:∀(i j:Int) (t u:Tok) (s:Shared) (Q:Value->Shared->Prop) (E:Value->Shared->Prop),Q (.int (g i j) s.toks) { s with toks:=s.toks+1 }->wpAny (model X.prog X.w) X.A (f (.int i t) (.int j u)) Q E s) :
  bJ X f (jT λi j=>.int (g i j)):=by
 intro pins s U H x y v u Q I rx ry h;obtain⟨i,j,rfl,rfl,q⟩:=h;obtain⟨t,rfl⟩:=rx;obtain⟨t',rfl⟩:=ry;exact rule i j t t' s _ _ ⟨.int (g i j),H,I.tok _,⟨_,rfl⟩,q⟩
theorem mq{f:Value->Value->Sem Value}{g:Int->Int->Bool}
  (rule:∀(i j:Int) (t u:Tok) (s:Shared) (Q:Value->Shared->Prop) (E:Value->Shared->Prop),Q (.bool (g i j)) s->wpAny (model X.prog X.w) X.A (f (.int i t) (.int j u)) Q E s) :
  bJ X f (jT λi j=>.bl (g i j)):=by
 intro pins s U H x y v u Q I rx ry h;obtain⟨i,j,rfl,rfl,q⟩:=h;obtain⟨t,rfl⟩:=rx;obtain⟨t',rfl⟩:=ry;exact rule i j t t' s _ _ ⟨.bl (g i j),H,I,rfl,q⟩
def xc(i j:Int):Prop:=0<=j/\j<=1000000/\i.natAbs<2 ^ 64
theorem ZU(k:Nat):(0:Int)<=2 ^ k:=by rw[two_pow_cast];exact Int.natCast_nonneg _
theorem IH:bJ X (binaryOp .Add) (jT λi j=>.int (i+j)):=du λ_ _ _ _ _ _ _ q=>add_int q
theorem JL:bJ X (binaryOp .Sub) (jT λi j=>.int (i-j)):=du λ_ _ _ _ _ _ _ q=>sub_int q
theorem JB:bJ X (binaryOp .Mod) (rI (λ_ j=>0<j) λi j=>.int (i%j)):=yY λi j _ _ _ _ _ hc q=>by have h1:(0:Int)<j:=hc;exact mod_int' (by omega) (by rw[Int.fmod_eq_emod_of_nonneg i (by omega)];exact q)
theorem JI:bJ X (binaryOp .Pow) (rI xc λi j=>.int (i ^ j.toNat)):=yY λ_ _ _ _ _ _ _ hc q=>pow_int_small hc.1 hc.2.1 hc.2.2 q
theorem JJ:bJ X (binaryOp .LShift) (rI xc λi j=>.int (i*2 ^ j.toNat)):=yY λ_ _ _ _ _ _ _ hc q=>lshift_int_small hc.1 hc.2.1 hc.2.2 q
theorem JK:bJ X (binaryOp .RShift) (rI (λ_ j=>0<=j) λi j=>.int (i / 2 ^ j.toNat)):=yY λi j _ _ _ _ _ hc q=>rshift_int hc (by rw[Int.fdiv_eq_ediv_of_nonneg i (ZU _)];exact q)
theorem IJ:bJ X (binaryOp .BitAnd) (jT λi j=>.int (Builtin.bitAnd i j)):=du λ_ _ _ _ _ _ _ q=>and_int q
theorem JH:bJ X (binaryOp .BitOr) (jT λi j=>.int (Builtin.bitOr i j)):=du λ_ _ _ _ _ _ _ q=>or_int q
theorem JM:bJ X (binaryOp .BitXor) (jT λi j=>.int (Builtin.bitXor i j)):=du λ_ _ _ _ _ _ _ q=>xor_int q
theorem ZW{f:Value->Sem Value}{g:Int->Int}
  (rule:∀(i:Int) (t:Tok) (s:Shared) (Q:Value->Shared->Prop) (E:Value->Shared->Prop),Q (.int (g i) s.toks) { s with toks:=s.toks+1 }->wpAny (model X.prog X.w) X.A (f (.int i t)) Q E s) :
  jh X f (rU λi=>.int (g i)):=by
 intro pins s U H x v Q I rx h;obtain⟨i,rfl,q⟩:=h;obtain⟨t,rfl⟩:=rx;exact rule i t s _ _ ⟨.int (g i),H,I.tok _,⟨_,rfl⟩,q⟩
theorem ZX:jh X (unaryOp .USub) (rU λi=>.int (-i)):=ZW λ_ _ _ _ _ q=>neg_int q
end
def vp:V->V->Bool
 |.aC,.aC=>true | .aC,.int _=>true | .int _,.aC=>true | .aC,.bl _=>true | .bl _,.aC=>true | .aC,.str _=>true | .str _,.aC=>true
 |.int _,.int _=>true | .bl _,.bl _=>true | .str _,.str _=>true | .iD _,.iD _=>true
 |.int _,.str _=>true | .str _,.int _=>true | .bl _,.str _=>true | .str _,.bl _=>true
 |_,_=>false
def UH:R2:=λx y H Q=>vp x y=true/\Q (.bl (decide (x=y))) H
def UJ:R2:=λx y H Q=>vp x y=true/\Q (.bl (!decide (x=y))) H
theorem Lm{i j:Int}:decide (V.int i=V.int j)=(i==j):=by rw[Bool.eq_iff_iff];simp
theorem Lj{i j:Bool}:decide (V.bl i=V.bl j)=(i==j):=by rw[Bool.eq_iff_iff];simp
theorem Ln{i j:Str}:decide (V.str i=V.str j)=(i==j):=by rw[Bool.eq_iff_iff];simp
theorem Ll{i j:Array UInt8}:decide (V.iD i=V.iD j)=(i.toList==j.toList):=by rw[Bool.eq_iff_iff];cases i;cases j;simp
section
variable {X:Cx}{a b c:Expr}{ta tb tc:TE}{pos:Pos}
theorem cY{pins:List (Addr×Obj)}{U:St}{H:Hp}{s:Shared}{Q:VK}{k k':Bool}(I:Inv X pins U H s)(q:Q (.bl k) H)(e:k=k'):EP X pins U Q (.bool k') s:=by subst e;exact⟨.bl k,H,I,rfl,q⟩
theorem IP:bJ X (compareOp .Eq) UH:=by
 intro pins s U H x y v u Q I rx ry h;obtain⟨hs,q⟩:=h;cases x with
 |aC=>
  cases rx;cases y with
  |aC=>cases ry;exact PySem.EqNone.eq_none_none (cY I q (by simp))|bl j=>cases ry;exact PySem.EqNone.eq_none_bool (cY I q (by simp))|int j=>obtain⟨t',rfl⟩:=ry;exact PySem.EqNone.eq_none_int (cY I q (by simp))|str j=>obtain⟨t',rfl⟩:=ry;exact PySem.EqNone.eq_none_str (cY I q (by simp))|_=>exact absurd (show false=true from hs) Bool.false_ne_true
 |bl i=>
  cases rx;cases y with
  |aC=>cases ry;exact PySem.EqNone.eq_bool_none (cY I q (by simp))|bl j=>cases ry;exact eq_bool (cY I q Lj)|str j=>obtain⟨t',rfl⟩:=ry;exact PySem.EqMixed.eq_bool_str (cY I q (by simp))|_=>exact absurd (show false=true from hs) Bool.false_ne_true
 |int i=>
  obtain⟨t,rfl⟩:=rx;cases y with
  |aC=>cases ry;exact PySem.EqNone.eq_int_none (cY I q (by simp))|int j=>obtain⟨t',rfl⟩:=ry;exact eq_int (cY I q Lm)|str j=>obtain⟨t',rfl⟩:=ry;exact PySem.EqMixed.eq_int_str (cY I q (by simp))|_=>exact absurd (show false=true from hs) Bool.false_ne_true
 |str i=>
  obtain⟨t,rfl⟩:=rx;cases y with
  |aC=>cases ry;exact PySem.EqNone.eq_str_none (cY I q (by simp))|bl j=>cases ry;exact PySem.EqMixed.eq_str_bool (cY I q (by simp))|int j=>obtain⟨t',rfl⟩:=ry;exact PySem.EqMixed.eq_str_int (cY I q (by simp))|str j=>obtain⟨t',rfl⟩:=ry;exact eq_str (cY I q Ln)|_=>exact absurd (show false=true from hs) Bool.false_ne_true
 |iD i=>
  obtain⟨t,rfl⟩:=rx;cases y with
  |iD j=>obtain⟨t',rfl⟩:=ry;exact W.eq_bytes (cY I q Ll)|_=>exact absurd (show false=true from hs) Bool.false_ne_true
 |_=>cases y<;>exact absurd (show false=true from hs) Bool.false_ne_true
theorem JD:bJ X (compareOp .NotEq) UJ:=by
 intro pins s U H x y v u Q I rx ry h;obtain⟨hs,q⟩:=h;cases x with
 |aC=>
  cases rx;cases y with
  |aC=>cases ry;exact PySem.EqNone.ne_none_none (cY I q (by simp))|bl j=>cases ry;exact PySem.EqNone.ne_none_bool (cY I q (by simp))|int j=>obtain⟨t',rfl⟩:=ry;exact PySem.EqNone.ne_none_int (cY I q (by simp))|str j=>obtain⟨t',rfl⟩:=ry;exact PySem.EqNone.ne_none_str (cY I q (by simp))|_=>exact absurd (show false=true from hs) Bool.false_ne_true
 |bl i=>
  cases rx;cases y with
  |aC=>cases ry;exact PySem.EqNone.ne_bool_none (cY I q (by simp))|bl j=>cases ry;exact ne_bool (cY I q (congrArg not Lj))|str j=>obtain⟨t',rfl⟩:=ry;exact PySem.EqMixed.ne_bool_str (cY I q (by simp))|_=>exact absurd (show false=true from hs) Bool.false_ne_true
 |int i=>
  obtain⟨t,rfl⟩:=rx;cases y with
  |aC=>cases ry;exact PySem.EqNone.ne_int_none (cY I q (by simp))|int j=>obtain⟨t',rfl⟩:=ry;exact ne_int (cY I q (congrArg not Lm))|str j=>obtain⟨t',rfl⟩:=ry;exact PySem.EqMixed.ne_int_str (cY I q (by simp))|_=>exact absurd (show false=true from hs) Bool.false_ne_true
 |str i=>
  obtain⟨t,rfl⟩:=rx;cases y with
  |aC=>cases ry;exact PySem.EqNone.ne_str_none (cY I q (by simp))|bl j=>cases ry;exact PySem.EqMixed.ne_str_bool (cY I q (by simp))|int j=>obtain⟨t',rfl⟩:=ry;exact PySem.EqMixed.ne_str_int (cY I q (by simp))|str j=>obtain⟨t',rfl⟩:=ry;exact ne_str (cY I q (congrArg not Ln))|_=>exact absurd (show false=true from hs) Bool.false_ne_true
 |iD i=>
  obtain⟨t,rfl⟩:=rx;cases y with
  |iD j=>obtain⟨t',rfl⟩:=ry;exact W.ne_bytes (cY I q (congrArg not Ll))|_=>exact absurd (show false=true from hs) Bool.false_ne_true
 |_=>cases y<;>exact absurd (show false=true from hs) Bool.false_ne_true
theorem JA:bJ X (compareOp .Lt) (jT λi j=>.bl (decide (i<j))):=mq λ_ _ _ _ _ _ _ q=>lt_int q
theorem IZ:bJ X (compareOp .LtE) (jT λi j=>.bl (decide (i<=j))):=mq λ_ _ _ _ _ _ _ q=>le_int q
theorem IT:bJ X (compareOp .Gt) (jT λi j=>.bl (decide (j<i))):=mq λ_ _ _ _ _ _ _ q=>gt_int q
theorem IS:bJ X (compareOp .GtE) (jT λi j=>.bl (decide (j<=i))):=mq λ_ _ _ _ _ _ _ q=>ge_int q
theorem IW:bJ X (compareOp .Is) (λx y H Q=>y = .aC/\Q (.bl (decide (x = .aC))) H):=by
 intro pins s U H x y v u Q I rx ry h;obtain⟨rfl,q⟩:=h;cases ry;refine is_none_gen (cY I q ?_);cases x<;>first
  | (cases rx;rfl)
  | (obtain⟨t,rfl⟩:=rx;rfl)
theorem JG:bJ X (compareOp .IsNot) (λx y H Q=>y = .aC/\Q (.bl (!decide (x = .aC))) H):=by
 intro pins s U H x y v u Q I rx ry h;obtain⟨rfl,q⟩:=h;cases ry;refine isnot_none_gen (cY I q ?_);cases x<;>first
  | (cases rx;rfl)
  | (obtain⟨t,rfl⟩:=rx;rfl)
theorem bJ.or{f:Value->Value->Sem Value}{r r':R2}(h:bJ X f r)(h':bJ X f r'):bJ X f (λx y H Q=>r x y H Q\/r' x y H Q):=by
 intro pins s U H x y v u Q I rx ry q;rcases q with q|q
 .exact h pins s U H x y v u Q I rx ry q
 .exact h' pins s U H x y v u Q I rx ry q
theorem LA{op:CmpOp}{r:R2}(ho:bJ X (compareOp op) r)(ha:PE X a ta)(hb:PE X b tb)(hm:behindInMarks op b=false):PE X (.Compare a [op] [b] pos) (wc r ta tb):=by intro pins s U H Q I h;exact wpAny_Compare1 (xt ha hb I h λv u s2 x y H2 I2 rx ry q=>ho pins s2 U H2 x y v u Q I2 rx ry q) hm
def Wj(t:TE):TT:=λU H Q=>t U H λx H'=>∃k,x = .bl k/\Q k H'
theorem NO{op:CmpOp}{r:R2}(ho:bJ X (compareOp op) r)(ha:PE X a ta)(hb:PE X b tb)(hm:behindInMarks op b=false):PT X (.Compare a [op] [b] pos) (Wj (wc r ta tb)):=by
 intro pins s U H Q I h;refine wpAny_isTrue_Compare1 (aN (ha pins s U H _ I h) λv s1 ⟨x,H1,I1,r1,q1⟩=>aN (hb pins s1 U H1 _ I1 q1) λu s2 ⟨y,H2,I2,r2,q2⟩=>aN (ho pins s2 U H2 x y v u _ I2 r1 r2 q2) λc s3 ⟨z,H3,I3,r3,k,e,q3⟩=>?_) hm
 subst e;cases r3;exact wpAny_truthy_bool ⟨H3,I3,q3⟩
def Ha(r r':R2)(ta tb tc:TE):TE:=λU H Q=>ta U H λx H1=>tb U H1 λy H2=>r x y H2 λz H3=>∃k,z = .bl k /\
 (if k=true then tc U H3 λw' H4=>r' y w' H4 Q else Q (.bl false) H3)
theorem KZ{op op':CmpOp}{r r':R2}(ho:bJ X (compareOp op) r)(ho':bJ X (compareOp op') r')(ha:PE X a ta)(hb:PE X b tb)(hc:PE X c tc)
  (hm:lastMarks [op,op'] [b,c]=false:=by with_unfolding_all rfl):PE X (.Compare a [op,op'] [b,c] pos) (Ha r r' ta tb tc):=by
 intro pins s U H Q I h;refine Compare_chain (aN (ha pins s U H _ I h) λv s1 ⟨x,H1,I1,r1,q1⟩=>chain_link (aN (hb pins s1 U H1 _ I1 q1) λu s2 ⟨y,H2,I2,r2,q2⟩=>aN (ho pins s2 U H2 x y v u _ I2 r1 r2 q2) λd s3 ⟨z,H3,I3,r3,k,e,q3⟩=>?_)) hm
 subst e;cases r3;refine wpAny_truthy_bool ?_;cases k with
 |false=>exact ite_ff ⟨.bl false,H3,I3,rfl,q3⟩|true=>exact ite_tt (chain_last (aN (hc pins s3 U H3 _ I3 q3) λw' s4 ⟨z',H4,I4,r4,q4⟩=>ho' pins s4 U H4 y z' u w' Q I4 r2 r4 q4))
theorem NN{op op':CmpOp}{r r':R2}(ho:bJ X (compareOp op) r)(ho':bJ X (compareOp op') r')(ha:PE X a ta)(hb:PE X b tb)(hc:PE X c tc)
  (hm:lastMarks [op,op'] [b,c]=false:=by with_unfolding_all rfl):PT X (.Compare a [op,op'] [b,c] pos) (Wj (Ha r r' ta tb tc)):=by
 intro pins s U H Q I h;refine isTrue_chain (aN (ha pins s U H _ I h) λv s1 ⟨x,H1,I1,r1,q1⟩=>test_link (aN (hb pins s1 U H1 _ I1 q1) λu s2 ⟨y,H2,I2,r2,q2⟩=>aN (ho pins s2 U H2 x y v u _ I2 r1 r2 q2) λd s3 ⟨z,H3,I3,r3,k,e,q3⟩=>?_)) hm
 subst e;cases r3;refine wpAny_truthy_bool ?_;cases k with
 |false=>obtain⟨k',e',q'⟩:=q3;cases e';exact ite_ff ⟨H3,I3,q'⟩
 |true=>refine ite_tt (test_last (aN (hc pins s3 U H3 _ I3 q3) λw' s4 ⟨z',H4,I4,r4,q4⟩=>aN (ho' pins s4 U H4 y z' u w' _ I4 r2 r4 q4) λd' s5 ⟨z2,H5,I5,r5,k2,e2,q5⟩=>?_));subst e2;cases r5;exact wpAny_truthy_bool ⟨H5,I5,q5⟩
def vN(K:W.Frag)(x:V)(H:Hp)(k:Bool):Prop:=
 match x with
 |.aC=>k=false
 |.bl b=>k=b
 |.int i=>k=(i != 0)
 |.str y=>y.length<=sizeLine/\k=((y.length:Int) != 0)
 |.iD y=>y.size<=sizeLine/\k=((y.size:Int) != 0)
 |.ref p=>(∃xs,bO K H p xs/\k = !xs.isEmpty)\/(∃xs,cU K H p xs/\k = !xs.isEmpty)\/∃kvs,H p=some (.dK kvs)/\k = !kvs.isEmpty
 |_=>False
theorem FT{κ:Type}{kvs:List (κ×V)}{vs:List (κ×Value)}(r:KV kvs vs):(!vs.isEmpty) = !kvs.isEmpty:=by cases r<;>rfl
theorem Nn{xs:List V}{its:List Value}(r:Vals xs its):(!its.toArray.isEmpty) = !xs.isEmpty:=by cases r<;>simp
theorem wJ:(sizeLine:Nat)<2 ^ 63:=by rw[sizeLine_eq];decide
theorem wo:Xu X (λx H Q=>∃k,vN X.K x H k/\Q k H):=by
 intro pins s U H x v Q I rx h;obtain⟨k,e,q⟩:=h;have hl:=wJ;have hs:sizeLine=16777216:=sizeLine_eq;cases x with
 |aC=>cases rx;have e':k=false:=e;subst e';exact truthy_none ⟨H,I,q⟩
 |bl b=>cases rx;have e':k=b:=e;subst e';exact wpAny_truthy_bool ⟨H,I,q⟩
 |int i=>obtain⟨t,rfl⟩:=rx;have e':k=(i != 0):=e;subst e';exact PySem.P.truthy_int ⟨H,I,q⟩
 |str y=>obtain⟨t,rfl⟩:=rx;obtain⟨hy,e'⟩:y.length<=sizeLine/\k=((y.length:Int) != 0):=e;subst e';exact PySem.P.truthy_str (by omega) ⟨H,I.tok _,q⟩
 |iD y=>obtain⟨t,rfl⟩:=rx;obtain⟨hy,e'⟩:y.size<=sizeLine/\k=((y.size:Int) != 0):=e;subst e';exact W.truthy_bytes (by omega) ⟨H,I.tok _,q⟩
 |ref p=>
  cases rx;have e':(∃xs,bO X.K H p xs/\k = !xs.isEmpty)\/(∃xs,cU X.K H p xs/\k = !xs.isEmpty)\/∃kvs,H p=some (.dK kvs)/\k = !kvs.isEmpty:=e;rcases e' with⟨xs,hx,e'⟩|⟨xs,hx,e'⟩|⟨kvs,hx,e'⟩
  .subst e';obtain⟨its,r,pl,hz⟩:=I.list hx;have hlen:=r.length;exact wpAny_truthy_list pl.isList (by simp only[List.size_toArray];omega) ⟨H,I.tok _,by rw[Nn r];exact q⟩
  .subst e';obtain⟨its,r,pl,hz⟩:=I.tuple hx;have hlen:=r.length;exact truthy_tuple pl (by simp only[List.size_toArray];omega) ⟨H,I.tok _,by rw[Nn r];exact q⟩
  .subst e';obtain⟨hz,hS,vs,r,m⟩:kvs.length<=sizeLine/\(p==sysModules)=false/\∃vs,KV kvs vs/\s.heap.DictOf (dQ X.prog X.w) p vs:=I.aE p _ hx;have hlen:kvs.length=vs.length:=Paired.length r;exact wpAny_truthy_dict hS m (by omega) ⟨H,I.tok _,by rw[FT r];exact q⟩
 |_=>exact(show False from e).elim
theorem NQ(ha:PE X a ta)(he:∀whole,isTrue a X.env whole=(do let v <- whole;standAt a.pos;holding [v] (truthy v))) :
  PT X a (λU H Q=>ta U H λx H'=>∃k,vN X.K x H' k/\Q k H'):=by
 intro pins s U H Q I h;exact isTrue_plain (aN (ha pins s U H _ I h) λv s1 ⟨x,H1,I1,r1,q1⟩=>wo pins s1 U H1 x v Q I1 r1 q1) (he _)
theorem II:bJ X (binaryOp .Add) (λx y H Q=>∃i j,x = .str i/\y = .str j/\i.length+j.length<=sizeLine/\Q (.str (i++j)) H):=by intro pins s U H x y v u Q I rx ry h;obtain⟨i,j,rfl,rfl,hz,q⟩:=h;obtain⟨t,rfl⟩:=rx;obtain⟨t',rfl⟩:=ry;exact add_str (λt' tk=>⟨.str (i++j),H,I.tok _,⟨_,rfl⟩,q⟩) hz
theorem ba{x:V}{us:List Value}(r:Vals [x] us):∃u,us=[u]/\RelV x u:=by
 cases r with
 |cons r1 r2=>cases r2;exact⟨_,rfl,r1⟩
theorem qX{x y:V}{us:List Value}(r:Vals [x,y] us):∃u w',us=[u,w']/\RelV x u/\RelV y w':=by
 cases r with
 |cons r1 r2=>
  cases r2 with
  |cons r3 r4=>cases r4;exact⟨_,_,rfl,r1,r3⟩
theorem Yv(hc:X.calm=true):eI X (.builtin "max") (λxs H Q=>∃i j,xs=[.int i,.int j]/\Q (.int (if j > i then j else i)) H):=by
 intro pins s U H xs us Q I r h;obtain⟨i,j,rfl,q⟩:=h;obtain⟨u,w',rfl,⟨t,rfl⟩,⟨t',rfl⟩⟩:=qX r;refine max_two_ints (I.ok.hd hc) λh' tk k=>⟨_,H,I.kept k,?_,q⟩;by_cases hj:j > i
 .rw[if_pos hj,if_pos hj];exact⟨_,rfl⟩
 .rw[if_neg hj,if_neg hj];exact⟨_,rfl⟩
theorem Yw(hc:X.calm=true):eI X (.builtin "min") (λxs H Q=>∃i j,xs=[.int i,.int j]/\Q (.int (if j<i then j else i)) H):=by
 intro pins s U H xs us Q I r h;obtain⟨i,j,rfl,q⟩:=h;obtain⟨u,w',rfl,⟨t,rfl⟩,⟨t',rfl⟩⟩:=qX r;refine min_two_ints (I.ok.hd hc) λh' tk k=>⟨_,H,I.kept k,?_,q⟩;by_cases hj:j<i
 .rw[if_pos hj,if_pos hj];exact⟨_,rfl⟩
 .rw[if_neg hj,if_neg hj];exact⟨_,rfl⟩
theorem Yo:eI X (.type "int") (λxs H Q=>(∃i,xs=[.int i]/\Q (.int i) H)\/∃k,xs=[.bl k]/\Q (.int (if k then 1 else 0)) H):=by
 intro pins s U H xs us Q I r h;rcases h with⟨i,rfl,q⟩|⟨k,rfl,q⟩
 .obtain⟨u,rfl,t,rfl⟩:=ba r;exact call_int_int ⟨.int i,H,I,⟨_,rfl⟩,q⟩
 .obtain⟨u,rfl,r1⟩:=ba r;cases r1;exact call_int_bool ⟨.int (if k then 1 else 0),H,I.tok _,⟨_,rfl⟩,q⟩
end
structure vK(h:Heap)(x dx C:Addr)(mA:Str->Option Value):Prop where
 obj:h.get? x=some (W.instObj C dx)
 ns:h.Ns1 dx mA
 ne:dx≠x
theorem HB{h:Heap}{dx:Addr}{mA:Str->Option Value}(n:h.Ns1 dx mA):∃od,h.get? dx=some od/\∀name,W.lookIn name od=some (mA name):=by
 obtain⟨o,es,ep,ho,hd,hk,_,hm⟩:=n;refine⟨o,ho,λname=>?_⟩;have e:=hm name;unfold nsFind findBy at e;rw[<- Array.find?_toList]at e;unfold W.lookIn;rw[hd];dsimp only;split
 .rename_i y q;rw[q]at e;exact congrArg some e
 .rename_i q;rw[q]at e;have a:es.toList.any (·.refKey)=false:=by rw[List.any_eq_false];intro y hy;obtain⟨z,t,hkey⟩:=hk y (Array.mem_toList_iff.mp hy);simp[DictEntry.refKey,hkey]
  have a':¬es.toList.any (·.refKey)=true:=by rw[a];exact Bool.false_ne_true
  rw[if_neg a'];exact congrArg some e
theorem vK.look{h:Heap}{x dx C:Addr}{mA:Str->Option Value}(I:vK h x dx C mA):∃od,W.InstAt h x (W.instObj C dx) C (some od)/\∀name,W.lookIn name od=some (mA name):=
 let ⟨od,ho,hl⟩:=HB I.ns
 ⟨od,⟨I.obj,rfl,rfl,ho⟩,hl⟩
section
variable {prog:Program}{w:World}{A:Around}{E:Value->Shared->Prop}{s:Shared}{K:W.Frag}{x dx C f:Addr}{mA:Str->Option Value}{name:Str}{v:Value}
theorem EI{expr:Bool}{Q:Value->Shared->Prop}(X:K.In s.heap)(I:vK s.heap x dx C mA)(hg:W.plainGet K C name=true)(hh:W.hasDictIn K C=true)
  (ha:W.findIn K (.ref C) name=some none) (hv:mA name=some v) (hv':W.handedIn v=true) (h:Q v { s with toks:=s.toks+1 }) :
  wpAny (model prog w) A (getAttr (.ref x) name expr) Q E s:=by
 obtain⟨od,J,hl⟩:=I.look;exact W.get_value X J (W.plainGet_of hg).1 (W.findObj_own hh ha rfl (by rw[hl,hv])) hv' h
theorem EJ{pl:Sem Bool}{Q:Value×List Value->Shared->Prop}(X:K.In s.heap)(I:vK s.heap x dx C mA)(hg:W.plainGet K C name=true)
  (hf:W.findIn K (.ref C) name=some (some (.ref f))) (ht:W.isFn K (.ref f)=true) (hv:mA name=none) (h:Q (.ref f,[.ref x]) s) :
  wpAny (model prog w) A (getMethod (.ref x) name pl) Q E s:=by
 obtain⟨od,J,hl⟩:=I.look;exact W.method_fn X J (W.plainGet_of hg).1 (W.plainGet_of hg).2 hf (beq_iff_eq.mp ht) (by show(W.lookIn name od).map (·.isSome)=some false;rw[hl,hv];rfl) h
theorem WU{ns:List Str}{Q:Unit->Shared->Prop}(X:K.In s.heap)(I:vK s.heap x dx C mA)
  (hs:W.findIn K (.ref C) "__setattr__"=some (some (.builtin "object.__setattr__"))) (hp:W.plainOver K C=true) (ht:W.takerIn K C name=some none) (hh:W.hasDictIn K C=true)
  (hw:PySem.Within mA ns) (hsz:ns.length<=sizeLine)
  (h:∀h',vK h' x dx C (λy=>if y=name then some v else mA y)->Heap.SameBut dx s.heap h'->Q () { s with heap:=h',toks:=s.toks+2 }) :
  wpAny (model prog w) A (setAttr (.ref x) name v) Q E s:=by
 obtain⟨od,J,hl⟩:=I.look;refine W.set_plain X J hs (W.osa_open (s:={ s with toks:=s.toks+1 }) (r:=none) X J hp ht λb=>?_);obtain⟨cd,hc,hd'⟩:=W.any_some hh;have hx:s.heap.get? x=some ⟨.ref C,some dx,.plain,#[]⟩:=I.obj;refine wpAny_bind (wpAny_pure (wpAny_bind (wpAny_bind (wpAny_loadPart hx (wpAny_bind (W.Looks.here (s:={ s with toks:=s.toks+1 }) (W.looks_clsIn X hc) ?_))))));rw[hd'];refine wpAny_pure (a:=some dx) (wpAny_bind (wpAny_pure (wpAny_bind ?_)));refine wpAny_nsSet1 (s:={ s with toks:=s.toks+1 }) I.ns λh' hn2 hs2=>?_;obtain⟨oD,esD,epD,hoD,hdD,hcD⟩:=hn2.count (PySem.Within.cons name v hw);refine wpAny_bind (wpAny_lookBehind hoD (by rw[hdD];exact pastItsLine_dict (Nat.le_trans hcD (by rw[List.length_cons];omega))) ?_);exact wpAny_pure (h _ ⟨(hs2.2 _ (Ne.symm I.ne)).trans I.obj,hn2,I.ne⟩ hs2)
theorem HH{R:Result->Shared->Prop}{vs:List Value}{kw:List (Str×Value)}(X:K.In s.heap)(hm:W.makesIn K C=true)
  (hi:W.findIn K (.ref C) "__init__"=some (some (.ref f))) (hf:W.typeIn K (.ref f)=some (.type "function"))
  (h:codeAny (model prog w) (A.under (.builtin "type.__call__" ⟨.ref C::vs,kw⟩)) (.call (.ref f) ⟨.ref (s.heap.objs.size+1)::vs,kw⟩) (W.InitBack (s.heap.objs.size+1) R)
   { s with heap:=(s.heap.push W.emptyDict).push (W.instObj C s.heap.objs.size) }) :
  codeAny (model prog w) A (.call (.ref C) ⟨vs,kw⟩) R s:=by
 obtain⟨hh,g,d,t,os⟩:=s;exact W.make_core (W.makes_of X hm) (W.looks_findIn X hi) (λself=>W.bind_fn X self hf) (.inl rfl) h
end
def eX(f:Str)(v:V):List (Str×V)->List (Str×V)
 |[]=>[(f,v)]
 | (g,x)::r=>if g=f then(g,v)::r else(g,x)::eX f v r
theorem Om(f g:Str)(v:V):∀fs:List (Str×V),(eX f v fs).lookup g=if g=f then some v else fs.lookup g
 |[]=>by
  show List.lookup g [(f,v)]=_;by_cases h:g=f
  .have hb:(g==f)=true:=beq_iff_eq.mpr h;simp only[List.lookup,hb,if_pos h]
  .have hb:(g==f)=false:=beq_eq_false_iff_ne.mpr h;simp only[List.lookup,hb,if_neg h]
 | (k,x)::r=>by
  have ih:=Om f g v r;rw[show eX f v ((k,x)::r)=(if k=f then(k,v)::r else(k,x)::eX f v r) from rfl];by_cases hk:k=f
  .rw[if_pos hk];by_cases h:g=k
   .have hb:(g==k)=true:=beq_iff_eq.mpr h;simp only[List.lookup,hb,if_pos (h.trans hk)]
   .have hb:(g==k)=false:=beq_eq_false_iff_ne.mpr h;simp only[List.lookup,hb,if_neg (λe:g=f=>h (e.trans hk.symm))]
  .rw[if_neg hk];by_cases h:g=k
   .have hb:(g==k)=true:=beq_iff_eq.mpr h;simp only[List.lookup,hb,if_neg (λe:g=f=>hk (h.symm.trans e))]
   .have hb:(g==k)=false:=beq_eq_false_iff_ne.mpr h;simp only[List.lookup,hb];exact ih
theorem Ar(f:Str)(v:V):∀fs:List (Str×V),f∈(eX f v fs).map (·.1)/\∀g,g∈fs.map (·.1)->g∈(eX f v fs).map (·.1)
 |[]=>⟨by simp[eX],λg h=>by simp at h⟩
 | (k,x)::r=>by
  obtain⟨i1,i2⟩:=Ar f v r;rw[show eX f v ((k,x)::r)=(if k=f then(k,v)::r else(k,x)::eX f v r) from rfl];by_cases hk:k=f
  .rw[if_pos hk];subst hk;exact⟨by simp,λg h=>by simpa using h⟩
  .rw[if_neg hk];refine⟨?_,λg h=>?_⟩
   .rw[List.map_cons];exact List.mem_cons_of_mem _ i1
   .rw[List.map_cons]at h ⊢;rcases List.mem_cons.mp h with e|e
    .exact List.mem_cons.mpr (.inl e)
    .exact List.mem_cons_of_mem _ (i2 g e)
theorem Oh(f:Str)(v:V):∀fs:List (Str×V),(eX f v fs).length<=fs.length+1
 |[]=>by simp[eX]
 | (k,x)::r=>by
  have ih:=Oh f v r;rw[show eX f v ((k,x)::r)=(if k=f then(k,v)::r else(k,x)::eX f v r) from rfl];by_cases hk:k=f
  .rw[if_pos hk,List.length_cons,List.length_cons];omega
  .rw[if_neg hk,List.length_cons,List.length_cons];omega
theorem eK.some_of{v:V}{o:Option Value}(r:eK (some v) o):∃u,o=some u/\RelV v u:=by
 cases o with
 |none=>exact(show False from r).elim|some u=>exact⟨u,rfl,r⟩
theorem eK.none_of{o:Option Value}(r:eK none o):o=none:=by
 cases o with
 |none=>rfl|some u=>exact(show False from r).elim
theorem EL{v:V}{u:Value}(r:RelV v u):W.handedIn u=true:=by
 cases v with
 |aC=>cases(show u=Value.none from r);rfl|bl b=>cases(show u=Value.bool b from r);rfl|int i=>obtain⟨t,e⟩:=(show∃t,u=Value.int i t from r);cases e;rfl|str x=>obtain⟨t,e⟩:=(show∃t,u=Value.str x t from r);cases e;rfl|iD b=>obtain⟨t,e⟩:=(show∃t,u=Value.bytes b t from r);cases e;rfl|vV b=>obtain⟨t,e⟩:=(show∃t,u=Value.float b t from r);cases e;rfl|ref a=>cases(show u=Value.ref a from r);rfl|ty n=>cases(show u=Value.type n from r);rfl
section
variable {P:Program}{w:World}{H H':Hp}{h h':Heap}{a C dx:Addr}{fs fs':List (Str×V)}
theorem lh(aE:bY P w H h)(e:H a=some (.ins C dx fs)):∃mA,vK h a dx C mA/\(∀f,eK (fs.lookup f) (mA f))/\PySem.Within mA (fs.map (·.1))/\fs.length<=1000/\H dx=some (.own a):=by obtain⟨d,z,ne,ob,mA,n,r,q⟩:=(show cX P w H h a (.ins C dx fs) from aE a _ e);exact⟨mA,⟨ob,n,ne⟩,r,q,z,d⟩
end
structure iR(K:W.Frag)(C:Addr):Prop where
 pg:W.plainGet K C Str.empty=true
 hd:W.hasDictIn K C=true
 po:W.plainOver K C=true
 sa:W.findIn K (.ref C) "__setattr__"=some (some (.builtin "object.__setattr__"))
theorem iR.get{K:W.Frag}{C:Addr}(c:iR K C)(f:Str):W.plainGet K C f=true:=c.pg
def rD(K:W.Frag)(C:Addr)(f:Str):Prop:=W.findIn K (.ref C) f=some none
theorem rD.ZD{K:W.Frag}{C:Addr}{f:Str}(n:rD K C f):W.takerIn K C f=some none:=by unfold W.takerIn;rw[show W.findIn K (.ref C) f=some none from n];rfl
structure Meth(K:W.Frag)(C:Addr)(m:Str)(f:Addr):Prop where
 at_:W.findIn K (.ref C) m=some (some (.ref f))
 fn:W.isFn K (.ref f)=true
 kp:W.keepIn K (.ref f)=true
section
variable {X:Cx}{pins:List (Addr×Obj)}{U:St}{H:Hp}{s:Shared}{a C dx:Addr}{fs:List (Str×V)}{f:Str}{v:V}{A:Around}{E:Value->Shared->Prop}
theorem Ng{b:Bool}{Q:Value->Shared->Prop}(I:Inv X pins U H s)(e:H a=some (.ins C dx fs))(c:iR X.K C)(n:rD X.K C f)(l:fs.lookup f=some v)
  (h:∀u s',Inv X pins U H s'->RelV v u->Q u s'):wpAny (model X.prog X.w) A (getAttr (.ref a) f b) Q E s:=by
 obtain⟨mA,O,r,_,_,_⟩:=lh I.aE e;obtain⟨u,hu,ru⟩:=eK.some_of (v:=v) (o:=mA f) (by rw[<- l];exact r f);exact EI I.bN O (c.get f) c.hd n hu (EL ru) (h u _ (I.tok _) ru)
theorem Nh{m:Str}{g:Addr}{pl:Sem Bool}{Q:Value×List Value->Shared->Prop}(I:Inv X pins U H s)(e:H a=some (.ins C dx fs))(c:iR X.K C)(k:Meth X.K C m g)(l:fs.lookup m=none)
  (h:Q (.ref g,[.ref a]) s):wpAny (model X.prog X.w) A (getMethod (.ref a) m pl) Q E s:=by
 obtain⟨mA,O,r,_,_,_⟩:=lh I.aE e;have hn:mA m=none:=eK.none_of (by rw[<- l];exact r m);exact EJ I.bN O (c.get m) k.at_ k.fn hn h
theorem Vn{y:V}{u:Value}{Q:Unit->Shared->Prop}(I:Inv X pins U H s)(e:H a=some (.ins C dx fs))(c:iR X.K C)(n:rD X.K C f)(hl:fs.length<1000)(ry:RelV y u)
  (h:∀s',Inv X pins U (aJ H a (.ins C dx (eX f y fs))) s'->Q () s'):wpAny (model X.prog X.w) A (setAttr (.ref a) f u) Q E s:=by
 obtain⟨mA,O,r,wi,_,ho⟩:=lh I.aE e;have hz:(fs.map (·.1)).length<=sizeLine:=by rw[List.length_map,sizeLine_eq];omega
 refine WU I.bN O c.sa c.po n.ZD c.hd wi hz λh' O' sb=>h _ ?_;have hd:∃o,h'.get? dx=some o:=let ⟨o,_,_,e',_⟩:=O'.ns;⟨o,e'⟩;refine I.write (x:=a) (e:=dx) (by rw[e];exact True.intro) (.inr ho) (λb q hb z=>(sb.2 b hb).trans z) hd ?_;refine⟨by rw[aR O.ne];exact ho,?_,O.ne,O'.obj,_,O'.ns,λg=>?_,λg hg=>?_⟩
 .have:=Oh f y fs;omega
 .show eK ((eX f y fs).lookup g) (if g=f then some u else mA g);rw[Om];by_cases q:g=f
  .rw[if_pos q,if_pos q];exact ry
  .rw[if_neg q,if_neg q];exact r g
 .by_cases q:g=f
  .rw[q];exact(Ar f y fs).1
  .refine(Ar f y fs).2 g (wi g λz=>hg ?_);show(if g=f then some u else mA g)=none;rw[if_neg q];exact z
theorem Inv.made(I:Inv X pins U H s):Inv X pins U (aJ (aJ H s.heap.objs.size (.own (s.heap.objs.size+1))) (s.heap.objs.size+1) (.ins C s.heap.objs.size []))
  { s with heap:=(s.heap.push W.emptyDict).push (W.instObj C s.heap.objs.size) }:=by
 have e1:(s.heap.push W.emptyDict).get? s.heap.objs.size=some W.emptyDict:=Heap.get?_push_size s.heap rfl;have e2:((s.heap.push W.emptyDict).push (W.instObj C s.heap.objs.size)).get? (s.heap.objs.size+1)=some (W.instObj C s.heap.objs.size):=by have:=Heap.get?_push_size (s.heap.push W.emptyDict) (o:=W.instObj C s.heap.objs.size) rfl;rwa [Heap.size_push]at this
 have e3:(s.heap.push W.emptyDict).Ns s.heap.objs.size (λ_=>none):=⟨W.emptyDict,#[],_,e1,rfl,(λe he=>absurd he (by simp)),λ_=>rfl⟩;have I1:=I.laid (a:=s.heap.objs.size) (o:=.own (s.heap.objs.size+1)) (h':=s.heap.push W.emptyDict) (t':=s.toks) (λb u q=>Heap.get?_push_of_some _ q) (Nat.le_refl _) ⟨_,e1⟩;refine I1.laid (a:=s.heap.objs.size+1) (o:=.ins C s.heap.objs.size []) (t':=s.toks) (λb u q=>Heap.get?_push_of_some _ q) (Nat.le_of_eq (Heap.size_push _ _)) ?_;have ne:s.heap.objs.size≠s.heap.objs.size+1:=Nat.ne_of_lt (Nat.lt_succ_self _);refine⟨by rw[aR ne,dN],Nat.zero_le _,ne,e2,λ_=>none,(Heap.Ns1.of_empty e3).at λo q=>Heap.get?_push_of_some _ q,λ_=>True.intro,λy hy=>absurd rfl hy⟩
theorem Yg{prog:Program}{w:World}{env:Env}{e:Expr}{f:Str}{pos:Pos}{s:Shared}{Q:Value->Shared->Prop}(hb:attributeBase e f env (eval e env)=eval e env)
  (h:wpAny (model prog w) A (eval e env) (λo s₁=>wpAny (model prog w) A (getAttr o f true) Q E s₁) E s):wpAny (model prog w) A (eval (.Attribute e f pos) env) Q E s:=
 Attribute_any_ h (by rw[arm_eval_Attribute,hb])
end
def YI(K:W.Frag)(ta:TE)(f:Str):TE:=λU H Q=>ta U H λx H1=>∃a C dx fs v,x = .ref a/\H1 a=some (.ins C dx fs)/\iR K C/\rD K C f/\fs.lookup f=some v/\Q v H1
def VD(K:W.Frag)(ta tv:TE)(f:Str):TS:=λD U H=>tv U H λy H1=>ta U H1 λx H2=>∃a C dx fs,x = .ref a/\H2 a=some (.ins C dx fs)/\iR K C/\rD K C f/\fs.length<1000 /\
 D.nx U (aJ H2 a (.ins C dx (eX f y fs)))
def Hu(X:Cx)(op:Operator)(rd:V->V->Hp->VK->Prop):Prop:=
 ∀(pins:List (Addr×Obj)) (s:Shared) (U:St) (H:Hp) (x y:V) (u v:Value) (Q:VK),Inv X pins U H s->RelV x u->RelV y v->rd x y H Q->wpAny (model X.prog X.w) X.A (inplaceOp op u v) (EP X pins U Q) X.xe s
def VE(K:W.Frag)(ta tv:TE)(rd:V->V->Hp->VK->Prop)(f:Str):TS:=λD U H=>ta U H λx H1=>∃a C dx fs v,x = .ref a/\H1 a=some (.ins C dx fs)/\iR K C/\rD K C f/\fs.lookup f=some v /\
 tv U H1 λy H2=>rd v y H2 λz H3=>∃dx' fs',H3 a=some (.ins C dx' fs')/\fs'.length<1000/\D.nx U (aJ H3 a (.ins C dx' (eX f z fs')))
section
variable {X:Cx}{o e value:Expr}{f:Str}{pos pos' tpos:Pos}{ta tv:TE}
theorem LD(he:PE X e ta)(hb:attributeBase e f X.env (eval e X.env)=eval e X.env):PE X (.Attribute e f pos) (YI X.K ta f):=by intro pins s U H Q I h;refine Yg hb (aN (he pins s U H _ I h) λu s1 ⟨x,H1,I1,rx,a,C,dx,fs,v,ex,ea,c,n,l,q⟩=>?_);subst ex;obtain rfl:u=Value.ref a:=rx;exact Ng I1 ea c n l λu' s2 I2 ru=>⟨v,H1,I2,ru,q⟩
theorem MY(ha:PE X o ta)(hv:PE X value tv)(hs:swapsWith value (some (.Attribute o f pos')) pos.line X.env=pure false):PS X (.Assign [.Attribute o f pos'] value pos) (VD X.K ta tv f):=by intro pins s U H D I h;refine plainObj_wpAny_Assign_Attribute (aN (hv pins s U H _ I h) λu s1 ⟨y,H1,I1,ry,q⟩=>aN (ha pins s1 U H1 _ I1 q) λov s2 ⟨x,H2,I2,rx,a,C,dx,fs,ex,ea,c,n,l,q2⟩=>?_) hs;subst ex;obtain rfl:ov=Value.ref a:=rx;exact Vn I2 ea c n l ry λs3 I3=>⟨U,_,I3,q2⟩
theorem MZ{op:Operator}{rd:V->V->Hp->VK->Prop}(ha:PE X o ta)(hv:PE X value tv)(hop:Hu X op rd):PS X (.AugAssign (.Attribute o f tpos) op value pos) (VE X.K ta tv rd f):=by intro pins s U H D I h;refine wpAny_AugAssign_AttributeAny (aN (ha pins s U H _ I h) λov s1 ⟨x,H1,I1,rx,a,C,dx,fs,v,ex,ea,c,n,l,q⟩=>?_);subst ex;obtain rfl:ov=Value.ref a:=rx;refine Ng I1 ea c n l λu s2 I2 ru=>aN (hv pins s2 U H1 _ I2 q) λw3 s3 ⟨y,H2,I3,ry,q3⟩=>aN (hop pins s3 U H2 v y u w3 _ I3 ru ry q3) λw4 s4 ⟨z,H3,I4,rz,dx',fs',ea',l',q4⟩=>?_;exact Vn I4 ea' c n l' rz λs5 I5=>⟨U,_,I5,q4⟩
def UD:V->V->Hp->VK->Prop:=λx y H Q=>∃i j,x = .int i/\y = .int j/\Q (.int (i+j)) H
theorem FG:Hu X .Add UD:=by
 rintro pins s U H x y u v Q I rx ry ⟨i,j,rfl,rfl,q⟩
 obtain⟨t,rfl⟩:=(show∃t,u=Value.int i t from rx);obtain⟨t',rfl⟩:=(show∃t',v=Value.int j t' from ry);exact PyProof.Rows.iadd_int ⟨.int (i+j),H,I.tok _,⟨_,rfl⟩,q⟩
end
section
variable {X:Cx}{pins:List (Addr×Obj)}{U:St}{H:Hp}{s:Shared}{A:Around}{E:Value->Shared->Prop}{Q:Value->Shared->Prop}{c:Value}{b:Bool}
inductive jX(K:W.Frag)(H:Hp):V->Value->Prop where
 |aC:jX K H .aC (.type "NoneType")
 |bl (x:Bool):jX K H (.bl x) (.type "bool")
 |int (i:Int):jX K H (.int i) (.type "int")
 |str (x:Str):jX K H (.str x) (.type "str")
 |vV (x:UInt64):jX K H (.vV x) (.type "float")
 |lst {a:Addr} {xs:List V} (e:H a=some (.lst xs)):jX K H (.ref a) (.type "list")
 |bH {a:Addr} {o:Obj} {xs:List V} (e:H a=some (.bH o (.lst xs))):jX K H (.ref a) (.type "list")
 |tup {a:Addr} {xs:List V} (e:H a=some (.tup xs)):jX K H (.ref a) (.type "tuple")
 |dK {a:Addr} {kvs:List (aD×V)} (e:H a=some (.dK kvs)):jX K H (.ref a) (.type "dict")
 |dT {a:Addr} {kvs:List (List aD×V)} (e:H a=some (.dT kvs)):jX K H (.ref a) (.type "dict")
 |ins {a C dx:Addr} {fs:List (Str×V)} (e:H a=some (.ins C dx fs)) (cl:iR K C) (ha:W.findIn K (.ref C) "__class__"=some (some (.builtin "object.__class__")))
  (hn:W.specialIn K (.builtin "object.__class__") "__get__"=some (some (.builtin "getset_descriptor.__get__"))) (htk:W.takesIn K (.builtin "object.__class__")=some true)
  (hm:W.mroIn K C (.type "object")=some true):jX K H (.ref a) (.ref C)
theorem FV{x:V}{u t:Value}(I:Inv X pins U H s)(rx:RelV x u)(ty:jX X.K H x t)(e:W.kitOne X.K t c=some b)(h:∀tk,Q (.bool b) { s with toks:=tk }) :
  wpAny (model X.prog X.w) A (call (.builtin "isinstance") [u,c]) Q E s:=by
 cases ty with
 |aC=>cases(show u=Value.none from rx);exact W.kia_one W.kitx_none I.bN True.intro e (λz=>nomatch z) h|bl y=>cases(show u=Value.bool y from rx);exact W.kia_one W.kitx_bool I.bN True.intro e (λz=>nomatch z) h|int i=>obtain⟨t,q⟩:=(show∃t,u=Value.int i t from rx);cases q;exact W.kia_one W.kitx_int I.bN True.intro e (λz=>nomatch z) h|str y=>obtain⟨t,q⟩:=(show∃t,u=Value.str y t from rx);cases q;exact W.kia_one W.kitx_str I.bN True.intro e (λz=>nomatch z) h|vV y=>obtain⟨t,q⟩:=(show∃t,u=Value.float y t from rx);cases q;exact W.kia_one W.kitx_float I.bN True.intro e (λz=>nomatch z) h|@lst a xs ea=>cases(show u=Value.ref a from rx);obtain⟨_,_,n,_,h1⟩:=(show cX X.prog X.w H s.heap a (.lst xs) from I.aE a _ ea);exact W.kia_one W.kitx_list I.bN ⟨_,h1,rfl⟩ e (λz=>nomatch z) h
 |@bH a ob xs ea=>cases(show u=Value.ref a from rx);obtain⟨_,_,_,n,_,h1⟩:=(show cX X.prog X.w H s.heap a (.bH ob (.lst xs)) from I.aE a _ ea);exact W.kia_one W.kitx_list I.bN ⟨_,h1,rfl⟩ e (λz=>nomatch z) h
 |@tup a xs ea=>cases(show u=Value.ref a from rx);obtain⟨_,_,_,p⟩:=(show cX X.prog X.w H s.heap a (.tup xs) from I.aE a _ ea);obtain⟨o,h1,h2,_⟩:=p;exact W.kia_one W.kitx_tuple I.bN ⟨o,h1,h2⟩ e (λz=>nomatch z) h
 |@dK a kvs ea=>cases(show u=Value.ref a from rx);obtain⟨_,_,vs,_,p⟩:=(show cX X.prog X.w H s.heap a (.dK kvs) from I.aE a _ ea);obtain⟨o,es,ep,h1,h2,_⟩:=p;exact W.kia_one W.kitx_dict I.bN ⟨o,h1,h2.1⟩ e (λz=>nomatch z) h
 |@dT a kvs ea=>cases(show u=Value.ref a from rx);obtain⟨_,_,xs,_,o,es,ep,h1,h2,_⟩:=(show cX X.prog X.w H s.heap a (.dT kvs) from I.aE a _ ea);exact W.kia_one W.kitx_dict I.bN ⟨o,h1,h2.1⟩ e (λz=>nomatch z) h
 |@ins a C dx fs ea cl ha hn htk hm=>cases(show u=Value.ref a from rx);obtain⟨mA,O,_⟩:=lh I.aE ea;obtain⟨od,J,_⟩:=O.look;exact W.kia_one (W.kitx_own (cl.get _) cl.hd ha hn htk hm) I.bN J e (λz=>nomatch z) h
end
structure cD(k:Nat)(A:Around):Prop where
 hd:A.handled=none
 dp:A.depth+3*k+5<recursionLimit
 un:A.units+16*k+200<cLine
theorem cD.mono{j k:Nat}{A:Around}(r:cD k A)(h:j<=k):cD j A:=⟨r.hd,by have:=r.dp;omega,by have:=r.un;omega⟩
theorem cD.deeper{k:Nat}{A:Around}(r:cD (k+1) A)(env:Env):cD k (A.deeper env):=
 ⟨r.hd,by have:=r.dp;show A.depth+1+3*k+5<_;omega,by have:=r.un;show A.units+3+16*k+200<_;omega⟩
theorem HG{A:Around}{C:Addr}{us:List Value}{kw:List (Str×Value)}:(A.under (.builtin "type.__call__" ⟨.ref C::us,kw⟩)).depth=A.depth+1:=by first|rfl|simp[Around.under,Code.weight,Code.isCreation,Code.isGuard,Code.isCaller,Code.frames,Code.isFrame,guardIds]
theorem HI{A:Around}{C:Addr}{us:List Value}{kw:List (Str×Value)}:(A.under (.builtin "type.__call__" ⟨.ref C::us,kw⟩)).units=A.units+1:=by first|rfl|simp[Around.under,Code.cUnits,Code.frames,Code.isFrame]
theorem cD.make{k:Nat}{A:Around}(r:cD (k+1) A)(C:Addr)(us:List Value)(kw:List (Str×Value)):cD k (A.under (.builtin "type.__call__" ⟨.ref C::us,kw⟩)):=
 ⟨r.hd,by have:=r.dp;rw[HG];omega,by have:=r.un;rw[HI];omega⟩
theorem cD.depth{k:Nat}{A:Around}(r:cD k A):A.depth<recursionLimit:=by have:=r.dp;omega
theorem cD.units{k:Nat}{A:Around}(r:cD k A):A.units+64<cLine:=by have:=r.un;omega
def xX:TA:=λ_ H Q=>Q [] H
def wb(ta:TE)(tr:TA):TA:=λU H Q=>ta U H λx H1=>tr U H1 λxs H2=>Q (x::xs) H2
section
variable {X:Cx}{e:Expr}{es:List Expr}{te:TE}{t:TA}{pos:Pos}
theorem qH:PA X [] xX:=λ_ _ _ _ H Q I h=>Calls.spliced_nil ⟨[],H,I,.nil,h⟩
theorem kG(ha:PE X e te)(hr:PA X es t)(hs:starEach (e::es) X.env=(false,eval e X.env)::starEach es X.env:=by rfl):PA X (e::es) (wb te t):=by intro pos pins s U H Q I h;rw[hs];show wpAny _ _ (spliced ((false,eval e X.env)::backTo pos (starEach es X.env))) _ _ s;refine Calls.spliced_cons (aN (ha pins s U H _ I h) λu s1 ⟨x,H1,I1,r1,q1⟩=>?_);exact aN (hr pos pins s1 U H1 _ I1 q1) λus s2 ⟨xs,H2,I2,r2,q2⟩=>⟨x::xs,H2,I2,.cons r1 r2,q2⟩
def YY(t:TA):TE:=λU H Q=>t U H λxs H1=>xs.length<=sizeLine/\∀p,H1 p=none->Q (.ref p) (aJ H1 p (.tup xs))
def YM(t:TA):TE:=λU H Q=>t U H λxs H1=>xs.length<=sizeLine/\∀p,H1 p=none->Q (.ref p) (aJ H1 p (.lst xs))
theorem LU{x1}(h:PA X es t):PE X (.Tuple es x1 pos) (YY t):=by intro pins s U H Q I hq;refine wpAny_Tuple_spliced (aN (h pos pins s U H _ I hq) λus s1 ⟨xs,H1,I1,r,z,q⟩=>⟨by rw[<- r.length];exact z,?_⟩);have hf:H1 s1.heap.objs.size=none:=I1.aE.fresh (Nat.le_refl _);refine⟨.ref s1.heap.objs.size,aJ H1 s1.heap.objs.size (.tup xs),I1.laid (t':=s1.toks) (λb u e=>Heap.get?_push_of_some _ e) (Nat.le_refl _) ?_,rfl,q _ hf⟩;exact⟨z,us,r,⟨_,Heap.get?_push_size _ rfl,rfl,_,rfl⟩⟩
theorem LH(h:PA X es t):PE X (.List es pos) (YM t):=by intro pins s U H Q I hq;refine wpAny_List_spliced (aN (h pos pins s U H _ I hq) λus s1 ⟨xs,H1,I1,r,z,q⟩=>⟨by rw[<- r.length];exact z,?_⟩);have hf:H1 s1.heap.objs.size=none:=I1.aE.fresh (Nat.le_refl _);refine⟨.ref s1.heap.objs.size,aJ H1 s1.heap.objs.size (.lst xs),I1.laid (t':=s1.toks) (λb u e=>Heap.get?_push_of_some _ e) (Nat.le_refl _) ?_,rfl,q _ hf⟩;exact⟨z,us,0,r,Heap.get?_push_size _ rfl⟩
end
abbrev Sp:=List V->Hp->VK->XK->Prop
abbrev hW:=List Env->Hp->Shared->XK->Value->Shared->Prop
structure nZ(P:Program)(w:World)(K:W.Frag)(mg:Str->Option Value)(base:Heap)(A:Around)(outer:List Env)(s:Shared)(H:Hp):Prop where
 frames:A.frames=some outer
 mod:Mod K mg base
 bs:∀b o,base.get? b=some o->s.heap.get? b=some o/\H b=none
 iC:base.objs.size<=s.heap.objs.size
 fX:s.heap.FunFrames base outer
 jY:∀b∈cN outer,H b=none
 aE:bY P w H s.heap
 bare:AllBare s.gens
def CE(outer:List Env)(P:Program)(w:World)(H:Hp)(s:Shared)(Q:VK)(u:Value)(s':Shared):Prop:=
 ∃v H',s'.os=s.os/\AllBare s'.gens/\Un (cN outer) [] H H' s.heap s'.heap/\bY P w H' s'.heap/\RelV v u/\Q v H'
def CR(CX:hW)(outer:List Env)(P:Program)(w:World)(H:Hp)(s:Shared)(Q:VK)(E:XK)(r:Result)(s':Shared):Prop:=
 match r with
 |.ok (.ret u)=>CE outer P w H s Q u s'
 |.ok _=>False
 |.error e=>CX outer H s E e s'
structure dU(P:Program)(w:World)(K:W.Frag)(mg:Str->Option Value)(base:Heap)(CX:hW)(k:Nat)(f:Addr)(fd:FuncData)(ps:List Str)(sp:Sp):Prop where
 len:∀vs H Q E,sp vs H Q E->vs.length=ps.length
 run:∀(A:Around) (outer:List Env) (s:Shared) (H:Hp) (args:Args) (us:List Value) (vs:List V) (Q:VK) (E:XK),cD k A->nZ P w K mg base A outer s H->BindsTo s fd args (ps.zip us)->Vals vs us->sp vs H Q E ->
  codeAny (model P w) A (.call (.ref f) args) (CR CX outer P w H s Q E) s
theorem dU.imp{P:Program}{w:World}{K:W.Frag}{mg:Str->Option Value}{base:Heap}{CX:hW}{k:Nat}{f:Addr}{fd:FuncData}{ps:List Str}{sp sp':Sp}(F:dU P w K mg base CX k f fd ps sp)
  (h:∀vs H Q E,sp' vs H Q E->sp vs H Q E):dU P w K mg base CX k f fd ps sp':=
 ⟨λvs H Q E q=>F.len vs H Q E (h _ _ _ _ q),λA outer s H args us vs Q E hr he hb hv hs=>F.run A outer s H args us vs Q E hr he hb hv (h _ _ _ _ hs)⟩
theorem nZ.make{P:Program}{w:World}{K:W.Frag}{mg:Str->Option Value}{base:Heap}{A:Around}{outer:List Env}{s:Shared}{H:Hp}(e:nZ P w K mg base A outer s H)(C:Addr)(us:List Value)(kw:List (Str×Value)) :
 nZ P w K mg base (A.under (.builtin "type.__call__" ⟨.ref C::us,kw⟩)) outer s H:=⟨by first|exact e.frames|(simpa[Around.under,Code.envs,Code.isFrame,pushEnvs]using e.frames),e.mod,e.bs,e.iC,e.fX,e.jY,e.aE,e.bare⟩
theorem nZ.in1{P:Program}{w:World}{K:W.Frag}{mg:Str->Option Value}{base:Heap}{A:Around}{outer:List Env}{s:Shared}{H:Hp}(e:nZ P w K mg base A outer s H) :
 nZ P w K mg base A.in1 outer s H:=⟨e.frames,e.mod,e.bs,e.iC,e.fX,e.jY,e.aE,e.bare⟩
section
variable {X:Cx}{pins:List (Addr×Obj)}{U:St}{H:Hp}{s s':Shared}
theorem Inv.jy(I:Inv X pins U H s):nZ X.prog X.w X.K X.mg X.base X.A X.stack s H:=
 ⟨I.ok.frames,I.ok.mod,I.bs,Nat.le_trans I.ok.iC I.sz,I.stack,I.aw,I.aE,I.bare⟩
theorem Inv.after{Q:VK}{u:Value}(I:Inv X pins U H s)(h:CE X.stack X.prog X.w H s Q u s'):EP X pins U Q u s':=by obtain⟨v,H',os,bare,un,aE,r,q⟩:=h;obtain⟨hh,g,d,t,os'⟩:=s';obtain rfl:os'=s.os:=os;exact⟨v,H',I.call (h':=hh) (g':=g) (d':=d) (t':=t) (ch:=[]) un aE bare (λb z=>absurd z (by simp)),r,q⟩
end
def Wa(sp:Sp)(dvs:List V)(E:XK)(t:TA):TE:=λU H Q=>t U H λvs H1=>sp (vs++dvs) H1 Q E
def Wc(C:Addr)(sp:Sp)(dvs:List V)(E:XK)(t:TA):TE:=λU H Q=>t U H λvs H1=>∀x dx,H1 x=none->H1 dx=none->dx≠x ->
 sp (.ref x::(vs++dvs)) (aJ (aJ H1 dx (.own x)) x (.ins C dx [])) (λv H2=>v = .aC/\Q (.ref x) H2) E
def Binds(K:W.Frag)(fd:FuncData)(ps:List Str)(ds:List Value):Prop:=
 ∀(s:Shared) (us:List Value),K.In s.heap->(us++ds).length=ps.length->BindsTo s fd ⟨us,[]⟩ (ps.zip (us++ds))
theorem Binds.all{K:W.Frag}{fd:FuncData}{ps:List Str}(h:∀us:List Value,us.length=ps.length->bindArgs fd ⟨us,[]⟩=pure (ps.zip us)):Binds K fd ps []:=λs us _ hl=>by rw[List.append_nil]at hl ⊢;exact .of_eq (h us hl)
def lM(CX:hW)(X:Cx)(E:XK):Prop:=∀(pins:List (Addr×Obj)) (U:St) (H:Hp) (s:Shared) (e:Value) (s':Shared),Inv X pins U H s->CX X.stack H s E e s'->X.xe e s'
section
variable {X:Cx}{CX:hW}{k:Nat}{f C:Addr}{fd:FuncData}{ps:List Str}{sp:Sp}{dvs:List V}{ds:List Value}{E:XK}{x m:Str}{p pos apos:Pos}{e o:Expr}{es:List Expr}{ta:TE}{t:TA}
theorem gz{pins:List (Addr×Obj)}{U:St}{H:Hp}{s:Shared}{Q:VK}{us:List Value}{vs:List V}(F:dU X.prog X.w X.K X.mg X.base CX k f fd ps sp)(hr:cD k X.A)(hb:Binds X.K fd ps ds)(hd:Vals dvs ds)(hx:lM CX X E)
  (I:Inv X pins U H s) (r:Vals vs us) (h:sp (vs++dvs) H Q E):wpAny (model X.prog X.w) X.A (call (.ref f) us) (EP X pins U Q) X.xe s:=by
 have r2:Vals (vs++dvs) (us++ds):=r.append hd;have hl:(us++ds).length=ps.length:=by rw[<- r2.length];exact F.len _ _ _ _ h
 refine wpAny_call (codeAny_mono (F.run X.A X.stack s H ⟨us,[]⟩ (us++ds) (vs++dvs) Q E hr I.jy (hb s us I.bN hl) r2 h) λr s' hq=>?_);cases r with
 |error e=>exact hx pins U H s e s' I hq|ok fl=>
  cases fl with
  |ret u=>exact I.after hq|next=>exact False.elim hq|brk=>exact False.elim hq|cont=>exact False.elim hq
theorem KS(F:dU X.prog X.w X.K X.mg X.base CX k f fd ps sp)(hr:cD k X.A)(hg:Gl X x)(hm:X.mg x=some (.ref f))(hk:W.keepIn X.K (.ref f)=true)(hb:Binds X.K fd ps ds)(hd:Vals dvs ds)(hx:lM CX X E)
  (ha:PA X (e::es) t) (hdb:(x==("__debug__":Str))=false:=by decide) (he:starEach (e::es) X.env=(false,eval e X.env)::starEach es X.env:=by rfl) (hpl:(backTo pos (starEach es X.env)).any (·.1)=false:=by rfl) :
  PE X (.Call (.Name x p) (e::es) [] pos) (Wa sp dvs E t):=by
 intro pins s U H Q I h;refine wpAny_Call_Name_kw (qE I hg hm ?_ hdb);refine W.callWith_K (h₀:=X.base) I.ok.mod.tE hk (aN (ha pos pins s U H _ I h) λus s1 ⟨vs,H1,I1,r,q⟩=>⟨I1.bN,?_⟩) he hpl;exact gz F hr hb hd hx I1 r q
theorem KU(F:dU X.prog X.w X.K X.mg X.base CX k f fd ps sp)(hr:cD k X.A)(hg:Gl X x)(hm:X.mg x=some (.ref f))(hk:W.keepIn X.K (.ref f)=true)(hb:Binds X.K fd ps ds)(hd:Vals dvs ds)(hx:lM CX X E)
  (hdb:(x==("__debug__":Str))=false:=by decide):PE X (.Call (.Name x p) [] [] pos) (Wa sp dvs E xX):=by
 intro pins s U H Q I h;refine wpAny_Call_Name_kw (qE I hg hm ?_ hdb);exact W.callWith_K0 I.bN hk (gz (us:=[]) F hr hb hd hx I .nil h)
structure Mk(K:W.Frag)(C f:Addr):Prop where
 makes:W.makesIn K C=true
 init:W.findIn K (.ref C) "__init__"=some (some (.ref f))
 fn:W.isFn K (.ref f)=true
 kp:W.keepIn K (.ref C)=true
theorem Vi{pins:List (Addr×Obj)}{U:St}{H:Hp}{s:Shared}{Q:VK}{us:List Value}{vs:List V}(M:Mk X.K C f)(F:dU X.prog X.w X.K X.mg X.base CX k f fd ps sp)(hr:cD (k+1) X.A)(hb:Binds X.K fd ps ds)(hd:Vals dvs ds)
  (hx:lM CX X E) (I:Inv X pins U H s) (r:Vals vs us)
  (h:∀x dx,H x=none->H dx=none->dx≠x->sp (.ref x::(vs++dvs)) (aJ (aJ H dx (.own x)) x (.ins C dx [])) (λv H2=>v = .aC/\Q (.ref x) H2) E) :
  wpAny (model X.prog X.w) X.A (call (.ref C) us) (EP X pins U Q) X.xe s:=by
 have hq:=h (s.heap.objs.size+1) s.heap.objs.size (I.aE.fresh (Nat.le_succ _)) (I.aE.fresh (Nat.le_refl _)) (Nat.ne_of_lt (Nat.lt_succ_self _));have I2:=Inv.made (C:=C) I;have r2:Vals (V.ref (s.heap.objs.size+1)::(vs++dvs)) (Value.ref (s.heap.objs.size+1)::(us++ds)):=.cons rfl (r.append hd);have hl:(Value.ref (s.heap.objs.size+1)::us++ds).length=ps.length:=by have e:=r2.length;rw[F.len _ _ _ _ hq]at e;exact e.symm
 refine wpAny_call (HH (f:=f) I.bN M.makes M.init (beq_iff_eq.mp M.fn) (codeAny_mono (F.run _ X.stack _ _ ⟨Value.ref (s.heap.objs.size+1)::us,[]⟩ (Value.ref (s.heap.objs.size+1)::(us++ds)) _ _ E (hr.make C us [])
  (I2.jy.make C us []) (hb _ (Value.ref (s.heap.objs.size+1)::us) I2.bN hl) r2 hq) λr s' hq'=>?_))
 cases r with
 |error e=>exact hx pins U _ _ e s' I2 hq'|ok fl=>
  cases fl with
  |ret u=>obtain⟨v,H',I3,rv,ev,q3⟩:=I2.after hq';subst ev;exact⟨rv,⟨V.ref (s.heap.objs.size+1),H',I3,rfl,q3⟩⟩
  |next=>exact False.elim hq'|brk=>exact False.elim hq'|cont=>exact False.elim hq'
theorem LJ(M:Mk X.K C f)(F:dU X.prog X.w X.K X.mg X.base CX k f fd ps sp)(hr:cD (k+1) X.A)(hg:Gl X x)(hm:X.mg x=some (.ref C))(hb:Binds X.K fd ps ds)(hd:Vals dvs ds)(hx:lM CX X E)
  (ha:PA X (e::es) t) (hdb:(x==("__debug__":Str))=false:=by decide) (he:starEach (e::es) X.env=(false,eval e X.env)::starEach es X.env:=by rfl) (hpl:(backTo pos (starEach es X.env)).any (·.1)=false:=by rfl) :
  PE X (.Call (.Name x p) (e::es) [] pos) (Wc C sp dvs E t):=by
 intro pins s U H Q I h;refine wpAny_Call_Name_kw (qE I hg hm ?_ hdb);refine W.callWith_K (h₀:=X.base) I.ok.mod.tE M.kp (aN (ha pos pins s U H _ I h) λus s1 ⟨vs,H1,I1,r,q⟩=>⟨I1.bN,?_⟩) he hpl;exact Vi M F hr hb hd hx I1 r q
theorem LK(M:Mk X.K C f)(F:dU X.prog X.w X.K X.mg X.base CX k f fd ps sp)(hr:cD (k+1) X.A)(hg:Gl X x)(hm:X.mg x=some (.ref C))(hb:Binds X.K fd ps ds)(hd:Vals dvs ds)(hx:lM CX X E)
  (hdb:(x==("__debug__":Str))=false:=by decide):PE X (.Call (.Name x p) [] [] pos) (Wc C sp dvs E xX):=by
 intro pins s U H Q I h;refine wpAny_Call_Name_kw (qE I hg hm ?_ hdb);exact W.callWith_K0 I.bN M.kp (Vi (us:=[]) M F hr hb hd hx I .nil h)
end
def PK(X:Cx)(kws:List Keyword)(t:TA):Prop:=
 ∀(pos:Pos) (pins:List (Addr×Obj)) (s:Shared) (U:St) (H:Hp) (Q:List V->Hp->Prop),Inv X pins U H s->t U H Q->wpAny (model X.prog X.w) X.A (evalAll ((backToKw pos (keywordEach kws X.env)).map (·.2))) (AP X pins U Q) X.xe s
section
variable {X:Cx}{CX:hW}{k:Nat}{f C:Addr}{fd:FuncData}{ps ks:List Str}{sp:Sp}{E:XK}{x m:Str}{p pos apos kpos:Pos}{e o:Expr}{es:List Expr}{kws:List Keyword}{te ta:TE}{t tk:TA}{nm:Option Str}
theorem MN:PK X [] xX:=λ_ _ _ _ H Q I h=>wpAny_evalAll_nil ⟨[],H,I,.nil,h⟩
theorem MM(ha:PE X e te)(hr:PK X kws t):PK X (⟨nm,e,kpos⟩::kws) (wb te t):=by intro pos pins s U H Q I h;show wpAny _ _ (evalAll ((do let v <- eval e X.env;standAt pos;pure v)::(backToKw pos (keywordEach kws X.env)).map (·.2))) _ _ s;refine wpAny_evalAll_cons (wpAny_bind (aN (ha pins s U H _ I h) λu s1 ⟨x,H1,I1,r1,q1⟩=>wpAny_bind (wpAny_standAt (wpAny_pure ?_))));exact aN (hr pos pins s1 U H1 _ I1 q1) λus s2 ⟨xs,H2,I2,r2,q2⟩=>⟨x::xs,H2,I2,.cons r1 r2,q2⟩
variable {g:List Value->List Value->List Value}{gV:List V->List V->List V}
end
structure bX(N P:List Str)(sc:Scope):Prop where
 kind:sc.kind = .function
 co:sc.isCoroutine=false
 gen:sc.isGenerator=false
 nd:N.Nodup
 pre:N.take P.length=P
 par:∀x∈P,sc.names.lookup x=some .local\/sc.names.lookup x=some .cell
 ID:∀y∈sc.names,y.2 ≠ .free
theorem Jz{kindOf:Str->Option NameKind}{x:Str}:∀{binds:List (Str×Value)} {m:Str->Option Value},(∀v,(x,v)∉binds)->bindL kindOf binds m x=m x
 |[],_,_=>rfl
 | (n,v)::r,m,h=>by
  unfold bindL;rw[Jz λw hw=>h w (List.mem_cons_of_mem _ hw)];split
  .have:x≠n:=by rintro rfl;exact h v List.mem_cons_self
   simp[this]
  .rfl
theorem Jx{kindOf:Str->Option NameKind}{x:Str}:∀{binds:List (Str×Value)} {m:Str->Option Value},(∀v,(x,v)∉binds)->bindC kindOf binds m x=m x
 |[],_,_=>rfl
 | (n,v)::r,m,h=>by
  unfold bindC;rw[Jx λw hw=>h w (List.mem_cons_of_mem _ hw)];split
  .rfl
  .have:x≠n:=by rintro rfl;exact h v List.mem_cons_self
   simp[this]
theorem Jy{kindOf:Str->Option NameKind}{x:Str}{v:Value}:∀{P:List Str} {vs:List Value} {i:Nat} {m:Str->Option Value},P.Nodup->P[i]?=some x->vs[i]?=some v->kindOf x=some .local ->
  bindL kindOf (P.zip vs) m x=some v
 |[],_,_,_,_,h,_,_=>by simp at h
 |_::_,[],_,_,_,_,h,_=>by simp at h
 |p::P,w::vs,0,m,nd,h1,h2,hk=>by simp at h1 h2;subst h1;subst h2;show bindL kindOf ((p,w)::P.zip vs) m p=_;unfold bindL;rw[Jz λv hv=>(List.nodup_cons.mp nd).1 (List.of_mem_zip hv).1,if_pos hk];simp
 |p::P,w::vs,i+1,m,nd,h1,h2,hk=>by show bindL kindOf ((p,w)::P.zip vs) m x=_;unfold bindL;exact Jy (i:=i) (List.nodup_cons.mp nd).2 (by simpa using h1) (by simpa using h2) hk
theorem Jw{kindOf:Str->Option NameKind}{x:Str}{v:Value}:∀{P:List Str} {vs:List Value} {i:Nat} {m:Str->Option Value},P.Nodup->P[i]?=some x->vs[i]?=some v->kindOf x≠some .local ->
  bindC kindOf (P.zip vs) m x=some v
 |[],_,_,_,_,h,_,_=>by simp at h
 |_::_,[],_,_,_,_,h,_=>by simp at h
 |p::P,w::vs,0,m,nd,h1,h2,hk=>by simp at h1 h2;subst h1;subst h2;show bindC kindOf ((p,w)::P.zip vs) m p=_;unfold bindC;rw[Jx λv hv=>(List.nodup_cons.mp nd).1 (List.of_mem_zip hv).1,if_neg hk];simp
 |p::P,w::vs,i+1,m,nd,h1,h2,hk=>by show bindC kindOf ((p,w)::P.zip vs) m x=_;unfold bindC;exact Jw (i:=i) (List.nodup_cons.mp nd).2 (by simpa using h1) (by simpa using h2) hk
def start(N:List Str)(vs:List V):St:=vs.map some++List.replicate (N.length-vs.length) none
def pP(CX:hW)(P:Program)(w:World)(K:W.Frag)(mg:Str->Option Value)(base:Heap)(N:List Str)(qual:Str)(scope:Scope)(f:Addr)(cd:Value)(A:Around)(outer:List Env)(s:Shared)(H:Hp)(E:XK):Cx where
 prog:=P
 w:=w
 K:=K
 mg:=mg
 base:=base
 A:=A.deeper (envOfC qual scope s.heap.objs.size f cd)
 N:=N
 s₀:=s
 H₀:=H
 env:=envOfC qual scope s.heap.objs.size f cd
 outer:=outer
 stack:=envOfC qual scope s.heap.objs.size f cd::outer
 ex:=[]
 calm:=true
 fn:=λ_=>true
 pn:=[]
 xe:=λe s'=>wpAny (model P w) (A.deeper (envOfC qual scope s.heap.objs.size f cd)) (leaving (envOfC qual scope s.heap.objs.size f cd) e) (λ_ s''=>CX outer H s E e s'') (λe' s''=>CX outer H s E e' s'') s'
theorem Kt{sc:Scope}{n:Nat}{x:Str}(h:sc.names.lookup x=some .cell):∃c,(cellsFrom n sc.names []).lookup x=some c:=by have q:=W.cellsFrom_some sc.names n [] (.inl h);exact Option.isSome_iff_exists.mp q
theorem FP{CX:hW}{P:Program}{w:World}{K:W.Frag}{mg:Str->Option Value}{base:Heap}{N ps:List Str}{qual:Str}{scope:Scope}{f:Addr}{cd:Value}{A:Around}{outer:List Env}{s s1:Shared}{H:Hp}{E:XK}{us:List Value}{vs:List V}
  (S:bX N ps scope) (hd:A.handled=none) (e0:nZ P w K mg base A outer s H) (hl:vs.length=ps.length) (r:Vals vs us)
  (x:InCallC s s.heap.objs.size (bindL (envOfC qual scope s.heap.objs.size f cd).kindOf (ps.zip us) λ_=>none) (cellsFrom (s.heap.objs.size+1) scope.names []) (bindC (envOfC qual scope s.heap.objs.size f cd).kindOf (ps.zip us) λ_=>none) s1) :
  Inv (pP CX P w K mg base N qual scope f cd A outer s H E) [] (start N vs) H s1:=by
 have hpl:ps.length<=N.length:=by have:=congrArg List.length S.pre;rw[List.length_take]at this;omega
 obtain⟨h1,tk,rfl,hk⟩:=x.done;have noA:∀b:Addr,b∉(pP CX P w K mg base N qual scope f cd A outer s H E).ex:=λb z=>absurd (show b∈([]:List Addr) from z) (by simp);refine⟨⟨e0.mod,S.kind,rfl,rfl,Nat.le_refl _,λy z c h1 h2=>?_,λy hy=>?_,λy c _ h=>?_,λ_=>hd,Around.frames_deeper e0.frames,.inr ⟨rfl,rfl⟩,λb z=>absurd z (noA b),e0.bs,e0.iC,λb _ _=>noA b,λb z=>absurd z (noA b),e0.fX,e0.jY⟩,
  rfl,e0.bare,Un.kept hk,⟨_,x.toInCall.ns,λi y v h1 h2 h3=>?_⟩,λy c h=>⟨_,x.cell y c h⟩,e0.aE.fresh (Nat.le_refl _),λy c h=>?_,λp hp=>absurd (show p∈([]:List (Addr×Obj)) from hp) (by simp),e0.aE.kept hk,?_⟩
 .exact name_of_addr x.apart (PySem.mem_of_lookup h1) (PySem.mem_of_lookup h2)
 .have hy:scope.names.lookup y=some .cell\/scope.names.lookup y=some .free:=hy;rcases hy with hy|hy
  .exact Kt hy
  .exact absurd rfl (S.ID _ (PySem.mem_of_lookup hy))
 .exact Nat.le_of_lt (x.above y c (PySem.mem_of_lookup h))
 .have hi:i<vs.length:=by
   unfold start at h2;by_cases hi:i<vs.length
   .exact hi
   .rw[List.getElem?_append_right (by simpa using hi)]at h2;rw[List.getElem?_replicate]at h2;split at h2<;>cases h2
  have ha:vs[i]?=some v:=by
   unfold start at h2;rw[List.getElem?_append_left (by simpa using hi),List.getElem?_map]at h2;cases e:vs[i]? with
   |none=>rw[e]at h2;cases h2|some a=>rw[e]at h2;cases h2;rfl
  obtain⟨u,hu,rv⟩:=r.get ha;have hp:ps[i]?=some y:=by rw[<- S.pre,List.getElem?_take_of_lt (by omega)];exact h1
  have ndP:ps.Nodup:=by rw[<- S.pre];exact S.nd.sublist (List.take_sublist _ _)
  refine⟨u,rv,?_⟩;rcases S.par y (List.mem_of_getElem? hp)with k|k
  .exact .inl ⟨k,Jy ndP hp hu k⟩
  .obtain⟨c,e⟩:=Kt (n:=s.heap.objs.size+1) k;refine .inr ⟨.inl k,c,e,?_⟩;have q:=x.cell y c e;rw[Jw ndP hp hu (by show scope.names.lookup y≠_;rw[k];decide)]at q;exact q
 .exact e0.aE.fresh (Nat.le_of_lt (x.above y c (PySem.mem_of_lookup h)))
 .unfold start;show _=N.length;rw[List.length_append,List.length_map,List.length_replicate];omega
theorem DU{CX:hW}{P:Program}{w:World}{K:W.Frag}{mg:Str->Option Value}{base:Heap}{k:Nat}{f:Addr}{name qual:Str}{params:Arguments}{body:List Stmt}{scope:Scope}{dV kV doc pm cdv ct oc:Value}{an od:Option Addr}
  {osl:Array (Option Value)} {N ps:List Str} {sp:Sp} (lk:K.lookup f=some ⟨oc,od,.func (W.fnOf name qual params body scope dV kV doc pm an cdv ct),osl⟩) (hcd:W.codeIn K cdv qual=true) (S:bX N ps scope)
  (len:∀vs H Q E,sp vs H Q E->vs.length=ps.length)
  (hbody:∀(A:Around) (outer:List Env) (s:Shared) (H:Hp) (vs:List V) (Q:VK) (E:XK),cD k (A.deeper (envOfC qual scope s.heap.objs.size f cdv))->sp vs H Q E ->
   ∃t,hZ (pP CX P w K mg base N qual scope f cdv A outer s H E) body t/\t { nx:=λ_ H'=>Q .aC H',rt:=Q } (start N vs) H) :
  dU P w K mg base CX (k+1) f (W.fnOf name qual params body scope dV kV doc pm an cdv ct) ps sp:=by
 refine⟨len,λA outer s H args us vs Q E hr e0 hb r hsp=>?_⟩;have hl:=len _ _ _ _ hsp;have KX:K.In s.heap:=e0.mod.tE.keeps λb o e=>(e0.bs b o e).1;have lim:s.heap.NoLimit:=e0.mod.nolimit.keeps λb o e=>(e0.bs b o e).1;have hkind:∀y∈ps.zip us,scope.names.lookup y.1=some .local\/(scope.names.lookup y.1=some .cell/\((cellsFrom (s.heap.objs.size+1) scope.names []).lookup y.1).isSome=true):=λ⟨n,v⟩ hy=>by
  rcases S.par n (List.of_mem_zip hy).1 with q|q
  .exact .inl q
  .exact .inr ⟨q,W.cellsFrom_some _ _ _ (.inl q)⟩
 refine codeAny_call_function hr.depth (KX _ _ lk) rfl S.co S.gen rfl (W.codeRec_of KX hcd) (hb _ _ _ _ ?_);refine wpAny_newFunctionEnv_cells S.kind hkind λenv he s1 x=>?_;subst he;refine⟨lim.keeps x.toInCall.keep,codeAny_func ?_⟩;obtain⟨t,ht,hq⟩:=hbody A outer s H vs Q E (hr.deeper _) hsp;have I:Inv (pP CX P w K mg base N qual scope f cdv A outer s H E) [] (start N vs) H s1:=FP S hr.hd e0 hl r x;refine wpAny_mono (ht [] s1 (start N vs) H _ I hq) (λfl s' hs=>?_) λe s' hs=>hs;have fin:∀{U':St} {H':Hp} {v:V} {u:Value},Inv (pP CX P w K mg base N qual scope f cdv A outer s H E) [] U' H' s'->RelV v u->Q v H'->CE outer P w H s Q u s':=
  λ{U' H' v u} J rv q=>⟨v,H',J.os,J.bare,J.base,J.aE,rv,q⟩
 cases fl with
 |ret u=>obtain⟨v,U',H',J,rv,q⟩:=hs;exact fin J rv q
 |next=>obtain⟨U',H',J,q⟩:=hs;exact fin (v:=V.aC) (u:=Value.none) J rfl q
 |brk=>obtain⟨_,_,_,q⟩:=hs;exact False.elim q
 |cont=>obtain⟨_,_,_,q⟩:=hs;exact False.elim q
section
variable {X:Cx}{x:Str}{p pos:Pos}{e:Expr}{es:List Expr}{t:TA}{id T:String}{r:List V->Hp->VK->Prop}
def Vz(r:List V->Hp->VK->Prop)(t:TA):TE:=λU H Q=>t U H λvs H1=>r vs H1 Q
theorem zF(hc:eI X (.builtin id) r) (hg:Gl X x) (hm:X.mg x=none) (hv:bootBuiltins x=some (.builtin id)) (ha:PA X (e::es) t) (hn:x≠"__name__":=by decide) (hdb:(x==("__debug__":Str))=false:=by decide)
  (he:starEach (e::es) X.env=(false,eval e X.env)::starEach es X.env:=by rfl) (hpl:(backTo pos (starEach es X.env)).any (·.1)=false:=by rfl):PE X (.Call (.Name x p) (e::es) [] pos) (Vz r t):=by
 intro pins s U H Q I h;refine wpAny_Call_Name_kw (tF I hg hm hv ?_ hn hdb);exact PyProof.Rows.callWith_builtin1 (aN (ha pos pins s U H _ I h) λus s1 ⟨vs,H1,I1,r1,q1⟩=>hc pins s1 U H1 vs us Q I1 r1 q1) he hpl
theorem KY(hc:eI X (.type T) r) (hg:Gl X x) (hm:X.mg x=none) (hv:bootBuiltins x=some (.type T)) (ha:PA X (e::es) t) (hn:x≠"__name__":=by decide) (hdb:(x==("__debug__":Str))=false:=by decide)
  (he:starEach (e::es) X.env=(false,eval e X.env)::starEach es X.env:=by rfl) (hpl:(backTo pos (starEach es X.env)).any (·.1)=false:=by rfl):PE X (.Call (.Name x p) (e::es) [] pos) (Vz r t):=by
 intro pins s U H Q I h;refine wpAny_Call_Name_kw (tF I hg hm hv ?_ hn hdb);exact PyProof.Rows.callWith_type1 (aN (ha pos pins s U H _ I h) λus s1 ⟨vs,H1,I1,r1,q1⟩=>hc pins s1 U H1 vs us Q I1 r1 q1) he hpl
end
end L2
namespace HT
open PySem PyProof.Rows
section
open PySem.SeqAt
open PySem.AutoSeq1 (wpAny_loadPart')
open PySem.MeetsSeq PySem.MeetsSeq2 PySem.MeetsSeq3
end
section
variable {prog:Program}{w:World}{A:Around}{E:Value->Shared->Prop}{s:Shared}
theorem Zf{t b:Addr}{vs ws:List Value}{Q:Value->Shared->Prop}(ht:IsTup s.heap t vs.toArray)(hb:IsTup s.heap b ws.toArray)(hv:vs≠[])
  (h1:ws=[]->Q (.ref t) s) (h2:ws≠[]->Q (.ref s.heap.objs.size) { s with heap:=s.heap.push { cls:=.type "tuple",data:=.seq (vs++ws).toArray } })
  (hsz:vs.length+ws.length<=sizeLine):wpAny (model prog w) A (binaryOp .Add (.ref t) (.ref b)) Q E s:=by
 obtain⟨⟨cls,dd,data,sl⟩,ho,hc,n,hd⟩:=id ht;obtain⟨⟨cls2,dd2,data2,sl2⟩,ho2,hc2,n2,hd2⟩:=id hb;simp only at hc hd hc2 hd2;subst hc hd hc2 hd2;have e:vs.toArray++ws.toArray=(vs++ws).toArray:=by simp
 by_cases hw:ws=[]
 .exact concat_meets ⟨_,ho,rfl⟩ ⟨_,ho2,rfl⟩ noFill_tuple_add seq_tuple_add PySem.F.slot_tuple_add PySem.F.entry_tuple_add (PySem.F.args_tuple_add_2 _ _)
   (tuple_addW1 t b vs.toArray ws.toArray n n2 dd dd2 sl sl2 (by simpa using hv) (by simp[hw])) ⟨ho,ho2,h1 hw⟩
 .refine concat_meets ⟨_,ho,rfl⟩ ⟨_,ho2,rfl⟩ noFill_tuple_add seq_tuple_add PySem.F.slot_tuple_add PySem.F.entry_tuple_add (PySem.F.args_tuple_add_2 _ _)
   (tuple_addW2 t b vs.toArray ws.toArray n n2 dd dd2 sl sl2 (by simpa using hv) (by simpa using hw) (by rw[List.size_toArray,List.size_toArray];exact hsz)) ⟨ho,ho2,?_⟩
  rw[e];exact h2 hw
def aY(n d:Nat):Option Int->Nat
 |none=>d
 |some v=>if v<0 then(v+(n:Int)).toNat else min v.toNat n
theorem VF(n d:Nat)(hd:d<=n)(o:Option Int):aY n d o<=n:=by
 cases o with
 |none=>exact hd|some v=>
  show(if v<0 then(v+(n:Int)).toNat else min v.toNat n)<=n;by_cases hv:v<0
  .rw[if_pos hv];omega
  .rw[if_neg hv];exact Nat.min_le_right _ _
theorem Ky(v:Int)(n d:Nat):(if v<0 then max (v+(n:Int)) 0 else min v (n:Int))=((aY n d (some v):Nat):Int):=by
 show(if v<0 then max (v+(n:Int)) 0 else min v (n:Int))=(((if v<0 then(v+(n:Int)).toNat else min v.toNat n):Nat):Int);by_cases hv:v<0
 .simp only[if_pos hv];omega
 .simp only[if_neg hv];omega
theorem Xw(lo hi:Option Int)(n:Nat):Builtin.Slice.sliceAdjust lo hi 1 (n:Int)=(((aY n 0 lo:Nat):Int),((aY n n hi:Nat):Int)):=by
 have h1:¬((1:Int)<0):=by omega
 unfold Builtin.Slice.sliceAdjust;simp only[h1,if_false];refine Prod.ext ?_ ?_
 .cases lo with
  |none=>rfl|some v=>exact Ky v n 0
 .cases hi with
  |none=>rfl|some v=>exact Ky v n n
theorem MP(i j:Nat):Builtin.Slice.slicePlaces (i:Int) (j:Int) 1=j-i:=by
 unfold Builtin.Slice.slicePlaces;have h1:(1:Int) > 0:=by omega
 simp only[h1,if_true,Int.ediv_one];split<;>omega
theorem Vp{v:Value}{o:Option Int}{Q:Option Int->Shared->Prop}(p:IsPart v o)(h:Q o s):wpAny (model prog w) A (Builtin.Slice.slicePartIndex v) Q E s:=by
 cases p with
 |none=>exact slicePart_none h|int i t=>exact slicePart_int h
theorem WY{sl:Addr}{vl vu:Value}{lo hi:Option Int}{n:Nat}{Q:Int×Int×Nat->Shared->Prop}(hs:s.heap.IsSliceOf sl vl vu .none)(pl:IsPart vl lo)(pu:IsPart vu hi)
  (h:Q (((aY n 0 lo:Nat):Int),1,aY n n hi-aY n 0 lo) s):wpAny (model prog w) A (Builtin.Slice.sliceApplied (.ref sl) (pure (n:Int))) Q E s:=by
 obtain⟨os,hos,hcs,hds⟩:=id hs;unfold Builtin.Slice.sliceApplied Builtin.Slice.sliceFields;refine wpAny_bind (wpAny_bind (wpAny_field hos hds (x:=vl) rfl (wpAny_bind (wpAny_field hos hds (x:=vu) rfl (wpAny_bind (wpAny_field hos hds (x:=.none) rfl (wpAny_pure ?_)))))));refine wpAny_bind (slicePart_none ?_);show wpAny _ _ (if((1:Int)==0)=true then _ else _) _ _ s;rw[if_neg (by decide)];refine wpAny_bind (Vp pl (wpAny_bind (Vp pu (wpAny_bind (wpAny_pure ?_)))));show wpAny _ _ (match Builtin.Slice.sliceAdjust lo hi 1 (n:Int)with|(lo,hi)=>pure (lo,(1:Int),Builtin.Slice.slicePlaces lo hi 1)) _ _ s;rw[Xw lo hi n];show wpAny _ _ (pure (((aY n 0 lo:Nat):Int),(1:Int),Builtin.Slice.slicePlaces ((aY n 0 lo:Nat):Int) ((aY n n hi:Nat):Int) 1)) _ _ s;rw[MP];exact wpAny_pure h
theorem MJ(xs:Array Value)(i k:Nat):((List.range k).filterMap λ(m:Nat)=>xs[((i:Int)+(m:Int)*1).toNat]?).toArray=((xs.toList.drop i).take k).toArray:=by
 have e:(λ(m:Nat)=>xs[((i:Int)+(m:Int)*1).toNat]?)=λm=>xs[i+m]?:=by
  funext m
  have:((i:Int)+(m:Int)*1).toNat=i+m:=by omega
  rw[this]
 rw[e];have:=pick_run xs i k;rw[List.filterMap_map]at this;have e2:((λx=>xs[x]?) ∘ λx=>i+x)=λm=>xs[i+m]?:=rfl;rw[e2]at this;rw[this]
theorem EH{t sl:Addr}{items:Array Value}{vl vu:Value}{lo hi:Option Int}{Q:Value->Shared->Prop}(ht:IsTup s.heap t items)(hs:s.heap.IsSliceOf sl vl vu .none)(pl:IsPart vl lo)(pu:IsPart vu hi)
  (hw:¬(aY items.size 0 lo=0/\aY items.size items.size hi=items.size))
  (h:Q (.ref s.heap.objs.size) { s with heap:=s.heap.push { cls:=.type "tuple",data:=.seq ((items.toList.drop (aY items.size 0 lo)).take (aY items.size items.size hi-aY items.size 0 lo)).toArray } })
  (hsz:items.size<=sizeLine):wpAny (model prog w) A (getItem (.ref t) (.ref sl)) Q E s:=by
 have htake:sizeOk (.seq ((items.toList.drop (aY items.size 0 lo)).take (aY items.size items.size hi-aY items.size 0 lo)).toArray):=by show((items.toList.drop (aY items.size 0 lo)).take (aY items.size items.size hi-aY items.size 0 lo)).toArray.size<=sizeLine;rw[List.size_toArray,List.length_take,List.length_drop,Array.length_toList];omega
 have hj:aY items.size items.size hi<=items.size:=VF _ _ (Nat.le_refl _) hi;obtain⟨os,hos,hcs,hds⟩:=id hs;have hTs:s.TypeIs (.ref sl) "slice":=⟨os,hos,hcs⟩;unfold getItem;try with_reducible refine wpAny_holding ?_
 first|refine wpAny_bind (wpAny_pure ?_)|skip
 refine wpAny_bind (wpAny_sequenceKey ht.typeIs (by decide) ?_);refine wpAny_bind (wpAny_callSpecial?_slot (name:=Str.ofString "__getitem__") ht.typeIs PyProof.Rows.slot_tuple_getitem
  (wpAny_call_entry PyProof.Rows.slot_tuple_getitem ht.typeIs entry_tuple_getitem ?_ (args_tuple_getitem _ _)))
 show wpAny _ _ (Builtin.Tuple.tupleItemsOf (.ref t)>>=_) _ _ s;refine wpAny_bind (tupleItemsOf_ ht ?_);refine wpAny_bind (wpAny_typeOf hTs ?_);rw[if_pos (by decide)];refine wpAny_bind (WY hs pl pu ?_);have hno:¬((((aY items.size 0 lo:Nat):Int)==0&&(1:Int)==1&&(aY items.size items.size hi-aY items.size 0 lo)==items.size)=true):=by intro q;rw[Bool.and_eq_true,Bool.and_eq_true]at q;have q1:((aY items.size 0 lo:Nat):Int)=0:=eq_of_beq q.1.1;have q2:aY items.size items.size hi-aY items.size 0 lo=items.size:=eq_of_beq q.2;exact hw ⟨by omega,by omega⟩
 show wpAny _ _ (if(((aY items.size 0 lo:Nat):Int)==0&&(1:Int)==1&&(aY items.size items.size hi-aY items.size 0 lo)==items.size)=true then _ else _) _ _ s;rw[if_neg hno,MJ];first
  |exact wpAny_bind (m:=Builtin.Tuple.tupleExact _) (wpAny_newObj_type (wpAny_pure ⟨_,rfl,wpAny_pure h⟩) htake)|exact wpAny_bind (m:=Builtin.Tuple.tupleExact _) (wpAny_newObj_type (wpAny_bind (wpAny_pure (wpAny_pure ⟨_,rfl,wpAny_pure h⟩))) htake)|exact wpAny_bind (wpAny_bind (m:=Builtin.Tuple.tupleExact _) (wpAny_newObj_type (wpAny_pure (wpAny_pure ⟨_,rfl,wpAny_pure h⟩)) htake))|exact wpAny_bind (wpAny_bind (m:=Builtin.Tuple.tupleExact _) (wpAny_newObj_type (wpAny_pure ⟨_,rfl,wpAny_pure h⟩) htake))
end
end HT
namespace L2
open PySem PySem.Spec PyProof.Rows
abbrev TO:=St->Hp->(Option Int->Hp->Prop)->Prop
def PO(X:Cx)(e:Option Expr)(t:TO):Prop:=
 ∀(pins:List (Addr×Obj)) (s:Shared) (U:St) (H:Hp) (Q:Option Int->Hp->Prop),Inv X pins U H s->t U H Q ->
  wpAny (model X.prog X.w) X.A (evalPart e X.env) (λu s'=>∃o H',Inv X pins U H' s'/\IsPart u o/\Q o H') X.xe s
def YO:TO:=λ_ H Q=>Q none H
def YU(t:TE):TO:=λU H Q=>t U H λx H1=>∃i,x = .int i/\Q (some i) H1
section
variable {X:Cx}{e:Expr}{te:TE}{lo hi:Option Expr}{tl th:TO}{pos p2:Pos}
theorem MR:PO X none YO:=by intro pins s U H Q I h;rw[evalPart_none];exact wpAny_pure ⟨none,H,I,.none,h⟩
theorem MS(h:PE X e te):PO X (some e) (YU te):=by intro pins s U H Q I hw;rw[evalPart_some];refine aN (h pins s U H _ I hw) λu s1 ⟨x,H1,I1,r1,q1⟩=>?_;obtain⟨i,rfl,q⟩:=q1;obtain⟨t,rfl⟩:=r1;exact⟨some i,H1,I1,.int i t,q⟩
def vL(X:Cx)(r:V->Option Int->Option Int->Hp->VK->Prop):Prop:=
 ∀(pins:List (Addr×Obj)) (s:Shared) (U:St) (H:Hp) (x:V) (v vl vu:Value) (lo hi:Option Int) (sl:Addr) (Q:VK),Inv X pins U H s->RelV x v->s.heap.IsSliceOf sl vl vu .none->IsPart vl lo->IsPart vu hi->r x lo hi H Q ->
  ∃T id,typeLookup (.type T) "__getitem__"=pure (some (.builtin id))/\s.TypeIs v T/\wpAny (model X.prog X.w) X.A (getItem v (.ref sl)) (EP X pins U Q) X.xe s
theorem vL.or{r r':V->Option Int->Option Int->Hp->VK->Prop}(h:vL X r)(h':vL X r'):vL X (λx lo hi H Q=>r x lo hi H Q\/r' x lo hi H Q):=by
 intro pins s U H x v vl vu lo hi sl Q I rx hs pl pu q;rcases q with q|q
 .exact h pins s U H x v vl vu lo hi sl Q I rx hs pl pu q
 .exact h' pins s U H x v vl vu lo hi sl Q I rx hs pl pu q
def YX(r:V->Option Int->Option Int->Hp->VK->Prop)(te:TE)(tl th:TO):TE:=λU H Q=>te U H λx H1=>tl U H1 λl H2=>th U H2 λu H3=>r x l u H3 Q
theorem LR{r:V->Option Int->Option Int->Hp->VK->Prop}(hr:vL X r)(he:PE X e te)(hl:PO X lo tl)(hu:PO X hi th):PE X (.Subscript e (.Slice lo hi none p2) pos) (YX r te tl th):=by intro pins s U H Q I h;refine Subscript_ (aN (he pins s U H _ I h) λv s1 ⟨x,H1,I1,r1,q1⟩=>?_);refine wpAny_Slice (aN (hl pins s1 U H1 _ I1 q1) λvl s2 ⟨l,H2,I2,pl,q2⟩=>aN (hu pins s2 U H2 _ I2 q2) λvu s3 ⟨u,H3,I3,pu,q3⟩=>?_);rw[evalPart_none];refine wpAny_pure ?_;have I4:Inv X pins U H3 { s3 with heap:=s3.heap.push { cls:=.type "slice",data:=.fields #[vl,vu,.none] } }:=I3.kept (t':=s3.toks) λb ob q=>Heap.get?_push_of_some _ q;obtain⟨T,id,hT,ht,hg⟩:=hr pins { s3 with heap:=s3.heap.push { cls:=.type "slice",data:=.fields #[vl,vu,.none] } } U H3 x v vl vu l u s3.heap.objs.size Q I4 r1 (Heap.IsSliceOf.new ..) pl pu q3;show wpAny (model X.prog X.w) X.A (subscriptTail e (.Slice lo hi none p2) v (.ref s3.heap.objs.size)) (EP X pins U Q) X.xe { s3 with heap:=s3.heap.push { cls:=.type "slice",data:=.fields #[vl,vu,.none] } };exact tail_any (ops:=[.ref s3.heap.objs.size,v]) ht hT hg (by with_unfolding_all rfl)
def rJ(xs:List V)(lo hi:Option Int):List V:=(xs.drop (HT.aY xs.length 0 lo)).take (HT.aY xs.length xs.length hi-HT.aY xs.length 0 lo)
theorem Lg(xs:List V)(lo hi:Option Int):(rJ xs lo hi).length<=xs.length:=by unfold rJ;rw[List.length_take,List.length_drop];omega
def UM(K:W.Frag):V->Option Int->Option Int->Hp->VK->Prop:=λx lo hi H Q=>∃a xs,x = .ref a/\cU K H a xs /\
 ¬(HT.aY xs.length 0 lo=0/\HT.aY xs.length xs.length hi=xs.length)/\∀p,H p=none->Q (.ref p) (aJ H p (.tup (rJ xs lo hi)))
theorem WX:vL X (UM X.K):=by
 intro pins s U H x v vl vu lo hi sl Q I rx hs pl pu h;obtain⟨a,xs,rfl,hx,hw,q⟩:=h;cases rx;obtain⟨its,r,ht,hz⟩:=I.tuple hx;have hlen:its.toArray.size=xs.length:=by rw[List.size_toArray];exact r.length.symm
 refine⟨"tuple",_,PyProof.Rows.slot_tuple_getitem.lookup,ht.typeIs,?_⟩;refine HT.EH ht hs pl pu (by rw[hlen];exact hw) ?_ (by rw[hlen];exact hz);rw[hlen];refine⟨.ref s.heap.objs.size,_,I.laid (t':=s.toks) (o:=.tup (rJ xs lo hi)) (λb ob q=>Heap.get?_push_of_some _ q) (Nat.le_refl _) ?_,rfl,q _ (I.aE.fresh (Nat.le_refl _))⟩;exact⟨Nat.le_trans (Lg xs lo hi) hz,_,(r.drop (HT.aY xs.length 0 lo)).take (HT.aY xs.length xs.length hi-HT.aY xs.length 0 lo),IsTup.new _ _⟩
def UE(K:W.Frag):R2:=λx y H Q=>∃a b xs ys,x = .ref a/\y = .ref b/\cU K H a xs/\cU K H b ys/\xs≠[]/\xs.length+ys.length<=sizeLine /\
 (ys=[]->Q (.ref a) H)/\(ys≠[]->∀p,H p=none->Q (.ref p) (aJ H p (.tup (xs++ys))))
theorem Vals.Bc{xs:List V}{us:List Value}(r:Vals xs us):us=[]↔xs=[]:=by
 cases r with
 |nil=>simp|cons _ _=>simp
theorem IL:bJ X (binaryOp .Add) (UE X.K):=by intro pins s U H x y v u Q I rx ry h;obtain⟨a,b,xs,ys,rfl,rfl,ha,hb,hx,hz,q1,q2⟩:=h;cases rx;cases ry;obtain⟨its,r1,p1,_⟩:=I.tuple ha;obtain⟨its2,r2,p2,_⟩:=I.tuple hb;refine HT.Zf p1 p2 (λz=>hx (r1.Bc.mp z)) (λz=>⟨.ref a,H,I,rfl,q1 (r2.Bc.mp z)⟩) (λz=>?_) (by rw[<- r1.length,<- r2.length];exact hz);refine⟨.ref s.heap.objs.size,_,I.laid (t':=s.toks) (o:=.tup (xs++ys)) (λb ob q=>Heap.get?_push_of_some _ q) (Nat.le_refl _) ?_,rfl,q2 (λw=>z (r2.Bc.mpr w)) _ (I.aE.fresh (Nat.le_refl _))⟩;exact⟨by rw[List.length_append];exact hz,_,r1.append r2,IsTup.new _ _⟩
end
def iI(n:Nat)(i:Int):Option Nat:=if 0<=i then(if i<n then some i.toNat else none) else if -(n:Int)<=i then some (i+n).toNat else none
def dF{α:Type}(xs:List α)(i:Int):Option α:=(iI xs.length i).bind λj=>xs[j]?
theorem Ny{n:Nat}{i:Int}{j:Nat}(h:iI n i=some j):seqIndex? i n=some j/\j<n/\-(n:Int)<=i/\i<n:=by
 unfold iI at h;by_cases h0:0<=i
 .rw[if_pos h0]at h;by_cases h1:i<n
  .rw[if_pos h1]at h;have e:i.toNat=j:=Option.some.inj h;exact⟨by rw[seqIndex_of h0 h1,e],by omega,by omega,h1⟩
  .rw[if_neg h1]at h;cases h
 .rw[if_neg h0]at h;by_cases h1:-(n:Int)<=i
  .rw[if_pos h1]at h;have e:(i+n).toNat=j:=Option.some.inj h;exact⟨by rw[seqIndex_neg (by omega) h1,e],by omega,h1,by omega⟩
  .rw[if_neg h1]at h;cases h
theorem xq{α:Type}{xs:List α}{i:Int}{v:α}(h:dF xs i=some v):∃j,seqIndex? i xs.length=some j/\xs[j]?=some v/\j<xs.length/\-(xs.length:Int)<=i/\i<xs.length:=by
 unfold dF at h;cases e:iI xs.length i with
 |none=>rw[e]at h;cases h|some j=>rw[e]at h;obtain⟨h1,h2,h3,h4⟩:=Ny e;exact⟨j,h1,h,h2,h3,h4⟩
theorem xr{α:Type}{xs:List α}{j:Nat}{v:α}(h:xs[j]?=some v):dF xs (j:Int)=some v:=by
 have hj:j<xs.length:=(List.getElem?_eq_some_iff.mp h).1;have e:iI xs.length (j:Int)=some j:=by unfold iI;rw[if_pos (by omega),if_pos (by omega)];simp
 unfold dF;rw[e];exact h
def xl(b:Expr):Prop:=∀o i,subscripted b false o i=operate [o,i] (getItem o i)
def lK(X:Cx)(r:R2):Prop:=
 ∀(value slice:Expr) (pins:List (Addr×Obj)) (s:Shared) (U:St) (H:Hp) (x y:V) (v u:Value) (Q:VK),Inv X pins U H s->RelV x v->RelV y u->r x y H Q ->
  subscripted slice false v u=operate [v,u] (getItem v u)->wpAny (model X.prog X.w) X.A (subscriptTail value slice v u) (EP X pins U Q) X.xe s
def Xs(X:Cx)(id:String)(r:V->List V->Hp->VK->Prop):Prop:=
 ∀(pins:List (Addr×Obj)) (s:Shared) (U:St) (H:Hp) (x:V) (xs:List V) (v:Value) (us:List Value) (Q:VK),Inv X pins U H s->RelV x v->Vals xs us->r x xs H Q ->
  wpAny (model X.prog X.w) X.A (call (.builtin id) (v::us)) (EP X pins U Q) X.xe s
section
variable {X:Cx}{a b:Expr}{ta tb:TE}{pos:Pos}
theorem lK.or{r r':R2}(h:lK X r)(h':lK X r'):lK X (λx y H Q=>r x y H Q\/r' x y H Q):=by
 intro value slice pins s U H x y v u Q I rx ry q hs;rcases q with q|q
 .exact h value slice pins s U H x y v u Q I rx ry q hs
 .exact h' value slice pins s U H x y v u Q I rx ry q hs
theorem LG{r:R2}(hr:lK X r)(ha:PE X a ta)(hb:PE X b tb)(hs:xl b):PE X (.Subscript a b pos) (wc r ta tb):=by intro pins s U H Q I h;exact Subscript_ (xt ha hb I h λv u s2 x y H2 I2 rx ry q=>hr a b pins s2 U H2 x y v u Q I2 rx ry q (hs _ _))
def Ut(K:W.Frag):R2:=λx y H Q=>∃p xs i v,x = .ref p/\y = .int i/\bO K H p xs/\dF xs i=some v/\Q v H
def Uv(K:W.Frag):R2:=λx y H Q=>∃p xs i v,x = .ref p/\y = .int i/\cU K H p xs/\dF xs i=some v/\Q v H
def Uu:R2:=λx y H Q=>∃z i c,x = .str z/\y = .int i/\z.length<=sizeLine/\dF z.cps.toList i=some c/\Q (.str ⟨#[c]⟩) H
theorem FX:lK X (Ut X.K):=by
 intro value slice pins s U H x y v u Q I rx ry h hs;obtain⟨p,xs,i,z,rfl,rfl,hq,he,q⟩:=h;cases rx;obtain⟨t,rfl⟩:=ry;obtain⟨its,r,pl,hz⟩:=I.list hq;obtain⟨j,h1,h2,h3,h4,h5⟩:=xq he;obtain⟨w,ew,rw'⟩:=r.get h2;have hl:=r.length;have hn:=wJ;have fin:EP X pins U Q w s:=⟨z,H,I,rw',q⟩;by_cases h0:0<=i
 .have hj:i.toNat=j:=by rw[seqIndex_of h0 h5]at h1;exact Option.some.inj h1
  exact item_listR pl.isList h0 (by omega) (by rw[hj];simpa using ew) fin hs
 .have hj:(i+(its.toArray.size:Int)).toNat=j:=by rw[seqIndex_neg (by omega) h4]at h1;rw[List.size_toArray,<- hl];exact Option.some.inj h1
  exact subscriptTail_builtinR (x:=w) pl.isList.typeIs slot_list_getitem.lookup
   (wpAny_getItem_list_neg (Q:=λr s'=>r=w/\EP X pins U Q r s') pl.isList (by omega) (by rw[List.size_toArray]<;>omega) (by omega) (by rw[hj];simpa using ew) ⟨rfl,fin⟩) hs
theorem GA:lK X (Uv X.K):=by
 intro value slice pins s U H x y v u Q I rx ry h hs;obtain⟨p,xs,i,z,rfl,rfl,hq,he,q⟩:=h;cases rx;obtain⟨t,rfl⟩:=ry;obtain⟨its,r,pl,hz⟩:=I.tuple hq;obtain⟨j,h1,h2,h3,h4,h5⟩:=xq he;obtain⟨w,ew,rw'⟩:=r.get h2;have hl:=r.length;have hn:=wJ;have fin:EP X pins U Q w s:=⟨z,H,I,rw',q⟩;exact subscriptTail_builtinR (x:=w) pl.typeIs slot_tuple_getitem.lookup
  (getItem_tuple (j:=j) (Q:=λr s'=>r=w/\EP X pins U Q r s') pl (by omega) (by omega) (by rw[List.size_toArray,<- hl];exact h1) (by simpa using ew) ⟨rfl,fin⟩) hs
theorem FZ:lK X Uu:=by
 intro value slice pins s U H x y v u Q I rx ry h hs;obtain⟨z,i,c,rfl,rfl,hz,he,q⟩:=h;obtain⟨t,rfl⟩:=rx;obtain⟨t',rfl⟩:=ry;obtain⟨j,h1,h2,h3,h4,h5⟩:=xq he;have hl:z.cps.toList.length=z.length:=by simp[Str.length]
 rw[hl]at h1 h4 h5;have hn:=wJ;exact tail_any (typeIs_str s z t) slot_str_getitem.lookup (getItem_str (c:=c) (by
  have e1:decide (i < -(2 ^ 63:Int))=false:=decide_eq_false (by omega);have e2:decide (i ≥ 2 ^ 63)=false:=decide_eq_false (by omega);rw[e1,e2,Bool.or_false]) (by rw[h1];simpa using h2) ⟨.str ⟨#[c]⟩,H,I.tok _,⟨_,rfl⟩,q⟩) hs
def Gp(K:W.Frag):R2:=λx y H Q=>Ut K x y H Q\/Uv K x y H Q\/Uu x y H Q
theorem FY:lK X (Gp X.K):=FX.or (GA.or FZ)
theorem HJ(its:List Value)(n j:Nat)(u:Value):Obj.mapSeq (·.setIfInBounds j u) { cls:=.type "list",data:=.seq its.toArray n }={ cls:=.type "list",data:=.seq (its.set j u).toArray n }:=by simp[Obj.mapSeq]
theorem Inv.lst{pins:List (Addr×Obj)}{U:St}{H:Hp}{s:Shared}{p:Addr}{xs:List V}(I:Inv X pins U H s)(h:H p=some (.lst xs)) :
  ∃(its:List Value) (n:Nat),Vals xs its/\s.heap.get? p=some { cls:=.type "list",data:=.seq its.toArray n }/\xs.length<=sizeLine:=by
 obtain⟨z,its,n,r,e⟩:=I.aE p _ h;exact⟨its,n,r,e,z⟩
theorem Inv.HF{pins:List (Addr×Obj)}{U:St}{H:Hp}{s:Shared}{p:Addr}{xs ys:List V}{its its':List Value}{n n':Nat}{f:Obj->Obj}(I:Inv X pins U H s)(h:H p=some (.lst xs))
  (ho:s.heap.get? p=some { cls:=.type "list",data:=.seq its.toArray n }) (hf:f { cls:=.type "list",data:=.seq its.toArray n }={ cls:=.type "list",data:=.seq its'.toArray n' }) (r:Vals ys its') (hz:ys.length<=sizeLine) (t:Nat) :
  Inv X pins U (aJ H p (.lst ys)) { s with heap:=s.heap.update p f,toks:=t }:=by
 have e:(s.heap.update p f).get? p=some { cls:=.type "list",data:=.seq its'.toArray n' }:=by rw[Heap.get?_update_self f ho (by rw[hf]<;>rfl),hf]
 refine I.write (x:=p) (e:=p) (by rw[h];trivial) (.inl rfl) (λb u hb q=>(Heap.get?_update_other _ _ (Ne.symm hb)).trans q) ⟨_,e⟩ ?_;exact⟨hz,its',n',r,e⟩
def Uw:V->V->V->Hp->(Hp->Prop)->Prop:=λo i v H Q=>∃p xs k j,o = .ref p/\i = .int k/\H p=some (.lst xs)/\iI xs.length k=some j/\Q (aJ H p (.lst (xs.set j v)))
theorem WT:xk X Uw:=by
 intro pins s U H o i v ov iv u Q I ro ri rv h;obtain⟨p,xs,k,j,rfl,rfl,hp,hj,q⟩:=h;cases ro;obtain⟨t,rfl⟩:=ri;obtain⟨its,n,r,ho,hz⟩:=I.lst hp;obtain⟨h1,h2,h3,h4⟩:=Ny hj;have hl:=r.length;have hn:=wJ;have I':Inv X pins U (aJ H p (.lst (xs.set j v))) { s with heap:=s.heap.update p (Obj.mapSeq (·.setIfInBounds j u)) }:=
  I.HF hp ho (HJ its n j u) (r.set rv j) (by rw[List.length_set];exact hz) s.toks
 by_cases h0:0<=k
 .have hk:k.toNat=j:=by rw[seqIndex_of h0 h4]at h1;exact Option.some.inj h1
  exact W.ki_setAt ho h0 (by omega) (by rw[List.size_toArray,<- hl];exact h4) (by rw[hk];exact⟨_,I',q⟩)
 .have hk:(k+(its.toArray.size:Int)).toNat=j:=by rw[seqIndex_neg (by omega) h3]at h1;rw[List.size_toArray,<- hl];exact Option.some.inj h1
  exact W.ki_setBack ho (by omega) (by rw[List.size_toArray,<- hl];exact h3) (by omega) (by rw[hk];exact⟨_,I',q⟩)
theorem XA(lo hi:Option Int)(n:Nat):(sliceBounds lo hi none n).1=((HT.aY n 0 lo:Nat):Int)/\(sliceBounds lo hi none n).2.1=((HT.aY n n hi:Nat):Int)/\(sliceBounds lo hi none n).2.2=1:=by
 refine⟨?_,?_,rfl⟩
 .cases lo with
  |none=>simp[sliceBounds,HT.aY]|some i=>
   simp only[sliceBounds,HT.aY,Option.getD_none,show(1:Int) > 0 by decide,if_true];by_cases h:i<0
   .simp only[h,if_true]<;>omega
   .simp only[h,if_false]<;>omega
 .cases hi with
  |none=>simp[sliceBounds,HT.aY]|some i=>
   simp only[sliceBounds,HT.aY,Option.getD_none,show(1:Int) > 0 by decide,if_true];by_cases h:i<0
   .simp only[h,if_true]<;>omega
   .simp only[h,if_false]<;>omega
theorem WZ(its:List Value)(lo hi:Option Int):slicePick its.toArray lo hi none=((its.drop (HT.aY its.length 0 lo)).take (HT.aY its.length its.length hi-HT.aY its.length 0 lo)).toArray:=by obtain⟨h1,h2,h3⟩:=XA lo hi its.toArray.size;unfold slicePick;rw[h1,h2,h3];simp only[sliceRange_one,pick_run,List.size_toArray]<;>rfl
def UL(K:W.Frag):V->Option Int->Option Int->Hp->VK->Prop:=λx lo hi H Q=>∃a xs,x = .ref a/\bO K H a xs/\∀p,H p=none->Q (.ref p) (aJ H p (.lst (rJ xs lo hi)))
theorem WW:vL X (UL X.K):=by intro pins s U H x v vl vu lo hi sl Q I rx hs pl pu h;obtain⟨a,xs,rfl,hx,q⟩:=h;cases rx;obtain⟨its,r,ht,hz⟩:=I.list hx;have hlen:=r.length;refine⟨"list",_,slot_list_getitem.lookup,ht.isList.typeIs,?_⟩;refine wpAny_getItem_list_slice ht.isList hs pl pu .none (by simp) ?_ (by rw[List.size_toArray]<;>omega);rw[WZ,<- hlen];refine⟨.ref s.heap.objs.size,_,I.laid (t':=s.toks) (o:=.lst (rJ xs lo hi)) (λb ob q=>Heap.get?_push_of_some _ q) (Nat.le_refl _) ?_,rfl,q _ (I.aE.fresh (Nat.le_refl _))⟩;exact⟨Nat.le_trans (Lg xs lo hi) hz,_,0,(r.drop (HT.aY xs.length 0 lo)).take (HT.aY xs.length xs.length hi-HT.aY xs.length 0 lo),Heap.get?_push_size _ rfl⟩
def oE:V->Bool
 |.aC=>true
 |.bl _=>true
 |.int _=>true
 |.str _=>true
 |_=>false
def pU:V->V->Bool
 |.aC,.aC=>true
 |.bl a,.bl b=>a==b
 |.bl a,.int b=>(if a then 1 else 0)==b
 |.int a,.bl b=>a==(if b then 1 else 0)
 |.int a,.int b=>a==b
 |.str a,.str b=>a==b
 |_,_=>false
theorem CG{A:Around}{s:Shared}{y x:V}{u v:Value}(ry:RelV y u)(rx:RelV x v)(fy:oE y=true)(fx:oE x=true):SeqAt.EqAt A s u v (pU y x):=by
 cases y with
 |aC=>
  cases ry;cases x with
  |aC=>cases rx;exact SeqAt.EqAt.same _|bl b=>cases rx;exact SeqAt.EqAt.none_bool b|int b=>obtain⟨t,rfl⟩:=rx;exact SeqAt.EqAt.none_int b t|str b=>obtain⟨t,rfl⟩:=rx;exact SeqAt.EqAt.none_str b t|_=>exact absurd (show false=true from fx) Bool.false_ne_true
 |bl a=>
  cases ry;cases x with
  |aC=>cases rx;exact SeqAt.EqAt.bool_none a|bl b=>cases rx;exact SeqAt.EqAt.bool_bool a b|int b=>obtain⟨t,rfl⟩:=rx;exact SeqAt.EqAt.bool_int a b t|str b=>obtain⟨t,rfl⟩:=rx;exact SeqAt.EqAt.bool_str a b t|_=>exact absurd (show false=true from fx) Bool.false_ne_true
 |int a=>
  obtain⟨t',rfl⟩:=ry;cases x with
  |aC=>cases rx;exact SeqAt.EqAt.int_none a t'|bl b=>cases rx;exact SeqAt.EqAt.int_bool a t' b|int b=>obtain⟨t,rfl⟩:=rx;exact SeqAt.EqAt.int_int a t' b t|str b=>obtain⟨t,rfl⟩:=rx;exact SeqAt.EqAt.int_str a t' b t|_=>exact absurd (show false=true from fx) Bool.false_ne_true
 |str a=>
  obtain⟨t',rfl⟩:=ry;cases x with
  |aC=>cases rx;exact SeqAt.EqAt.str_none a t'|bl b=>cases rx;exact SeqAt.EqAt.str_bool a t' b|int b=>obtain⟨t,rfl⟩:=rx;exact SeqAt.EqAt.str_int a t' b t|str b=>obtain⟨t,rfl⟩:=rx;exact SeqAt.EqAt.str_str a t' b t|_=>exact absurd (show false=true from fx) Bool.false_ne_true
 |_=>exact absurd (show false=true from fy) Bool.false_ne_true
def gU(x:V)(u:Value):Bool:=match u with
 |.none=>pU .aC x
 |.bool b=>pU (.bl b) x
 |.int i _=>pU (.int i) x
 |.str z _=>pU (.str z) x
 |_=>false
theorem Lx{x y:V}{u:Value}(r:RelV y u)(f:oE y=true):gU x u=pU y x:=by
 cases y with
 |aC=>cases r;rfl|bl b=>cases r;rfl|int i=>obtain⟨t,rfl⟩:=r;rfl|str z=>obtain⟨t,rfl⟩:=r;rfl|_=>exact absurd (show false=true from f) Bool.false_ne_true
theorem bw{x:V}:∀{xs:List V} {us:List Value},Vals xs us->xs.all oE=true->us.any (gU x)=xs.any λy=>pU y x
 |_,_,.nil,_=>rfl|y::xs,u::us,.cons r t,f=>by rw[List.all_cons,Bool.and_eq_true]at f;rw[List.any_cons,List.any_cons,Lx r f.1,bw t f.2]
theorem dn{A:Around}{s:Shared}{x:V}{v:Value}(rx:RelV x v)(fx:oE x=true):∀{xs:List V} {us:List Value},Vals xs us->xs.all oE=true->∀u∈us,SeqAt.EqAt A s u v (gU x u)
 |_,_,.nil,_=>λu hu=>by cases hu
 |y::xs,u::us,.cons r t,f=>λu' hu=>by
  rw[List.all_cons,Bool.and_eq_true]at f;rcases List.mem_cons.mp hu with rfl|hu
  .rw[Lx r f.1];exact CG r rx f.1 fx
  .exact dn rx fx t f.2 u' hu
def ku(x:V)(xs:List V):Bool:=xs.any λy=>pU y x
def Ur(K:W.Frag)(neg:Bool):R2:=λx y H Q=>∃p xs,y = .ref p/\(bO K H p xs\/cU K H p xs)/\oE x=true/\xs.all oE=true/\Q (.bl (if neg then !ku x xs else ku x xs)) H
theorem IV:bJ X (compareOp .In) (Ur X.K false):=by
 intro pins s U H x y v u Q I rx ry h;obtain⟨p,xs,rfl,hq,fx,fs,q⟩:=h;cases ry;rcases hq with hq|hq
 .obtain⟨its,r,pl,hz⟩:=I.list hq;refine SeqAt.in_listAt (gU x) pl.isList (λw hw=>dn rx fx r fs w (by simpa using hw)) ⟨.bl _,H,I,rfl,?_⟩;rw[show its.toArray.any (gU x)=its.any (gU x) by simp,bw r fs];exact q
 .obtain⟨its,r,pl,hz⟩:=I.tuple hq;refine SeqAt.in_tupleAt (gU x) pl (λw hw=>dn rx fx r fs w (by simpa using hw)) ⟨.bl _,H,I,rfl,?_⟩;rw[show its.toArray.any (gU x)=its.any (gU x) by simp,bw r fs];exact q
theorem JF:bJ X (compareOp .NotIn) (Ur X.K true):=by
 intro pins s U H x y v u Q I rx ry h;obtain⟨p,xs,rfl,hq,fx,fs,q⟩:=h;cases ry;rcases hq with hq|hq
 .obtain⟨its,r,pl,hz⟩:=I.list hq;refine SeqAt.notIn_listAt (gU x) pl.isList (λw hw=>dn rx fx r fs w (by simpa using hw)) ⟨.bl _,H,I,rfl,?_⟩;rw[show its.toArray.any (gU x)=its.any (gU x) by simp,bw r fs];exact q
 .obtain⟨its,r,pl,hz⟩:=I.tuple hq;refine SeqAt.notIn_tupleAt (gU x) pl (λw hw=>dn rx fx r fs w (by simpa using hw)) ⟨.bl _,H,I,rfl,?_⟩;rw[show its.toArray.any (gU x)=its.any (gU x) by simp,bw r fs];exact q
theorem Ys:eI X (.builtin "len") (λxs H Q=>∃p ys,xs=[.ref p]/\(bO X.K H p ys\/cU X.K H p ys)/\Q (.int ys.length) H):=by
 intro pins s U H xs us Q I r h;obtain⟨p,ys,rfl,hq,q⟩:=h;obtain⟨u,rfl,rx⟩:=ba r;cases rx;have hn:=wJ;rcases hq with hq|hq
 .obtain⟨its,r',pl,hz⟩:=I.list hq;have hlen:=r'.length;exact Calls.call_len_list pl.isList (by simp only[List.size_toArray]<;>omega) ⟨.int ys.length,H,I.tok _,⟨s.toks+1,by rw[List.size_toArray,hlen]⟩,q⟩
 .obtain⟨its,r',pl,hz⟩:=I.tuple hq;have hlen:=r'.length;exact len_tuple pl (by simp only[List.size_toArray]<;>omega) ⟨.int ys.length,H,I.tok _,⟨s.toks+1,by rw[List.size_toArray,hlen]⟩,q⟩
theorem Yt:eI X (.builtin "len") (λxs H Q=>∃z,xs=[.str z]/\z.length<=sizeLine/\Q (.int z.length) H):=by intro pins s U H xs us Q I r h;obtain⟨z,rfl,hz,q⟩:=h;obtain⟨u,rfl,t,rfl⟩:=ba r;have hn:=wJ;exact len_str (by omega) ⟨.int z.length,H,I.tok _,⟨_,rfl⟩,q⟩
theorem eI.or{f:Value}{r r':List V->Hp->VK->Prop}(h:eI X f r)(h':eI X f r'):eI X f (λxs H Q=>r xs H Q\/r' xs H Q):=by
 intro pins s U H xs us Q I rs q;rcases q with q|q
 .exact h pins s U H xs us Q I rs q
 .exact h' pins s U H xs us Q I rs q
theorem Yu:eI X (.type "list") (λxs H Q=>∃p ys,xs=[.ref p]/\(bO X.K H p ys\/cU X.K H p ys)/\∀l,H l=none->Q (.ref l) (aJ H l (.lst ys))):=by
 intro pins s U H xs us Q I r h;obtain⟨p,ys,rfl,hq,q⟩:=h;obtain⟨u,rfl,rx⟩:=ba r;cases rx;have fin:∀(its:List Value),Vals ys its->ys.length<=sizeLine->∀(h':Heap) (c':Nat),(∀b o',s.heap.get? b=some o'->h'.get? b=some o') ->
   h'.get? s.heap.objs.size=some { cls:=.type "list",dict:=none,data:=.seq its.toArray c',slots:=#[] }->EP X pins U Q (.ref s.heap.objs.size) { s with heap:=h' }:=λits r' hz h' c' kp e=>
  ⟨.ref s.heap.objs.size,_,I.laid (t':=s.toks) kp (Nat.le_refl _) (show cX X.prog X.w _ h' _ (.lst ys) from⟨hz,its,c',r',e⟩),rfl,q _ (I.aE.fresh (Nat.le_refl _))⟩
 rcases hq with hq|hq
 .obtain⟨its,r',pl,hz⟩:=I.list hq;have hlen:=r'.length;obtain⟨o,ho,hc,n,hd⟩:=pl.isList;exact call_list_seq p (.inl rfl) ho hc hd (λh' c' kp e=>fin its r' hz h' c' kp e) (by simp only[List.size_toArray]<;>omega)
 .obtain⟨its,r',pl,hz⟩:=I.tuple hq;have hlen:=r'.length;obtain⟨o,ho,hc,n,hd⟩:=pl;exact call_list_seq p (.inr rfl) ho hc hd (λh' c' kp e=>fin its r' hz h' c' kp e) (by simp only[List.size_toArray]<;>omega)
theorem Zd:eI X (.type "tuple") (λxs H Q=>∃p ys,xs=[.ref p]/\((bO X.K H p ys/\∀l,H l=none->Q (.ref l) (aJ H l (.tup ys)))\/(cU X.K H p ys/\Q (.ref p) H))):=by
 intro pins s U H xs us Q I r h;obtain⟨p,ys,rfl,h⟩:=h;obtain⟨u,rfl,rx⟩:=ba r;cases rx;rcases h with⟨hq,q⟩|⟨hq,q⟩
 .obtain⟨its,r',pl,hz⟩:=I.list hq;have hlen:=r'.length;refine call_tuple_list pl.isList (λh' kp=>?_) (by simp only[List.size_toArray]<;>omega);have I1:Inv X pins U H { s with heap:=h' }:=I.kept (t':=s.toks) kp;have I2:Inv X pins U (aJ H h'.objs.size (.tup ys)) { s with heap:=h'.push { cls:=.type "tuple",data:=.seq its.toArray } }:=
   I1.laid (t':=s.toks) (λb o e=>Heap.get?_push_of_some _ e) (Nat.le_refl _) (show cX X.prog X.w _ _ _ (.tup ys) from⟨hz,its,r',IsTup.new _ _⟩)
  exact⟨.ref h'.objs.size,_,I2,rfl,q _ (I1.aE.fresh (Nat.le_refl _))⟩
 .obtain⟨its,r',pl,hz⟩:=I.tuple hq;exact call_tuple_same pl ⟨.ref p,H,I,rfl,q⟩
def Xd(K:W.Frag)(T:String)(x:V)(H:Hp):Prop:=match x with
 |.str _=>T="str"
 |.int _=>T="int"
 |.ref p=>(T="list"/\∃xs,bO K H p xs)\/(T="tuple"/\∃o,K.lookup p=some o/\o.cls = .type "tuple"/\o.dict=none) \/
  (T="dict"/\((∃kvs,H p=some (.dK kvs))\/∃kvs,H p=some (.dT kvs)))\/(T="set"/\∃S n,H p=some (.set S n))
 |_=>False
theorem ZV{pins:List (Addr×Obj)}{U:St}{H:Hp}{s:Shared}{T:String}{x:V}{v:Value}(I:Inv X pins U H s)(r:RelV x v)(ty:Xd X.K T x H) :
  s.TypeIs v T/\∀a,v = .ref a->∃ob,s.heap.get? a=some ob/\ob.dict=none:=by
 cases x with
 |str z=>obtain⟨t,rfl⟩:=r;cases(show T="str" from ty);exact⟨typeIs_str s z t,λ_ e=>nomatch e⟩
 |int i=>obtain⟨t,rfl⟩:=r;cases(show T="int" from ty);exact⟨typeIs_int s i t,λ_ e=>nomatch e⟩
 |ref p=>
  cases r;rcases ty with⟨rfl,xs,hq⟩|⟨rfl,o,hk,hc,hd⟩|⟨rfl,hk⟩|⟨rfl,S,n,hk⟩
  .obtain⟨its,_,pl,_⟩:=I.list hq;refine⟨pl.isList.typeIs,λa e=>?_⟩;cases e;obtain⟨o,n,e,c,hd,_⟩:=pl;exact⟨o,e,hd⟩
  .refine⟨⟨o,I.bN p o hk,hc⟩,λa e=>?_⟩;cases e;exact⟨o,I.bN _ o hk,hd⟩
  .have z:∃o,s.heap.get? p=some o/\o.ExactDict:=by
    rcases hk with⟨kvs,hk⟩|⟨kvs,hk⟩
    .obtain⟨_,_,_,_,o,_,_,e,ex,_⟩:=I.aE p _ hk;exact⟨o,e,ex⟩
    .obtain⟨_,_,_,_,o,_,_,e,ex,_⟩:=I.aE p _ hk;exact⟨o,e,ex⟩
   obtain⟨o,e,ex⟩:=z;refine⟨⟨o,e,ex.1⟩,λa e2=>?_⟩;cases e2;exact⟨o,e,ex.2.1⟩
  .obtain⟨o,_,_,_,e,ex,_⟩:=I.aE p _ hk;refine⟨⟨o,e,ex.1⟩,λa e2=>?_⟩;cases e2;exact⟨o,e,ex.2.1⟩
 |_=>exact False.elim ty
def YE(K:W.Frag)(T:String)(r:V->List V->Hp->VK->Prop)(to:TE)(t:TA):TE:=λU H Q=>to U H λx H1=>Xd K T x H1/\t U H1 λxs H2=>r x xs H2 Q
variable {o e:Expr}{es:List Expr}{to:TE}{t:TA}{name:Str}{apos cpos:Pos}{T id:String}{r:V->List V->Hp->VK->Prop}
theorem Pl(pa:PlainAttrs T) (slot:Slot T name id) (hty:typeOf (.builtin id)=pure (.type "method_descriptor")) (hm:Xs X id r) (ho:PE X o to) (ha:PA X (e::es) t)
  (hbase:attributeBase o name X.env (eval o X.env)=eval o X.env:=by rfl)
  (hfew:((backTo cpos (starEach (e::es) X.env)).all (λx=>!x.1)&&(backToKw cpos (keywordEach [] X.env)).all (λx=>x.1.isSome)
  &&decide ((e::es).length+([]:List Keyword).length+(if([]:List Keyword).isEmpty then 0 else 1)<30))=true:=by rfl)
  (hline:(apos.endLine==cpos.line)=true:=by rfl) (hs:starEach (e::es) X.env=(false,eval e X.env)::starEach es X.env:=by rfl) (hplain:(backTo cpos (starEach es X.env)).any (·.1)=false:=by rfl) :
  PE X (.Call (.Attribute o name apos) (e::es) [] cpos) (YE X.K T r to t):=by
 intro pins s U H Q I h;refine wpAny_Call_method_late hbase hfew hline rfl (aN (ho pins s U H _ I h) λv s1 ⟨x,H1,I1,r1,ty,q1⟩=>?_);obtain⟨h1,h2⟩:=ZV I1 r1 ty;refine⟨T,id,pa,slot,hty,h1,h2,?_⟩;have hA:=ha cpos pins s1 U H1 _ I1 q1;rw[hs]at hA ⊢;refine Calls.callWith_builtin (by show(false||(backTo cpos (starEach es X.env)).any (·.1))=false;rw[hplain]<;>rfl) (Calls.evalArgs_plain ?_);exact aN hA λus s2 ⟨vs,H2,I2,r2,q2⟩=>hm pins s2 U H2 x vs v us Q I2 r1 r2 q2
end
def bo(X:Cx)(id:String)(r:V->List V->Hp->VK->Prop):Prop:=
 ∀(pins:List (Addr×Obj)) (s:Shared) (U:St) (H:Hp) (x:V) (xs:List V) (v:Value) (us:List Value) (Q:VK),Inv X pins U H s->RelV x v->Vals xs us->r x xs H Q ->
  wpAny (model X.prog X.w) X.A (call (.builtin id) (v::us)) (EP X pins U Q) X.xe s
theorem Vals.one:∀{x:V} {us:List Value},Vals [x] us->∃u,us=[u]/\RelV x u
 |_,_,.cons r .nil=>⟨_,rfl,r⟩
section
variable {X:Cx}{pins:List (Addr×Obj)}{U:St}{H:Hp}{s:Shared}{l b:Addr}{xs ys zs:List V}
theorem Inv.HE{its its':List Value}{n:Nat}{f:Array Value->Array Value}{t':Nat}(I:Inv X pins U H s)(hH:H l=some (.lst xs))
  (e:s.heap.get? l=some { cls:=.type "list",data:=.seq its.toArray n }) (hf:f its.toArray=its'.toArray) (hv:Vals ys its') (hz:ys.length<=sizeLine) :
  Inv X pins U (aJ H l (.lst ys)) { s with heap:=s.heap.update l (Obj.mapSeq f),toks:=t' }:=by
 have q:=PySem.IsL.update e f;rw[hf]at q;refine I.write (x:=l) (e:=l) (by rw[hH];exact trivial) (.inl rfl) (λb' u hb hu=>(Heap.get?_update_other s.heap (Obj.mapSeq f) (Ne.symm hb)).trans hu) ⟨_,q⟩ ?_;exact⟨hz,its',_,hv,q⟩
theorem Inv.GY{its:List Value}{t':Nat}(I:Inv X pins U H s)(hv:Vals ys its)(hz:ys.length<=sizeLine) :
  Inv X pins U (aJ H s.heap.objs.size (.lst ys)) { s with heap:=s.heap.push { cls:=.type "list",data:=.seq its.toArray },toks:=t' }:=
 I.laid (λ_ _ q=>Heap.get?_push_of_some _ q) (Nat.le_refl _) ⟨hz,its,0,hv,Heap.get?_push_size _ rfl⟩
theorem Inv.fresh(I:Inv X pins U H s):H s.heap.objs.size=none:=I.aE.fresh (Nat.le_refl _)
theorem Inv.wK(I:Inv X pins U H s)(hH:H l=some (.lst xs)):xs.length<=sizeLine/\∃(its:List Value) (n:Nat),Vals xs its/\xs.length=its.length/\s.heap.get? l=some { cls:=.type "list",data:=.seq its.toArray n }:=by obtain⟨z,its,n,r,e⟩:=I.aE l _ hH;exact⟨z,its,n,r,r.length,e⟩
end
section
variable {X:Cx}
def Ul:V->List V->Hp->VK->Prop:=λx vs H Q=>∃l xs y,x = .ref l/\vs=[y]/\H l=some (.lst xs)/\xs.length<sizeLine/\Q .aC (aJ H l (.lst (xs++[y])))
theorem HU:bo X "list.append" Ul:=by intro pins s U H x vs v us Q I rx rv h;obtain⟨l,xs,y,rfl,rfl,hH,hz,q⟩:=h;cases rx;obtain⟨u,rfl,ru⟩:=rv.one;obtain⟨z,its,n,r,hl,e⟩:=I.wK hH;refine call_meets F.slot_list_append ⟨_,e,rfl⟩ F.entry_list_append (F.args_list_append_2 _ _) (PySem.list_append l its.toArray n u (by rw[List.size_toArray];omega)) ⟨e,?_⟩;refine⟨.aC,_,I.HE (its':=its++[u]) hH e (by simp) (r.append (.cons ru .nil)) ?_,rfl,q⟩;rw[List.length_append,List.length_singleton];omega
def Um:R2:=λx y H Q=>∃l b xs zs,x = .ref l/\y = .ref b/\H l=some (.lst xs)/\H b=some (.lst zs)/\xs.length+zs.length<=sizeLine/\∀p,H p=none->Q (.ref p) (aJ H p (.lst (xs++zs)))
theorem IK:bJ X (binaryOp .Add) Um:=by
 intro pins s U H x y v u Q I rx ry h;obtain⟨l,b,xs,zs,rfl,rfl,hH,hB,hz,q⟩:=h;cases rx;cases ry;obtain⟨z,its,n,r,hl,e⟩:=I.wK hH;obtain⟨z2,its2,n2,r2,hl2,e2⟩:=I.wK hB;refine PySem.P.add_list e e2 ?_ (by rw[List.size_toArray,List.size_toArray];omega);have ea:its.toArray++its2.toArray=(its++its2).toArray:=by simp
 rw[ea];exact⟨.ref _,_,I.GY (t':=s.toks) (r.append r2) (by rw[List.length_append];omega),rfl,q _ I.fresh⟩
end
end L2
namespace Att
open PySem PySem.W PySem.Calls PyProof.Rows
theorem FK{P:Params}{h:Heap}:∀(ns:List Int) (vs:List Value),WellAll P h vs (ns.map WData.int)->IntsAre vs ns:=by
 intro ns;induction ns with
 |nil=>intro vs w;rw[List.map_nil]at w;cases w;exact .nil
 |cons n ns ih=>
  intro vs w;rw[List.map_cons]at w;cases w with
  |cons a b=>cases a;exact .cons _ _ (ih _ b)
theorem WO{l:OpenLaw}{n:Nat}(hn:l.most=some n){P:Params}{h:Heap}{args:List WData}{vals:List Value}
  (hpre:l.row.toRowW.claim.pre args=true) (hwl:WellAll P h vals args) :
  ∃a vs ns,vals=[Value.ref a]/\args=[WData.list (ns.map WData.int)]/\h.get? a=some { cls:=.type "list",data:=.seq vs.toArray }/\IntsAre vs ns/\ns.length<=n:=by
 have hsh:WShape.hasAll [] args [.list .int]=true:=(pre_splitW hpre).1;have hc:l.pre.holds [] { args:=args }=true:=(pre_splitW hpre).2;obtain⟨d,r,rfl,h1,h2⟩:=hasAllW_cons hsh;obtain rfl:=hasAllW_nil h2;obtain⟨xs,rfl,h3⟩:=hasW_list h1;obtain⟨ns,rfl⟩:=items_int h3;have hlen:ns.length<=n:=by
  unfold OpenLaw.pre at hc;have h4:(WTm.not (.lt (.lit (.int (n:Int))) (.len (.arg 0)))).holds [] { args:=[.list (ns.map .int)] }=true:=by have h4:=(holds_andW hc).1;rw[hn]at h4;exact h4
  have h5:=condW_of h4 (w_not (w_lt w_lit (w_len_list (w_arg rfl))));rw[List.length_map]at h5;refine Nat.le_of_not_lt λq=>?_;have q':(n:Int)<((ns.length:Nat):Int):=by omega
  first
   | (rw[decide_eq_true q']at h5;exact absurd h5 (by decide))
   | (simp at h5;omega)
 cases hwl with
 |cons w1 w2=>
  cases w2;cases w1 with
  |list ho hall=>exact⟨_,_,ns,rfl,rfl,ho,FK ns _ hall,hlen⟩
theorem MT(l:OpenLaw)(args:List WData):l.row.toRowW.claim.post args (.bool true) args=true:=
 postW_of (r:=l.row.toRowW) (X:=(true==true))
  (show WShape.has [] (.bool true) .bool=true by first|rfl|decide|simp[WShape.has,WShape.arms,WShape.armsAll])
  (show(WTm.eq .res (.lit (.bool true))).value [] { args:=args,res:=some (.bool true),after:=args }=some (.bool (true==true)) from w_eq_bool (w_res rfl) w_lit) rfl
theorem Yf{l:OpenLaw}{n:Nat}{q:Program}{loose:List Str}{XP:(Str->Option Value)->Heap->Prop}{YP:World->Heap->Prop}{d:DefRec}
  (hn:l.most=some n) (hdf:d.params.defaults=[])
  (call:∀(w:World) (s₀ s₁:Shared) (mg mb:Str->Option Value) (fa:Addr) (o:Obj) (pm cd doc:Value) (a:Addr) (vs:List Value) (ns:List Int),
   Ground q loose [] XP w s₀ mg mb s₁.heap->YP w s₁.heap ->
   s₁.heap.get? fa=some o->o.data = .func (docDef d.name d.params d.body d.scope pm cd doc)->s₁.heap.CodeRec cd d.name->mg d.name=some (.ref fa) ->
   s₁.heap.get? a=some { cls:=.type "list",data:=.seq vs.toArray }->IntsAre vs ns->ns.length<=n->s₁.gens=#[] ->
   codeAny (model l.prog w) callerA (.call (.ref fa) ⟨[.ref a],[]⟩) (λr s'=>r = .ok (.ret (.bool true))/\OldK s₁.heap s'.heap/\s'.os=s₁.os/\AllBare s'.gens) s₁) :
  WalkO q loose XP YP l.row.toRowW d [] (λf vs=>PySem.call f vs):=by
 intro w s₀ s₁ mg mb G Y fa o pm cd doc dV kV ho hd hcd hD hmg hg args vals as hpre hlay hrd hwl hlo;obtain rfl:dV = .none:=Dflts.none hD hdf;obtain rfl:kV = .none:=Dflts.noKw hD;obtain⟨a,vs,ns,rfl,rfl,hobj,hints,hlen⟩:=WO hn hpre hwl;refine enter_call (codeAny_mono (call w s₀ s₁ mg mb fa o pm cd doc a vs ns G Y ho (fd_plain hd) hcd hmg hobj hints hlen hg) λr s' hq=>?_);obtain⟨rfl,h2,h3,h4⟩:=hq;exact⟨.inl ⟨.bool true,.bool true,[],rfl,λ_=>rfl,.bool true,MT l _,λ_=>⟨List.Pairwise.nil,λ_ hm=>(nomatch hm)⟩⟩,h2,h3,h4⟩
end Att
namespace L2
open PySem PySem.Spec PyProof.Rows
theorem Xg:∀{vs:List Value} {ns:List Int},IntsAre vs ns->Vals (ns.map V.int) vs
 |_,_,.nil=>.nil
 |_,_,.cons n t h=>.cons ⟨t,rfl⟩ (Xg h)
def jf(H:Hp):Prop:=∀b,H b=none\/∃o xs,H b=some (.bH o (.lst xs))
theorem GQ{P:Program}{w:World}{K:W.Frag}{mg mb:Str->Option Value}{CX:hW}{k:Nat}{fa a:Addr}{fd:FuncData}{x:Str}{sp:Sp}{s₁:Shared}{vs:List Value}{ns:List Int}
  (KX:K.In s₁.heap) (hns:s₁.heap.Ns mainGlobals mg) (hb:s₁.heap.Ns builtinsNs mb) (hbb:∀x:Str,x≠"__name__"->mb x=bootBuiltins x) (hlim:s₁.heap.NoLimit) (hg:s₁.gens=#[])
  (ha:s₁.heap.get? a=some { cls:=.type "list",data:=.seq vs.toArray }) (hi:IntsAre vs ns) (hl:ns.length<=sizeLine) (hr:cD k callerA)
  (F:∀base:Heap,K.In base->base.Ns mainGlobals mg->dU P w K mg base CX k fa fd [x] sp) (hbind:∀(s:Shared) (u:Value),BindsTo s fd ⟨[u],[]⟩ [(x,u)])
  (hsp:∀H:Hp,jf H->bO K H a (ns.map V.int)->sp [.ref a] H (λv _=>v = .bl true) λ_ _ _=>False)
  (hCX:∀H e s',CX [] H s₁ (λ_ _ _=>False) e s'->False) :
  codeAny (model P w) callerA (.call (.ref fa) ⟨[.ref a],[]⟩) (λr s'=>r = .ok (.ret (.bool true))/\OldK s₁.heap s'.heap/\s'.os=s₁.os/\AllBare s'.gens) s₁:=by
 have rv:=Xg hi;have lenV:=hi.length;have core:∀H:Hp,jf H->bO K H a (ns.map V.int)->bY P w H s₁.heap->(∀b,H b≠none->b=a)->(H a≠none->K.lookup a=none) ->
   codeAny (model P w) callerA (.call (.ref fa) ⟨[.ref a],[]⟩) (λr s'=>r = .ok (.ret (.bool true))/\OldK s₁.heap s'.heap/\s'.os=s₁.os/\AllBare s'.gens) s₁:=by
  intro H hO hS aE hA hK;have base_of:∀{b:Addr} {o:Obj},s₁.heap.get? b=some o->H b=none->(qB s₁.heap H).get? b=some o:=λe n=>EM e n;have noA:∀{b:Addr} {o:Obj} {es:Array DictEntry} {ep:Nat},s₁.heap.get? b=some o->o.data = .dict es ep->H b=none:=λ{b o es ep} e d=>by
   cases q:H b with
   |none=>rfl|some u=>have e':b=a:=hA b (by rw[q];simp);subst e';rw[ha]at e;cases e;have d':Data.seq vs.toArray _=Data.dict es ep:=d;cases d'
  have nsK:∀{b:Addr} {m:Str->Option Value},s₁.heap.Ns b m->(qB s₁.heap H).Ns b m:=λ{b m} ⟨o,es,ep,e,d,r⟩=>⟨o,es,ep,base_of e (noA e d),d,r⟩;have hKb:K.In (qB s₁.heap H):=λb o e=>base_of (KX b o e) (by
   cases q:H b with
   |none=>rfl|some u=>have e':b=a:=hA b (by rw[q];simp);subst e';rw[hK (by rw[q];simp)]at e;cases e)
  have hM:Mod K mg (qB s₁.heap H):=⟨hKb,nsK hns,⟨mb,nsK hb,hbb⟩,let ⟨mc,h1,h2⟩:=hlim;⟨mc,nsK h1,h2⟩⟩;have e0:nZ P w K mg (qB s₁.heap H) callerA [] s₁ H:=⟨rfl,hM,λb o e=>IE e,Nat.le_of_eq (EN _ _),trivial,λb hb=>absurd (show b∈([]:List Addr) from hb) (by simp),aE,.of_eq hg⟩;refine codeAny_mono ((F _ hKb (nsK hns)).run callerA [] s₁ H ⟨[.ref a],[]⟩ [.ref a] [.ref a] _ _ hr e0 (hbind s₁ (.ref a)) (.cons rfl .nil) (hsp H hO hS)) λr s' h=>?_;cases r with
  |error e=>exact(hCX H e s' h).elim|ok fl=>
   cases fl with
   |next=>exact False.elim h|brk=>exact False.elim h|cont=>exact False.elim h|ret u=>
    obtain⟨v,H',os,bare,un,hok',r',q⟩:=h;have q':v = .bl true:=q;subst q';obtain rfl:u=Value.bool true:=r';refine⟨rfl,OldK.of_keep λb o e=>?_,os,bare⟩;cases q:H b with
    |none=>exact un.keep b o e q (by intro z;exact absurd (show b∈([]:List Addr) from z) (by simp)) (by simp)|some u=>
     rcases hO b with z|⟨ob,xs,z⟩
     .rw[q]at z;cases z
     .have z2:=un.gK b ob _ z;obtain⟨e1,_⟩:=aE b _ z;obtain⟨e2,_⟩:=hok' b _ z2;rw[e]at e1;cases e1;exact e2
 cases hk:K.lookup a with
 |some o=>have e:=KX a o hk;rw[ha]at e;cases e;refine core (λ_=>none) (λ_=>.inl rfl) (.inr ⟨_,vs.toArray,_,hk,rfl,rfl,rfl,by rw[List.size_toArray,lenV];exact hl,by simpa using rv⟩) (λb u z=>by have z':(none:Option HO)=some u:=z;cases z') (λb z=>absurd rfl z) λz=>absurd rfl z
 |none=>
  refine core (λb=>if b=a then some (.bH { cls:=.type "list",data:=.seq vs.toArray } (.lst (ns.map V.int))) else none) (λb=>?_) (.inl (.inr ⟨{ cls:=.type "list",data:=.seq vs.toArray },if_pos rfl⟩)) (λb u z=>?_) (λb z=>?_) λ_=>hk
  .by_cases hb:b=a
   .exact .inr ⟨_,_,if_pos hb⟩
   .exact .inl (if_neg hb)
  .by_cases hb:b=a
   .have z':=(if_pos hb).symm.trans z;cases z';subst hb;exact⟨ha,by rw[List.length_map];exact hl,vs,_,rv,ha⟩
   .have z':=(if_neg hb).symm.trans z;cases z'
  .by_cases hb:b=a
   .exact hb
   .exact absurd (if_neg hb) z
theorem c7{l:W.OpenLaw}{n k:Nat}{q:Program}{loose:List Str}{XP:(Str->Option Value)->Heap->Prop}{YP:World->Heap->Prop}{d:DefRec}{K:Params->W.Frag}{CX:World->hW}{sp:World->Sp}{x:Str}
  (hn:l.most=some n) (hn2:n<=sizeLine) (hdf:d.params.defaults=[]) (hr:cD k callerA)
  (hY:∀(w:World) (h:Heap),YP w h->(K w.params).In h)
  (F:∀(w:World) (mg:Str->Option Value) (fa:Addr) (h:Heap),(K w.params).In h->h.Ns mainGlobals mg->mg d.name=some (.ref fa) ->
   ∃fd:FuncData,(∀(s:Shared) (u:Value),BindsTo s fd ⟨[u],[]⟩ [(x,u)]) /\
    ∀base:Heap,(K w.params).In base->base.Ns mainGlobals mg->dU l.prog w (K w.params) mg base (CX w) k fa fd [x] (sp w))
  (hsp:∀(w:World) (H:Hp) (a:Addr) (ns:List Int),ns.length<=n->jf H->bO (K w.params) H a (ns.map V.int)->sp w [.ref a] H (λv _=>v = .bl true) λ_ _ _=>False)
  (hCX:∀(w:World) (H:Hp) (s:Shared) (e:Value) (s':Shared),CX w [] H s (λ_ _ _=>False) e s'->False) :
  W.WalkO q loose XP YP l.row.toRowW d [] (λf vs=>PySem.call f vs):=by
 refine Att.Yf hn hdf λw s₀ s₁ mg mb fa o pm cd doc a vs ns G Y ho hd hcd hmg hobj hints hlen hg=>?_;have KX:=hY w _ Y;obtain⟨fd,hb,hF⟩:=F w mg fa _ KX G.T.g hmg;exact GQ KX G.T.g G.T.b G.T.builtins G.T.nolimit hg hobj hints (Nat.le_trans hlen hn2) hr hF hb (λH hO hS=>hsp w H a ns hlen hO hS) λH e s'=>hCX w H s₁ e s'
def aM(s:Stmt):Arguments:=match s with
 |.FunctionDef _ a _ _ _ _ _ _ _ _=>a
 |_=>{ posonlyargs:=[],args:=[],vararg:=none,kwonlyargs:=[],kw_defaults:=[],kwarg:=none,defaults:=[] }
def aL(s:Stmt):List Stmt:=match s with
 |.FunctionDef _ _ b _ _ _ _ _ _ _=>b
 |_=>[]
def aF(s:Stmt):Scope:=match s with
 |.FunctionDef _ _ _ _ _ _ sc _ _ _=>sc
 |_=>{ kind:=.function,names:=[],isGenerator:=false,isCoroutine:=false }
abbrev E0:XK:=λ_ _ _=>False
section
variable {κ:Type} [DecidableEq κ]
def dE(kvs:List (κ×V))(k:κ):Option V:=(kvs.find? λkv=>decide (kv.1=k)).map (·.2)
def fH(kvs:List (κ×V))(k:κ)(v:V):List (κ×V):=
 if(kvs.any λkv=>decide (kv.1=k))=true then kvs.map (λkv=>if kv.1=k then(kv.1,v) else kv) else kvs++[(k,v)]
def lT(kvs:List (κ×V))(k:κ):List (κ×V):=kvs.filter λkv=>decide (kv.1≠k)
theorem Hk{p:κ×V}{r:List (κ×V)}{k:κ}(e:p.1=k):dE (p::r) k=some p.2:=by simp[dE,List.find?_cons,e]
theorem Hj{p:κ×V}{r:List (κ×V)}{k:κ}(e:¬p.1=k):dE (p::r) k=dE r k:=by simp[dE,List.find?_cons,e]
theorem Xf(k:κ):∀kvs:List (κ×V),(kvs.any λkv=>decide (kv.1=k))=(dE kvs k).isSome
 |[]=>rfl|p::r=>by
  rw[List.any_cons];by_cases e:p.1=k
  .simp only[Hk e,decide_eq_true e,Bool.true_or,Option.isSome_some]
  .rw[Hj e,decide_eq_false e,Bool.false_or];exact Xf k r
theorem As(kvs:List (κ×V))(k:κ)(v:V):(fH kvs k v).length<=kvs.length+1:=by
 unfold fH;split
 .rw[List.length_map];omega
 .rw[List.length_append,List.length_cons,List.length_nil];omega
theorem eK.dk{o:Option V}{u:Option Value}(r:eK o u):o.isSome=u.isSome:=by
 cases o with
 |none=>cases u with
  |none=>rfl|some _=>exact(show False from r).elim
 |some _=>cases u with
  |none=>exact(show False from r).elim|some _=>rfl
theorem eK.getD{o:Option V}{u:Option Value}{d:V}{d':Value}(r:eK o u)(rd:RelV d d'):RelV (o.getD d) (u.getD d'):=by
 cases o with
 |none=>cases u with
  |none=>exact rd|some _=>exact(show False from r).elim
 |some _=>cases u with
  |none=>exact(show False from r).elim|some _=>exact r
theorem KV.val{kvs:List (κ×V)}{vs:List (κ×Value)}(r:KV kvs vs)(k:κ):eK (dE kvs k) (valueAt vs k):=by
 unfold KV at r;induction r with
 |nil=>exact True.intro|@cons p q ps qs h t ih=>
  obtain⟨h1,h2⟩:=h;by_cases e:p.1=k
  .have e':q.1=k:=h1.symm.trans e;have b:valueAt (q::qs) k=some q.2:=by simp[valueAt,List.find?_cons,e']
   rw[Hk e,b];exact h2
  .have e':¬q.1=k:=λz=>e (h1.trans z);have b:valueAt (q::qs) k=valueAt qs k:=by simp[valueAt,List.find?_cons,e']
   rw[Hj e,b];exact ih
theorem KV.any{kvs:List (κ×V)}{vs:List (κ×Value)}(r:KV kvs vs)(k:κ):(kvs.any λkv=>decide (kv.1=k))=vs.any λkv=>decide (kv.1=k):=by
 unfold KV at r;induction r with
 |nil=>rfl|cons h t ih=>rw[List.any_cons,List.any_cons,ih,h.1]
theorem KV.Gr{kvs:List (κ×V)}{vs:List (κ×Value)}(r:KV kvs vs)(k:κ){y:V}{u:Value}(ry:RelV y u) :
  KV (kvs.map λkv=>if kv.1=k then(kv.1,y) else kv) (vs.map λkv=>if kv.1=k then(kv.1,u) else kv):=by
 unfold KV at r ⊢;induction r with
 |nil=>exact .nil|@cons p q ps qs h t ih=>
  rw[List.map_cons,List.map_cons];refine .cons ?_ ih;obtain⟨h1,h2⟩:=h;by_cases e:p.1=k
  .rw[if_pos e,if_pos (h1.symm.trans e)];exact⟨h1,ry⟩
  .rw[if_neg e,if_neg (λz=>e (h1.trans z))];exact⟨h1,h2⟩
theorem KV.put{kvs:List (κ×V)}{vs:List (κ×Value)}(r:KV kvs vs)(k:κ){y:V}{u:Value}(ry:RelV y u):KV (fH kvs k y) (stored vs k u):=by
 unfold fH stored;rw[r.any k];by_cases e:(vs.any λkv=>decide (kv.1=k))=true
 .rw[if_pos e,if_pos e];exact r.Gr k ry
 .rw[if_neg e,if_neg e];exact Paired.snoc r ⟨rfl,ry⟩
theorem KV.drop{kvs:List (κ×V)}{vs:List (κ×Value)}(r:KV kvs vs)(k:κ):KV (lT kvs k) (without vs k):=by
 unfold KV at r ⊢;unfold lT without;induction r with
 |nil=>exact .nil|@cons p q ps qs h t ih=>
  obtain⟨h1,h2⟩:=h;rw[List.filter_cons,List.filter_cons];by_cases e:p.1=k
  .have a:¬decide (p.1≠k)=true:=by simp[e]
   have b:¬decide (q.1≠k)=true:=by simp[h1.symm.trans e]
   rw[if_neg a,if_neg b];exact ih
  .have e':¬q.1=k:=λz=>e (h1.trans z);have a:decide (p.1≠k)=true:=by simp[e]
   have b:decide (q.1≠k)=true:=by simp[e']
   rw[if_pos a,if_pos b];exact .cons ⟨h1,h2⟩ ih
theorem KV.length{kvs:List (κ×V)}{vs:List (κ×Value)}(r:KV kvs vs):kvs.length=vs.length:=Paired.length r
theorem AL(kvs:List (κ×V))(k:κ):(lT kvs k).length<=kvs.length:=List.length_filter_le _ _
end
theorem oJ{P:Program}{w:World}{k:aD}{u:Value}(r:RelV (kV k) u):(dQ P w).is k u=true:=by
 cases k with
 |inl i=>obtain⟨t,e⟩:=(show∃t,u=Value.int i t from r);subst e;exact HR P w i t|inr x=>obtain⟨t,e⟩:=(show∃t,u=Value.str x t from r);subst e;exact HS P w x t
theorem Nr{P:Program}{w:World}:∀{ks:List aD} {us:List Value},Vals (ks.map kV) us->ItemsAre (dQ P w) ks us
 |[],_,r=>by rw[List.map_nil]at r;cases r;exact .nil
 |k::ks,_,r=>by
  rw[List.map_cons]at r;cases r with
  |cons h t=>exact .cons (oJ h) (Nr t)
abbrev KT(H:Hp):List (List aD×V)->List (List aD×Addr×Value)->Prop:=Paired λp q=>p.1=q.1/\H q.2.1=some (.tup (p.1.map kV))/\RelV p.2 q.2.2
theorem KT.val{H:Hp}{kvs:List (List aD×V)}{xs:List (List aD×Addr×Value)}(r:KT H kvs xs)(k:List aD):eK (dE kvs k) ((atKey xs k).map (·.2)):=by
 induction r with
 |nil=>exact True.intro|@cons p q ps qs h t ih=>
  obtain⟨h1,_,h2⟩:=h;by_cases e:p.1=k
  .have e':q.1=k:=h1.symm.trans e;have b:atKey (q::qs) k=some q.2:=by simp[atKey,List.find?_cons,e']
   rw[Hk e,b];exact h2
  .have e':¬q.1=k:=λz=>e (h1.trans z);have b:atKey (q::qs) k=atKey qs k:=by simp[atKey,List.find?_cons,e']
   rw[Hj e,b];exact ih
theorem KT.Gr{H:Hp}{kvs:List (List aD×V)}{xs:List (List aD×Addr×Value)}(r:KT H kvs xs)(k:List aD){y:V}{u:Value}(ry:RelV y u) :
  KT H (kvs.map λkv=>if kv.1=k then(kv.1,y) else kv) (xs.map (putAt k u)):=by
 induction r with
 |nil=>exact .nil|@cons p q ps qs h t ih=>
  rw[List.map_cons,List.map_cons];refine .cons ?_ ih;obtain⟨h1,h2,h3⟩:=h;unfold putAt;by_cases e:p.1=k
  .rw[if_pos e,if_pos (h1.symm.trans e)];exact⟨h1,h2,ry⟩
  .rw[if_neg e,if_neg (λz=>e (h1.trans z))];exact⟨h1,h2,h3⟩
theorem KT.put{H:Hp}{kvs:List (List aD×V)}{xs:List (List aD×Addr×Value)}(r:KT H kvs xs)(k:List aD){b:Addr}{y:V}{u:Value}(hb:H b=some (.tup (k.map kV)))(ry:RelV y u) :
  KT H (fH kvs k y) (storedH xs k b u):=by
 have e:(kvs.any λkv=>decide (kv.1=k))=(atKey xs k).isSome:=by rw[Xf,(r.val k).dk,Option.isSome_map]
 unfold fH storedH;rw[e];by_cases q:(atKey xs k).isSome=true
 .rw[if_pos q,if_pos q];exact r.Gr k ry
 .rw[if_neg q,if_neg q];exact Paired.snoc r ⟨rfl,hb,ry⟩
theorem KT.keeps{H H':Hp}{kvs:List (List aD×V)}{xs:List (List aD×Addr×Value)}(r:KT H kvs xs)(ht:∀b ys,H b=some (.tup ys)->H' b=some (.tup ys)):KT H' kvs xs:=
 Paired.Ay r λ_ _ z=>⟨z.1,ht _ _ z.2.1,z.2.2⟩
section
variable {P:Program}{w:World}{H:Hp}{h:Heap}{a:Addr}
theorem Uz{u:HO}(ok:bY P w H h)(e:Rd H a u):cX P w H h a u:=e.ok ok
theorem vT{kvs:List (aD×V)}(ok:bY P w H h)(e:Rd H a (.dK kvs)):kvs.length<=sizeLine/\(a==sysModules)=false/\∃vs,KV kvs vs/\h.DictOf (dQ P w) a vs:=
 show cX P w H h a (.dK kvs) from Uz ok e
theorem ju{kvs:List (aD×V)}(ok:bY P w H h)(e:H a=some (.dK kvs)):kvs.length<=sizeLine/\(a==sysModules)=false/\∃vs,KV kvs vs/\h.DictOf (dQ P w) a vs:=vT ok (.inl e)
theorem wH{ks:List aD}(ok:bY P w H h)(e:H a=some (.tup (ks.map kV))):(tupleKind (dQ P w)).is h ks a:=by obtain⟨_,its,r,o,h1,h2,n,h3⟩:=(show cX P w H h a (.tup (ks.map kV)) from ok a _ e);exact⟨o,its.toArray,n,h1,h2,h3,by simpa using Nr r⟩
theorem vU{kvs:List (List aD×V)}(ok:bY P w H h)(e:Rd H a (.dT kvs)):kvs.length<=sizeLine/\(a==sysModules)=false /\
  ∃xs,KT H kvs xs/\h.DictOfH (tupleKind (dQ P w)) a xs:=by
 obtain⟨z,y,xs,r,o,es,ep,h1,h2,h3,h4,h5⟩:=(show cX P w H h a (.dT kvs) from Uz ok e);refine⟨z,y,xs,r,o,es,ep,h1,h2,h3,h4,λx hx=>?_,h5⟩;have all:∀{l:List (List aD×V)} {m:List (List aD×Addr×Value)},KT H l m->∀x∈m,(tupleKind (dQ P w)).is h x.1 x.2.1:=by
  intro l m q;induction q with
  |nil=>intro x hx;exact nomatch hx|@cons p q ps qs hq t ih=>
   intro x hx;rcases List.mem_cons.mp hx with e|hx
   .subst e;exact wH ok (by rw[<- hq.1];exact hq.2.1)
   .exact ih x hx
 exact all r x hx
theorem AO{kvs:List (List aD×V)}(ok:bY P w H h)(e:H a=some (.dT kvs)):kvs.length<=sizeLine/\(a==sysModules)=false /\
 ∃xs,KT H kvs xs/\h.DictOfH (tupleKind (dQ P w)) a xs:=vU ok (.inl e)
end
def gH(H:Hp)(a:Addr)(y:V)(r:Option V):Prop:=
 (∃kvs k,Rd H a (.dK kvs)/\y=kV k/\r=dE kvs k)\/∃kvs k b,Rd H a (.dT kvs)/\y = .ref b/\H b=some (.tup (k.map kV))/\r=dE kvs k
def bf(H:Hp)(a:Addr)(y v:V)(H':Hp):Prop:=
 (∃kvs k,H a=some (.dK kvs)/\y=kV k/\kvs.length<sizeLine/\H'=aJ H a (.dK (fH kvs k v))) \/
 ∃kvs k b,H a=some (.dT kvs)/\y = .ref b/\H b=some (.tup (k.map kV))/\kvs.length<sizeLine/\H'=aJ H a (.dT (fH kvs k v))
theorem gH.k{H:Hp}{a:Addr}{kvs:List (aD×V)}{k:aD}(e:H a=some (.dK kvs)):gH H a (kV k) (dE kvs k):=.inl ⟨kvs,k,.inl e,rfl,rfl⟩
theorem bf.k{H:Hp}{a:Addr}{kvs:List (aD×V)}{k:aD}{v:V}(e:H a=some (.dK kvs))(hl:kvs.length<sizeLine):bf H a (kV k) v (aJ H a (.dK (fH kvs k v))):=.inl ⟨kvs,k,e,rfl,hl,rfl⟩
section
variable {X:Cx}{pins:List (Addr×Obj)}{U:St}{H:Hp}{s:Shared}{a:Addr}{y v:V}{u r:Value}{o:Option V}{A:Around}{E:Value->Shared->Prop}
theorem Inv.big(I:Inv X pins U H s):sysModules<s.heap.objs.size:=by have h:mainGlobals<s.heap.objs.size:=(I.mod.glob.keeps I.bk).lt;exact Nat.lt_trans (by decide) h
theorem Zw{Q:Value->Shared->Prop}(hu:A.units+1<cLine)(I:Inv X pins U H s)(g:gH H a y (some v))(ry:RelV y u)(h:∀w' s',Inv X pins U H s'->RelV v w'->Q w' s') :
  wpAny (model X.prog X.w) A (getItem (.ref a) u) Q E s:=by
 rcases g with⟨kvs,k,e,ey,l⟩|⟨kvs,k,b,e,ey,eb,l⟩
 .subst ey;obtain⟨z,hd,vs,rel,dd⟩:=vT I.aE e;obtain⟨w',hw,rw'⟩:=eK.some_of (v:=v) (o:=valueAt vs k) (by rw[l];exact rel.val k);exact wpAny_getItem_of (oJ ry) dd.mapOf hw (h w' _ (I.tok _) rw')
 .subst ey;cases(show u=Value.ref b from ry);obtain⟨z,hd,xs,rel,dd⟩:=vU I.aE e;obtain⟨w',hw,rw'⟩:=eK.some_of (v:=v) (o:=(atKey xs k).map (·.2)) (by rw[l];exact rel.val k);obtain⟨p,hp,hp2⟩:=Option.map_eq_some_iff.mp hw;refine wpAny_getItem_heap (tupleKind_room_in1 hu) (wH I.aE eb) dd hp ?_;rw[hp2];exact h w' _ (I.tok _) rw'
theorem Zx{Q:Value->Shared->Prop}(hu:A.units+1<cLine)(I:Inv X pins U H s)(g:gH H a y o)(ry:RelV y u)(h:∀s',Inv X pins U H s'->Q (.bool o.isSome) s') :
  wpAny (model X.prog X.w) A (compareOp .In u (.ref a)) Q E s:=by
 rcases g with⟨kvs,k,e,ey,l⟩|⟨kvs,k,b,e,ey,eb,l⟩
 .subst ey;obtain⟨z,hd,vs,rel,dd⟩:=vT I.aE e;refine wpAny_in_of (oJ ry) hd dd.mapOf ?_;rw[<- (rel.val k).dk,<- l];exact h _ (I.tok _)
 .subst ey;cases(show u=Value.ref b from ry);obtain⟨z,hd,xs,rel,dd⟩:=vU I.aE e;refine wpAny_in_heap (tupleKind_room_in1 hu) (wH I.aE eb) hd dd ?_;have q:=(rel.val k).dk;rw[Option.isSome_map]at q;rw[<- q,<- l];exact h _ (I.tok _)
theorem Zy{Q:Value->Shared->Prop}(hu:A.units+1<cLine)(I:Inv X pins U H s)(g:gH H a y o)(ry:RelV y u)(h:∀s',Inv X pins U H s'->Q (.bool (!o.isSome)) s') :
  wpAny (model X.prog X.w) A (compareOp .NotIn u (.ref a)) Q E s:=by
 rcases g with⟨kvs,k,e,ey,l⟩|⟨kvs,k,b,e,ey,eb,l⟩
 .subst ey;obtain⟨z,hd,vs,rel,dd⟩:=vT I.aE e;refine wpAny_notIn_of (oJ ry) hd dd.mapOf ?_;rw[<- (rel.val k).dk,<- l];exact h _ (I.tok _)
 .subst ey;cases(show u=Value.ref b from ry);obtain⟨z,hd,xs,rel,dd⟩:=vU I.aE e;refine wpAny_notIn_heap (tupleKind_room_in1 hu) (wH I.aE eb) hd dd ?_;have q:=(rel.val k).dk;rw[Option.isSome_map]at q;rw[<- q,<- l];exact h _ (I.tok _)
theorem js{h':Heap}{t':Nat}{ob:HO}(I:Inv X pins U H s)(mu:yI (H a))(hs:Heap.SameBut a s.heap h')(he:∃q,h'.get? a=some q)(new:cX X.prog X.w (aJ H a ob) h' a ob) :
  Inv X pins U (aJ H a ob) { s with heap:=h',toks:=t' }:=
 I.write (x:=a) (e:=a) mu (.inl rfl) (λb q hb z=>(hs.2 b hb).trans z) he new
theorem yw{P:Program}{w:World}{H':Hp}{h':Heap}{kvs:List (aD×V)}{vs:List (aD×Value)}(z:kvs.length<=sizeLine)(hd:(a==sysModules)=false)(rel:KV kvs vs)(dd:h'.DictOf (dQ P w) a vs) :
 cX P w H' h' a (.dK kvs):=⟨z,hd,vs,rel,dd⟩
theorem AA{H':Hp}{Q:Unit->Shared->Prop}(hu:A.units+1<cLine)(I:Inv X pins U H s)(g:bf H a y v H')(ry:RelV y u)(rv:RelV v r)(h:∀s',Inv X pins U H' s'->Q () s') :
  wpAny (model X.prog X.w) A (setItem (.ref a) u r) Q E s:=by
 rcases g with⟨kvs,k,e,ey,l,eH⟩|⟨kvs,k,b,e,ey,eb,l,eH⟩
 .subst ey eH;obtain⟨z,hd,vs,rel,dd⟩:=ju I.aE e;have hz:vs.length<=sizeLine:=by rw[<- rel.length];exact z
  have hl:(fH kvs k v).length<=sizeLine:=by have:=As kvs k v;omega
  refine wpAny_setItem_pairs (hsz:=hz) (oJ ry) dd λh' dd' hs=>h _ ?_;have he:∃q,h'.get? a=some q:=let ⟨q,_,_,hq,_⟩:=dd';⟨q,hq⟩;exact js I (by rw[e];exact True.intro) hs he (yw hl hd (rel.put k rv) dd')
 .subst ey eH;cases(show u=Value.ref b from ry);obtain⟨z,hd,xs,rel,dd⟩:=AO I.aE e;have hz:xs.length<=sizeLine:=by rw[<- Paired.length rel];exact z
  have hl:(fH kvs k v).length<=sizeLine:=by have:=As kvs k v;omega
  refine wpAny_setItem_heap (hsz:=hz) (tupleKind_room_in1 hu) (wH I.aE eb) dd λh' dd' hs=>h _ ?_;obtain⟨q,es,ep,hq,h2,h3,h4,_,h5⟩:=dd';refine js I (by rw[e];exact True.intro) hs ⟨q,hq⟩ ⟨hl,hd,_,(rel.put k eb rv).keeps λc ys ec=>?_,q,es,ep,hq,h2,h3,h4,h5⟩;rw[aR (lX ec e (λz=>nomatch z))];exact ec
end
section
variable {X:Cx}{pins:List (Addr×Obj)}{U:St}{H:Hp}{s:Shared}{a:Addr}{kvs:List (aD×V)}{k:aD}{u:Value}{A:Around}{E:Value->Shared->Prop}
theorem Li{v:V}{more:List Value}{Q:Value->Shared->Prop}(I:Inv X pins U H s)(e:H a=some (.dK kvs))(ry:RelV (kV k) u)(l:dE kvs k=some v)(hm:more=[]\/∃x,more=[x])
  (h:∀w' s',Inv X pins U (aJ H a (.dK (lT kvs k))) s'->RelV v w'->Q w' s'):wpAny (model X.prog X.w) A (call (.builtin "dict.pop") (.ref a::u::more)) Q E s:=by
 obtain⟨z,hd,vs,rel,dd⟩:=ju I.aE e;obtain⟨w',hw,rw'⟩:=eK.some_of (v:=v) (o:=valueAt vs k) (by rw[<- l];exact rel.val k);have hp:(keyPart u).isSome=true:=by
  cases k with
  |inl i=>obtain⟨t,q⟩:=(show∃t,u=Value.int i t from ry);subst q;rfl|inr x=>obtain⟨t,q⟩:=(show∃t,u=Value.str x t from ry);subst q;rfl
 have ha:argsOk "dict.pop" ⟨.ref a::u::more,[]⟩:=by
  rcases hm with q|⟨x,q⟩
  .subst q;exact PySem.F.args_dict_pop_2 _ _
  .subst q;exact PySem.F.args_dict_pop_3 _ _ _
 refine call_meetsIn PySem.F.slot_dict_pop dd.typeIs PySem.F.entry_dict_pop ha (meets_dict_pop_there (dQ X.prog X.w) a (oJ ry) more hm hp)
  ⟨vs,w',dd,by rw[<- rel.length];exact z,hw,λh' dd' hs=>h w' _ ?_ rw'⟩
 have he:∃q,h'.get? a=some q:=let ⟨q,_,_,hq,_⟩:=dd';⟨q,hq⟩;exact js I (by rw[e];exact True.intro) hs he (yw (Nat.le_trans (AL kvs k) z) hd (rel.drop k) dd')
theorem Zz{r:Value}{Q:Value->Shared->Prop}(I:Inv X pins U H s)(e:H a=some (.dK kvs))(ry:RelV (kV k) u)(l:dE kvs k=none)(h:∀s',Inv X pins U H s'->Q r s') :
  wpAny (model X.prog X.w) A (call (.builtin "dict.pop") [.ref a,u,r]) Q E s:=by
 obtain⟨z,hd,vs,rel,dd⟩:=ju I.aE e;have hn:valueAt vs k=none:=eK.none_of (by rw[<- l];exact rel.val k);have hp:(keyPart u).isSome=true:=by
  cases k with
  |inl i=>obtain⟨t,q⟩:=(show∃t,u=Value.int i t from ry);subst q;rfl|inr x=>obtain⟨t,q⟩:=(show∃t,u=Value.str x t from ry);subst q;rfl
 exact call_meetsIn PySem.F.slot_dict_pop dd.typeIs PySem.F.entry_dict_pop (PySem.F.args_dict_pop_3 _ _ _) (meets_dict_pop_default (dQ X.prog X.w) a (oJ ry) hd hp r) ⟨vs,dd,hn,h _ (I.tok _)⟩
end
theorem AI{X:Cx}{pins:List (Addr×Obj)}{U:St}{H:Hp}{s:Shared}{a:Addr}{y:V}{o:Option V}(I:Inv X pins U H s)(g:gH H a y o):s.TypeIs (.ref a) "dict":=by
 rcases g with⟨kvs,k,e,_,_⟩|⟨kvs,k,b,e,_,_,_⟩
 .obtain⟨_,_,vs,_,dd⟩:=vT I.aE e;exact dd.typeIs
 .obtain⟨_,_,xs,_,dd⟩:=vU I.aE e;exact dd.typeIs
theorem AJ{P:Program}{w:World}{H:Hp}(h:Heap)(hb:sysModules<h.objs.size):cX P w H (h.push { cls:=.type "dict",data:=.dict #[] }) h.objs.size (.dK []):=
 ⟨Nat.zero_le _,beq_eq_false_iff_ne.mpr (Ne.symm (Nat.ne_of_lt hb)),[],.nil,Heap.DictOf.new h⟩
def YH:TE:=λ_ H Q=>∀p,H p=none->Q (.ref p) (aJ H p (.dK []))
section
variable {X:Cx}{pos:Pos}
theorem LC:PE X (.Dict [] [] pos) YH:=λpins s U H Q I h=>wpAny_Dict_empty ⟨.ref s.heap.objs.size,_,I.laid (a:=s.heap.objs.size) (o:=.dK []) (t':=s.toks) (λ_ _ q=>Heap.get?_push_of_some _ q) (Nat.le_refl _) (AJ s.heap I.big),rfl,h _ (I.aE.fresh (Nat.le_refl _))⟩
end
section
variable {X:Cx}{pins:List (Addr×Obj)}{U:St}{H:Hp}{s:Shared}{a:Addr}{y d:V}{u r:Value}{o:Option V}{A:Around}{E:Value->Shared->Prop}
theorem Zu{Q:Value->Shared->Prop}(hu:A.units+1<cLine)(I:Inv X pins U H s)(g:gH H a y o)(ry:RelV y u)(h:∀w' s',Inv X pins U H s'->RelV (o.getD .aC) w'->Q w' s') :
  wpAny (model X.prog X.w) A (call (.builtin "dict.get") [.ref a,u]) Q E s:=by
 rcases g with⟨kvs,k,e,ey,l⟩|⟨kvs,k,b,e,ey,eb,l⟩
 .subst ey;obtain⟨z,hd,vs,rel,dd⟩:=vT I.aE e;refine call_meetsIn PySem.F.slot_dict_get dd.typeIs PySem.F.entry_dict_get (PySem.F.args_dict_get_2 _ _) (meets_dict_get (dQ X.prog X.w) a (oJ ry) hd) ⟨_,dd.mapOf,h _ _ (I.tok _) ?_⟩;rw[l];exact(rel.val k).getD rfl
 .subst ey;cases(show u=Value.ref b from ry);obtain⟨z,hd,xs,rel,dd⟩:=vU I.aE e;refine call_meetsIn PySem.F.slot_dict_get dd.typeIs PySem.F.entry_dict_get (PySem.F.args_dict_get_2 _ _) (meetsH_dict_get (tupleKind (dQ X.prog X.w)) a b hd) ⟨tupleKind_room_in1 hu,k,xs,wH I.aE eb,dd,h _ _ (I.tok _) ?_⟩;rw[l];exact(rel.val k).getD rfl
theorem Zv{Q:Value->Shared->Prop}(hu:A.units+1<cLine)(I:Inv X pins U H s)(g:gH H a y o)(ry:RelV y u)(rd:RelV d r)(h:∀w' s',Inv X pins U H s'->RelV (o.getD d) w'->Q w' s') :
  wpAny (model X.prog X.w) A (call (.builtin "dict.get") [.ref a,u,r]) Q E s:=by
 rcases g with⟨kvs,k,e,ey,l⟩|⟨kvs,k,b,e,ey,eb,l⟩
 .subst ey;obtain⟨z,hd,vs,rel,dd⟩:=vT I.aE e;refine call_meetsIn PySem.F.slot_dict_get dd.typeIs PySem.F.entry_dict_get (PySem.F.args_dict_get_3 _ _ _) (meets_dict_get_default (dQ X.prog X.w) a (oJ ry) hd r) ⟨_,dd.mapOf,h _ _ (I.tok _) ?_⟩;rw[l];exact(rel.val k).getD rd
 .subst ey;cases(show u=Value.ref b from ry);obtain⟨z,hd,xs,rel,dd⟩:=vU I.aE e;refine call_meetsIn PySem.F.slot_dict_get dd.typeIs PySem.F.entry_dict_get (PySem.F.args_dict_get_3 _ _ _) (meetsH_dict_get_default (tupleKind (dQ X.prog X.w)) a b hd r) ⟨tupleKind_room_in1 hu,k,xs,wH I.aE eb,dd,h _ _ (I.tok _) ?_⟩;rw[l];exact(rel.val k).getD rd
end
theorem cX.get{P:Program}{w:World}{H:Hp}{h:Heap}{a:Addr}{o:HO}(x:cX P w H h a o):∃ob,h.get? a=some ob:=by
 cases o with
 |lst xs=>obtain⟨_,_,_,_,e⟩:=x;exact⟨_,e⟩|tup xs=>obtain⟨_,_,_,ob,e,_⟩:=x;exact⟨_,e⟩|dK kvs=>obtain⟨_,_,_,_,o,_,_,e,_⟩:=x;exact⟨_,e⟩|dT kvs=>obtain⟨_,_,_,_,o,_,_,e,_⟩:=x;exact⟨_,e⟩|set S n=>obtain⟨o,_,_,_,e,_⟩:=x;exact⟨_,e⟩|ins C dx fs=>obtain⟨_,_,_,e,_⟩:=x;exact⟨_,e⟩|own y=>exact x|xd fs=>obtain⟨_,⟨_,_,_,e,_⟩,_⟩:=x;exact⟨_,e⟩|vn lo hi=>obtain⟨_,_,_,e⟩:=x;exact⟨_,e⟩|bH ob u=>obtain⟨e,_⟩:=x;exact⟨_,e⟩|vJ ps=>exact⟨_,show h.get? a=some _ from x⟩|met f y=>exact⟨_,show h.get? a=some _ from x⟩|ext φ=>obtain⟨_,e,_⟩:=x;exact e
def jc(B:Heap)(fs:List Addr)(h0:Heap)(H':Hp)(h:Heap):Prop:=∀b o,h.get? b=some o->b∉fs->((∃u,h0.get? b=some u)\/H' b≠none)->B.get? b=some o
def cW(P:Program)(w:World):hW:=λouter H s E e s'=>
 ∃(a:Addr) (cls:Value) (H':Hp) (B:Heap) (a0:Value),e = .ref a/\s'.os=s.os/\AllBare s'.gens/\Un (cN outer) [] H H' s.heap s'.heap/\bY P w H' s'.heap /\
  Heap.FlyingW B outer a cls a0 s'.heap/\jc B (cN outer) s.heap H' s'.heap/\E cls none H'
theorem bY.eF{P:Program}{w:World}{H':Hp}{h h' h0 B:Heap}{fs:List Addr}(x:bY P w H' h)(c:jc B fs h0 H' h)(k:B.StaysIn h')(nf:∀b∈fs,H' b=none):bY P w H' h':=λa o e=>
 (x a o e).gQ (λb u hb q=>by
  have ht:H' b≠none:=by
   rcases hb with rfl|hb
   .rw[e];intro z;cases z
   .rw[hb];intro z;cases z
  exact k b u (c b u q (λz=>ht (nf b z)) (.inr ht))) (λ_ q=>q) λ_ _ q=>q
section
variable {X:Cx}{pins:List (Addr×Obj)}{U:St}{H1:Hp}{s1 s':Shared}{E:XK}{e:Value}
theorem DT(I:Inv X pins U H1 s1)(hx:X.ex=[])(hs:X.stack=X.env::X.outer)(hf:X.env.frame=some X.env.locals)(h:cW X.prog X.w X.stack H1 s1 E e s'){M:Model}{E':Value->Shared->Prop} :
  wpAny M X.A (leaving X.env e) (λ_ s''=>cW X.prog X.w X.outer X.H₀ X.s₀ E e s'') E' s':=by
 obtain⟨a,cls,H',B,a0,rfl,os,bare,un,aE,eF,calm,q⟩:=h;have hfr:X.A.frames=some (X.env::X.outer):=by rw[<- hs];exact I.ok.frames
 rw[hs]at eF;refine wpAny_leaves_onW hfr hf eF λh' fly' up=>?_;have nin:∀b o,X.s₀.heap.get? b=some o->b≠X.env.locals:=λb o e z=>by have:=Heap.lt_size e;rw[z]at this;exact absurd (Nat.lt_of_lt_of_le this I.ok.above) (Nat.lt_irrefl _)
 have fst:∀b,b∈cN X.stack->b=X.env.locals\/b∈X.fs:=λb hb=>List.mem_cons.mp (I.ij b hb);have nst:∀b o,X.s₀.heap.get? b=some o->b∉X.fs->b∉cN X.stack:=λb o e n z=>by
  rcases fst b z with z|z
  .exact nin b o e z
  .exact n z
 have sub:∀b∈X.fs,b∈cN X.stack:=λb hb=>by rw[hs];unfold cN;rw[List.filterMap_cons,hf];exact List.mem_cons_of_mem _ hb
 have nx:∀b:Addr,b∉X.ex:=λb z=>by rw[hx]at z;cases z
 have n0:∀b:Addr,b∉([]:List Addr):=λb z=>by cases z
 have nf:∀b∈cN X.stack,H' b=none:=λb hb=>by obtain⟨_,o,ho,_⟩:=I.stack.mem hb;exact un.free b o ho (I.aw b hb) (n0 b)
 have old:∀b o,X.s₀.heap.get? b=some o->∃u,s1.heap.get? b=some u:=λb o e=>I.base.there b o e (nx b);have inB:∀b o o',X.s₀.heap.get? b=some o->b∉X.fs->s'.heap.get? b=some o'->B.get? b=some o':=λb o o' e n e'=>calm b o' e' (nst b o e n) (.inl (old b o e));have slots:∀b∈X.fs,∀o,s'.heap.get? b=some o->∃sl,h'.get? b=some { o with slots:=sl }:=λb hb o e=>by obtain⟨_,o',ho,hd⟩:=eF.2.2.1.mem (by rw[<- hs];exact sub b hb);rw[e]at ho;cases ho;exact up b o e hd
 refine⟨a,cls,H',B,a0,rfl,os.trans I.os,bare,⟨λb o e n hb _=>?_,λb o e n hb _=>?_,λb o e n _=>?_,λb o e _=>?_,λb xs z=>un.iQ b xs (I.base.iQ b xs z),λb o u z=>un.gK b o u (I.base.gK b o u z),λb ps z=>?_⟩,aE.eF calm fly'.1 nf,fly',λb o e n w=>?_,q⟩
 .have e1:=I.base.keep b o e n hb (nx b);have e2:=un.keep b o e1 (I.base.free b o e n (nx b)) (nst b o e hb) (n0 b);exact fly'.1 b o (inB b o o e hb e2)
 .obtain⟨sl,e1⟩:=I.base.slot b o e n hb (nx b);obtain⟨sl2,e2⟩:=un.slot b _ e1 (I.base.free b o e n (nx b)) (sub b hb) (n0 b);obtain⟨sl3,e3⟩:=slots b hb _ e2;exact⟨sl3,e3⟩
 .obtain⟨u,e1⟩:=old b o e;exact un.free b u e1 (I.base.free b o e n (nx b)) (n0 b)
 .obtain⟨u,e1⟩:=old b o e;obtain⟨u2,e2⟩:=un.there b u e1 (n0 b);by_cases hb:b∈X.fs
  .obtain⟨sl,e3⟩:=slots b hb u2 e2;exact⟨_,e3⟩
  .exact⟨u2,fly'.1 b u2 (inB b o u2 e hb e2)⟩
 .obtain⟨m1,e1⟩:=I.base.iP b ps z;obtain⟨m2,e2⟩:=un.iP b _ e1;exact⟨m1++m2,by rw[e2,Array.append_assoc]⟩
 .have:∃o',s'.heap.get? b=some o'/\B.get? b=some o':=by
   rcases w with⟨u,w⟩|w
   .obtain⟨u1,e1⟩:=old b u w;obtain⟨u2,e2⟩:=un.there b u1 e1 (n0 b);exact⟨u2,e2,inB b u u2 w n e2⟩
   .cases hh:H' b with
    |none=>exact absurd hh w|some y=>obtain⟨u2,e2⟩:=(aE b y hh).get;exact⟨u2,e2,calm b u2 e2 (λz=>w (nf b z)) (.inr w)⟩
  obtain⟨o',_,e2⟩:=this;have q2:=fly'.1 b o' e2;rw[e]at q2;cases q2;exact e2
end
theorem mw{P:Program}{w:World}{K:W.Frag}{mg:Str->Option Value}{base:Heap}{N:List Str}{qual:Str}{scope:Scope}{f:Addr}{cd:Value}{A:Around}{outer:List Env}{s:Shared}{H:Hp}{E:XK} :
 lM (cW P w) (pP (cW P w) P w K mg base N qual scope f cd A outer s H E) E:=λpins U H1 s1 e s' I h=>DT I rfl rfl rfl h
section
variable {X:Cx}{pins:List (Addr×Obj)}{U:St}{H:Hp}{s:Shared}{E:XK}{e:Addr}{h1:Heap}{cls:Value}{vs:List Value}
theorem DS(I:Inv X pins U H s)(hx:X.ex=[])(hs:X.stack=X.env::X.outer)(hf:X.env.frame=some X.env.locals)(m:Heap.MadeExcOf s.heap h1 e cls vs)(q:E cls none H){M:Model}{E':Value->Shared->Prop} :
  wpAny M X.A (leaving X.env (.ref e)) (λ_ s''=>cW X.prog X.w X.outer X.H₀ X.s₀ E (.ref e) s'') E' { s with heap:=h1 }:=by
 have hfr:X.A.frames=some (X.env::X.outer):=by rw[<- hs];exact I.ok.frames
 have hin:∀env∈(X.env::X.outer),∀b,env.frame=some b->b∈cN X.stack:=λenv he b hb=>by rw[hs];exact List.mem_filterMap.mpr ⟨env,he,hb⟩
 have gG:=I.stack;rw[hs]at gG;refine wpAny_leaves_madeW (s:={ s with heap:=h1 }) (base:=W.hideAll s.heap (cN X.stack)) hfr hf (λb o z=>W.of_hideAll _ z) (W.funFrames_hide gG hin) m λh' t fly' _ _ up=>?_;have nin:∀b o,X.s₀.heap.get? b=some o->b≠X.env.locals:=λb o e z=>by have:=Heap.lt_size e;rw[z]at this;exact absurd (Nat.lt_of_lt_of_le this I.ok.above) (Nat.lt_irrefl _)
 have nst:∀b o,X.s₀.heap.get? b=some o->b∉X.fs->b∉cN X.stack:=λb o e n z=>by
  rcases List.mem_cons.mp (I.ij b z)with z|z
  .exact nin b o e z
  .exact n z
 have sub:∀b∈X.fs,b∈cN X.stack:=λb hb=>by rw[hs];unfold cN;rw[List.filterMap_cons,hf];exact List.mem_cons_of_mem _ hb
 have nx:∀b:Addr,b∉X.ex:=λb z=>by rw[hx]at z;cases z
 have hB:∀b o,s.heap.get? b=some o->b∉cN X.stack->(W.hideAll s.heap (cN X.stack)).get? b=some o:=λb o z n=>W.hideAll_get _ z n;have slots:∀b∈X.fs,∀o,s.heap.get? b=some o->∃sl,h'.get? b=some { o with slots:=sl }:=λb hb o z=>by obtain⟨_,o',ho,hd⟩:=I.stack.mem (sub b hb);rw[z]at ho;cases ho;exact up b o (m.keeps b o z) hd
 have calm:jc (W.hideAll s.heap (cN X.stack)) (cN X.stack) X.s₀.heap H s.heap:=λb o z n _=>hB b o z n;refine⟨e,cls,H,_,_,rfl,I.os,I.bare,⟨λb o z n hb _=>?_,λb o z n hb _=>?_,λb o z n _=>I.base.free b o z n (nx b),λb o z _=>?_,I.base.iQ,I.base.gK,I.base.iP⟩,I.aE.eF calm fly'.1 I.aw,fly',λb o z n w=>?_,q⟩
 .exact fly'.1 b o (hB b o (I.base.keep b o z n hb (nx b)) (nst b o z hb))
 .obtain⟨sl,e1⟩:=I.base.slot b o z n hb (nx b);obtain⟨sl3,e3⟩:=slots b hb _ e1;exact⟨sl3,e3⟩
 .obtain⟨u,e1⟩:=I.base.there b o z (nx b);by_cases hb:b∈X.fs
  .obtain⟨sl,e3⟩:=slots b hb u e1;exact⟨_,e3⟩
  .exact⟨u,fly'.1 b u (hB b u e1 (nst b o z hb))⟩
 .have:∃o',(W.hideAll s.heap (cN X.stack)).get? b=some o':=by
   rcases w with⟨u,w⟩|w
   .obtain⟨u1,e1⟩:=I.base.there b u w (nx b);exact⟨u1,hB b u1 e1 (nst b u w n)⟩
   .cases hh:H b with
    |none=>exact absurd hh w|some y=>obtain⟨u2,e2⟩:=(I.aE b y hh).get;exact⟨u2,hB b u2 e2 λz=>w (I.aw b z)⟩
  obtain⟨o',e2⟩:=this;have q2:=fly'.1 b o' e2;rw[z]at q2;cases q2;exact e2
end
theorem KQ{K:W.Frag}{h₀:Heap}{C:Addr}{bmB:List Value}{newId:String}(X:K.In h₀)(q:W.excIn K C bmB newId=true) :
  ∃bm N nm q bs hdct sn sub ab col dd k0 k1 k2 k3 k5 mN,h₀.get? C=some (excClassObj nm q C N bs bm hdct sn sub ab col dd k0 k1 k2 k3 k5 newId)/\h₀.Ns N mN/\mN "__init__"=none/\OwnTail h₀ bmB bm:=by
 unfold W.excIn at q;split at q
 .rename_i dd cd sl ho;split at q
  .rename_i C' bm k0 k1 k2 k3 n k5 hm hs;simp only[Bool.and_eq_true,beq_iff_eq,Bool.not_eq_true']at q;obtain⟨⟨⟨⟨⟨rfl,rfl⟩,hdel⟩,ht⟩,aE⟩,hni⟩:=q;obtain⟨nm,bs,mro,ns,qn,hd,sn,sub,ab,col,lR⟩:=cd;dsimp only at hm hdel aE hni;subst hm hdel;have hsl:sl=#[k0,k1,k2,k3,some (.builtin n),k5]:=by obtain⟨l⟩:=sl;simp only at hs;rw[hs]
   subst hsl;exact⟨bm,ns,nm,qn,bs,hd,sn,sub,ab,col,dd,k0,k1,k2,k3,k5,_,X _ _ ho,.of_isNs (W.isNs_of_in X aE),W.nsMap_none_of_in X aE hni,W.tail_of_in X ht⟩
  .cases q
 .cases q
section
variable {X:Cx}{x:Str}{C:Addr}{bmB:List Value}{Bn newId initId:String}{np cpos pos:Pos}{e₀:Expr}{rest:List Expr}{ta:TA}{E:XK}
def jg(X:Cx)(E:XK):Prop:=∀(pins:List (Addr×Obj)) (U:St) (H:Hp) (s:Shared) (e:Addr) (h1:Heap) (cls:Value) (vs:List Value),Inv X pins U H s->Heap.MadeExcOf s.heap h1 e cls vs->E cls none H->X.xe (.ref e) { s with heap:=h1 }
def YV(C:Addr)(E:XK)(ta:TA):TS:=λ_ U H=>ta U H λvs H1=>vs.length<=sizeLine/\E (.ref C) none H1
theorem NG(hc:X.calm=true)(hg:Gl X x)(hm:X.mg x=some (.ref C))(q:W.excIn X.K C bmB newId=true)(FB:ExcBaseFacts Bn newId initId bmB)(hX:jg X E)(ha:PA X (e₀::rest) ta)
  (hdb:(x==("__debug__":Str))=false:=by decide)
  (he:starEach (e₀::rest) X.env=(false,eval e₀ X.env)::starEach rest X.env:=by rfl) (hpl:(backTo cpos (starEach rest X.env)).any (·.1)=false:=by rfl) :
  PS X (.Raise (some (.Call (.Name x np) (e₀::rest) [] cpos)) none pos) (YV C E ta):=by
 intro pins s U H D I h;obtain⟨bm,N,nm,qn,bs,hdct,sn,sub,ab,col,dd,k0,k1,k2,k3,k5,mN,hC,hN,hni,TL⟩:=KQ I.mod.tE q;refine wpAny_Raise_call_subT (C:=C) (nm:=nm) (q:=qn) (N:=N) (bs:=bs) (bm:=bm) (hdct:=hdct) (sn:=sn) (sub:=sub) (ab:=ab) (col:=col) (dd:=dd) (k0:=k0) (k1:=k1) (k2:=k2) (k3:=k3) (k5:=k5)
  FB (mN:=mN) (TL.hasType FB.hasBase) (I.ok.hd hc) (by rw[he];show(false||(backTo cpos (starEach rest X.env)).any (·.1))=false;rw[hpl];rfl) hni (qE I hg hm ⟨rfl,?_⟩ hdb)
 have h2:=ha cpos pins s U H _ I h;rw[he]at h2 ⊢;refine Calls.evalArgs_plain (wpAny_mono h2 (λus s₂ ⟨vs,H1,I1,r,l,z⟩=>⟨rfl,by rw[<- r.length];exact l,I1.bk _ _ hC,hN.keeps I1.bk,TL.keeps I1.bk,λh' e m=>hX pins U H1 s₂ e h' _ _ I1 m z⟩) λ_ _ y=>y)
end
theorem UN{P:Program}{w:World}{K:W.Frag}{mg:Str->Option Value}{base:Heap}{N:List Str}{qual:Str}{scope:Scope}{f:Addr}{cd:Value}{A:Around}{outer:List Env}{s:Shared}{H:Hp}{E:XK} :
 jg (pP (cW P w) P w K mg base N qual scope f cd A outer s H E) E:=λpins U H1 s1 e h1 cls vs I m q=>DS I rfl rfl rfl m q
def lI(a:Addr)(cls:Value)(h:Heap):Prop:=∃ob,h.get? a=some ob/\ob.cls=cls
abbrev Cx.held(X:Cx)(a:Addr):Cx:={ X with A:=X.A.mark (some (.ref a)),calm:=false,xe:=λ_ _=>False }
section
variable {X:Cx}{pins:List (Addr×Obj)}{U:St}{H H':Hp}{s s':Shared}{a:Addr}{cls a0:Value}{B h5:Heap}
theorem Inv.wk(I:Inv X pins U H s):Inv (X.held a) pins U H s:=
 ⟨⟨I.ok.mod,I.ok.kind,I.ok.glob,I.ok.blt,I.ok.above,I.ok.inj,I.ok.has,I.ok.pN,λz=>Bool.noConfusion z,I.ok.frames,I.ok.gG,I.ok.pV,I.ok.bs,I.ok.iC,I.ok.qF,I.ok.oB,I.ok.fX,I.ok.jY⟩,I.os,I.bare,I.base,I.loc,I.cell,I.free,I.fM,I.pin,I.aE,I.len⟩
theorem Inv.tK(ok:X.Ok)(I:Inv (X.held a) pins U H s):Inv X pins U H s:=⟨ok,I.os,I.bare,I.base,I.loc,I.cell,I.free,I.fM,I.pin,I.aE,I.len⟩
theorem Inv.Ks(I:Inv X pins U H s)(os:s'.os=s.os)(bare:AllBare s'.gens)(un:Un (cN X.stack) [] H H' s.heap s'.heap)(aE:bY X.prog X.w H' s'.heap)
  (eF:Heap.FlyingW B X.stack a cls a0 s'.heap) (calm:jc B (cN X.stack) s.heap H' s'.heap) (k:B.StaysIn h5) (up:s'.heap.UpToSlots h5) (there:lI a cls h5) :
  H' a=none/\Inv X pins U (aJ H' a (.ext (lI a cls))) { s' with heap:=h5 }:=by
 have n0:∀b:Addr,b∉([]:List Addr):=λb z=>by cases z
 have nas:a∉cN X.stack:=λz=>by obtain⟨_,o,ho,hd⟩:=eF.2.2.1.mem z;obtain⟨oe,vs,he,_,hv,_⟩:=eF.first;rw[ho]at he;cases he;exact hd vs hv
 have naB:B.get? a=none:=eF.2.1;have naH:H' a=none:=by
  cases q:H' a with
  |none=>rfl|some y=>obtain⟨o,ho⟩:=(aE a y q).get;have:=calm a o ho nas (.inr (by rw[q];intro z;cases z));rw[naB]at this;cases this
 have na:∀b o,s.heap.get? b=some o->b≠a:=λb o e z=>by subst z;obtain⟨o',e'⟩:=un.there b o e (n0 b);have:=calm b o' e' nas (.inl ⟨o,e⟩);rw[naB]at this;cases this
 have nf:∀b∈cN X.stack,H' b=none:=λb hb=>by obtain⟨_,o,ho,_⟩:=I.stack.mem hb;exact un.free b o ho (I.aw b hb) (n0 b)
 have nt:∀{b:Addr} {o:HO},H' b=some o->b≠a:=λ{b o} e=>dW e naH;have slots:∀b∈cN X.stack,∀o,s'.heap.get? b=some o->∃sl,h5.get? b=some { o with slots:=sl }:=λb hb o e=>by obtain⟨_,o',ho,hd⟩:=eF.2.2.1.mem hb;rw[e]at ho;cases ho;exact up b o e hd
 refine⟨naH,I.Kq (s':={ s' with heap:=h5 }) (ch:=[]) os ⟨λb o e n hb _=>?_,λb o e n hb _=>?_,λb o e n _=>?_,λb o e _=>?_,λb xs e=>?_,λb o u e=>?_,λb ps e=>?_⟩ ?_ bare λb z=>absurd z (n0 b)⟩
 .have e2:=un.keep b o e n hb (n0 b);exact k b o (calm b o e2 hb (.inl ⟨o,e⟩))
 .obtain⟨sl,e2⟩:=un.slot b o e n hb (n0 b);obtain⟨sl3,e3⟩:=slots b hb _ e2;exact⟨sl3,e3⟩
 .rw[aR (na b o e)];exact un.free b o e n (n0 b)
 .obtain⟨u2,e2⟩:=un.there b o e (n0 b);by_cases hb:b∈cN X.stack
  .obtain⟨sl,e3⟩:=slots b hb u2 e2;exact⟨_,e3⟩
  .exact⟨u2,k b u2 (calm b u2 e2 hb (.inl ⟨o,e⟩))⟩
 .have:=un.iQ b xs e;rw[aR (nt this)];exact this
 .have:=un.gK b o u e;rw[aR (nt this)];exact this
 .obtain⟨m2,e2⟩:=un.iP b ps e;exact⟨m2,by rw[aR (nt e2)];exact e2⟩
 .have ok5:=aE.eF calm k nf;intro b u q;by_cases hb:b=a
  .subst hb;rw[dN]at q;cases q;obtain⟨ob,h1,h2⟩:=there;exact⟨⟨ob,h1,h2⟩,⟨ob,h1⟩,λh1 h2 ⟨o,g1,g2⟩ kk=>⟨o,kk o g1,g2⟩⟩
  .rw[aR hb]at q;exact(ok5 b u q).gQ (λ_ _ _ z=>z) (λc z=>by rw[aR (nt z)];exact z) λc xs z=>by rw[aR (nt z)];exact z
theorem jx{M:Model}{A:Around}{E:Value->Shared->Prop}{i:Nat}{n:Str}{pos:Pos}{Q:Unit->Shared->Prop}(I:Inv X pins U H s)(hN:X.N.Nodup)(hi:X.N[i]?=some n)(hk:X.env.kindOf n=some .local)
  (h:∀s',Inv X pins (U.set i none) H s'->Q () s'):wpAny M A (do bindName X.env n .none;unbindBehindTheSuite X.env n pos) Q E s:=by
 obtain⟨m,hn,hl⟩:=id I.loc;have hcls:(X.env.scope.kind == .class||(X.env.scope.kind == .module&&X.env.locals != X.env.globals))=false:=by rw[I.ok.kind];rfl
 have lQ:=I.lQ;refine wpAny_nameGoes_keeps hk hn hcls λh' v hn' hs=>?_;obtain⟨oL,_,_,hoL,_⟩:=id hn;have old:∀b o,X.s₀.heap.get? b=some o->b≠X.env.locals:=λb o e=>Nat.ne_of_lt (Nat.lt_of_lt_of_le (Heap.lt_size e) I.ok.above);refine h _ ⟨I.ok,I.os,I.bare,⟨λb o e n hb hx=>(hs.2 b (old b o e)).trans (I.base.keep b o e n hb hx),λb o e n hb hx=>?_,I.base.free,λb o e hx=>?_,I.base.iQ,I.base.gK,I.base.iP⟩,⟨_,hn',λj y v' e1 e2 e3=>?_⟩,λy c e=>?_,I.free,I.fM,λp hp=>?_,λb ob e=>?_,by simpa using I.len⟩
 .obtain⟨sl,e1⟩:=I.base.slot b o e n hb hx;exact⟨sl,(hs.2 b (old b o e)).trans e1⟩
 .obtain⟨o',e1⟩:=I.base.there b o e hx;exact⟨o',(hs.2 b (old b o e)).trans e1⟩
 .by_cases hj:j=i
  .subst hj;by_cases hlt:j<U.length
   .rw[List.getElem?_set_self hlt]at e2;cases e2
   .rw[List.getElem?_eq_none (by simpa using hlt)]at e2;cases e2
  .rw[List.getElem?_set_ne (Ne.symm hj)]at e2;obtain⟨u',r',q⟩:=hl j y v' e1 e2 e3;refine⟨u',r',?_⟩;rcases q with⟨k,e⟩|⟨k,c,e,z⟩
   .refine .inl ⟨k,?_⟩;have:y≠n:=λe=>hj (Bg hN e1 (e▸hi));simp[this,e]
   .exact .inr ⟨k,c,e,z.sameBut hs (lQ y c e)⟩
 .obtain⟨w',z⟩:=I.cell y c e;exact⟨w',z.sameBut hs (lQ y c e)⟩
 .obtain⟨e,n,ne,nf,d⟩:=I.pin p hp;exact⟨(hs.2 p.1 ne).trans e,n,ne,nf,d⟩
 .refine(I.aE b ob e).gQ (λc w' hc q=>(hs.2 c ?_).trans q) (λ_ q=>q) λ_ _ q=>q;rintro rfl
  have hfree:=I.free;rcases hc with rfl|hc
  .rw[hfree]at e;cases e
  .rw[hfree]at hc;cases hc
end
def clsIn(K:W.Frag)(C:Addr):Bool:=match K.lookup C with
 |some ⟨.type "type",_,.cls cd,sl⟩=>(match cd.mro,sl.toList with
  |.ref C'::bm,[_,_,_,_,some (.builtin _),_]=>C'==C && !cd.hasDel&&bm.contains (.type "BaseException")
  |_,_=>false)
 |_=>false
def mroOf(K:W.Frag)(C:Addr):List Value:=match K.lookup C with
 |some ⟨_,_,.cls cd,_⟩=>cd.mro
 |_=>[]
theorem jm{K:W.Frag}{h₀:Heap}{C:Addr}(X:K.In h₀)(q:clsIn K C=true) :
  ∃bm N nm q bs hdct sn sub ab col dd k0 k1 k2 k3 k5 newId,h₀.get? C=some (excClassObj nm q C N bs bm hdct sn sub ab col dd k0 k1 k2 k3 k5 newId)/\mroOf K C = .ref C::bm/\bm.contains (.type "BaseException")=true:=by
 unfold clsIn at q;split at q
 .rename_i dd cd sl ho;have hmro:mroOf K C=cd.mro:=by unfold mroOf;rw[ho]
  split at q
  .rename_i C' bm k0 k1 k2 k3 n k5 hm hs;simp only[Bool.and_eq_true,beq_iff_eq,Bool.not_eq_true']at q;obtain⟨⟨rfl,hdel⟩,hb⟩:=q;rw[hm]at hmro;obtain⟨nm,bs,mro,ns,qn,hd,sn,sub,ab,col,lR⟩:=cd;dsimp only at hm hdel;subst hm hdel;have hsl:sl=#[k0,k1,k2,k3,some (.builtin n),k5]:=by obtain⟨l⟩:=sl;simp only at hs;rw[hs]
   subst hsl;exact⟨bm,ns,nm,qn,bs,hd,sn,sub,ab,col,dd,k0,k1,k2,k3,k5,n,X _ _ ho,hmro,hb⟩
  .cases q
 .cases q
section
variable {M:Model}{A:Around}{E:Value->Shared->Prop}
variable {nm q nm' q':Str}{C N D N':Addr}{bs bm bs' bm':List Value}{hdct hdct':Bool}{sn sn':List Str}{sub sub':List Value}{ab ab':Bool}{col col':Option Bool}{dd dd':Option Addr}{k0 k1 k2 k3 k5 j0 j1 j2 j3 j5:Option Value}{newId newId':String}
theorem Lz{h:Heap}{g:Array GenState}{d:Drawn}{t:Nat}{os:OsState}{e:Addr}{oe:Obj}{Q:Bool->Shared->Prop}
  (hC:h.get? C=some (excClassObj nm q C N bs bm hdct sn sub ab col dd k0 k1 k2 k3 k5 newId)) (hD:h.get? D=some (excClassObj nm' q' D N' bs' bm' hdct' sn' sub' ab' col' dd' j0 j1 j2 j3 j5 newId'))
  (he:h.get? e=some oe) (hcls:oe.cls = .ref C) (hbase:bm'.contains (.type "BaseException")=true) (hsub:(Value.ref C::bm).contains (.ref D)=true)
  (hq:Q true ⟨h,g,d,t,os⟩):wpAny M A (excMatches (.ref e) (.ref D)) Q E ⟨h,g,d,t,os⟩:=by
 have hcB:(Value.ref D::bm').contains (.type "BaseException")=true:=by rw[List.contains_cons,hbase,Bool.or_true]
 have f:=tc_notTuple;unfold excMatches;repeat (first|(with_reducible refine wpAny_loadPart_at he ?_;rw[hcls])|with_reducible refine wpAny_loadPart_at hD ?_|(with_reducible refine wpAny_isSubtype_exc hD ?_;rw[hcB])|(with_reducible refine wpAny_isSubtype_exc hC ?_;rw[hsub])|wp_step)
 exact hq
end
def bq(CX:hW)(X:Cx)(EE:St->XK):Prop:=∀(pins:List (Addr×Obj)) (U:St) (H:Hp) (s:Shared) (e:Value) (s':Shared),Inv X pins U H s->CX X.stack H s (EE U) e s'->X.xe e s'
abbrev Cx.eS(X:Cx)(pn:List (Addr×Obj))(E1:Value->Shared->Prop):Cx:={ X with pn:=pn,xe:=E1 }
section
variable {X:Cx}{pins pins' pn:List (Addr×Obj)}{U:St}{H:Hp}{s:Shared}{E1:Value->Shared->Prop}
theorem Inv.Wr(I:Inv X pins U H s):Inv (X.eS (X.pn++pins) E1) [] U H s:=
 ⟨⟨I.ok.mod,I.ok.kind,I.ok.glob,I.ok.blt,I.ok.above,I.ok.inj,I.ok.has,I.ok.pN,I.ok.hd,I.ok.frames,I.ok.gG,I.ok.pV,I.ok.bs,I.ok.iC,I.ok.qF,I.ok.oB,I.ok.fX,I.ok.jY⟩,I.os,I.bare,I.base,I.loc,I.cell,I.free,I.fM,
  λp hp=>I.pin p (by rw[List.append_nil]at hp;exact hp),I.aE,I.len⟩
theorem Inv.oO(I:Inv (X.eS (X.pn++pins) E1) pins' U H s):Inv X pins U H s:=
 ⟨⟨I.ok.mod,I.ok.kind,I.ok.glob,I.ok.blt,I.ok.above,I.ok.inj,I.ok.has,I.ok.pN,I.ok.hd,I.ok.frames,I.ok.gG,I.ok.pV,I.ok.bs,I.ok.iC,I.ok.qF,I.ok.oB,I.ok.fX,I.ok.jY⟩,I.os,I.bare,I.base,I.loc,I.cell,I.free,I.fM,
  λp hp=>I.pin p (List.mem_append_left _ hp),I.aE,I.len⟩
end
def ax(K:W.Frag)(Dc:Addr)(R:St->Addr->Hp->Prop):St->XK:=λU cls _ H=>∃C,cls = .ref C/\clsIn K C=true/\(mroOf K C).contains (.ref Dc)=true/\∀a,H a=none->R U a (aJ H a (.ext (lI a (.ref C))))
def Wl(K:W.Frag)(Dc:Addr)(i:Nat)(tb:List (Addr×Obj)->(Value->Shared->Prop)->(St->XK)->TS)(ts:Addr->TS):TS:=λD U H=>∀pn E1,
 tb pn E1 (ax K Dc λU' a H'=>ts a { nx:=λU H=>D.nx (U.set i none) H,rt:=D.rt,bk:=λU H=>D.bk (U.set i none) H,ct:=λU H=>D.ct (U.set i none) H } (U'.set i (some (.ref a))) H') D U H
def Wk(K:W.Frag)(Dc:Addr)(tb:List (Addr×Obj)->(Value->Shared->Prop)->(St->XK)->TS)(ts:Addr->TS):TS:=λD U H=>∀pn E1,tb pn E1 (ax K Dc λU' a H'=>ts a D U' H') D U H
section
variable {X:Cx}{x n:Str}{Dc:Addr}{i:Nat}{body:List Stmt}{b₀:Stmt}{suite:List Stmt}{np hpos pos:Pos}{tb:List (Addr×Obj)->(Value->Shared->Prop)->(St->XK)->TS}{ts:Addr->TS}
theorem Og{pins:List (Addr×Obj)}{U:St}{H:Hp}{s s':Shared}{e:Value}{R:St->Addr->Hp->Prop}(I:Inv X pins U H s)(h:cW X.prog X.w X.stack H s (ax X.K Dc R U) e s') :
  ∃a B C a0 H',e = .ref a/\Heap.FlyingW B X.stack a (.ref C) a0 s'.heap/\clsIn X.K C=true/\(mroOf X.K C).contains (.ref Dc)=true/\R U a (aJ H' a (.ext (lI a (.ref C)))) /\
   ∀h5,B.StaysIn h5->s'.heap.UpToSlots h5->lI a (.ref C) h5->Inv X pins U (aJ H' a (.ext (lI a (.ref C)))) { s' with heap:=h5 }:=by
 obtain⟨a,cls,H',B,a0,rfl,os,bare,un,aE,eF,calm,C,rfl,hC,hsub,q⟩:=h;have na:H' a=none:=(I.Ks os bare un aE eF calm eF.1 (Heap.UpToSlots.refl _) eF.there).1;exact⟨a,B,C,a0,H',rfl,eF,hC,hsub,q a na,λh5 k up th=>(I.Ks os bare un aE eF calm k up th).2⟩
theorem NM(hs:X.stack=X.env::X.outer)(hf:X.env.frame=some X.env.locals)(hN:X.N.Nodup)(hi:X.N[i]?=some n)(hk:X.env.kindOf n=some .local)(hg:Gl X x)(hm:X.mg x=some (.ref Dc))(hD:clsIn X.K Dc=true)
  (hb:∀pn E1 EE,bq (cW X.prog X.w) (X.eS pn E1) EE->hZ (X.eS pn E1) body (tb pn E1 EE)) (hsu:∀a,hZ (X.held a) (b₀::suite) (ts a)) (hdb:(x==("__debug__":Str))=false:=by decide) :
  PS X (.Try body [.ExceptHandler (some (.Name x np)) (some n) (b₀::suite) hpos] [] [] pos) (Wl X.K Dc i tb ts):=by
 intro pins s U H D I h;have hfr:X.A.frames=some (X.env::X.outer):=by rw[<- hs];exact I.ok.frames
 refine wpAny_Try_except (wpAny_mono (hb (X.pn++pins) (λe s'=>∃U' H1 s1,Inv X pins U' H1 s1/\cW X.prog X.w X.stack H1 s1 (ax X.K Dc (λU' a H'=>ts a { nx:=λU H=>D.nx (U.set i none) H,rt:=D.rt,bk:=λU H=>D.bk (U.set i none) H,ct:=λU H=>D.ct (U.set i none) H } (U'.set i (some (.ref a))) H') U') e s') _
  (λpins' U' H1 s1 e s' I' h'=>⟨U',H1,s1,I'.oO,h'⟩) [] s U H D I.Wr (h _ _)) (λf s1 hf1=>?_) λe s' ⟨U',H1,s1,I1,h1⟩=>?_)
 .cases f with
  |next=>obtain⟨U',H',J,d⟩:=hf1;exact wpAny_execs_nil ⟨U',H',J.oO,d⟩
  |brk=>obtain⟨U',H',J,d⟩:=hf1;exact⟨U',H',J.oO,d⟩|cont=>obtain⟨U',H',J,d⟩:=hf1;exact⟨U',H',J.oO,d⟩|ret u=>obtain⟨v,U',H',J,r,d⟩:=hf1;exact⟨v,U',H',J.oO,r,d⟩
 .obtain⟨a,B,C,a0,H',rfl,eF,hC,hsub,q,inv⟩:=Og I1 h1;rw[hs]at eF;refine wpAny_looks_onW hfr hf eF λh4 held4 up4=>?_;refine wpAny_landsW held4 λh5 fly5 up5=>?_;have J5:=(inv h5 fly5.1 (up4.trans up5) fly5.there).wk (a:=a);refine wpAny_handleBy_cons (codeAny_handlers_test (qE (X:=X.held a) J5 hg hm ?_ hdb)) (by intro q;cases q);obtain⟨bm,N,nm,qn,bs,hdct,sn,sub,ab,col,dd,k0,k1,k2,k3,k5,nid,hCo,hmro,_⟩:=jm J5.bN hC;obtain⟨bm',N',nm',qn',bs',hdct',sn',sub',ab',col',dd',j0,j1,j2,j3,j5,nid',hDo,_,hbase⟩:=jm J5.bN hD;obtain⟨ob,hob,hobc⟩:=fly5.there;rw[show mroOf X.K C=_ from hmro]at hsub;refine Lz hCo hDo hob hobc hbase hsub (codeAny_handlers_suite_as ?_);refine lands_againW fly5 λh6 fly6 up6=>?_;have J6:=(inv h6 fly6.1 ((up4.trans up5).trans up6) fly6.there).wk (a:=a);refine vy (X:=X.held a) (v:=.ref a) J6 hN hi (.inl hk) (show Value.ref a=Value.ref a from rfl) (λs7 J7=>?_) (.inr hk);refine wpAny_mono (hsu a pins s7 _ _ _ J7 q) (λf s8 hf8=>?_) λ_ _ z=>z.elim;cases f with
  |next=>obtain⟨U2,H2,J,d⟩:=hf8;exact jx (J.tK I.ok) hN hi hk λs9 J9=>⟨_,_,J9,d⟩|brk=>obtain⟨U2,H2,J,d⟩:=hf8;exact jx (J.tK I.ok) hN hi hk λs9 J9=>⟨_,_,J9,d⟩|cont=>obtain⟨U2,H2,J,d⟩:=hf8;exact jx (J.tK I.ok) hN hi hk λs9 J9=>⟨_,_,J9,d⟩|ret u=>obtain⟨v,U2,H2,J,r,d⟩:=hf8;exact jx (J.tK I.ok) hN hi hk λs9 J9=>⟨v,_,_,J9,r,d⟩
theorem NL(hs:X.stack=X.env::X.outer)(hf:X.env.frame=some X.env.locals)(hg:Gl X x)(hm:X.mg x=some (.ref Dc))(hD:clsIn X.K Dc=true)
  (hb:∀pn E1 EE,bq (cW X.prog X.w) (X.eS pn E1) EE->hZ (X.eS pn E1) body (tb pn E1 EE)) (hsu:∀a,hZ (X.held a) (b₀::suite) (ts a)) (hdb:(x==("__debug__":Str))=false:=by decide) :
  PS X (.Try body [.ExceptHandler (some (.Name x np)) none (b₀::suite) hpos] [] [] pos) (Wk X.K Dc tb ts):=by
 intro pins s U H D I h;have hfr:X.A.frames=some (X.env::X.outer):=by rw[<- hs];exact I.ok.frames
 refine wpAny_Try_except (wpAny_mono (hb (X.pn++pins) (λe s'=>∃U' H1 s1,Inv X pins U' H1 s1/\cW X.prog X.w X.stack H1 s1 (ax X.K Dc (λU' a H'=>ts a D U' H') U') e s') _
  (λpins' U' H1 s1 e s' I' h'=>⟨U',H1,s1,I'.oO,h'⟩) [] s U H D I.Wr (h _ _)) (λf s1 hf1=>?_) λe s' ⟨U',H1,s1,I1,h1⟩=>?_)
 .cases f with
  |next=>obtain⟨U',H',J,d⟩:=hf1;exact wpAny_execs_nil ⟨U',H',J.oO,d⟩
  |brk=>obtain⟨U',H',J,d⟩:=hf1;exact⟨U',H',J.oO,d⟩|cont=>obtain⟨U',H',J,d⟩:=hf1;exact⟨U',H',J.oO,d⟩|ret u=>obtain⟨v,U',H',J,r,d⟩:=hf1;exact⟨v,U',H',J.oO,r,d⟩
 .obtain⟨a,B,C,a0,H',rfl,eF,hC,hsub,q,inv⟩:=Og I1 h1;rw[hs]at eF;refine wpAny_looks_onW hfr hf eF λh4 held4 up4=>?_;refine wpAny_landsW held4 λh5 fly5 up5=>?_;have J5:=(inv h5 fly5.1 (up4.trans up5) fly5.there).wk (a:=a);refine wpAny_handleBy_cons (codeAny_handlers_test (qE (X:=X.held a) J5 hg hm ?_ hdb)) (by intro q;cases q);obtain⟨bm,N,nm,qn,bs,hdct,sn,sub,ab,col,dd,k0,k1,k2,k3,k5,nid,hCo,hmro,_⟩:=jm J5.bN hC;obtain⟨bm',N',nm',qn',bs',hdct',sn',sub',ab',col',dd',j0,j1,j2,j3,j5,nid',hDo,_,hbase⟩:=jm J5.bN hD;obtain⟨ob,hob,hobc⟩:=fly5.there;rw[show mroOf X.K C=_ from hmro]at hsub;refine Lz hCo hDo hob hobc hbase hsub (codeAny_handlers_suite ?_);refine lands_againW fly5 λh6 fly6 up6=>?_;have J6:=(inv h6 fly6.1 ((up4.trans up5).trans up6) fly6.there).wk (a:=a);refine wpAny_mono (hsu a pins _ _ _ _ J6 q) (λf s8 hf8=>?_) λ_ _ z=>z.elim;cases f with
  |next=>obtain⟨U2,H2,J,d⟩:=hf8;exact⟨_,_,J.tK I.ok,d⟩|brk=>obtain⟨U2,H2,J,d⟩:=hf8;exact⟨_,_,J.tK I.ok,d⟩|cont=>obtain⟨U2,H2,J,d⟩:=hf8;exact⟨_,_,J.tK I.ok,d⟩|ret u=>obtain⟨v,U2,H2,J,r,d⟩:=hf8;exact⟨v,_,_,J.tK I.ok,r,d⟩
end
section
variable {X:Cx}{CX:hW}{k:Nat}{f:Addr}{fd:FuncData}{ps:List Str}{sp:Sp}{EE:St->XK}{x:Str}{p pos:Pos}{e:Expr}{es:List Expr}{t:TA}
theorem PA.tJ{es:List Expr}{t:TA}(h:PA X.tJ es t):PA X es t:=λpos pins s U H Q I hw=>wpAny_mono (h pos pins s U H Q (I.qZ _) hw) (λ_ _ ⟨vs,H',I',r,q⟩=>⟨vs,H',I'.Hi,r,q⟩) λ_ _ z=>False.elim z
def wa(sp:Sp)(EE:St->XK)(t:TA):TE:=λU H Q=>t U H λvs H1=>sp vs H1 Q (EE U)
theorem VC{pins:List (Addr×Obj)}{U:St}{H:Hp}{s:Shared}{Q:VK}{us:List Value}{vs:List V}(F:dU X.prog X.w X.K X.mg X.base CX k f fd ps sp)(hr:cD k X.A)(hb:Binds X.K fd ps [])(hx:bq CX X EE)
  (I:Inv X pins U H s) (r:Vals vs us) (h:sp vs H Q (EE U)):wpAny (model X.prog X.w) X.A (call (.ref f) us) (EP X pins U Q) X.xe s:=by
 have hl:(us++[]).length=ps.length:=by rw[List.append_nil,<- r.length];exact F.len _ _ _ _ h
 have hb':=hb s us I.bN hl;rw[List.append_nil]at hb';refine wpAny_call (codeAny_mono (F.run X.A X.stack s H ⟨us,[]⟩ us vs Q (EE U) hr I.jy hb' r h) λr s' hq=>?_);cases r with
 |error e=>exact hx pins U H s e s' I hq|ok fl=>
  cases fl with
  |ret u=>exact I.after hq|next=>exact False.elim hq|brk=>exact False.elim hq|cont=>exact False.elim hq
theorem KW(F:dU X.prog X.w X.K X.mg X.base CX k f fd ps sp)(hr:cD k X.A)(hg:Gl X x)(hm:X.mg x=some (.ref f))(hk:W.keepIn X.K (.ref f)=true)(hb:Binds X.K fd ps [])(hx:bq CX X EE)
  (ha:PA X (e::es) t) (hdb:(x==("__debug__":Str))=false:=by decide) (he:starEach (e::es) X.env=(false,eval e X.env)::starEach es X.env:=by rfl) (hpl:(backTo pos (starEach es X.env)).any (·.1)=false:=by rfl) :
  PE X (.Call (.Name x p) (e::es) [] pos) (wa sp EE t):=by
 intro pins s U H Q I h;refine wpAny_Call_Name_kw (qE I hg hm ?_ hdb);refine W.callWith_K (h₀:=X.base) I.ok.mod.tE hk (aN (ha pos pins s U H _ I h) λus s1 ⟨vs,H1,I1,r,q⟩=>⟨I1.bN,?_⟩) he hpl;exact VC F hr hb hx I1 r q
end
end L2
namespace PySem.W
open PySem PySem.Spec PySem.Calls PyProof.Rows
open PySem PySem.Calls PyProof.Rows Builtin Builtin.ObjectAttr
open PySem PySem.Calls PyProof.Rows Builtin Builtin.ObjectAttr Builtin.Getset_descriptor
section
variable {prog:Program}{w:World}{A:Around}{E:Value->Shared->Prop}{s:Shared}{K:Frag}{x D:Addr}{name:Str}
theorem z8{M:Model} {h:Heap} {a g:Value} (X:K.In h) (ha:findIn K (.ref D) name=some (some a)) (hg:specialIn K a "__get__"=some (some g)) (ht:takesIn K a=some true):Looks M h (find (.ref x) (.ref D) name) (.bind g a):=by have L1:=looks_findIn (M:=M) X ha;have L2:Looks M h (getOf (some a)) (some g):=looks_specialIn X hg;have L3:=looks_takesIn (M:=M) X ht;refine L1.andThen (L2.andThen ?_);exact(show Looks M h (dataDescriptor? (some a) (some g)) (some (g,a)) from L3.andThen .now).andThen (Looks.tag .now)
theorem z9{R:Result->Shared->Prop} {tp:Value} (X:K.In s.heap) (L0:∀M,Looks M s.heap (typeOf (.ref x)) (.ref D)) (hm:mroIn K D (.type "object")=some true)
  (h:R (.ok (.ret (.ref D))) s):codeAny (model prog w) A (.call (.builtin "getset_descriptor.__get__") ⟨[.builtin "object.__class__",.ref x,tp],[]⟩) R s:=by
 obtain⟨hh,g,dr,t,os⟩:=s;have L0:=L0 (model prog w);have L1:=looks_mroIn (M:=model prog w) X hm;refine codeAny_call_builtin KF.slot_gs.plain KF.entry_gs (KF.slot_gs.check _ _ _ _ _ _ _ _ KF.type_class (KF.args_gs _ _ _) ?_);unfold Builtin.«getset_descriptor.__get__» descrGet;rw[dga_obj];refine wpAny_bind (wpAny_pure ?_);unfold descrGetter descrCheckInstance descrNameAndClass isInstance;simp only[KF.owner_class];repeat lk
 refine⟨Code.quiet_builtin _ (by decide +kernel),codeAny_builtin KF.entry_class ?_⟩;unfold Builtin.«object.__class__» shownTypeOf;repeat lk
 exact h
theorem A3{Q:Option Value->Shared->Prop} (X:K.In s.heap) (L0:∀M,Looks M s.heap (typeOf (.ref x)) (.ref D)) (hga:findIn K (.ref D) "__getattribute__"=some (some (.builtin "BaseException.__getattribute__"))) (hk:findIn K (.ref D) "__getattr__"=some none)
  (h:codeAny (model prog w) A (.call (.builtin "BaseException.__getattribute__") ⟨[.ref x,.str name s.toks],[]⟩) (λr s'=>match r with | .ok (.ret v)=>handedIn v=true/\Q (some v) s'|_=>False) { s with toks:=s.toks+1 }) :
  wpAny (model prog w) A (getAttr? (.ref x) name) Q E s:=by
 obtain⟨hh,g,d,t,os⟩:=s;have L0:=L0 (model prog w);have L1:=looks_findIn (M:=model prog w) X hga;have L2:=looks_findIn (M:=model prog w) X hk;unfold getAttr? getAttrBy? getAttrBy;refine wpAny_bind (wpAny_mkText (wpAny_bind (wpAny_attempt (wpAny_holding (wpAny_bind (L0.at (wpAny_bind (L1.at ?_))))))));show wpAny _ _ (getAttrByItsOwn _ _ _ _ _ _) _ _ _;unfold getAttrByItsOwn;refine wpAny_bind (show wpAny _ _ (typeLookup (.ref D) "__getattr__") _ _ _ from L2.at ?_);refine wpAny_bind (wpAny_attempt (wpAny_holding ?_));show wpAny _ _ (boundAndCalled _ _ _) _ _ _;unfold boundAndCalled;have f3:=PySem.F.excAttr_ValueError.ga.bind (.ref x);rw[f3];refine wpAny_bind (wpAny_pure ?_);refine wpAny_call (codeAny_mono h λr s' z=>?_);rcases r with e|(_|_|_|v)
 .exact z.elim
 .exact z.elim
 .exact z.elim
 .exact z.elim
 .dsimp only at z ⊢;rw[handedOut_of z.1];exact wpAny_pure (wpAny_pure z.2)
theorem A2{tk:Tok} {Q:Fin->Shared->Prop} (X:K.In s.heap) (L0:∀M,Looks M s.heap (typeOf (.ref x)) (.ref D)) (ha:findIn K (.ref D) "__class__"=some (some (.builtin "object.__class__")))
  (hn:specialIn K (.builtin "object.__class__") "__get__"=some (some (.builtin "getset_descriptor.__get__"))) (htk:takesIn K (.builtin "object.__class__")=some true) (hm:mroIn K D (.type "object")=some true)
  (hq:Q (.done (.ret (.ref D))) s):wpAny (model prog w) A (Builtin.«object.__getattribute__» ⟨[.ref x,.str "__class__" tk],[]⟩) Q E s:=by
 obtain⟨hh,g,d,t,os⟩:=s;have L1:=λM=>z8 (M:=M) (x:=x) X ha hn htk;have L0':=L0 (model prog w);have L1':=L1 (model prog w);unfold Builtin.«object.__getattribute__»;refine wpAny_bind (wpAny_pure (wpAny_bind (wpAny_pure (wpAny_bind (L0'.at (wpAny_bind (L1'.at ?_)))))));show wpAny _ _ (bindTo _ _ _ _) _ _ _;unfold bindTo;dsimp only;refine wpAny_bind (wpAny_holding (wpAny_call (z9 X L0 hm ?_)));exact wpAny_pure hq
theorem A1{M:Model} {nameV:Value} {Q:Unit->Shared->Prop} (X:K.In s.heap) (L0:∀M,Looks M s.heap (typeOf (.ref x)) (.ref D)) (hm:mroIn K D (.type "BaseException")=some true) (hq:Q () s) :
  wpAny M A (checkBuiltinCall "BaseException.__getattribute__" ⟨[.ref x,nameV],[]⟩) Q E s:=by
 have hk:builtinKind "BaseException.__getattribute__"=some .slot:=by decide +kernel
 have hsplit:splitId "BaseException.__getattribute__"=some ("BaseException","__getattribute__"):=by decide +kernel
 have ha:=F.args_bexc_ga (.ref x) nameV;obtain⟨hh,g,d,t,os⟩:=s;have LI:Looks M hh (isInstance (.ref x) (.type "BaseException")) true:=(L0 M).andThen (looks_mroIn X hm);simp only[checkBuiltinCall,hk,hsplit];refine wpAny_bind (LI.at ?_);repeat (first|assumption|wp_step)
 all_goals exact hq
def yF(K:Frag)(D:Addr):Bool:=
 findIn K (.ref D) "__getattribute__"==some (some (.builtin "BaseException.__getattribute__"))&&findIn K (.ref D) "__getattr__"==some none&&findIn K (.ref D) "__class__"==some (some (.builtin "object.__class__")) &&
 specialIn K (.builtin "object.__class__") "__get__"==some (some (.builtin "getset_descriptor.__get__"))&&takesIn K (.builtin "object.__class__")==some true&&mroIn K D (.type "object")==some true&&(clsIn K D).isSome &&
 mroIn K D (.type "BaseException")==some true
theorem A0(q:yF K D=true):KitX K (.ref x) (.ref D) (L2.lI x (.ref D)):=by
 simp only[yF,Bool.and_eq_true,beq_iff_eq]at q;obtain⟨⟨⟨⟨⟨⟨⟨q1,q2⟩,q3⟩,q4⟩,q5⟩,q6⟩,q7⟩,q8⟩:=q;have L0:∀(M:Model) (h:Heap),L2.lI x (.ref D) h->Looks M h (typeOf (.ref x)) (.ref D):=λM h ⟨ob,h1,h2⟩=>h2▸(Looks.ld h1).andThen .now;refine⟨λM h _ p=>L0 M h p,λM h X p=>?_,λh tp dd its n sl X ht=>?_,λ{prog w A E Q s} X p hq=>?_⟩
 .obtain⟨cd,hc⟩:=Option.isSome_iff_exists.mp q7;unfold clsIn at hc;split at hc
  .rename_i ho;intro A' Q' E' s' k q;unfold isType loadHead;exact wpAny_bind (wpAny_loadPart (k _ _ (X _ _ ho)) (wpAny_pure q))
  .cases hc
 .obtain⟨cd,hc⟩:=Option.isSome_iff_exists.mp q7;refine Bool.eq_false_iff.mpr λz=>?_;cases beq_iff_eq.mp z;unfold clsIn at hc;split at hc
  .rename_i ho;have:=X _ _ ho;rw[ht]at this;cases this
  .cases hc
 .exact A3 X (λM=>L0 M _ p) q1 q2 (codeAny_call_builtin PySem.F.excAttr_ValueError.ga.plain F.entry_bexc_ga (A1 (s:={ s with toks:=s.toks+1 }) X (λM=>L0 M _ p) q8
   (A2 (s:={ s with toks:=s.toks+1 }) X (λM=>L0 M _ p) q3 q4 q5 q6 ⟨rfl,hq⟩)))
end
end PySem.W
namespace L2
open PySem PySem.Spec PyProof.Rows
def lO(cells:List (Str×Addr))(x:Str×NameKind)(cs:List (Str×Addr)):List (Str×Addr):=if(x.2==NameKind.free)=true then(match cells.lookup x.1 with
 |some c=>(x.1,c)::cs
 |none=>cs) else cs
def rH(scope:Scope)(env:Env):List (Str×Addr):=scope.names.foldl (λcs x=>lO env.cells x cs) []
theorem Mf{α β:Type}{st:α->β->β}:∀{l:List α} {f:α->β->Sem (ForInStep β)} (c:β),(∀x∈l,∀c,f x c=pure (.yield (st x c)))->forIn l c f=pure (l.foldl (λc x=>st x c) c)
 |[],f,c,h=>rfl|x::l,f,c,h=>by rw[List.forIn_cons,h x List.mem_cons_self,pure_bind];exact Mf (st x c) λy hy=>h y (List.mem_cons_of_mem _ hy)
theorem Zi{scope:Scope}{env:Env}(h:∀x∈scope.names,x.2 = .free->∃c,env.cells.lookup x.1=some c):closureFor scope env=pure (rH scope env):=by
 simp only[closureFor];rw[Mf (st:=lO env.cells) [] (λx hx c=>by
  obtain⟨n,kind⟩:=x;by_cases hk:kind = .free
  .obtain⟨a,ha⟩:=h _ hx hk;subst hk;simp[lO,cellOf,ha]
  .have:(kind==NameKind.free)=false:=by simpa using hk
   simp[lO,this])]
 rfl
theorem Kx{cells:List (Str×Addr)}:∀(l:List (Str×NameKind)) (cs:List (Str×Addr)),(∀x c,cs.lookup x=some c->cells.lookup x=some c)->∀x c,(l.foldl (λcs x=>lO cells x cs) cs).lookup x=some c->cells.lookup x=some c
 |[],cs,h=>h
 |y::l,cs,h=>Kx l _ (by
  intro x c e;change (lO cells y cs).lookup x=some c at e;unfold lO at e;split at e
  .split at e
   .rename_i c' hc';rw[List.lookup_cons]at e;split at e
    .rename_i q;have:=eq_of_beq q;subst this;rw[hc'];exact e
    .exact h x c e
   .exact h x c e
  .exact h x c e)
theorem Kw{cells:List (Str×Addr)}:∀(l:List (Str×NameKind)) (cs:List (Str×Addr)) (x:Str),((∃c,cs.lookup x=some c)\/((x,NameKind.free)∈l/\∃c,cells.lookup x=some c))->∃c,(l.foldl (λcs x=>lO cells x cs) cs).lookup x=some c
 |[],cs,x,h=>by
  rcases h with h|⟨h,_⟩
  .exact h
  .cases h
 |y::l,cs,x,h=>by
  refine Kw l _ x ?_;rcases h with⟨c,e⟩|⟨hm,c,e⟩
  .left;change ∃c,(lO cells y cs).lookup x=some c;unfold lO;split
   .split
    .rename_i c' _;rw[List.lookup_cons];split
     .exact⟨c',rfl⟩
     .exact⟨c,e⟩
    .exact⟨c,e⟩
   .exact⟨c,e⟩
  .rcases List.mem_cons.mp hm with q|q
   .left;subst q;simp[lO,e]
   .exact .inr ⟨q,c,e⟩
theorem Oo{env:Env}(hk:env.scope.kind = .function):∀{names:List (Str×NameKind)} {x:Str},names.lookup x=some .free->env.kindOf x=some .cell ->
  (names.map λ(n,k)=>if(k==NameKind.free&&env.scope.kind == .function&&env.kindOf n==some .cell) then(n,NameKind.cell) else(n,k)).lookup x=some .cell
 |[],_,h,_=>by simp at h
 | (n,k)::r,x,h,hc=>by
  have ih:=@Oo env hk r x;show List.lookup x ((if(k==NameKind.free&&env.scope.kind == .function&&env.kindOf n==some .cell)=true then(n,NameKind.cell) else(n,k))::_)=_;cases hx:x==n with
  |true=>simp only[List.lookup_cons,hx]at h;cases h;have:=eq_of_beq hx;subst this;simp[List.lookup_cons,hk,hc]
  |false=>
   simp only[List.lookup_cons,hx]at h;by_cases hq:(k==NameKind.free&&env.scope.kind == .function&&env.kindOf n==some .cell)=true
   .rw[if_pos hq];simp only[List.lookup_cons,hx];exact ih h hc
   .rw[if_neg hq];simp only[List.lookup_cons,hx];exact ih h hc
theorem Av{env:Env}:∀{names:List (Str×NameKind)} {x:Str} {k:NameKind},(∀y∈names,y.2 ≠ .cell) ->
  (names.map λ(n,k)=>if(k==NameKind.free&&env.scope.kind == .function&&env.kindOf n==some .cell) then(n,NameKind.cell) else(n,k)).lookup x=some k->k = .cell\/k = .free->(x,NameKind.free)∈names
 |[],_,_,_,h,_=>by simp at h
 | (n,k)::r,x,k',hn,h,hk=>by
  have ih:=@Av env r x k' λy hy=>hn y (List.mem_cons_of_mem _ hy);have h':List.lookup x ((if(k==NameKind.free&&env.scope.kind == .function&&env.kindOf n==some .cell)=true then(n,NameKind.cell) else(n,k))::(r.map λ(n,k)=>if(k==NameKind.free&&env.scope.kind == .function&&env.kindOf n==some .cell) then(n,NameKind.cell) else(n,k)))=some k':=h;cases hx:x==n with
  |true=>
   have e:=eq_of_beq hx;subst e;by_cases hq:(k==NameKind.free&&env.scope.kind == .function&&env.kindOf x==some .cell)=true
   .have:k = .free:=by simp only[Bool.and_eq_true]at hq;exact eq_of_beq hq.1.1
    subst this;exact List.mem_cons_self
   .rw[if_neg hq]at h';simp only[List.lookup_cons,hx]at h';cases h';rcases hk with hk|hk
    .exact absurd hk (hn _ List.mem_cons_self)
    .have hk:k = .free:=hk;subst hk;exact List.mem_cons_self
  |false=>
   have h2:(r.map λ(n,k)=>if(k==NameKind.free&&env.scope.kind == .function&&env.kindOf n==some .cell) then(n,NameKind.cell) else(n,k)).lookup x=some k':=by
    by_cases hq:(k==NameKind.free&&env.scope.kind == .function&&env.kindOf n==some .cell)=true
    .rw[if_pos hq]at h';simpa only[List.lookup_cons,hx]using h'
    .rw[if_neg hq]at h';simpa only[List.lookup_cons,hx]using h'
   exact List.mem_cons_of_mem _ (ih h2 hk)
def Cx.comp(X:Cx)(N':List Str)(scope:Scope)(s3:Shared)(H3:Hp)(C:Addr)(fp:List Addr):Cx:=
 { X with N:=N',s₀:=s3,H₀:=H3,env:=compEnvC scope (rH scope X.env) C X.env,outer:=X.stack,ex:=fp,fn:=λ_=>false,pn:=[],xe:=λ_ _=>False }
structure jV(X:Cx)(N':List Str)(scope:Scope):Prop where
 kind:scope.kind = .function
 Bf:∀y∈scope.names,y.2 ≠ .cell
 Oi:∀y∈scope.names,y.2 = .local->scope.names.lookup y.1=some .local
 free:∀y∈scope.names,y.2 = .free->X.env.scope.names.lookup y.1=some .cell
section
variable {X:Cx}{N':List Str}{scope:Scope}{pins:List (Addr×Obj)}{U U':St}{H:Hp}{s:Shared}{fp:List Addr}{C:Addr}
theorem jV.Kz(hs:jV X N' scope)(ok:X.Ok):closureFor scope X.env=pure (rH scope X.env):=
 Zi λx hx hk=>ok.has x.1 (.inl (hs.free x hx hk))
theorem yO{x:Str}{c:Addr}(h:(rH scope X.env).lookup x=some c):X.env.cells.lookup x=some c:=Kx _ [] (λx c e=>by simp at e) x c h
theorem jV.has(hs:jV X N' scope)(ok:X.Ok){x:Str}(h:(x,NameKind.free)∈scope.names):∃c,(rH scope X.env).lookup x=some c:=
 Kw _ [] x (.inr ⟨h,ok.has x (.inl (hs.free _ h rfl))⟩)
theorem Inv.pO(I:Inv X pins U H s)(hs:jV X N' scope)(hf:∀b∈fp,fK X pins H b/\b≠C)(hC:s.heap.objs.size<=C):(X.comp N' scope s H C fp).Ok where
 mod:=I.ok.mod
 kind:=hs.kind
 glob:=I.ok.glob
 blt:=I.ok.blt
 above:=hC
 inj:=λx y c e1 e2=>I.ok.inj x y c (yO e1) (yO e2)
 has:=λx hx=>by
  rcases hx with hx|hx
  .exact hs.has I.ok (Av hs.Bf hx (.inl rfl))
  .exact hs.has I.ok (Av hs.Bf hx (.inr rfl))
 pN:=λx c h=>by cases h
 hd:=I.ok.hd
 frames:=I.ok.frames
 gG:=.inl rfl
 pV:=λb hb=>⟨(hf b hb).2,λx c e=>(hf b hb).1.2.2.2.2.1 x c (yO e)⟩
 bs:=λb o e=>I.bs b o e
 iC:=Nat.le_trans I.ok.iC I.sz
 qF:=λb o e hb=>by
  rcases(hf b hb).1.2.2.2.1 with z|z
  .exact I.ok.qF b o e z
  .exact absurd (Nat.lt_of_lt_of_le (Nat.lt_of_lt_of_le (Heap.lt_size e) I.ok.iC) z) (Nat.lt_irrefl _)
 oB:=λb hb hz=>by
  rcases List.mem_cons.mp (I.ij b hz)with e|e
  .exact(hf b hb).1.2.1 e
  .exact(hf b hb).1.2.2.1 e
 fX:=I.stack
 jY:=I.aw
theorem Inv.comp{h4:Heap}{t:Nat}{m0:Str->Option Value}(I:Inv X pins U H s)(hs:jV X N' scope)(hf:∀b∈fp,fK X pins H b/\b≠C)(hC:s.heap.objs.size<=C)
  (k:∀b o,s.heap.get? b=some o->h4.get? b=some o) (hn:h4.Ns C m0) (hl:U'.length=N'.length)
  (hU:∀(i:Nat) x v,N'[i]?=some x->U'[i]?=some (some v)->scope.names.lookup x=some .free/\(x,NameKind.free)∈scope.names/\∃j:Nat,X.N[j]?=some x/\U[j]?=some (some v)) :
  Inv (X.comp N' scope s H C fp) [] U' H { s with heap:=h4,toks:=t } where
 ok:=I.pO hs hf hC
 os:=rfl
 bare:=I.bare
 base:=Un.kept k
 loc:=⟨m0,hn,λi x v e1 e2 _=>by
  obtain⟨hx,hm,j,e3,e4⟩:=hU i x v e1 e2;obtain⟨m,_,hl⟩:=I.loc;have hk:=hs.free _ hm rfl;obtain⟨u,r,lk⟩:=hl j x v e3 e4 (.inr (.inl hk));refine⟨u,r,.inr ⟨.inl (Oo I.ok.kind hx hk),?_⟩⟩;rcases lk with⟨z,_⟩|⟨_,c,ec,hc⟩
  .rw[show X.env.kindOf x=some .cell from hk]at z;cases z
  .obtain⟨c',e'⟩:=hs.has I.ok hm;have:=yO e';rw[ec]at this;cases this;obtain⟨o,ho,hd⟩:=hc;exact⟨c,e',o,k _ _ ho,hd⟩⟩
 cell:=λx c e=>by obtain⟨v,o,ho,hd⟩:=I.cell x c (yO e);exact⟨v,o,k _ _ ho,hd⟩
 free:=I.aE.fresh hC
 fM:=λx c e=>I.fM x c (yO e)
 pin:=λp hp=>by cases hp
 aE:=I.aE.kept k
 len:=hl
end
noncomputable abbrev iJ(us:List Value)(k:Nat):Obj:={ cls:=.type "list",data:=.seq us.toArray k }
theorem wj{α:Type}{M:Model}{A:Around}{t:Sem α}{Q:α->Shared->Prop}{E:Value->Shared->Prop}{s:Shared}(h:wpAny M A t Q (λ_ _=>False) s):wpAny M A t Q E s:=wpAny_mono h (λ_ _ q=>q) λ_ _ z=>z.elim
section
variable {X:Cx}{N':List Str}{scope:Scope}{pins:List (Addr×Obj)}{U U':St}{H H2:Hp}{s s2:Shared}{fp:List Addr}{it:Addr}{tn:Nat->Heap->Prop}{J:It}{elt tg bG:Expr}{pos:Pos}
theorem Inv.ZM{D:Addr}{ys:List V}{us:List Value}{k:Nat}(I:Inv X pins U H s)(hD:fK X pins H D)(ho:s.heap.get? D=some (iJ us k))(r:Vals ys us)(hz:ys.length<=sizeLine):Inv X pins U (aJ H D (.lst ys)) s:=by
 have hn:=hD.1;show Inv X pins U (aJ H D (.lst ys)) { s with heap:=s.heap,gens:=s.gens,drawn:=s.drawn,toks:=s.toks };refine I.step (ch:=[D]) (λb hb=>?_) (λb o _ _ _ e _=>e) (λb o _ _ _ e _=>⟨o.slots,e⟩) (λb o hc e n=>?_) (λb o _ e=>⟨o,e⟩) (λb xs e=>by rw[aR (dW e hn)];exact e) (λb o u e=>by rw[aR (dW e hn)];exact e) (λb ps e=>⟨#[],by rw[aR (dW e hn),e];simp⟩) (λm hm=>hm) (λb u e=>?_) I.bare
 .have e:b=D:=by simpa using hb
  subst e;exact⟨hD.2.2.2.1,hD.2.1,hD.2.2.2.2.1,hD.2.2.2.2.2⟩
 .rw[aR (λz=>hc (by simp[z]))];exact n
 .by_cases hb:b=D
  .subst hb;rw[dN]at e;cases e;exact⟨hz,us,k,r,ho⟩
  .rw[aR hb]at e;exact(I.aE b u e).gQ (λc v hc q=>q) (λc q=>by rw[aR (dW q hn)];exact q) λc xs q=>by rw[aR (dW q hn)];exact q
theorem Lc{ct:Option Expr}{g:TG}{tc:TT}{te:TE}{R:List V->Hp->Prop}{W:Nat->Nat->List V->St->Hp->Prop}{m0:Nat}{RR:Value->Addr->Result->Shared->Prop}{E:Value->Shared->Prop}
  (hsc:jV X N' scope) (hcalm:X.calm=true) (I2:Inv X pins U H2 s2) (T:Turn X.prog X.w X.K tg J fp it tn) (st2:tn 0 s2.heap) (f2:∀b∈fp,fK X pins H2 b)
  (hg:∀s H C fp,PG (X.comp N' scope s H C fp) tg g) (hct:∀c,ct=some c->∀s H C fp,PT (X.comp N' scope s H C fp) c tc) (hct0:ct=none->∀U H Q,tc U H Q->Q true H) (he:∀s H C fp,PE (X.comp N' scope s H C fp) elt te)
  (hl:U'.length=N'.length) (hU:∀(i:Nat) x v,N'[i]?=some x->U'[i]?=some (some v)->scope.names.lookup x=some .free/\(x,NameKind.free)∈scope.names/\∃j:Nat,X.N[j]?=some x/\U[j]?=some (some v))
  (w0:W 0 m0 [] U' H2)
  (turn:∀i m ys U H,W i m ys U H->(J.stop i H/\R ys H)\/(J.go i H/\∀x H',J.jb i H x H'->g x U H' λU2 H2=>tc U2 H2 λb H3=>if b=true then te U2 H3 λy H4=>ys.length<sizeLine/\∃m',m'<m/\W (i+1) m' (ys++[y]) U2 H4 else∃m',m'<m/\W (i+1) m' ys U2 H3))
  (hRR:∀D C s' H' m ys,Inv X pins U (aJ H' D (.lst ys)) s'->H' D=none->s'.heap.Ns C m->fK X pins (aJ H' D (.lst ys)) C->R ys H'->RR (.ref D) C (.ok .next) s') :
  wpAny (model X.prog X.w) X.A (newList []) (λacc s₃=>wpAny (model X.prog X.w) X.A (newFunctionEnv scope X.env.globals (rH scope X.env) [] X.env.qual none .none (some X.env)) (λcenv s₄=>codeAny (model X.prog X.w) X.A (.compStart (.ListComp elt [⟨tg,bG,ct.toList,0⟩] scope pos) 0 (.ref it) acc { cenv with scope:=relabel scope X.env }) (RR acc cenv.locals) s₄) E s₃) E s2:=by
 refine wpAny_newObj_type (wpAny_newFunctionEnv hsc.Bf (by intro y hy;simp at hy) (λh₁ hns₁ hsb₁=>?_) hsc.kind);dsimp only at hns₁ hsb₁ ⊢;generalize hH2:s2.heap.push { cls:=.type "list",dict:=none,data:=.seq ([]:List Value).toArray }=hp2 at hns₁ hsb₁ ⊢;have hC:hp2.objs.size=s2.heap.objs.size+1:=by rw[<- hH2,Heap.size_push]
 have hDC:s2.heap.objs.size≠hp2.objs.size:=by rw[hC];exact Nat.ne_of_lt (Nat.lt_succ_self _)
 have hCle:s2.heap.objs.size<=hp2.objs.size:=by rw[hC];exact Nat.le_succ _
 have below:∀b,b<s2.heap.objs.size->b≠hp2.objs.size/\b≠s2.heap.objs.size:=λb hb=>⟨by rw[hC];exact Nat.ne_of_lt (Nat.lt_succ_of_lt hb),Nat.ne_of_lt hb⟩;have old:∀b o,s2.heap.get? b=some o->h₁.get? b=some o:=λb o e=>hsb₁.extBut b o (below b (Heap.lt_size e)).1 (Heap.get?_push_of_some _ (hH2▸Heap.get?_push_of_some _ e));have hacc:h₁.get? s2.heap.objs.size=some (iJ [] 0):=hsb₁.extBut _ _ hDC (Heap.get?_push_of_some _ (hH2▸Heap.get?_push_size _ rfl));have fD:fK X pins H2 s2.heap.objs.size:=I2.oF (Nat.le_refl _) (I2.aE.fresh (Nat.le_refl _));have lfp:∀b∈fp,b<s2.heap.objs.size:=λb hb=>by obtain⟨o,e,_⟩:=T.obj 0 _ st2 b hb;exact Heap.lt_size e
 have hf':∀b∈s2.heap.objs.size::fp,fK X pins H2 b/\b≠hp2.objs.size:=λb hb=>by
  rcases List.mem_cons.mp hb with rfl|hb
  .exact⟨fD,hDC⟩
  .exact⟨f2 b hb,(below b (lfp b hb)).1⟩
 have IY:=I2.comp (t:=s2.toks+([]:List (Str×Value)).length) hsc hf' hCle old hns₁ hl hU;generalize hDd:s2.heap.objs.size=D at *;generalize hCd:hp2.objs.size=C at *;have fnD:∀b∈fp,b≠D:=λb hb=>(below b (lfp b hb)).2;have ok:=IY.ok;have hg':=hg s2 H2 C (D::fp);have hct':=λc e=>hct c e s2 H2 C (D::fp);have he':=he s2 H2 C (D::fp);have fY:∀{pl:List (Addr×Obj)} {H':Hp} {b:Addr},b∈D::fp->H' b=none->(∀p∈pl,p.1≠b)->fK (X.comp N' scope s2 H2 C (D::fp)) pl H' b:=λ{pl H' b} hb hn hp=>
  ⟨hn,(ok.pV b hb).1,ok.oB b hb,.inl hb,(ok.pV b hb).2,λp h=>hp p (by simpa[Cx.comp]using h)⟩
 let Iv:Nat->Shared->Prop:=λn s'=>∃(i:Nat) (ys:List V) (us:List Value) (k:Nat) (U':St) (H':Hp),Inv (X.comp N' scope s2 H2 C (D::fp)) [] U' H' s'/\tn i s'.heap/\(∀b∈D::fp,H' b=none)/\s'.heap.get? D=some (iJ us k)/\Vals ys us/\ys.length<=sizeLine/\W i n ys U' H'
 have turnA:∀(n:Nat) (s':Shared),Iv n s'->∀(K:Shared->Prop) (E':Value->Shared->Prop),
   (∀(i:Nat) (ys:List V) (us:List Value) (k:Nat) (pl:List (Addr×Obj)) (U6:St) (H6:Hp) (s6:Shared),Inv (X.comp N' scope s2 H2 C (D::fp)) ([(D,iJ us k)]++pl) U6 H6 s6 ->
    (∀h7:Heap,(∀p∈pl,h7.get? p.1=some p.2)->tn (i+1) h7)->(∀b∈fp,∃o,(b,o)∈pl)->(∀p∈pl,p.1∈fp)->Vals ys us->ys.length<=sizeLine ->
    (tc U6 H6 λb H3=>if b=true then te U6 H3 λy H4=>ys.length<sizeLine/\∃m',m'<n/\W (i+1) m' (ys++[y]) U6 H4 else∃m',m'<n/\W (i+1) m' ys U6 H3)->K s6) ->
   wpAny (model X.prog X.w) X.A (pyNext (.ref it)) (λr s1=>match r with
    |none=>RR (.ref D) C (.ok .next) s1
    |some v=>wpAny (model X.prog X.w) X.A (letOwnedTupleGo tg (.ref it) v) (λ_ s0=>wpAny (model X.prog X.w) X.A (assign tg (compEnvC scope (rH scope X.env) C X.env) v) (λ_ s2=>K s2) E' s0) E' s1) E' s':=by
  rintro n s' ⟨i,ys,us,k,U3,H3,I3,st3,fr3,hD3,rv3,hz3,w3⟩ K E' hK
  have I3':Inv (X.comp N' scope s2 H2 C (D::fp)) [(D,iJ us k)] U3 H3 s':=I3.oQ λp hp=>by
   have e:p=(D,iJ us k):=by simpa using hp
   subst e;exact⟨hD3,fr3 D List.mem_cons_self,(ok.pV D List.mem_cons_self).1,ok.oB D List.mem_cons_self,λv z=>by cases z⟩
  have fp3:∀{H':Hp},(∀b∈fp,H' b=none)->∀b∈fp,fK (X.comp N' scope s2 H2 C (D::fp)) [(D,iJ us k)] H' b:=λhn b hb=>fY (List.mem_cons_of_mem _ hb) (hn b hb) λp hp=>by
   have e:p=(D,iJ us k):=by simpa using hp
   subst e;exact Ne.symm (fnD b hb)
  have fr3':∀b∈fp,H3 b=none:=λb hb=>fr3 b (List.mem_cons_of_mem _ hb);rcases turn i n ys U3 H3 w3 with⟨stop,hR⟩|⟨go,step⟩
  .refine aN (T.done (X.comp N' scope s2 H2 C (D::fp)) rfl rfl rfl hcalm i _ s' U3 H3 E' I3' (fp3 fr3') st3 stop) λr s4 ⟨hr,I4⟩=>?_;subst hr;obtain⟨gD,nD,_⟩:=I4.pin (D,iJ us k) (List.mem_append_right _ List.mem_cons_self);obtain⟨m,hn,_⟩:=id I4.loc;have IX:Inv X pins U H3 s4:=I2.Kq (ch:=D::fp) I4.os I4.base I4.aE I4.bare λb hb=>⟨(hf' b hb).1.2.2.2.1,(hf' b hb).1.2.1,(hf' b hb).1.2.2.2.2.1,(hf' b hb).1.2.2.2.2.2⟩;refine hRR D C s4 H3 m ys (IX.ZM ⟨nD,fD.2⟩ gD rv3 hz3) nD hn ⟨by rw[aR (Ne.symm hDC)];exact I4.free,?_⟩ hR;have fC:fK X pins H3 C:=I2.oF (by rw[hDd];exact hCle) I4.free;exact fC.2
  .refine aN (T.item (X.comp N' scope s2 H2 C (D::fp)) rfl rfl rfl hcalm i _ s' U3 H3 E' I3' (fp3 fr3') st3 go) λr s4 ⟨u,hr,h4⟩=>?_;subst hr;refine aN h4 λ_ s5 ⟨x,H5,I5,r5,y5,st5,fr5⟩=>?_;have I5':=I5.pinned (fp3 fr5) (T.obj _ _ st5);refine wj (aN (hg' _ s5 U3 H5 x u _ I5' r5 (step x H5 y5)) λ_ s6 ⟨U6,H6,I6,q6⟩=>?_);refine hK i ys us k _ U6 H6 s6 I6 (λh7 h=>T.keep _ _ _ st5 λb hb o e=>h (b,o) (lx hb e)) (λb hb=>?_) (λp hp=>(Pa hp).1) rv3 hz3 q6;obtain⟨o,e,_⟩:=T.obj _ _ st5 b hb;exact⟨o,lx hb e⟩
 have back:∀{n i:Nat} {ys:List V} {us:List Value} {k:Nat} {pl:List (Addr×Obj)} {U6:St} {H6:Hp} {s6:Shared},Inv (X.comp N' scope s2 H2 C (D::fp)) ([(D,iJ us k)]++pl) U6 H6 s6 ->
   (∀h7:Heap,(∀p∈pl,h7.get? p.1=some p.2)->tn (i+1) h7)->(∀b∈fp,∃o,(b,o)∈pl)->Vals ys us->ys.length<=sizeLine->(∃m',m'<n/\W (i+1) m' ys U6 H6)->∃m',m'<n/\Iv m' s6:=by
  intro n i ys us k pl U6 H6 s6 I6 ht hall rv hz ⟨m',hm,w⟩;obtain⟨gD,nD,_⟩:=I6.pin (D,iJ us k) (List.mem_append_right _ (List.mem_append_left _ List.mem_cons_self));refine⟨m',hm,i+1,ys,us,k,U6,H6,I6.oQ λp hp=>(by cases hp),ht _ λp hp=>(I6.pin p (List.mem_append_right _ (List.mem_append_right _ hp))).1,λb hb=>?_,gD,rv,hz,w⟩;rcases List.mem_cons.mp hb with rfl|hb
  .exact nD
  .obtain⟨o,ho⟩:=hall b hb;exact(I6.pin _ (List.mem_append_right _ (List.mem_append_right _ ho))).2.1
 have app:∀{n i:Nat} {ys:List V} {us:List Value} {k:Nat} {pl:List (Addr×Obj)} {U6:St} {H7:Hp} {s7:Shared} {y:V} {v:Value} {E':Value->Shared->Prop},Inv (X.comp N' scope s2 H2 C (D::fp)) ([(D,iJ us k)]++pl) U6 H7 s7 ->
   (∀h7:Heap,(∀p∈pl,h7.get? p.1=some p.2)->tn (i+1) h7)->(∀b∈fp,∃o,(b,o)∈pl)->(∀p∈pl,p.1∈fp)->Vals ys us->RelV y v->ys.length<sizeLine->(∃m',m'<n/\W (i+1) m' (ys++[y]) U6 H7) ->
   wpAny (model X.prog X.w) X.A (call (.builtin "list.append") [.ref D,v]) (λ_ s8=>∃m',m'<n/\Iv m' s8) E' s7:=by
  intro n i ys us k pl U6 H7 s7 y v E' I7 ht hall hpl rv ry hz ⟨m',hm,w⟩;obtain⟨gD,nD,_⟩:=I7.pin (D,iJ us k) (List.mem_append_right _ (List.mem_append_left _ List.mem_cons_self));have hus:us.length<sizeLine:=by rw[<- rv.length];exact hz
  refine append_at (hsz:=by rw[List.size_toArray];exact Nat.le_of_lt hus) gD λh8 hs8 g8=>?_;have nb:∀b∈D::fp,H7 b=none:=λb hb=>by
   rcases List.mem_cons.mp hb with rfl|hb
   .exact nD
   .obtain⟨o,ho⟩:=hall b hb;exact(I7.pin _ (List.mem_append_right _ (List.mem_append_right _ ho))).2.1
  have f8:=fY (pl:=[]) (H':=H7) (b:=D) List.mem_cons_self nD (λp hp=>by cases hp);refine⟨m',hm,i+1,ys++[y],us++[v],k+1,U6,H7,(I7.oQ (pins':=[]) λp hp=>(by cases hp)).turned (t':=s7.toks) (it:=D) (λb o hb e=>hs8.extBut b o hb e) nD f8.2.1 f8.2.2.2.1 f8.2.2.2.2.1 f8.2.2.2.2.2,
   ht _ λp hp=>?_,nb,?_,rv.append (.cons ry .nil),?_,w⟩
  .exact hs8.extBut _ _ (fnD _ (hpl p hp)) (I7.pin p (List.mem_append_right _ (List.mem_append_right _ hp))).1
  .show h8.get? D=_;rw[g8];simp[iJ]
  .rw[List.length_append];exact hz
 have i0:Iv m0 { s2 with heap:=h₁,toks:=s2.toks+([]:List (Str×Value)).length }:=⟨0,[],[],0,U',H2,IY,T.keep _ _ _ st2 λb _ o e=>old b o e,λb hb=>(hf' b hb).1.1,hacc,.nil,Nat.zero_le _,w0⟩;have loop:codeAny (model X.prog X.w) X.A (.compLoop (.ListComp elt [⟨tg,bG,ct.toList,0⟩] scope pos) 0 (.ref it) (.ref D) (compEnvC scope (rH scope X.env) C X.env)) (RR (.ref D) C) { s2 with heap:=h₁,toks:=s2.toks+([]:List (Str×Value)).length }:=by
  cases ct with
  |none=>refine PySem.W.kcp_loop Iv (λn s' hI=>turnA n s' hI _ _ ?_) m0 i0;intro i ys us k pl U6 H6 s6 I6 ht hall hpl rv hz q6;have q7:=hct0 rfl U6 H6 _ q6;rw[if_pos rfl]at q7;refine wj (aN (he' _ s6 U6 H6 _ I6 q7) λv s7 ⟨y,H7,I7,r7,hz7,w7⟩=>?_);exact app I7 ht hall hpl rv r7 hz7 w7
  |some c=>
   refine PySem.W.kct_loop Iv (λn s' hI=>turnA n s' hI _ _ ?_) m0 i0;intro i ys us k pl U6 H6 s6 I6 ht hall hpl rv hz q6;refine wj (aN (hct' c rfl _ s6 U6 H6 _ I6 q6) λb s7 ⟨H7,I7,q7⟩=>?_);cases b with
   |true=>rw[if_pos rfl]at q7 ⊢;refine wj (aN (he' _ s7 U6 H7 _ I7 q7) λv s8 ⟨y,H8,I8,r8,hz8,w8⟩=>?_);exact app I8 ht hall hpl rv r8 hz8 w8
   |false=>rw[if_neg Bool.false_ne_true]at q7 ⊢;exact back I7 ht hall rv hz q7
 exact codeAny_compStart_list loop (T.self _ 0 _ _ _ (T.keep _ _ _ st2 λb _ o e=>old b o e) loop)
def Hb(wi:TI)(imp:St->St)(g:TG)(tc:TT)(te:TE):TE:=λU H Q=>wi U H λJ H1=>∃(W:Nat->Nat->List V->St->Hp->Prop) (m0:Nat),W 0 m0 [] (imp U) H1/\∀i m ys U' H',W i m ys U' H' ->
 (J.stop i H'/\∀D,H' D=none->Q (.ref D) (aJ H' D (.lst ys)))\/(J.go i H'/\∀x H2,J.jb i H' x H2->g x U' H2 λU3 H3=>tc U3 H3 λb H4=>if b=true then te U3 H4 λy H5=>ys.length<sizeLine/\∃m',m'<m/\W (i+1) m' (ys++[y]) U3 H5 else∃m',m'<m/\W (i+1) m' ys U3 H4)
variable {ct:Option Expr}{wi:TI}{imp:St->St}{g:TG}{tc:TT}{te:TE}
theorem LB(hsc:jV X N' scope)(hcalm:X.calm=true)(hi:PI X tg bG wi)
  (hg:∀s H C fp,PG (X.comp N' scope s H C fp) tg g) (hct:∀c,ct=some c->∀s H C fp,PT (X.comp N' scope s H C fp) c tc) (hct0:ct=none->∀U H Q,tc U H Q->Q true H) (he:∀s H C fp,PE (X.comp N' scope s H C fp) elt te)
  (himp:∀U:St,(imp U).length=N'.length)
  (hU:∀(U:St) (i:Nat) x v,N'[i]?=some x->(imp U)[i]?=some (some v)->scope.names.lookup x=some .free/\(x,NameKind.free)∈scope.names/\∃j:Nat,X.N[j]?=some x/\U[j]?=some (some v))
  (hset:∀x,foldedSetIterable bG X.env x=pure x):PE X (.ListComp elt [⟨tg,bG,ct.toList,0⟩] scope pos) (Hb wi imp g tc te):=by
 intro pins s U H Q I h;rw[eval_ListComp];refine wpAny_comprehension_free (use:=none) (g:=⟨tg,bG,ct.toList,0⟩) (gs:=[]) rfl hset (hsc.Kz I.ok) hsc.kind hsc.Oi ?_;refine aN (hi pins s U H _ I h) λv s1 h1=>aN h1 λitv s2 h2=>?_;obtain⟨it,fp,tn,J,H2,e,I2,T,st2,f2,W,m0,w0,turn⟩:=h2;subst e;refine Lc (R:=λys H'=>∀D,H' D=none->Q (.ref D) (aJ H' D (.lst ys))) hsc hcalm I2 T st2 f2 hg hct hct0 he (himp U) (hU U) w0 turn ?_;intro D C s' H' m ys I' hD hn fC hR;exact⟨m,hn,λh' hs'=>⟨.ref D,_,I'.turned (t':=s'.toks) (λb o hb e=>hs'.extBut b o hb e) fC.1 fC.2.1 fC.2.2.2.1 fC.2.2.2.2.1 fC.2.2.2.2.2,rfl,hR D hD⟩⟩
theorem NJ{i:Nat}{y:Str}{py spos:Pos}(hN:X.N.Nodup)(hi':X.N[i]?=some y)(hy:X.env.scope.names.lookup y=some .local)
  (hsw:swapsWith (.ListComp elt [⟨tg,bG,ct.toList,0⟩] scope pos) (some (.Name y py)) spos.line X.env=pure true) (hsc:jV X N' scope) (hcalm:X.calm=true) (hi:PI X tg bG wi)
  (hg:∀s H C fp,PG (X.comp N' scope s H C fp) tg g) (hct:∀c,ct=some c->∀s H C fp,PT (X.comp N' scope s H C fp) c tc) (hct0:ct=none->∀U H Q,tc U H Q->Q true H) (he:∀s H C fp,PE (X.comp N' scope s H C fp) elt te)
  (himp:∀U:St,(imp U).length=N'.length)
  (hU:∀(U:St) (i:Nat) x v,N'[i]?=some x->(imp U)[i]?=some (some v)->scope.names.lookup x=some .free/\(x,NameKind.free)∈scope.names/\∃j:Nat,X.N[j]?=some x/\U[j]?=some (some v))
  (hset:∀x,foldedSetIterable bG X.env x=pure x):PS X (.Assign [.Name y py] (.ListComp elt [⟨tg,bG,ct.toList,0⟩] scope pos) spos) (vz (Hb wi imp g tc te) (kh i)):=by
 intro pins s U H D I h;rw[exec_Assign_Name_used _ _ _ _ hsw];refine wpAny_bind (wpAny_standAt (wpAny_bind ?_));show wpAny _ _ (do let _ <- comprehension (.ListComp elt [⟨tg,bG,ct.toList,0⟩] scope pos) scope X.env _ (newList []) false (eval bG X.env) (some (assign (.Name y py) X.env))) _ _ s;refine wpAny_bind (wpAny_mono (wpAny_comprehension_free (use:=some (assign (.Name y py) X.env)) (Q:=λ_ s'=>SP X pins D .next s') (g:=⟨tg,bG,ct.toList,0⟩) (gs:=[]) rfl hset (hsc.Kz I.ok) hsc.kind hsc.Oi ?_)
  (λ_ s' hq=>wpAny_pure (wpAny_pure hq)) λ_ _ e=>e)
 refine aN (hi pins s U H _ I h) λv s1 h1=>aN h1 λitv s2 h2=>?_;obtain⟨it,fp,tn,J,H2,e,I2,T,st2,f2,W,m0,w0,turn⟩:=h2;subst e;refine Lc (R:=λys H'=>∀d,H' d=none->D.nx (U.set i (some (.ref d))) (aJ H' d (.lst ys))) hsc hcalm I2 T st2 f2 hg hct hct0 he (himp U) (hU U) w0 turn ?_;intro d C s' H' m ys I' hD hn fC hR;obtain⟨oC,es,ep,hoC,hd1,rC⟩:=id hn;have I'':Inv X (pins++[(C,oC)]) U (aJ H' d (.lst ys)) s':=I'.oQ λp hp=>(List.mem_append.mp hp).elim (λz=>I'.pin p (List.mem_append_right _ z)) λz=>by
  have e:p=(C,oC):=by simpa using z
  subst e;exact⟨hoC,fC.1,fC.2.1,fC.2.2.1,λv z=>by rw[hd1]at z;cases z⟩
 refine wpAny_assign_Name (vy I'' hN hi' (.inl hy) (v:=.ref d) rfl (λs3 I3=>?_) (.inr hy));have p3:=(I3.pin (C,oC) (List.mem_append_right _ (List.mem_append_right _ List.mem_cons_self))).1;exact⟨m,⟨oC,es,ep,p3,hd1,rC⟩,λh' hs'=>⟨_,_,I3.wt.turned (t':=s3.toks) (λb o hb e=>hs'.extBut b o hb e) fC.1 fC.2.1 fC.2.2.2.1 fC.2.2.2.2.1 fC.2.2.2.2.2,hR d hD⟩⟩
end
end L2
namespace AM
open PySem PySem.Spec PyProof.Rows L2
section
variable {X:Cx}
def UI:R2:=λx y H Q=>∃a v,x = .ref a/\gH H a y (some v)/\Q v H
theorem FW(hu:X.A.units+1<cLine):lK X UI:=by
 intro value slice pins s U H x y o i Q I rx ry h hs;obtain⟨a,v,rfl,g,q⟩:=h;cases rx;have hT:=AI I g;have hl:=PySem.F.slot_dict_getitem.lookup;have h2:wpAny (model X.prog X.w) X.A (getItem (.ref a) i) (EP X pins U Q) X.xe s:=Zw hu I g ry λw' s3 I3 rw'=>⟨v,H,I3,rw',q⟩;unfold subscriptTail;refine wpAny_bind ?_;rw[getitemInPython_of_ne hT.not_modules];refine wpAny_bind (wpAny_specialOf hT hl ?_);have fin:wpAny (model X.prog X.w) X.A (subscripted slice false (.ref a) i) (λr s₃=>wpAny (model X.prog X.w) X.A (letTemporaryGo value (.ref a) r>>=λ_=>pure r) (EP X pins U Q) X.xe s₃) X.xe s:=by rw[hs];exact wpAny_operating (wpAny_mono h2 (λr s₃ h₃=>wpAny_bind (wpAny_letTemporaryGo (wpAny_pure h₃))) λ_ _ x=>x)
 first
  |exact wpAny_pure (wpAny_bind fin)|exact wpAny_bind (wpAny_pure (wpAny_bind fin))|exact wpAny_bind fin
def Us(neg:Bool):R2:=λy x H Q=>∃a o,x = .ref a/\gH H a y o/\Q (.bl (if neg then !o.isSome else o.isSome)) H
theorem IU(hu:X.A.units+1<cLine):bJ X (compareOp .In) (Us false):=by intro pins s U H x y v u Q I rx ry h;obtain⟨a,o,rfl,g,q⟩:=h;cases ry;exact Zx hu I g rx λs3 I3=>⟨.bl o.isSome,H,I3,rfl,q⟩
theorem JE(hu:X.A.units+1<cLine):bJ X (compareOp .NotIn) (Us true):=by intro pins s U H x y v u Q I rx ry h;obtain⟨a,o,rfl,g,q⟩:=h;cases ry;exact Zy hu I g rx λs3 I3=>⟨.bl (!o.isSome),H,I3,rfl,q⟩
def UK:V->V->V->Hp->(Hp->Prop)->Prop:=λo i v H Q=>∃a H',o = .ref a/\bf H a i v H'/\Q H'
theorem WR(hu:X.A.units+1<cLine):xk X (λo i v H Q=>Uw o i v H Q\/UK o i v H Q):=by
 intro pins s U H o i v ov iv u Q I ro ri rv h;rcases h with h|⟨a,H',rfl,g,q⟩
 .exact WT pins s U H o i v ov iv u Q I ro ri rv h
 .cases ro;exact AA hu I g ri rv λs4 I4=>⟨_,I4,q⟩
end
section
variable {X:Cx}
def Uo:V->List V->Hp->VK->Prop:=λx vs H Q=>∃a y o,x = .ref a/\gH H a y o/\((vs=[y]/\Q (o.getD .aC) H)\/∃z,vs=[y,z]/\Q (o.getD z) H)
theorem HV(hu:X.A.units+1<cLine):bo X "dict.get" Uo:=by
 intro pins s U H x vs v us Q I rx rv h;obtain⟨a,y,o,rfl,g,h⟩:=h;cases rx;rcases h with⟨rfl,q⟩|⟨z,rfl,q⟩
 .obtain⟨u,rfl,ru⟩:=rv.one;exact Zu hu I g ru λw' s3 I3 rw'=>⟨_,H,I3,rw',q⟩
 .obtain⟨u1,u2,rfl,r1,r2⟩:=qX rv;exact Zv hu I g r1 r2 λw' s3 I3 rw'=>⟨_,H,I3,rw',q⟩
def Up:V->List V->Hp->VK->Prop:=λx vs H Q=>∃a kvs k,x = .ref a/\H a=some (.dK kvs) /\
 ((vs=[kV k]/\∃v,dE kvs k=some v/\Q v (aJ H a (.dK (lT kvs k))))\/∃z,vs=[kV k,z]/\(∀v,dE kvs k=some v->Q v (aJ H a (.dK (lT kvs k))))/\(dE kvs k=none->Q z H))
theorem HW:bo X "dict.pop" Up:=by
 intro pins s U H x vs v us Q I rx rv h;obtain⟨a,kvs,k,rfl,e,h⟩:=h;cases rx;rcases h with⟨rfl,v,l,q⟩|⟨z,rfl,q1,q2⟩
 .obtain⟨u,rfl,ru⟩:=rv.one;exact Li I e ru l (.inl rfl) λw' s3 I3 rw'=>⟨v,_,I3,rw',q⟩
 .obtain⟨u1,u2,rfl,r1,r2⟩:=qX rv;cases l:dE kvs k with
  |some v=>exact Li I e r1 l (.inr ⟨_,rfl⟩) λw' s3 I3 rw'=>⟨v,_,I3,rw',q1 v l⟩|none=>exact Zz I e r1 l λs3 I3=>⟨z,H,I3,r2,q2 l⟩
def Uq:V->List V->Hp->VK->Prop:=λx vs H Q=>∃a kvs k z,x = .ref a/\H a=some (.dK kvs)/\vs=[kV k,z]/\kvs.length<sizeLine/\(∀v,dE kvs k=some v->Q v H)/\(dE kvs k=none->Q z (aJ H a (.dK (fH kvs k z))))
theorem HX:bo X "dict.setdefault" Uq:=by
 intro pins s U H x vs v us Q I rx rv h;obtain⟨a,kvs,k,z,rfl,e,rfl,hz,q1,q2⟩:=h;cases rx;obtain⟨u1,u2,rfl,r1,r2⟩:=qX rv;obtain⟨zl,hd,ws,rel,dd⟩:=ju I.aE e;refine call_meetsIn PySem.F.slot_dict_setdefault dd.typeIs PySem.F.entry_dict_setdefault (PySem.F.args_dict_setdefault_3 _ _ _) (kt_meets_setdefault (dQ X.prog X.w) a (oJ r1) hd u2)
  ⟨ws,dd,by rw[<- rel.length];exact zl,λw' hw=>?_,λhn h' dd' hs=>?_⟩
 .cases l:dE kvs k with
  |none=>have:valueAt ws k=none:=eK.none_of (by rw[<- l];exact rel.val k);rw[this]at hw;cases hw
  |some v=>obtain⟨w2,h2,r3⟩:=eK.some_of (v:=v) (o:=valueAt ws k) (by rw[<- l];exact rel.val k);rw[h2]at hw;cases hw;exact⟨v,H,I.tok _,r3,q1 v l⟩
 .have l:dE kvs k=none:=by
   cases l:dE kvs k with
   |none=>rfl|some v=>obtain⟨w2,h2,r3⟩:=eK.some_of (v:=v) (o:=valueAt ws k) (by rw[<- l];exact rel.val k);rw[h2]at hn;cases hn
  have he:∃q,h'.get? a=some q:=let ⟨q,_,_,hq,_⟩:=dd';⟨q,hq⟩;refine⟨z,_,js I (by rw[e];exact True.intro) hs he (yw (kvs:=fH kvs k z) ?_ hd (rel.put k r2) dd'),r2,q2 l⟩;have:=As kvs k z;omega
end
def NF(X:Cx)(a:Addr):Prop:=∀o u,X.H₀ a≠some (.bH o u)
section
variable {X:Cx}{pins:List (Addr×Obj)}{U:L2.St}{H:Hp}{s:Shared}{a:Addr}{kvs:List (aD×V)}{o:Obj}{tg:Expr}
theorem dg(I:Inv X pins U H s)(e:H a=some (.dK kvs)):NF X a:=λo u z=>by have:=I.base.gK a o u z;rw[e]at this;cases this
theorem FL(I:Inv X pins U H s)(e:H a=some (.dK kvs)):∃o,s.heap.get? a=some o/\Inv X pins U (aJ H a (.bH o (.dK kvs))) s:=by
 have k:=I.aE a _ e;obtain⟨z,y,vs,r,ob,es,ep,eo,c⟩:=id k;have mu:yI (H a):=by rw[e];exact True.intro
 have ob':cX X.prog X.w (aJ H a (.bH ob (.dK kvs))) s.heap a (.bH ob (.dK kvs)):=⟨eo,z,y,vs,r,ob,es,ep,eo,c⟩;have:=I.un (t':=s.toks) (h':=s.heap) (Un.write (o:=.bH ob (.dK kvs)) mu (.inl rfl) (λ_ _ _ q=>q) ⟨ob,eo⟩) (bY.write (e:=a) I.aE mu (.inl rfl) (λ_ _ _ q=>q) ⟨ob,eo⟩ ob');exact⟨ob,eo,this⟩
theorem dh(I:Inv X pins U H s)(e:H a=some (.bH o (.dK kvs)))(nf:NF X a):Inv X pins U (aJ H a (.dK kvs)) s:=by
 have ne0:∀b,H b=none->b≠a:=λb n z=>by rw[z,e]at n;cases n
 refine⟨I.ok,I.os,I.bare,⟨I.base.keep,I.base.slot,λb u q n hx=>?_,I.base.there,λb xs q=>?_,λb x u q=>?_,λb ps q=>?_⟩,I.loc,I.cell,?_,λx c q=>?_,λp hp=>?_,λb u q=>?_,I.len⟩
 .have:=I.base.free b u q n hx;rw[aR (ne0 b this)];exact this
 .have h1:=I.base.iQ b xs q;rw[aR (λz=>by rw[z,e]at h1;cases h1)];exact h1
 .rw[aR (λz=>by rw[z]at q;exact nf x u q)];exact I.base.gK b x u q
 .obtain⟨m,h1⟩:=I.base.iP b ps q;exact⟨m,by rw[aR (λz=>by rw[z,e]at h1;cases h1)];exact h1⟩
 .rw[aR (ne0 _ I.free)];exact I.free
 .rw[aR (ne0 _ (I.fM x c q))];exact I.fM x c q
 .obtain⟨h1,h2,h3⟩:=I.pin p hp;exact⟨h1,by rw[aR (ne0 _ h2)];exact h2,h3⟩
 .by_cases hb:b=a
  .subst hb;rw[dN]at q;cases q;exact(I.aE b _ e).2
  .rw[aR hb]at q;exact(I.aE b u q).gQ (λ_ _ _ r=>r) (λc r=>by rw[aR (λz=>by rw[z,e]at r;cases r)];exact r) λc xs r=>by rw[aR (λz=>by rw[z,e]at r;cases r)];exact r
def xg(a:Addr)(o:Obj)(kvs:List (aD×V)):It:=
 ⟨λi H=>H a=some (.bH o (.dK kvs))/\i<kvs.length,λi H x H'=>H'=H/\∃k v,kvs[i]?=some (k,v)/\x=kV k,λi H=>H a=some (.bH o (.dK kvs))/\kvs.length=i⟩
theorem Nz{k:aD}{v:Value}(h:wG k v=true):RelV (kV k) v:=by
 rcases oK h with⟨i,t,rfl,rfl⟩|⟨x,t,rfl,rfl⟩
 .exact⟨t,rfl⟩
 .exact⟨t,rfl⟩
theorem Of{kvs:List (aD×V)}{vs:List (aD×Value)}(r:KV kvs vs):∀{i:Nat} {k:aD} {x:Value},vs[i]?=some (k,x)->∃v,kvs[i]?=some (k,v):=by
 unfold KV at r;induction r with
 |nil=>intro i k x e;simp at e|@cons p q ps qs h t ih=>
  intro i k x e;cases i with
  |zero=>simp at e;subst e;exact⟨p.2,by simp;exact Prod.ext h.1 rfl⟩
  |succ i=>simpa using ih (i:=i) (by simpa using e)
theorem Mh(I:Inv X pins U H s)(e:H a=some (.bH o (.dK kvs))){es:Array DictEntry}{ep:Nat}(hd:o.data = .dict es ep):∃vs,KV kvs vs/\Heap.DictAt (dQ X.prog X.w) s.heap a vs ep:=by obtain⟨eo,z,y,vs,r,ob,es',ep',eo',c1,c2,c3⟩:=I.aE a _ e;rw[eo]at eo';cases eo';rw[hd]at c2;cases c2;exact⟨vs,r,o,es,eo,c1,hd,c3⟩
theorem ZO{P:Program}{w:World}{K:W.Frag}(a it:Addr)(hai:a≠it){es:Array DictEntry}{ep:Nat}(hd:o.data = .dict es ep):Turn P w K tg (xg a o kvs) [it] it (λi h=>h.IsKeyIter it a i kvs.length ep) where
 mem:=by simp
 obj:=λi h st b hb=>by
  have e:b=it:=by simpa using hb
  subst e;obtain⟨o,e,c,d⟩:=st;exact⟨o,e,λv z=>by rw[d]at z;cases z⟩
 keep:=λi h h' st k=>by obtain⟨o,e,c,d⟩:=st;exact⟨o,k it (by simp) o e,c,d⟩
 item:=by intro X hP hw hK hc i pins s U H E I hf st hg;subst hP hw hK;obtain⟨e,hi⟩:=hg;obtain⟨vs,r,da⟩:=Mh I e hd;have hl:kvs.length=vs.length:=r.length;obtain⟨f0,f1,f2,f3,f4,f5⟩:=hf it (by simp);have W:=Walks.dictKeys (prog:=X.prog) (w:=X.w) (knd:=dQ X.prog X.w) (A:=X.A) (I.ok.hd hc) it a hai vs ep;refine W.item i s _ _ (by omega) ⟨by rw[<- hl];exact st,da⟩ λv h' tk hv st' kk=>?_;obtain⟨k,x,hk,hv⟩:=hv;obtain⟨y,hy⟩:=Of r hk;have I1:Inv X pins U H { s with heap:=h',toks:=tk }:=I.turned (λb o hb e=>kk b o (by simpa using hb) e) f0 f1 f3 f4 f5;obtain⟨st1,_⟩:=st';rw[<- hl]at st1;obtain⟨oi,ei,ci,di⟩:=id st1;exact⟨v,rfl,km (s:={ s with heap:=h',toks:=tk }) ei ci di (by decide) ⟨kV k,H,I1,Nz hv,⟨rfl,k,y,hy,rfl⟩,st1,λb hb=>(hf b hb).1⟩⟩
 done:=by intro X hP hw hK hc i pins s U H E I hf st hg;subst hP hw hK;obtain⟨e,hi⟩:=hg;obtain⟨vs,r,da⟩:=Mh I e hd;have hl:kvs.length=vs.length:=r.length;obtain⟨f0,f1,f2,f3,f4,f5⟩:=hf it (by simp);have W:=Walks.dictKeys (prog:=X.prog) (w:=X.w) (knd:=dQ X.prog X.w) (A:=X.A) (I.ok.hd hc) it a hai vs ep;refine W.done s _ _ ⟨by rw[<- hl];rw[<- hi]at st;exact st,da⟩ λh' tk kk=>?_;exact⟨rfl,I.turned (λb o hb e=>kk b o (by simpa using hb) e) f0 f1 f3 f4 f5⟩
 self:=λA i s Q E st h=>by obtain⟨o,e,c,d⟩:=st;exact wpAny_pyIter_keyiter ⟨o,e,c,d⟩ h
def EO(tl:TE):TI:=λU H R=>tl U H λx H1=>∃a kvs,x = .ref a/\H1 a=some (.dK kvs)/\∀o,R (xg a o kvs) (aJ H1 a (.bH o (.dK kvs)))
theorem MD{l:Expr}{tl:TE}(hl:PE X l tl):PI X tg l (EO tl):=by
 intro pins s U H R I h;refine aN (hl pins s U H _ I h) λv s1 ⟨x,H1,I1,r1,q1⟩=>?_;obtain⟨a,kvs,e,ha,q⟩:=q1;subst e;cases r1;obtain⟨o,eo,I2⟩:=FL I1 ha;obtain⟨z,y,vs,r,ob,es,ep,eo',c1,c2,c3⟩:=I1.aE a _ ha;rw[eo]at eo';cases eo';have hl:kvs.length=vs.length:=r.length;refine wpAny_pyIter_dict (knd:=dQ X.prog X.w) (kvs:=vs) (ep:=ep) y ⟨o,es,eo,c1,c2,c3⟩ ?_;have hlt:a<s1.heap.objs.size:=Heap.lt_size eo;refine⟨s1.heap.objs.size,[s1.heap.objs.size],_,_,_,rfl,I2.kept (t':=s1.toks) λb o e=>Heap.get?_push_of_some _ e,ZO a _ (Nat.ne_of_lt hlt) c2,⟨_,Heap.get?_push_size _ rfl,rfl,by rw[hl];rfl⟩,λb hb=>?_,q o⟩;have e:b=s1.heap.objs.size:=by simpa using hb
 subst e;exact I2.oF (Nat.le_refl _) (I2.aE.fresh (Nat.le_refl _))
def Tw(H0:Hp)(Q:Hp->Prop)(H:Hp):Prop:=∃a k0 o kvs,H0 a=some (.dK k0)/\H a=some (.bH o (.dK kvs))/\Q (aJ H a (.dK kvs))
theorem LS{e:Expr}{t:TE}(h:PE X e t):PE X e (λU H Q=>t U H λx=>Tw H (Q x)):=by intro pins s U H Q I q;refine aN (h pins s U H _ I q) λv s1 ⟨x,H1,I1,r1,a,k0,o,kvs,e0,ea,q1⟩=>?_;exact⟨x,_,dh I1 ea (dg I e0),r1,q1⟩
def Lv(H:Hp)(D:Ends):Ends:=⟨λU=>Tw H (D.nx U),λv=>Tw H (D.rt v),λU=>Tw H (D.bk U),λU=>Tw H (D.ct U)⟩
theorem NK{st:Stmt}{t:TS}(h:PS X st t):PS X st (λD U H=>t (Lv H D) U H):=by
 intro pins s U H D I q;refine aN (h pins s U H _ I q) λf s1 h1=>?_;cases f with
 |next=>obtain⟨U',H1,I1,a,k0,o,kvs,e0,ea,q1⟩:=h1;exact⟨U',_,dh I1 ea (dg I e0),q1⟩|brk=>obtain⟨U',H1,I1,a,k0,o,kvs,e0,ea,q1⟩:=h1;exact⟨U',_,dh I1 ea (dg I e0),q1⟩|cont=>obtain⟨U',H1,I1,a,k0,o,kvs,e0,ea,q1⟩:=h1;exact⟨U',_,dh I1 ea (dg I e0),q1⟩|ret u=>obtain⟨v,U',H1,I1,r1,a,k0,o,kvs,e0,ea,q1⟩:=h1;exact⟨v,U',_,dh I1 ea (dg I e0),r1,q1⟩
end
theorem a8{bs:List Bool}:∀{us:List Value},Vals (bs.map V.bl) us->us=bs.map Value.bool:=by
 induction bs with
 |nil=>intro us r;cases r;rfl|cons b bs ih=>
  intro us r;cases r with
  |cons h t=>have h':_=Value.bool b:=h;subst h';rw[ih t];rfl
theorem Hl{ns:List Int}:∀{us:List Value},Vals (ns.map V.int) us->IntsAre us ns:=by
 induction ns with
 |nil=>intro us r;cases r;exact .nil|cons n ns ih=>
  intro us r;cases r with
  |cons h t=>obtain⟨k,rfl⟩:=(show∃k,_=Value.int n k from h);exact .cons n k (ih t)
theorem ll:∀{us:List Value} {ns:List Int},IntsAre us ns->Vals (ns.map V.int) us
 |_,_,.nil=>.nil
 |_,_,.cons n t r=>.cons ⟨t,rfl⟩ (ll r)
theorem UO(bs:List Bool):(List.range bs.length).any (λi=>(bs[i]?).getD false)=bs.any id:=by
 rw[Bool.eq_iff_iff,List.any_eq_true,List.any_eq_true];constructor
 .rintro ⟨i,hi,h⟩
  have hi':=List.mem_range.mp hi;rw[List.getElem?_eq_getElem hi']at h;exact⟨bs[i],List.getElem_mem hi',h⟩
 .rintro ⟨b,hb,h⟩
  obtain⟨i,hi,e⟩:=List.getElem_of_mem hb;exact⟨i,List.mem_range.mpr hi,by rw[List.getElem?_eq_getElem hi,e];exact h⟩
def gF(rev:Bool)(ns:List Int):List Int:=ns.mergeSort (λa b=>if rev then decide (b<=a) else decide (a<=b))
theorem ie{rev:Bool}{ns ns':List Int}(hp:ns'.Perm ns)(ho:Ordered rev ns'):ns'=gF rev ns:=by
 have hs:List.Pairwise (λa b=>(if rev then decide (b<=a) else decide (a<=b))=true) (gF rev ns):=by
  refine List.pairwise_mergeSort ?_ ?_ ns
  .intro a b c;cases rev<;>simp<;>omega
  .intro a b;cases rev<;>simp<;>omega
 refine List.Perm.eq_of_pairwise (le:=λa b=>(if rev then decide (b<=a) else decide (a<=b))=true) ?_ ?_ hs (hp.trans (List.mergeSort_perm _ _).symm)
 .intro a b _ _;cases rev<;>simp<;>omega
 .unfold Ordered at ho;cases rev with
  |true=>exact List.Pairwise.imp (λh=>by simpa using h) (by simpa using ho)|false=>exact List.Pairwise.imp (λh=>by simpa using h) (by simpa using ho)
section
variable {X:Cx}{pins:List (Addr×Obj)}{U:L2.St}{H:Hp}{s:Shared}
theorem Ym(hc:X.calm=true):eI X (.builtin "any") (λxs H Q=>∃(a:Addr) (bs:List Bool),xs=[.ref a]/\bO X.K H a (bs.map V.bl)/\Q (.bl (bs.any id)) H):=by
 intro pins s U H xs us Q I r h;obtain⟨a,bs,rfl,hq,q⟩:=h;obtain⟨u,rfl,ru⟩:=r.one;cases ru;obtain⟨its,rv,p,hz⟩:=I.list hq;have e:=a8 rv;subst e;have hh:X.A.in1.handled=none:=I.ok.hd hc;obtain⟨ob,h1,h2,n,h3⟩:=p.isList;refine call_any_walk (wpAny_pyIter_list p.isList ?_);refine⟨s.heap.objs.size,_,_,_,_,_,λi=>(bs[i]?).getD false,rfl,Walks.list hh s.heap.objs.size a (Nat.ne_of_lt (Heap.lt_size h1)) (bs.map Value.bool).toArray,⟨⟨_,Heap.get?_push_size _ rfl,rfl,rfl⟩,⟨ob,Heap.get?_push_of_some _ h1,h2,n,h3⟩⟩,λi v s' Q' E' hP hQ=>?_,λh' tk k=>?_⟩
 .dsimp only at hP hQ;rw[List.getElem?_toArray,List.getElem?_map]at hP;cases e:bs[i]? with
  |none=>rw[e]at hP;cases hP|some b=>rw[e]at hP hQ;have hP':Value.bool b=v:=Option.some.inj hP;subst hP';exact wpAny_truthy_bool hQ
 .have hl:(bs.map Value.bool).toArray.size=bs.length:=by simp
  rw[hl,UO];refine⟨.bl _,H,I.kept (t':=tk) λb o e=>k b o ?_ (Heap.get?_push_of_some _ e),rfl,q⟩;intro hb;have e':b=s.heap.objs.size:=by simpa using hb
  subst e';exact absurd (Heap.lt_size e) (Nat.lt_irrefl _)
theorem Zb(b:Bool){l:Addr}{ns:List Int}{Q:VK}(I:Inv X pins U H s)(hq:bO X.K H l (ns.map V.int))(hn:ns.length<64)(q:∀D,H D=none->Q (.ref D) (aJ H D (.lst ((gF b ns).map V.int)))) :
  wpAny (model X.prog X.w) X.A (call (.builtin "sorted") [.ref l] [(Str.ofString "reverse",.bool b)]) (EP X pins U Q) X.xe s:=by
 obtain⟨its,rv,p,hz⟩:=I.list hq;have hl:its.length=ns.length:=by have:=rv.length;simpa using this.symm
 refine sorted_ints_rev p.isList (Hl rv) (by omega) λout ns' ia hp ho=>?_;have e:=ie hp ho;subst e;obtain⟨e2,h2⟩:=sortedAll_at s.heap its out;refine⟨.ref _,_,I.laid (o:=.lst ((gF b ns).map V.int)) (t':=s.toks) (λb u z=>sortedAll_old z) (Nat.le_succ _) ⟨?_,out.toList,e2,ll ia,by rw[h2]⟩,rfl,q _ (I.aE.fresh (Nat.le_succ _))⟩;have:=hp.length_eq;rw[List.length_map,this];have:(64:Nat)<=sizeLine:=by decide
 omega
theorem Ov(l:Addr)(d:Value):Builtin.min { pos:=[.ref l],kw:=[(Str.ofString "default",d)] }=(do
   let it <- pyIter (.ref l)
   let S <- newList []
   again (.builtin "min.loop" { pos:=[it,.none,S],kw:=[(Str.ofString "default",d)] })):=by
  with_unfolding_all rfl
theorem Kv(a d:Value):checkBuiltinCall "min" { pos:=[a],kw:=[(Str.ofString "default",d)] }=pure ():=by with_unfolding_all rfl
theorem HQ(I S:Addr)(d:Value)(n:Str):∃k:Option (Array Value)->Sem PySem.Fin,Builtin.«min.loop» { pos:=[.ref I,.none,.ref S],kw:=[(n,d)] }=(seqItems? (.ref S)>>=k) /\
  ∃(h:Value->Sem (Option Value)) (k2:Option Value->Sem PySem.Fin),k (some #[])=((tryCatch (pyNext (.ref I)) h)>>=k2)/\k2 none=(rule "min.default">>=λ_=>ret d):=by
 refine⟨_,by with_unfolding_all rfl,_,_,by with_unfolding_all rfl,by with_unfolding_all rfl⟩
theorem Yx(hc:X.calm=true){l:Addr}{d:Value}{v:V}{Q:VK}(I:Inv X pins U H s)(hq:bO X.K H l [])(rd:RelV v d)(q:Q v H) :
  wpAny (model X.prog X.w) X.A (call (.builtin "min") [.ref l] [(Str.ofString "default",d)]) (EP X pins U Q) X.xe s:=by
 obtain⟨its,rv,p,hz⟩:=I.list hq;cases rv;have hh:X.A.handled=none:=I.ok.hd hc;obtain⟨ob,h1,h2,n,h3⟩:=p.isList;refine wpAny_call (codeAny_call_builtin PySem.F.plain_min PySem.F.entry_min ?_);rw[Kv];refine wpAny_pure ?_;rw[Ov];refine wpAny_bind (wpAny_pyIter_list p.isList (wpAny_bind (wpAny_newList ?_)));refine wpAny_pure ⟨Code.quiet_builtin _ (by decide +kernel),codeAny_builtin PySem.F.entry_min_loop ?_⟩;obtain⟨k,e1,hd,k2,e2,e3⟩:=HQ s.heap.objs.size (s.heap.push { cls:=.type "list_iterator",data:=.fields #[.ref l,.int 0 0] }).objs.size d (Str.ofString "default");rw[e1];refine wpAny_bind (wpAny_seqItems (Heap.get?_push_size _ rfl) rfl ?_);show wpAny _ _ (k (some #[])) _ _ _;rw[e2];refine wpAny_bind (wpAny_tryCatch (wpAny_pyNext_list_end (items:=#[]) (l:=l) (i:=0) hh ?_ ?_ rfl λh' eb=>?_))
 .exact⟨_,Heap.get?_push_of_some _ (Heap.get?_push_size _ rfl),rfl,rfl⟩
 .exact⟨ob,Heap.get?_push_of_some _ (Heap.get?_push_of_some _ h1),h2,n,h3⟩
 .rw[e3];refine wpAny_bind (wpAny_rule (wpAny_pure ?_));refine⟨v,H,I.kept (t':=s.toks) λb o e=>eb b o ?_ (Heap.get?_push_of_some _ (Heap.get?_push_of_some _ e)),rd,q⟩;intro hb;subst hb;exact absurd (Heap.lt_size e) (Nat.lt_irrefl _)
theorem Bk{x nm:Str}{id:String}{p pos kp:Pos}{e kc:Expr}{t:TE}{z:V}{r:V->Hp->VK->Prop}(hc:∀pins s U H v u zu Q,Inv X pins U H s->RelV v u->RelV z zu->r v H Q->wpAny (model X.prog X.w) X.A (call (.builtin id) [u] [(nm,zu)]) (EP X pins U Q) X.xe s)
  (hg:Gl X x) (hm:X.mg x=none) (hv:bootBuiltins x=some (.builtin id)) (ha:PE X e t) (hk:PE X kc (tC z)) (hs:starEach [e] X.env=[(false,eval e X.env)]) (hn:x≠"__name__":=by decide) (hdb:(x==("__debug__":Str))=false:=by decide) :
  PE X (.Call (.Name x p) [e] [⟨some nm,kc,kp⟩] pos) (λU H Q=>t U H λv H1=>r v H1 Q):=by
 intro pins s U H Q I h;refine wpAny_Call_Name_kw (tF I hg hm hv ?_ hn hdb);have pa:PA X [e] (wb t xX):=kG ha qH hs;have pk:PK X [⟨some nm,kc,kp⟩] (wb (tC z) xX):=MM hk MN;obtain⟨y,rest,hs'⟩:∃y rest,backTo pos (starEach [e] X.env)=(false,y)::rest:=by rw[hs];exact⟨_,_,rfl⟩
 have ha1:(backTo pos (starEach [e] X.env)).any (·.1)=false:=by rw[hs];rfl
 refine callWith_builtin_kwB ha1 rfl ?_;have h1:=pa pos pins s U H (λvs H1=>match vs with
  |[v]=>r v H1 Q
  |_=>False) I h
 rw[hs']at h1 ⊢;refine evalArgs_kw rfl ?_;refine aN h1 λus s1 ⟨vs,H1,I1,r1,q1⟩=>?_;obtain⟨v,rfl⟩:∃v,vs=[v]:=by
  match vs,q1 with
  |[v],_=>exact⟨v,rfl⟩
 obtain⟨u,rfl,ru⟩:=r1.one;refine aN (pk pos pins s1 U H1 (λzs H2=>zs=[z]/\H2=H1) I1 ⟨rfl,rfl⟩) λws s2 ⟨zs,H2,I2,rz,ez,eH⟩=>?_;subst ez eH;obtain⟨zu,rfl,rzu⟩:=rz.one;exact hc pins s2 U H2 v u zu Q I2 ru rzu q1
end
def lW:List Int->Int
 |[]=>0
 |n::r=>r.foldl (λm x=>if x<m then x else m) n
theorem Az:∀(r:List Int) (n:Int),(r.foldl (λm x=>if x<m then x else m) n∈n::r)/\∀a∈n::r,r.foldl (λm x=>if x<m then x else m) n<=a
 |[],n=>by simp
 |x::r,n=>by
  obtain⟨h1,h2⟩:=Az r (if x<n then x else n);rw[List.foldl_cons];refine⟨?_,λa ha=>?_⟩
  .rcases List.mem_cons.mp h1 with e|e
   .rw[e];split<;>simp
   .exact List.mem_cons_of_mem _ (List.mem_cons_of_mem _ e)
  .have h3:=h2 _ (List.mem_cons_self ..);have h4:(if x<n then x else n)<=x/\(if x<n then x else n)<=n:=by split<;>omega
   rcases List.mem_cons.mp ha with rfl|ha
   .exact Int.le_trans h3 h4.2
   .rcases List.mem_cons.mp ha with rfl|ha
    .exact Int.le_trans h3 h4.1
    .exact h2 a (List.mem_cons_of_mem _ ha)
theorem HL{ns:List Int}(h:ns≠[]):lW ns∈ns:=by
 cases ns with
 |nil=>exact absurd rfl h|cons n r=>exact(Az r n).1
theorem HK{ns:List Int}{a:Int}(h:a∈ns):lW ns<=a:=by
 cases ns with
 |nil=>cases h|cons n r=>exact(Az r n).2 a h
theorem Ou{ns:List Int}{M:Int}(h1:M∈ns)(h2:∀a∈ns,M<=a):M=lW ns:=by have h3:=HK h1;have h4:=h2 _ (HL (List.ne_nil_of_mem h1));omega
section
variable {prog:Program}{w:World}{A:Around}{R:Result->Shared->Prop}{I:Addr}{fp wr:List Addr}{n:Nat}{P:Nat->Value->Prop}{St:Nat->Heap->Prop}
theorem HN(nm:Str)(d:Value)(W:Walks prog w A.in1 I fp wr n P St)(bt:Nat->Nat->Bool)(hcmp:CmpOf prog w A.in1 .Lt P bt)(S:Addr)(hSf:S∉fp) :
  ∀(k j:Nat) (s:Shared) (vb:Value) (c:Nat),n-(j+1)=k->j+1<=n->St (j+1) s.heap->P (argBest bt j) vb->s.heap.get? S=some { cls:=.type "list",dict:=none,data:=.seq #[vb,vb] c,slots:=#[] } ->
  (∀v h' tk,P (argBest bt (n-1)) v->(∀b o,b∉wr->b≠S->s.heap.get? b=some o->h'.get? b=some o)->R (.ok (.ret v)) { s with heap:=h',toks:=tk }) ->
  codeAny (model prog w) A (.builtin "min.loop" ⟨[.ref I,.none,.ref S],[(nm,d)]⟩) R s:=by
 have hSw:S∉wr:=λh=>hSf (W.sub _ h);have hname:(toString "min"++toString ".loop":String)="min.loop":=by decide
 intro k;induction k with
 |zero=>
  intro j s vb c hk hj hst hPb hS hR;have hin:j+1=n:=by omega
  refine codeAny_builtin PySem.F.entry_min_loop ?_;rw[Around.under_plainId PySem.F.plain_min_loop _];show wpAny _ A.in1 (seqItems? (.ref S)>>=_) _ _ s;refine wpAny_bind (wpAny_seqItems hS rfl ?_);show wpAny _ A.in1 (tryCatch (pyNext (.ref I)) _>>=_) _ _ s;refine wpAny_bind (wpAny_tryCatch (W.done s _ _ (hin▸hst) λh' tk hk'=>?_));have hS':=hk' S _ hSw hS;show wpAny _ A.in1 (updateSeq S (λ_=>#[])>>=_) _ _ _;refine wpAny_bind ?_;refine wpAny_updateSeq hS' rfl (wpAny_bind (wpAny_letGo (wpAny_pure ?_)));exact hR vb _ tk (by rw[<- hin];exact hPb) λb o hbw hbS e=>(Heap.get?_update_other _ _ (Ne.symm hbS)).trans (hk' b o hbw e)
 |succ k ih=>
  intro j s vb c hk hj hst hPb hS hR;have hlt:j+1<n:=by omega
  refine codeAny_builtin PySem.F.entry_min_loop ?_;rw[Around.under_plainId PySem.F.plain_min_loop _];show wpAny _ A.in1 (seqItems? (.ref S)>>=_) _ _ s;refine wpAny_bind (wpAny_seqItems hS rfl ?_);show wpAny _ A.in1 (tryCatch (pyNext (.ref I)) _>>=_) _ _ s;refine wpAny_bind (wpAny_tryCatch (W.item (j+1) s _ _ hlt hst λv h' tk hP hst' hk'=>?_));have hS':=hk' S _ hSw hS;show wpAny _ A.in1 (tryCatch (holding [v,v] (richCompare .Lt v vb>>=_)) _>>=_) _ _ _;refine wpAny_bind (wpAny_tryCatch (wpAny_holding (wpAny_bind (hcmp (j+1) (argBest bt j) v vb _ _ _ hP hPb ?_))));refine wpAny_bind (wpAny_holding (wpAny_truthy_bool ?_));refine wpAny_bind (wpAny_letGo (wpAny_pure ?_));cases hb:bt (j+1) (argBest bt j) with
  |true=>
   simp only[if_true];refine wpAny_bind ?_;refine wpAny_updateSeq hS' rfl (wpAny_bind (wpAny_letGo ?_));rw[hname];refine wpAny_pure ⟨plainId_quiet PySem.F.plain_min_loop _,ih (j+1) _ v _ (by omega) hlt (W.frame _ _ _ hst' λb hbf o e=>?_) (by simp only[argBest,hb,if_true];exact hP) (Heap.get?_update_self _ hS' rfl) λv' h'' tk'' hP' hk''=>?_⟩
   .exact(Heap.get?_update_other _ _ (λh:S=b=>hSf (by rw[h];exact hbf))).trans e
   .exact hR v' h'' tk'' hP' λb o hbw hbS e=>hk'' b o hbw hbS ((Heap.get?_update_other _ _ (Ne.symm hbS)).trans (hk' b o hbw e))
  |false=>simp only[Bool.false_eq_true,if_false];refine wpAny_bind (wpAny_letGo ?_);rw[hname];refine wpAny_pure ⟨plainId_quiet PySem.F.plain_min_loop _,ih (j+1) _ vb c (by omega) hlt hst' (by simp only[argBest,hb,Bool.false_eq_true,if_false];exact hPb) hS' λv' h'' tk'' hP' hk''=>?_⟩;exact hR v' h'' tk'' hP' λb o hbw hbS e=>hk'' b o hbw hbS (hk' b o hbw e)
theorem HP(nm:Str)(d:Value)(W:Walks prog w A.in1 I fp wr n P St)(bt:Nat->Nat->Bool)(hcmp:CmpOf prog w A.in1 .Lt P bt)(S:Addr)(hSf:S∉fp)(hn:0<n){s:Shared}{c:Nat}(hst:St 0 s.heap)
  (hS:s.heap.get? S=some { cls:=.type "list",dict:=none,data:=.seq #[] c,slots:=#[] })
  (hR:∀v h' tk,P (argBest bt (n-1)) v->(∀b o,b∉wr->b≠S->s.heap.get? b=some o->h'.get? b=some o)->R (.ok (.ret v)) { s with heap:=h',toks:=tk }) :
  codeAny (model prog w) A (.builtin "min.loop" ⟨[.ref I,.none,.ref S],[(nm,d)]⟩) R s:=by
 have hSw:S∉wr:=λh=>hSf (W.sub _ h);have hname:(toString "min"++toString ".loop":String)="min.loop":=by decide
 refine codeAny_builtin PySem.F.entry_min_loop ?_;rw[Around.under_plainId PySem.F.plain_min_loop _];show wpAny _ A.in1 (seqItems? (.ref S)>>=_) _ _ s;refine wpAny_bind (wpAny_seqItems hS rfl ?_);show wpAny _ A.in1 (tryCatch (pyNext (.ref I)) _>>=_) _ _ s;refine wpAny_bind (wpAny_tryCatch (W.item 0 s _ _ hn hst λv h' tk hP hst' hk'=>?_));have hS':=hk' S _ hSw hS;show wpAny _ A.in1 (updateSeq S (λ_=>#[v,v])>>=_) _ _ _;refine wpAny_bind ?_;refine wpAny_updateSeq hS' rfl ?_;rw[hname];refine wpAny_pure ⟨plainId_quiet PySem.F.plain_min_loop _,HN nm d W bt hcmp S hSf _ 0 _ v _ rfl hn (W.frame _ _ _ hst' λb hbf o e=>?_) hP (Heap.get?_update_self _ hS' rfl) λv' h'' tk'' hP' hk''=>?_⟩
 .exact(Heap.get?_update_other _ _ (λh:S=b=>hSf (by rw[h];exact hbf))).trans e
 .exact hR v' h'' tk'' hP' λb o hbw hbS e=>hk'' b o hbw hbS ((Heap.get?_update_other _ _ (Ne.symm hbS)).trans (hk' b o hbw e))
end
section
variable {X:Cx}{pins:List (Addr×Obj)}{U:L2.St}{H:Hp}{s:Shared}
theorem Yy(hc:X.calm=true){l:Addr}{d:Value}{ns:List Int}{Q:VK}(I:Inv X pins U H s)(hq:bO X.K H l (ns.map V.int))(hne:ns≠[])(q:Q (.int (lW ns)) H) :
  wpAny (model X.prog X.w) X.A (call (.builtin "min") [.ref l] [(Str.ofString "default",d)]) (EP X pins U Q) X.xe s:=by
 obtain⟨its,rv,p,hz⟩:=I.list hq;have hi:=Hl rv;have hh:X.A.handled=none:=I.ok.hd hc;obtain⟨xs,e⟩:=hi.allInts.items;have hns:ns=xs.toList.map (·.1):=by rw[<- hi.numsOf,<- nums_intItems,<- e]
 have hsz:0<xs.size:=by have:ns.length≠0:=λz=>hne (List.eq_nil_of_length_eq_zero z);rw[hns,List.length_map,Array.length_toList]at this;omega
 have hl:s.heap.IsList l (intItems xs):=by rw[<- e];exact p.isList
 obtain⟨ob,h1,h2,n,h3⟩:=id hl;refine wpAny_call (codeAny_call_builtin PySem.F.plain_min PySem.F.entry_min ?_);rw[Kv];refine wpAny_pure ?_;rw[Ov];refine wpAny_bind (wpAny_pyIter_list hl (wpAny_bind (wpAny_newList ?_)));have hlt:=Heap.lt_size h1;refine wpAny_pure ⟨Code.quiet_builtin _ (by decide +kernel),?_⟩;refine HP (Str.ofString "default") d (Walks.list (A:=X.A.in1) hh s.heap.objs.size l (Nat.ne_of_lt hlt) (intItems xs)) (λi j=>decide (numAt xs i<numAt xs j)) (CmpOf.ints_lt (numAt xs) (λ_ _=>intItems_at)) _ ?_ (by simpa[intItems]using hsz) ?_ (Heap.get?_push_size _ rfl) λv h' tk hP hk=>?_
 .intro hm;have hs2:(s.heap.push { cls:=.type "list_iterator",data:=.fields #[.ref l,.int 0 0] }).objs.size=s.heap.objs.size+1:=Heap.size_push ..;rw[hs2]at hm;simp only[List.mem_cons,List.not_mem_nil,or_false]at hm;rcases hm with hm|hm
  .exact absurd hm (Nat.ne_of_gt (Nat.lt_succ_self _))
  .exact absurd hm (Nat.ne_of_gt (Nat.lt_succ_of_lt hlt))
 .exact⟨⟨_,Heap.get?_push_of_some _ (Heap.get?_push_size _ rfl),rfl,rfl⟩,ob,Heap.get?_push_of_some _ (Heap.get?_push_of_some _ h1),h2,n,h3⟩
 .have hP':(intItems xs)[argBest (λi j=>decide (numAt xs i<numAt xs j)) (xs.size-1)]?=some v:=by simpa[intItems]using hP
  obtain⟨t,rfl⟩:=intItems_at hP';obtain⟨b1,b2⟩:=argBest_lt (numAt xs) (xs.size-1);have em:numAt xs (argBest (λi j=>decide (numAt xs i<numAt xs j)) (xs.size-1))=lW ns:=by
   refine Ou ?_ λa ha=>?_
   .rw[hns,numAt_eq];exact getD_mem (by rw[List.length_map,Array.length_toList];omega)
   .rw[hns]at ha;obtain⟨j,hj,rfl⟩:=mem_getD ha;rw[List.length_map,Array.length_toList]at hj;rw[<- numAt_eq];exact b2 j (by omega)
  rw[em];refine⟨.int (lW ns),H,I.kept (t':=tk) λb o e=>hk b o ?_ ?_ (Heap.get?_push_of_some _ (Heap.get?_push_of_some _ e)),⟨t,rfl⟩,q⟩
  .intro hm;simp only[List.mem_cons,List.not_mem_nil,or_false]at hm;exact absurd hm (Nat.ne_of_lt (Heap.lt_size e))
  .have:=Heap.lt_size e;have hs2:(s.heap.push { cls:=.type "list_iterator",data:=.fields #[.ref l,.int 0 0] }).objs.size=s.heap.objs.size+1:=Heap.size_push ..;rw[hs2];exact Nat.ne_of_lt (Nat.lt_succ_of_lt this)
theorem Nm:∀{us:List Value} {ns:List Int},us.length=ns.length->(∀(j:Nat) v n,us[j]?=some v->ns[j]?=some n->∃t,v=Value.int n t)->IntsAre us ns
 |[],[],_,_=>.nil
 |u::us,n::ns,hl,h=>by obtain⟨t,rfl⟩:=h 0 u n rfl rfl;exact .cons n t (Nm (by simpa using hl) λj v m e1 e2=>h (j+1) v m (by simpa using e1) (by simpa using e2))
 |[],_::_,hl,_=>by simp at hl
 |_::_,[],hl,_=>by simp at hl
theorem Yz(hc:X.calm=true):eI X (.builtin "sorted") (λxs H Q=>∃(a:Addr) (kvs:List (aD×V)) (ns:List Int),xs=[.ref a]/\H a=some (.dK kvs)/\kvs.map (·.1)=ns.map Sum.inl/\ns.length<64/\∀D,H D=none->Q (.ref D) (aJ H D (.lst ((gF false ns).map V.int)))):=by
 intro pins s U H xs us Q I r h;obtain⟨a,kvs,ns,rfl,ha,hks,hn,q⟩:=h;obtain⟨u,rfl,ru⟩:=r.one;cases ru;obtain⟨z,y,vs,rk,ob,es,ep,eo,c1,c2,c3⟩:=I.aE a _ ha;have da:Heap.DictAt (dQ X.prog X.w) s.heap a vs ep:=⟨ob,es,eo,c1,c2,c3⟩;have hlk:kvs.length=ns.length:=by simpa using congrArg List.length hks
 have hlv:kvs.length=vs.length:=rk.length;have hh:X.A.handled=none:=I.ok.hd hc;have h64:(64:Nat)<=sizeLine:=by decide
 refine Calls.call_function_entry kind_sorted plain_sorted entry_sorted (args_sorted1 _) ?_;unfold Builtin.«sorted»;refine wpAny_bind (m:=checkCount "sorted" 1 1 _) (wpAny_pure ?_);refine wpAny_bind (W.kdu_collect (A:=X.A.in1) (W.kdl_dict (knd:=dQ X.prog X.w) (kvs:=vs) (ep:=ep) y) hh da (by omega) λh' tk acc hk hacc=>?_);have hi:IntsAre acc.toList ns:=Nm (by rw[Array.length_toList,hacc.1];omega) λj v n e1 e2=>by
  obtain⟨k,x,e3,e4⟩:=hacc.2 j v (by rw[<- Array.getElem?_toList];exact e1);obtain⟨yv,e5⟩:=Of rk e3;have e6:(kvs.map (·.1))[j]?=some k:=by rw[List.getElem?_map,e5];rfl
  rw[hks,List.getElem?_map,e2]at e6;have e7:k=Sum.inl n:=(Option.some.inj e6).symm;subst e7;exact Nz (k:=Sum.inl n) (v:=v) e4
 have hlen:acc.toList.length=ns.length:=hi.length;refine wpAny_bind (wpAny_newList ?_ (by omega));have hoL:(h'.push (seqObj "list" acc.toList.toArray 0)).get? h'.objs.size=some (seqObj "list" acc.toList.toArray 0):=Heap.get?_push_size _ rfl;refine wpAny_bind (wpAny_holding (wpAny_call_entry slot_list_sort ⟨_,hoL,rfl⟩ entry_list_sort (list_sort_tree hoL hi (by omega) λout ns' a1 a2 a3=>⟨_,rfl,?_⟩) (args_list_sort _)));have e:=ie (rev:=false) a2 (show Ordered false ns' from by unfold Ordered;simpa using a3);subst e;obtain⟨e2,he2⟩:=sortedHeap_at (out:=out) hoL;have I1:Inv X pins U H { s with heap:=h',toks:=tk }:=I.kept hk;refine wpAny_pure ⟨_,rfl,.ref _,_,I1.laid (o:=.lst ((gF false ns).map V.int)) (t':=tk) (λb u h1=>?_) (Nat.le_refl _) ⟨?_,out.toList,e2,ll a1,by rw[he2]⟩,rfl,q _ (I1.aE.fresh (Nat.le_refl _))⟩
 .have h1:h'.get? b=some u:=h1;rw[sortedHeap_old (Nat.ne_of_lt (Heap.lt_size h1)) (by rw[size_push'];exact Nat.lt_succ_of_lt (Heap.lt_size h1)),Heap.get?_push_of_some _ h1]
 .have:=a2.length_eq;rw[List.length_map,this];omega
theorem Zc:eI X (.builtin "sorted") (λxs H Q=>∃(a:Addr) (ns:List Int),xs=[.ref a]/\bO X.K H a (ns.map V.int)/\ns.length<64/\∀D,H D=none->Q (.ref D) (aJ H D (.lst ((gF false ns).map V.int)))):=by
 intro pins s U H xs us Q I r h;obtain⟨l,ns,rfl,hq,hn,q⟩:=h;obtain⟨u,rfl,ru⟩:=r.one;cases ru;obtain⟨its,rv,p,hz⟩:=I.list hq;have hl:its.length=ns.length:=by have:=rv.length;simpa using this.symm
 refine sorted_ints p.isList (Hl rv) (by omega) λout ns' ia hp ho=>?_;have e:=ie (rev:=false) hp (show Ordered false ns' from by unfold Ordered;simpa using ho);subst e;obtain⟨e2,h2⟩:=sortedAll_at s.heap its out;refine⟨.ref _,_,I.laid (o:=.lst ((gF false ns).map V.int)) (t':=s.toks) (λb u z=>sortedAll_old z) (Nat.le_succ _) ⟨?_,out.toList,e2,ll ia,by rw[h2]⟩,rfl,q _ (I.aE.fresh (Nat.le_succ _))⟩;have:=hp.length_eq;rw[List.length_map,this];have:(64:Nat)<=sizeLine:=by decide
 omega
def iO{α:Type}(ks:List Int)(xs:List α):List α:=((ks.zip xs).mergeSort (λp q=>decide (p.1<=q.1))).map (·.2)
theorem Vu{α β:Type}{R:α->β->Prop}{ks:List Int}{xs:List α}{us:List β}(r:Paired R xs us):Paired R (iO ks xs) (iO ks us):=by
 have hl:=r.length;have hm:∀p∈xs.zip us,R p.1 p.2:=by
  clear hl;induction r with
  |nil=>intro p hp;simp at hp|cons h t ih=>
   intro p hp;rcases List.mem_cons.mp hp with rfl|hp
   .exact h
   .exact ih p hp
 have e1:ks.zip xs=(ks.zip (xs.zip us)).map (λt=>(t.1,t.2.1)):=by rw[show xs=(xs.zip us).map (·.1) from(List.map_fst_zip (by omega)).symm,List.zip_map_right];simp only[List.map_fst_zip (show xs.length<=us.length by omega)];rfl
 have e2:ks.zip us=(ks.zip (xs.zip us)).map (λt=>(t.1,t.2.2)):=by rw[show us=(xs.zip us).map (·.2) from(List.map_snd_zip (by omega)).symm,List.zip_map_right];simp only[List.map_snd_zip (show us.length<=xs.length by omega)];rfl
 have hs:∀t∈(ks.zip (xs.zip us)).mergeSort (λp q=>decide (p.1<=q.1)),R t.2.1 t.2.2:=λt ht=>hm t.2 (List.of_mem_zip ((List.mergeSort_perm _ _).mem_iff.mp ht)).2;unfold iO;rw[e1,e2,<- List.map_mergeSort (r:=λp q=>decide (p.1<=q.1)) (λ_ _ _ _=>rfl),<- List.map_mergeSort (r:=λp q=>decide (p.1<=q.1)) (λ_ _ _ _=>rfl),List.map_map,List.map_map];generalize (ks.zip (xs.zip us)).mergeSort (λp q=>decide (p.1<=q.1))=ts at hs;induction ts with
 |nil=>exact .nil|cons t ts ih=>exact .cons (hs t (List.mem_cons_self ..)) (ih λx hx=>hs x (List.mem_cons_of_mem _ hx))
theorem Xq{α:Type}{k:Int}{x y:α}:∀{ks:List Int} {xs:List α},ks.Nodup->(k,x)∈ks.zip xs->(k,y)∈ks.zip xs->x=y
 |[],_,_,h,_=>by simp at h
 |_::_,[],_,h,_=>by simp at h
 |c::ks,z::xs,hn,h1,h2=>by
  rw[List.zip_cons_cons]at h1 h2;have hn':=List.nodup_cons.mp hn;rcases List.mem_cons.mp h1 with e1|h3
  .rcases List.mem_cons.mp h2 with e2|h4
   .cases e1;cases e2;rfl
   .cases e1;exact absurd (List.of_mem_zip h4).1 hn'.1
  .rcases List.mem_cons.mp h2 with e2|h4
   .cases e2;exact absurd (List.of_mem_zip h3).1 hn'.1
   .exact Xq hn'.2 h3 h4
theorem Vt{α:Type}{ks:List Int}{xs:List α}{ps:List (Int×α)}(hn:ks.Nodup)(hp:ps.Perm (ks.zip xs))(ho:ps.Pairwise λp q=>p.1<=q.1):ps.map (·.2)=iO ks xs:=by
 unfold iO;congr 1
 refine List.Perm.eq_of_pairwise (le:=λp q=>decide (p.1<=q.1)=true) (λp q h1 h2 a b=>?_) (ho.imp λh=>by simpa using h) ?_ (hp.trans (List.mergeSort_perm _ _).symm)
 .have e:p.1=q.1:=by simp only[decide_eq_true_eq]at a b;omega
  obtain⟨k,x⟩:=p;obtain⟨k',y⟩:=q;cases e;rw[Xq hn (hp.mem_iff.mp h1) ((List.mergeSort_perm _ _).mem_iff.mp h2)]
 .refine List.pairwise_mergeSort ?_ ?_ _
  .intro a b c;simp only[decide_eq_true_eq];omega
  .intro a b;simp only[Bool.or_eq_true,decide_eq_true_eq];omega
def xF:XK:=λ_ _ _=>False
theorem Zt{P:Program}{w:World}{outer:List Env}{H:Hp}{s s':Shared}{e:Value}(h:cW P w outer H s xF e s'):False:=by obtain⟨_,_,_,_,_,_,_,_,_,_,_,_,z⟩:=h;exact z
variable {k:Nat}{f:Addr}{fd:FuncData}{ps:List Str}{sp:Sp}
theorem VB{us:List Value}{vs:List V}{Q:VK}(F:dU X.prog X.w X.K X.mg X.base (cW X.prog X.w) k f fd ps sp)(hr:cD (k+1) X.A)(hb:Binds X.K fd ps [])(I:Inv X pins U H s)(r:Vals vs us)(h:sp vs H Q xF) :
  wpAny (model X.prog X.w) X.A.in1.in1 (call (.ref f) us) (EP X pins U Q) (λ_ _=>False) s:=by
 have hl:us.length=ps.length:=by rw[<- r.length];exact F.len _ _ _ _ h
 have hr2:cD k X.A.in1.in1:=⟨hr.hd,by have:=hr.dp;show X.A.depth+3*k+5<_;omega,by have:=hr.un;show X.A.units+1+1+16*k+200<_;omega⟩;have hbb:=hb s us I.bN (by rw[List.append_nil];exact hl);rw[List.append_nil]at hbb;refine wpAny_call (codeAny_mono (F.run X.A.in1.in1 X.stack s H ⟨us,[]⟩ us vs Q xF hr2 I.jy.in1.in1 hbb r h) λr s' hq=>?_);cases r with
 |error e=>exact Zt hq|ok fl=>
  cases fl with
  |ret u=>exact I.after hq|_=>exact False.elim hq
def ay(sp:Sp):List V->Hp->(List Int->Hp->Prop)->Prop
 |[],H,Q=>Q [] H
 |y::r,H,Q=>sp [y] H (λv H1=>∃k,v = .int k/\ay sp r H1 λks H2=>Q (k::ks) H2) xF
def lL(X:Cx)(pins:List (Addr×Obj))(b:Addr):Prop:=X.s₀.heap.objs.size<=b/\(∀x c,X.env.cells.lookup x=some c->c≠b)/\∀p∈X.pn++pins,p.1≠b
theorem tL{pins:List (Addr×Obj)}{p:Addr×Obj}(I:Inv X (p::pins) U H s):s.heap.get? p.1=some p.2/\H p.1=none/\p.1≠X.env.locals/\p.1∉X.fs/\∀v,p.2.data ≠ .cell v:=I.pin p (List.mem_append_right _ (List.mem_cons_self ..))
theorem Bo{pins:List (Addr×Obj)}{p:Addr×Obj}(I:Inv X (p::pins) U H s):Inv X pins U H s:=I.oQ λq hq=>I.pin q (List.mem_append_right _ (List.mem_cons_of_mem _ hq))
theorem Bp{a:Addr} {o:Obj} {h':Heap} {xs:Array Value} {n t':Nat} (I:Inv X ((a,o)::pins) U H s) (hu:lL X pins a) (k:∀b u,b≠a->s.heap.get? b=some u->h'.get? b=some u) (ha:h'.get? a=some (seqObj "list" xs n)) :
  Inv X ((a,seqObj "list" xs n)::pins) U H { s with heap:=h',toks:=t' }:=by
 obtain⟨e1,e2,e3,e4,e5⟩:=tL I;have I1:Inv X pins U H { s with heap:=h',toks:=t' }:=(Bo I).turned k e2 e3 (.inr hu.1) hu.2.1 hu.2.2;refine I1.oQ λp hp=>?_;rcases List.mem_cons.mp hp with rfl|hp
 .exact⟨ha,e2,e3,e4,λv z=>by cases z⟩
 .exact I1.pin p (List.mem_append_right _ hp)
theorem MK{p q:Addr×Obj}(I:Inv X (p::q::pins) U H s):Inv X (q::p::pins) U H s:=I.oQ λz hz=>I.pin z (List.mem_append_right _ (by
 simp only[List.mem_cons]at hz ⊢;rcases hz with h|h|h
 .exact .inr (.inl h)
 .exact .inl h
 .exact .inr (.inr h)))
theorem ML{a:Addr} {xs:Array Value} {n:Nat} {ys:List V} (I:Inv X ((a,seqObj "list" xs n)::pins) U H s) (hu:lL X pins a) (r:Vals ys xs.toList) (hz:ys.length<=sizeLine):Inv X pins U (aJ H a (.lst ys)) s:=by
 obtain⟨e1,e2,e3,e4,e5⟩:=tL I;have I1:=Bo I;refine I1.step (h':=s.heap) (g':=s.gens) (d':=s.drawn) (t':=s.toks) (ch:=[a]) (λb hb=>?_) (λb o _ _ hc e _=>e) (λb o _ _ hc e _=>⟨o.slots,e⟩) (λb o hc e n=>?_) (λb o hc e=>⟨o,e⟩)
  (λb zs e=>by rw[aR (dW e e2)];exact e) (λb o u e=>by rw[aR (dW e e2)];exact e) (λb qs e=>⟨#[],by rw[aR (dW e e2),e];simp⟩) (λm hm=>hm) (λb u e=>?_) I1.bare
 .have z:b=a:=by simpa using hb
  subst z;exact⟨.inr hu.1,e3,hu.2.1,hu.2.2⟩
 .rw[aR (λz=>hc (by simp[z]))];exact n
 .by_cases hb:b=a
  .subst hb;rw[dN]at e;cases e;exact⟨hz,xs.toList,n,r,e1⟩
  .rw[aR hb]at e;exact(I1.aE b u e).gQ (λc v hc q=>q) (λc q=>by rw[aR (dW q e2)];exact q) λc zs q=>by rw[aR (dW q e2)];exact q
theorem Pf{a b:Addr}{o:Obj}(h:lL X pins b)(n:a≠b):lL X ((a,o)::pins) b:=⟨h.1,h.2.1,λp hp=>by
 rcases List.mem_append.mp hp with hp|hp
 .exact h.2.2 p (List.mem_append_left _ hp)
 .rcases List.mem_cons.mp hp with rfl|hp
  .exact n
  .exact h.2.2 p (List.mem_append_right _ hp)⟩
variable {a kS:Addr}{us:List Value}{ks:List Int}{keys:Array Value}{e e1:Nat}{A:Around}{E:Value->Shared->Prop}{P:PySem.Fin->Shared->Prop}
theorem Ob{st:SortSt} (I:Inv X ((kS,seqObj "list" keys e)::(a,seqObj "list" #[] e1)::pins) U H s) (hka:kS≠a) (uk:lL X pins kS) (ua:lL X pins a) (hk:IntsAre keys.toList ks) (hl:ks.length=us.length) (h64:us.length<64)
  (hp:(arrOf st).Perm (keys.zip us.toArray)) (hs:SortedTo (arrOf st) (arrOf st).size) (hfl:failedOf st=none) (h:∀out c s',Inv X ((a,seqObj "list" out c)::pins) U H s'->KskOut false ks us out.toList->P (.done (.ret .none)) s') :
  wpAny (model X.prog X.w) A (ksk_tail a false e1 (.ref kS) st) P E s:=by
 have nk:=tL I;have na:=tL (MK I);have hsz:keys.size=us.length:=by have h1:=hk.length;rw[Array.length_toList]at h1;omega
 have hsz2:(arrOf st).size=us.length:=by rw[hp.size_eq,Array.size_zip,hsz,List.size_toArray,Nat.min_self]
 have s1:=Heap.SameBut.update s.heap kS (Obj.mapSeq λ_=>(#[]:Array Value));obtain⟨c1,hc1⟩:∃c1,(s.heap.update kS (Obj.mapSeq λ_=>(#[]:Array Value))).get? kS=some (seqObj "list" #[] c1):=⟨_,get?_update_seq nk.1 λ_=>#[]⟩;have I1:Inv X ((a,seqObj "list" #[] e1)::pins) U H { s with heap:=s.heap.update kS (Obj.mapSeq λ_=>(#[]:Array Value)) }:=Bo (Bp (t':=s.toks) I (Pf uk hka.symm) (λb u hb q=>(s1.2 b hb).trans q) hc1);have na1:(s.heap.update kS (Obj.mapSeq λ_=>(#[]:Array Value))).get? a=some (seqObj "list" #[] e1):=(tL I1).1;generalize e1h:s.heap.update kS (Obj.mapSeq λ_=>(#[]:Array Value))=h1 at I1 na1;have s2:=Heap.SameBut.update h1 a (Obj.mapSeq λ_=>(arrOf st).map (·.2));obtain⟨c2,hc2⟩:∃c2,(h1.update a (Obj.mapSeq λ_=>(arrOf st).map (·.2))).get? a=some (seqObj "list" ((arrOf st).map (·.2)) c2):=⟨_,get?_update_seq na1 λ_=>(arrOf st).map (·.2)⟩;have I2:Inv X ((a,seqObj "list" ((arrOf st).map (·.2)) c2)::pins) U H { s with heap:=h1.update a (Obj.mapSeq λ_=>(arrOf st).map (·.2)) }:=Bp (s:={ s with heap:=h1 }) (t':=s.toks) I1 ua (λb u hb q=>(s2.2 b hb).trans q) hc2;unfold ksk_tail;try dsimp only
 refine wpAny_bind (listUpdate_at nk.1 rfl ?_ (by rw[hsz,sizeLine_eq];omega) (Nat.zero_le _));rw[e1h];refine wpAny_bind (wpAny_letGo ?_);refine wpAny_bind (seqEpoch_at na1 rfl ?_);refine wpAny_bind (listUpdate_at na1 rfl ?_ (Nat.zero_le _) (Nat.le_trans (Nat.le_of_eq (show((arrOf st).map (·.2)).size=us.length by rw[Array.size_map,hsz2])) (by rw[sizeLine_eq];omega)));rw[hfl];simp only[bne_self_eq_false,Bool.false_eq_true,if_false];exact wpAny_pure (h _ _ _ I2 (ksk_out (b:=false) hk hp hs))
theorem GI(I:Inv X ((kS,seqObj "list" keys e)::(a,seqObj "list" #[] e1)::pins) U H s) (hka:kS≠a) (uk:lL X pins kS) (ua:lL X pins a) (hk:IntsAre keys.toList ks) (hl:ks.length=us.length) (h64:us.length<64)
  (h:∀out c s',Inv X ((a,seqObj "list" out c)::pins) U H s'->KskOut false ks us out.toList->P (.done (.ret .none)) s') :
  wpAny (model X.prog X.w) A (ksk_end a false us.toArray e1 (.ref kS) keys) P E s:=by
 have hsz:keys.size=us.length:=by have h1:=hk.length;rw[Array.length_toList]at h1;omega
 have hzs:(keys.zip us.toArray).size=us.length:=by rw[Array.size_zip,hsz,List.size_toArray,Nat.min_self]
 unfold ksk_end;simp only[Bool.false_eq_true,if_false];by_cases h2:us.toArray.size<2
 .rw[if_pos h2,if_pos h2];refine wpAny_bind (wpAny_pure ?_);rw[StateT.run_pure];refine wpAny_bind (wpAny_pure ?_);refine Ob (st:=SortSt.mk' general' (keys.zip us.toArray) #[] 7 none) I hka uk ua hk hl h64 (Array.Perm.refl _) ?_ rfl h;intro i j hij hj;have hj2:j<(keys.zip us.toArray).size:=hj;rw[hzs]at hj2;rw[List.size_toArray]at h2;have:i=j:=by omega
  subst this;exact Int.le_refl _
 .rw[if_neg h2,if_neg h2];rw[List.size_toArray]at h2;rw[ksk_kind hk (by rw[hsz];omega)];refine wpAny_bind (wpAny_pure ?_);refine wpAny_bind (wpAny_mono (wpS_sortRuns (a₀:=keys.zip us.toArray) (st:=SortSt.mk' oneType' (keys.zip us.toArray) #[] 7 none)
   (Q:=λ_ st'=>(arrOf st').Perm (keys.zip us.toArray)/\failedOf st'=none/\SortedTo (arrOf st') (keys.zip us.toArray).size)
   (ksk_intKeys hk) ⟨Array.Perm.refl _,rfl,rfl,rfl⟩ (by rw[hzs];omega) (by rw[hzs];exact h64) λst' a1 a2 a3=>⟨a1,a2,a3⟩) ?_ λ_ _ e=>e)
  rintro ⟨⟨⟩,st'⟩ s' ⟨rfl,hp,hf,hs⟩
  exact Ob I hka uk ua hk hl h64 hp (by rw[hp.size_eq];exact hs) hf h
theorem GL{ys:List V} {R:List Int->Hp->Prop} (F:dU X.prog X.w X.K X.mg X.base (cW X.prog X.w) k f fd ps sp) (hr:cD (k+1) X.A) (hb:Binds X.K fd ps []) (I:Inv X ((kS,seqObj "list" #[] 0)::(a,seqObj "list" #[] e1)::pins) U H s) (hka:kS≠a) (uk:lL X pins kS) (ua:lL X pins a)
  (rv:Vals ys us) (h64:us.length<64) (q:ay sp ys H R) (h:∀ks H2 out c s',R ks H2->ks.length=us.length->Inv X ((a,seqObj "list" out c)::pins) U H2 s'->KskOut false ks us out.toList->P (.done (.ret .none)) s') :
  wpAny (model X.prog X.w) X.A.in1.in1 (ksk_rest a (.ref f) false us.toArray e1 (.ref kS)) P E s:=by
 unfold ksk_rest;refine wpAny_bind (wpAny_rule ?_);rw[List.forIn_toArray];refine wpAny_bind (ksk_fold (λi s'=>∃H kA e ks,Inv X ((kS,seqObj "list" kA e)::(a,seqObj "list" #[] e1)::pins) U H s'/\IntsAre kA.toList ks/\ks.length=i/\ay sp (ys.drop i) H λr H2=>R (ks++r) H2) us 0 s ⟨H,#[],0,[],I,.nil,rfl,q⟩ ?step ?done)
 case step=>
  rintro j x s' hx ⟨H1,kA,e,ks,I1,hk,hj,t⟩
  simp only[Nat.zero_add]at hj t ⊢;have hlt:j<us.length:=(List.getElem?_eq_some_iff.mp hx).1;have hly:ys.length=us.length:=rv.length;obtain⟨y,hy⟩:∃y,ys[j]?=some y:=⟨_,List.getElem?_eq_getElem (by omega)⟩;obtain⟨u,hu,ru⟩:=rv.get hy;rw[hx]at hu;cases hu;have ed:ys.drop j=y::ys.drop (j+1):=by obtain⟨hj',rfl⟩:=List.getElem?_eq_some_iff.mp hy;exact List.drop_eq_getElem_cons hj'
  rw[ed]at t;refine wpAny_bind (wpAny_attempt (wpAny_mono (VB F hr hb I1 (.cons ru .nil) t) (λv s'' he=>?_) λ_ _ hF=>hF.elim));obtain⟨v',H2,I2,rv2,z,rfl,t2⟩:=he;obtain⟨tk,rfl⟩:=(show∃tk,v=Value.int z tk from rv2);have nk:=tL I2;have hz:kA.size=j:=by have h1:=hk.length;rw[Array.length_toList]at h1;omega
  have s1:=Heap.SameBut.update s''.heap kS (Obj.mapSeq (·.push (.int z tk)));refine wpAny_bind (listUpdate_at nk.1 rfl ?_ (by rw[sizeLine_eq];omega) (Nat.le_trans (Nat.le_of_eq (Array.size_push ..)) (by rw[sizeLine_eq];omega)));refine wpAny_pure ⟨rfl,H2,kA.push (.int z tk),_,ks++[z],Bp (t':=s''.toks) I2 (Pf uk hka.symm) (λb u hb q=>(s1.2 b hb).trans q) (get?_update_seq nk.1 (·.push (.int z tk))),?_,by simp[hj],?_⟩
  .rw[Array.toList_push];exact ksk_snoc hk
  .simpa using t2
 case done=>
  rintro s' ⟨H1,kA,e,ks,I1,hk,hj,t⟩
  have hly:ys.length=us.length:=rv.length;have ed:ys.drop (0+us.length)=[]:=List.drop_eq_nil_of_le (by omega);rw[ed]at t;have t':R (ks++[]) H1:=t;rw[List.append_nil]at t';refine wpAny_bind (listItems_at (tL I1).1 rfl ?_);exact GI I1 hka uk ua hk (by omega) h64 λout c s' I' ko=>h ks H1 out c s' t' (by omega) I' ko
theorem Za{l:Addr}{ys:List V}{Q:VK}(F:dU X.prog X.w X.K X.mg X.base (cW X.prog X.w) k f fd ps sp)(hr:cD (k+1) X.A)(hb:Binds X.K fd ps [])(I:Inv X pins U H s)(hq:bO X.K H l ys)(hn:ys.length<64)
  (q:ay sp ys H λks H2=>ks.Nodup/\∀D,H2 D=none->Q (.ref D) (aJ H2 D (.lst (iO ks ys)))) :
  wpAny (model X.prog X.w) X.A (call (.builtin "sorted") [.ref l] [(Str.ofString "key",.ref f)]) (EP X pins U Q) X.xe s:=by
 obtain⟨us,rv,p,hz⟩:=I.list hq;have hly:ys.length=us.length:=rv.length;have hl:=p.isList;refine call_function_entry_kw kind_sorted plain_sorted entry_sorted (ksk_s1 _ _) ?_;unfold Builtin.«sorted»;refine wpAny_bind (m:=checkCount "sorted" 1 1 _) (wpAny_pure ?_);refine wpAny_bind (collect_list hl ?_ (by rw[sizeLine_eq];omega));refine wpAny_bind (wpAny_newList ?_ (by rw[sizeLine_eq];omega));have hsz:((s.heap.push (seqObj "list" #[] 0)).update s.heap.objs.size (Obj.mapSeq (·++us.toArray))).objs.size=s.heap.objs.size+1:=by rw[Heap.size_update,size_push']
 have hoL:(((s.heap.push (seqObj "list" #[] 0)).update s.heap.objs.size (Obj.mapSeq (·++us.toArray))).push (seqObj "list" us.toArray 0)).get? (s.heap.objs.size+1)=some (seqObj "list" us.toArray 0):=by rw[<- hsz];exact Heap.get?_push_size _ rfl
 have keep:∀b o,s.heap.get? b=some o->(((s.heap.push (seqObj "list" #[] 0)).update s.heap.objs.size (Obj.mapSeq (·++us.toArray))).push (seqObj "list" us.toArray 0)).get? b=some o:=λb o q=>by have hlt:b<s.heap.objs.size:=Heap.lt_size q;rw[Heap.get?_push_ne _ _ _ (by rw[hsz];exact Nat.ne_of_lt (Nat.lt_succ_of_lt hlt)),Heap.get?_update_ne _ _ _ _ (Nat.ne_of_lt hlt),Heap.get?_push_ne _ _ _ (Nat.ne_of_lt hlt)];exact q
 show wpAny _ _ _ _ _ { s with heap:=((s.heap.push (seqObj "list" #[] 0)).update s.heap.objs.size (Obj.mapSeq (·++us.toArray))).push (seqObj "list" us.toArray 0) };rw[hsz];have hsz1:(((s.heap.push (seqObj "list" #[] 0)).update s.heap.objs.size (Obj.mapSeq (·++us.toArray))).push (seqObj "list" us.toArray 0)).objs.size=s.heap.objs.size+1+1:=by rw[size_push',hsz]
 generalize ((s.heap.push (seqObj "list" #[] 0)).update s.heap.objs.size (Obj.mapSeq (·++us.toArray))).push (seqObj "list" us.toArray 0)=h1 at hoL keep hsz1;refine wpAny_bind (wpAny_holding (wpAny_call_entry_kw slot_list_sort ⟨_,hoL,rfl⟩ entry_list_sort ?body (ksk_l1 _ _)))
 case body=>
  show wpAny (model X.prog X.w) X.A.in1.in1 (Builtin.«list.sort» ⟨[.ref (s.heap.objs.size+1)],[(Str.ofString "key",.ref f)]⟩) _ _ _;rw[ksk_t1];have s1:=Heap.SameBut.update h1 (s.heap.objs.size+1) (Obj.mapSeq λ_=>(#[]:Array Value));obtain⟨e1,ho1⟩:∃e1,(h1.update (s.heap.objs.size+1) (Obj.mapSeq λ_=>(#[]:Array Value))).get? (s.heap.objs.size+1)=some (seqObj "list" #[] e1):=⟨_,get?_update_seq hoL λ_=>#[]⟩;unfold ksk_tree;refine wpAny_bind (listItems_at hoL rfl ?_);refine wpAny_bind (listUpdate_at hoL rfl ?_ (by rw[List.size_toArray,sizeLine_eq];omega) (Nat.zero_le _));refine wpAny_bind (seqEpoch_at ho1 rfl ?_);refine wpAny_bind (wpAny_newTuple ?_ (by show us.length<=_;rw[sizeLine_eq];omega));refine wpAny_bind (wpAny_newList ?_ (Nat.zero_le _));refine wpAny_holding ?_;have hkS:((h1.update (s.heap.objs.size+1) (Obj.mapSeq λ_=>(#[]:Array Value))).push (seqObj "tuple" us.toArray 0)).objs.size=s.heap.objs.size+3:=by rw[size_push',Heap.size_update,hsz1]
  have ours:∀b,s.heap.objs.size<=b->lL X pins b:=λb hb=>by obtain⟨_,_,_,f3,f4,f5⟩:=I.oF hb (I.aE.fresh hb);exact⟨Nat.le_trans I.sz hb,f4,f5⟩
  have I1:Inv X pins U H { s with heap:=((h1.update (s.heap.objs.size+1) (Obj.mapSeq λ_=>(#[]:Array Value))).push (seqObj "tuple" us.toArray 0)).push (seqObj "list" #[] 0) }:=I.kept (t':=s.toks) λb u q=>
   Heap.get?_push_of_some _ (Heap.get?_push_of_some _ ((s1.2 b (Nat.ne_of_lt (Nat.lt_succ_of_lt (Heap.lt_size q)))).trans (keep b u q)))
  have I2:Inv X ((s.heap.objs.size+3,seqObj "list" #[] 0)::(s.heap.objs.size+1,seqObj "list" #[] e1)::pins) U H { s with heap:=((h1.update (s.heap.objs.size+1) (Obj.mapSeq λ_=>(#[]:Array Value))).push (seqObj "tuple" us.toArray 0)).push (seqObj "list" #[] 0) }:=by
   refine I1.oQ λp hp=>?_;have fr:∀b,s.heap.objs.size<=b->H b=none/\b≠X.env.locals/\b∉X.fs:=λb hb=>⟨I.aE.fresh hb,Nat.ne_of_gt (Nat.lt_of_lt_of_le I.lt hb),I.Ox hb⟩;rcases List.mem_cons.mp hp with rfl|hp
   .obtain⟨a1,a2,a3⟩:=fr (s.heap.objs.size+3) (Nat.le_add_right _ _);refine⟨?_,a1,a2,a3,λv z=>by cases z⟩;show Heap.get? _ _=_;rw[<- hkS];exact Heap.get?_push_size _ rfl
   .rcases List.mem_cons.mp hp with rfl|hp
    .obtain⟨a1,a2,a3⟩:=fr (s.heap.objs.size+1) (Nat.le_add_right _ _);exact⟨Heap.get?_push_of_some _ (Heap.get?_push_of_some _ ho1),a1,a2,a3,λv z=>by cases z⟩
    .exact I1.pin p (List.mem_append_right _ hp)
  have key:=GL (P:=λfin s'=>∃v,fin = .done (.ret v)/\EP X pins U Q (.ref (s.heap.objs.size+1)) s') (E:=X.xe) F hr hb I2 (show s.heap.objs.size+3≠s.heap.objs.size+1 by omega) (ours _ (Nat.le_add_right _ _)) (ours _ (Nat.le_add_right _ _)) rv (by omega) q λks H2 out c s' ⟨hnd,hQ⟩ hlk I3 ko=>by
   refine⟨_,rfl,?_⟩;obtain⟨pl,hpp,ho,hs⟩:=ko;have eo:out.toList=iO ks us:=by rw[ho];exact Vt hnd hpp (by simpa using hs)
   have hlen:(iO ks ys).length<=sizeLine:=by unfold iO;rw[List.length_map,(List.mergeSort_perm _ _).length_eq,List.length_zip];exact Nat.le_trans (Nat.min_le_right _ _) hz
   exact⟨.ref _,_,ML I3 (ours _ (Nat.le_add_right _ _)) (by rw[eo];exact Vu rv) hlen,rfl,hQ _ (tL I3).2.1⟩
  rw[<- hkS]at key;refine wpAny_mono key (λfin s' z=>?_) λ_ _ e=>e;obtain⟨v,rfl,z⟩:=z;exact⟨v,rfl,wpAny_pure ⟨_,rfl,z⟩⟩
end
inductive AV where
 |aC|bl (b:Bool)|int (i:Int)|str (x:Str)|tup (xs:List AV)|ref (n:Nat)|kC (kvs:List (Str×Int))
 deriving Inhabited
inductive dO where
 |lst (mu:Bool) (xs:List AV)
 |aI (kvs:List (aD×AV))
 |bM (kvs:List (aD×AV))
 |ins (c:Nat) (fs:List (Str×AV))
 |xo (c:Nat)
def dO.mu:dO->Bool
 |.lst m _=>m
 |_=>true
structure AH where
 nx:Nat
 ob:Nat->Option dO
def AH.put(h:AH)(n:Nat)(o:dO):AH:=⟨h.nx,λm=>if m=n then some o else h.ob m⟩
def AH.new(h:AH)(o:dO):AH:=⟨h.nx+1,λm=>if m=h.nx then some o else h.ob m⟩
inductive Res(α:Type) where
 |ok (a:α) (h:AH)
 |exc (c:Nat) (x:AV) (h:AH)
 |bad
abbrev M(α:Type):=AH->Res α
def M.ret{α:Type}(a:α):M α:=λh=>.ok a h
def M.bad{α:Type}:M α:=λ_=>.bad
def M.bind{α β:Type}(m:M α)(k:α->M β):M β:=λh=>match m h with
 |.ok a h'=>k a h'
 |.exc c x h'=>.exc c x h'
 |.bad=>.bad
def M.guard{α:Type}(p:Prop) [Decidable p] (m:M α):M α:=λh=>if p then m h else .bad
structure Tab where
 K:W.Frag
 G:List (Str×Int)->Addr->Prop
 C:Nat->Option Addr
mutual
inductive aG(T:Tab)(Z:List Addr)(H:Hp):AV->V->Prop where
 |aC:aG T Z H .aC .aC
 |bl (b:Bool):aG T Z H (.bl b) (.bl b)
 |int (i:Int):aG T Z H (.int i) (.int i)
 |str (x:Str):aG T Z H (.str x) (.str x)
 |tup {a:Addr} {xs:List AV} {ys:List V} (hq:cU T.K H a ys) (hr:aO T Z H xs ys):aG T Z H (.tup xs) (.ref a)
 |ref {n:Nat} {a:Addr} (e:Z[n]?=some a):aG T Z H (.ref n) (.ref a)
 |kC {kvs:List (Str×Int)} {a:Addr} (e:T.G kvs a):aG T Z H (.kC kvs) (.ref a)
inductive aO(T:Tab)(Z:List Addr)(H:Hp):List AV->List V->Prop where
 |nil:aO T Z H [] []
 |cons {x:AV} {y:V} {xs:List AV} {ys:List V} (h:aG T Z H x y) (hs:aO T Z H xs ys):aO T Z H (x::xs) (y::ys)
end
structure Ext(Z:List Addr)(H:Hp)(Z':List Addr)(H':Hp):Prop where
 pre:∀(n:Nat) a,Z[n]?=some a->Z'[n]?=some a
 tup:∀b xs,H b=some (.tup xs)->H' b=some (.tup xs)
 bH:∀b o u,H b=some (.bH o u)->H' b=some (.bH o u)
theorem Ext.refl{Z:List Addr}{H:Hp}:Ext Z H Z H:=⟨λ_ _ e=>e,λ_ _ e=>e,λ_ _ _ e=>e⟩
theorem Ext.trans{Z Z1 Z2:List Addr}{H H1 H2:Hp}(a:Ext Z H Z1 H1)(b:Ext Z1 H1 Z2 H2):Ext Z H Z2 H2:=
 ⟨λn x e=>b.pre n x (a.pre n x e),λn x e=>b.tup n x (a.tup n x e),λn x u e=>b.bH n x u (a.bH n x u e)⟩
theorem Ext.ig{K:W.Frag}{Z Z':List Addr}{H H':Hp}(e:Ext Z H Z' H'){a:Addr}{xs:List V}(h:cU K H a xs):cU K H' a xs:=by
 rcases h with(h|⟨o,h⟩)|h
 .exact .inl (.inl (e.tup _ _ h))
 .exact .inl (.inr ⟨o,e.bH _ _ _ h⟩)
 .exact .inr h
mutual
theorem aG.ext{T:Tab}{Z Z':List Addr}{H H':Hp}(e:Ext Z H Z' H'):∀{x:AV} {y:V},aG T Z H x y->aG T Z' H' x y
 |_,_,.aC=>.aC
 |_,_,.bl b=>.bl b
 |_,_,.int i=>.int i
 |_,_,.str x=>.str x
 |_,_,.tup hq hr=>.tup (e.ig hq) (aO.ext e hr)
 |_,_,.ref q=>.ref (e.pre _ _ q)
 |_,_,.kC q=>.kC q
theorem aO.ext{T:Tab}{Z Z':List Addr}{H H':Hp}(e:Ext Z H Z' H'):∀{xs:List AV} {ys:List V},aO T Z H xs ys->aO T Z' H' xs ys
 |_,_,.nil=>.nil
 |_,_,.cons h hs=>.cons (aG.ext e h) (aO.ext e hs)
end
theorem aO.length{T:Tab}{Z:List Addr}{H:Hp}:∀{xs:List AV} {ys:List V},aO T Z H xs ys->xs.length=ys.length
 |_,_,.nil=>rfl|_,_,.cons _ hs=>congrArg (·+1) hs.length
theorem aO.get{T:Tab}{Z:List Addr}{H:Hp}:∀{xs:List AV} {ys:List V} {i:Nat} {x:AV},aO T Z H xs ys->xs[i]?=some x->∃y,ys[i]?=some y/\aG T Z H x y
 |_,_,_,_,.nil,e=>by simp at e
 |_,_,0,_,.cons h _,e=>by simp at e;subst e;exact⟨_,rfl,h⟩
 |_,_,i+1,x,.cons _ hs,e=>by obtain⟨y,h1,h2⟩:=aO.get (i:=i) (x:=x) hs (by simpa using e);exact⟨y,by simpa using h1,h2⟩
theorem aO.append{T:Tab}{Z:List Addr}{H:Hp}:∀{xs zs:List AV} {ys ws:List V},aO T Z H xs ys->aO T Z H zs ws->aO T Z H (xs++zs) (ys++ws)
 |_,_,_,_,.nil,s=>s
 |_,_,_,_,.cons h hs,s=>.cons h (aO.append hs s)
theorem aO.set{T:Tab}{Z:List Addr}{H:Hp}{x:AV}{y:V}(r:aG T Z H x y):∀{xs:List AV} {ys:List V} (i:Nat),aO T Z H xs ys->aO T Z H (xs.set i x) (ys.set i y)
 |_,_,_,.nil=>.nil
 |_,_,0,.cons _ t=>.cons r t
 |_,_,i+1,.cons q t=>.cons q (aO.set r i t)
theorem aO.take{T:Tab}{Z:List Addr}{H:Hp}:∀{xs:List AV} {ys:List V} (n:Nat),aO T Z H xs ys->aO T Z H (xs.take n) (ys.take n)
 |_,_,0,_=>.nil
 |_,_,_+1,.nil=>.nil
 |_,_,n+1,.cons r t=>.cons r (aO.take n t)
theorem aO.drop{T:Tab}{Z:List Addr}{H:Hp}:∀{xs:List AV} {ys:List V} (n:Nat),aO T Z H xs ys->aO T Z H (xs.drop n) (ys.drop n)
 |_,_,0,r=>r
 |_,_,_+1,.nil=>.nil
 |_,_,n+1,.cons _ t=>aO.drop n t
theorem aO.ints{T:Tab}{Z:List Addr}{H:Hp}:∀(ns:List Int),aO T Z H (ns.map AV.int) (ns.map V.int)
 |[]=>.nil
 |n::ns=>.cons (.int n) (aO.ints ns)
def lJ(K:W.Frag)(H:Hp)(a:Addr)(xs:List V):Prop:=
 (∃o,H a=some (.bH o (.lst xs))) \/
  ∃(o:Obj) (its:Array Value) (n:Nat),K.lookup a=some o/\o.cls = .type "list"/\o.dict=none/\o.data = .seq its n/\its.size<=sizeLine/\Vals xs its.toList
theorem lJ.sq{K:W.Frag}{H:Hp}{a:Addr}{xs:List V}(h:lJ K H a xs):bO K H a xs:=by
 rcases h with h|h
 .exact .inl (.inr h)
 .exact .inr h
theorem lJ.ext{K:W.Frag}{Z Z':List Addr}{H H':Hp}{a:Addr}{xs:List V}(e:Ext Z H Z' H')(h:lJ K H a xs):lJ K H' a xs:=by
 rcases h with⟨o,h⟩|h
 .exact .inl ⟨o,e.bH _ _ _ h⟩
 .exact .inr h
def iS(T:Tab)(Z:List Addr)(H:Hp)(a:Addr):dO->Prop
 |.lst true xs=>∃ys,H a=some (.lst ys)/\aO T Z H xs ys
 |.lst false xs=>∃ys,lJ T.K H a ys/\aO T Z H xs ys
 |.aI kvs=>∃ks ys,H a=some (.dK (ks.zip ys))/\ks=kvs.map (·.1)/\aO T Z H (kvs.map (·.2)) ys
 |.bM kvs=>∃o ks ys,H a=some (.bH o (.dK (ks.zip ys)))/\ks=kvs.map (·.1)/\aO T Z H (kvs.map (·.2)) ys
 |.ins c fs=>∃C dx ks ys,T.C c=some C/\H a=some (.ins C dx (ks.zip ys))/\ks=fs.map (·.1)/\aO T Z H (fs.map (·.2)) ys
 |.xo c=>∃C,T.C c=some C/\H a=some (.ext (lI a (.ref C)))
theorem iS.ext{T:Tab}{Z Z':List Addr}{H H':Hp}{a:Addr}{o:dO}(r:iS T Z H a o)(e:Ext Z H Z' H')(k:o.mu=true->H' a=H a):iS T Z' H' a o:=by
 cases o with
 |lst m xs=>
  cases m with
  |true=>obtain⟨ys,h,r⟩:=r;exact⟨ys,by rw[k rfl];exact h,r.ext e⟩|false=>obtain⟨ys,h,r⟩:=r;exact⟨ys,h.ext e,r.ext e⟩
 |aI kvs=>obtain⟨ks,ys,h,e1,r⟩:=r;exact⟨ks,ys,by rw[k rfl];exact h,e1,r.ext e⟩|bM kvs=>obtain⟨o,ks,ys,h,e1,r⟩:=r;exact⟨o,ks,ys,by rw[k rfl];exact h,e1,r.ext e⟩|ins c fs=>obtain⟨C,dx,ks,ys,hc,h,e1,r⟩:=r;exact⟨C,dx,ks,ys,hc,by rw[k rfl];exact h,e1,r.ext e⟩|xo c=>obtain⟨C,hc,h⟩:=r;exact⟨C,hc,by rw[k rfl];exact h⟩
structure aQ(T:Tab)(Z:List Addr)(h:AH)(H:Hp):Prop where
 len:Z.length=h.nx
 lS:∀(n:Nat) o,h.ob n=some o->n<h.nx
 obj:∀(n:Nat) o a,h.ob n=some o->Z[n]?=some a->iS T Z H a o
 inj:∀(n m:Nat) a o u,h.ob n=some o->h.ob m=some u->o.mu=true->u.mu=true->Z[n]?=some a->Z[m]?=some a->n=m
section
variable {T:Tab}{Z:List Addr}{h:AH}{H H':Hp}
theorem aQ.at(R:aQ T Z h H){n:Nat}{o:dO}(e:h.ob n=some o):∃a,Z[n]?=some a/\iS T Z H a o:=by have hn:=R.lS n o e;rw[<- R.len]at hn;exact⟨Z[n],by simp[hn],R.obj n o _ e (by simp[hn])⟩
theorem Bb{a:Addr}{o:dO}(r:iS T Z H a o)(m:o.mu=true):∃u,H a=some u:=by
 cases o with
 |lst k xs=>
  cases k with
  |true=>obtain⟨ys,h,_⟩:=r;exact⟨_,h⟩|false=>cases m
 |aI kvs=>obtain⟨ks,ys,h,_⟩:=r;exact⟨_,h⟩|bM kvs=>obtain⟨o,ks,ys,h,_⟩:=r;exact⟨_,h⟩|ins c fs=>obtain⟨C,dx,ks,ys,_,h,_⟩:=r;exact⟨_,h⟩|xo c=>obtain⟨C,_,h⟩:=r;exact⟨_,h⟩
theorem Ext.fS{a:Addr}{o:HO}(hn:H a=none):Ext Z H Z (aJ H a o):=
 ⟨λ_ _ e=>e,λb xs e=>by rw[aR (dW e hn)];exact e,λb u xs e=>by rw[aR (dW e hn)];exact e⟩
theorem aQ.keep(R:aQ T Z h H){a:Addr}{o:HO}(hn:H a=none):aQ T Z h (aJ H a o):=
 ⟨R.len,R.lS,λn u b e q=>(R.obj n u b e q).ext (.fS hn) λm=>by obtain⟨w,hw⟩:=Bb (R.obj n u b e q) m;rw[aR (dW hw hn)],R.inj⟩
theorem aQ.alloc(R:aQ T Z h H){a:Addr}{o:dO}{O:HO}(hn:H a=none)(ho:iS T (Z++[a]) (aJ H a O) a o):aQ T (Z++[a]) (h.new o) (aJ H a O)/\Ext Z H (Z++[a]) (aJ H a O):=by
 have ex:Ext Z H (Z++[a]) (aJ H a O):=⟨λn x e=>by have hl:=(List.getElem?_eq_some_iff.mp e).1;rw[List.getElem?_append_left hl];exact e,(Ext.fS (Z:=Z) hn).tup,(Ext.fS (Z:=Z) hn).bH⟩
 have old:∀{n:Nat} {b:Addr},n<h.nx->(Z++[a])[n]?=some b->Z[n]?=some b:=λ{n b} hl e=>by rw[List.getElem?_append_left (by rw[R.len];exact hl)]at e;exact e
 have at_:∀{b:Addr},(Z++[a])[h.nx]?=some b->b=a:=λ{b} e=>by rw[<- R.len]at e;simp at e;exact e.symm
 refine⟨⟨by simp[AH.new,R.len],λn u e=>?_,λn u b e q=>?_,λn m b u v e1 e2 m1 m2 q1 q2=>?_⟩,ex⟩
 .simp only[AH.new]at e ⊢;by_cases hx:n=h.nx
  .omega
  .rw[if_neg hx]at e;have:=R.lS n u e;omega
 .simp only[AH.new]at e;by_cases hx:n=h.nx
  .rw[if_pos hx]at e;cases e;subst hx;rw[at_ q];exact ho
  .rw[if_neg hx]at e;have q':=old (R.lS n u e) q;refine(R.obj n u b e q').ext ex λm=>?_;obtain⟨w,hw⟩:=Bb (R.obj n u b e q') m;rw[aR (dW hw hn)]
 .simp only[AH.new]at e1 e2;have no:∀{k:Nat} {y:dO},h.ob k=some y->y.mu=true->(Z++[a])[k]?=some b->b≠a:=λ{k y} e m q=>by obtain⟨w,hw⟩:=Bb (R.obj k y b e (old (R.lS k y e) q)) m;exact dW hw hn
  by_cases hx:n=h.nx
  .subst hx;by_cases hy:m=h.nx
   .exact hy.symm
   .rw[if_neg hy]at e2;exact absurd (at_ q1) (no e2 m2 q2)
  .rw[if_neg hx]at e1;by_cases hy:m=h.nx
   .subst hy;exact absurd (at_ q2) (no e1 m1 q1)
   .rw[if_neg hy]at e2;exact R.inj n m b u v e1 e2 m1 m2 (old (R.lS n u e1) q1) (old (R.lS m v e2) q2)
theorem aQ.write(R:aQ T Z h H){n:Nat}{a:Addr}{o o':dO}{O O':HO}(e:h.ob n=some o)(m:o.mu=true)(m':o'.mu=true)(q:Z[n]?=some a)(hO:H a=some O)(nt:∀xs,O ≠ .tup xs)(nf:∀x u,O ≠ .bH x u)
  (ho:iS T Z (aJ H a O') a o'):aQ T Z (h.put n o') (aJ H a O')/\Ext Z H Z (aJ H a O'):=by
 have ex:Ext Z H Z (aJ H a O'):=⟨λ_ _ z=>z,λb xs z=>by
   rw[aR (lX z hO λw=>nt xs w.symm)];exact z,λb x u z=>by
   rw[aR (lX z hO λw=>nf x u w.symm)];exact z⟩
 refine⟨⟨R.len,λk u z=>?_,λk u b z w=>?_,λk l b u v z1 z2 m1 m2 w1 w2=>?_⟩,ex⟩
 .simp only[AH.put]at z;by_cases hx:k=n
  .subst hx;exact R.lS _ _ e
  .rw[if_neg hx]at z;exact R.lS k u z
 .simp only[AH.put]at z;by_cases hx:k=n
  .rw[if_pos hx]at z;cases z;subst hx;rw[q]at w;cases w;exact ho
  .rw[if_neg hx]at z;refine(R.obj k u b z w).ext ex λmu=>?_;rw[aR];rintro rfl
   exact hx (R.inj k n b u o z e mu m w q)
 .simp only[AH.put]at z1 z2;have back:∀{j:Nat} {y:dO},(if j=n then some o' else h.ob j)=some y->y.mu=true->∃y',h.ob j=some y'/\y'.mu=true:=λ{j y} z mu=>by
   by_cases hx:j=n
   .subst hx;exact⟨o,e,m⟩
   .rw[if_neg hx]at z;exact⟨y,z,mu⟩
  obtain⟨u',g1,k1⟩:=back z1 m1;obtain⟨v',g2,k2⟩:=back z2 m2;exact R.inj k l b u' v' g1 g2 k1 k2 w1 w2
end
structure rB(Z:List Addr)(H H':Hp):Prop where
 ig:∀K b xs,cU K H b xs->cU K H' b xs
 EA:∀K b xs,lJ K H b xs->lJ K H' b xs
mutual
theorem aG.ext2{T:Tab}{Z:List Addr}{H H':Hp}(e:rB Z H H'):∀{x:AV} {y:V},aG T Z H x y->aG T Z H' x y
 |_,_,.aC=>.aC
 |_,_,.bl b=>.bl b
 |_,_,.int i=>.int i
 |_,_,.str x=>.str x
 |_,_,.tup hq hr=>.tup (e.ig _ _ _ hq) (aO.ext2 e hr)
 |_,_,.ref q=>.ref q
 |_,_,.kC q=>.kC q
theorem aO.ext2{T:Tab}{Z:List Addr}{H H':Hp}(e:rB Z H H'):∀{xs:List AV} {ys:List V},aO T Z H xs ys->aO T Z H' xs ys
 |_,_,.nil=>.nil
 |_,_,.cons h hs=>.cons (aG.ext2 e h) (aO.ext2 e hs)
end
theorem iS.ext2{T:Tab}{Z:List Addr}{H H':Hp}{a:Addr}{o:dO}(r:iS T Z H a o)(e:rB Z H H')(k:o.mu=true->H' a=H a):iS T Z H' a o:=by
 cases o with
 |lst m xs=>
  cases m with
  |true=>obtain⟨ys,h,r⟩:=r;exact⟨ys,by rw[k rfl];exact h,r.ext2 e⟩|false=>obtain⟨ys,h,r⟩:=r;exact⟨ys,e.EA _ _ _ h,r.ext2 e⟩
 |aI kvs=>obtain⟨ks,ys,h,e1,r⟩:=r;exact⟨ks,ys,by rw[k rfl];exact h,e1,r.ext2 e⟩|bM kvs=>obtain⟨o,ks,ys,h,e1,r⟩:=r;exact⟨o,ks,ys,by rw[k rfl];exact h,e1,r.ext2 e⟩|ins c fs=>obtain⟨C,dx,ks,ys,hc,h,e1,r⟩:=r;exact⟨C,dx,ks,ys,hc,by rw[k rfl];exact h,e1,r.ext2 e⟩|xo c=>obtain⟨C,hc,h⟩:=r;exact⟨C,hc,by rw[k rfl];exact h⟩
theorem Ma{Z:List Addr}{H:Hp}{a:Addr}{o:Obj}{kz:List (aD×V)}(hO:H a=some (.bH o (.dK kz))):rB Z H (aJ H a (.dK kz)):=by
 have ne:∀b u,H b=some u->(∀x y,u ≠ .bH x (.dK y))->b≠a:=λb u e n z=>by rw[z,hO]at e;cases e;exact n _ _ rfl
 refine⟨λK b xs h=>?_,λK b xs h=>?_⟩
 .rcases h with(h|⟨x,h⟩)|h
  .exact .inl (.inl (by rw[aR (ne b _ h λ_ _ z=>by cases z)];exact h))
  .exact .inl (.inr ⟨x,by rw[aR (ne b _ h λ_ _ z=>by cases z)];exact h⟩)
  .exact .inr h
 .rcases h with⟨x,h⟩|h
  .exact .inl ⟨x,by rw[aR (ne b _ h λ_ _ z=>by cases z)];exact h⟩
  .exact .inr h
theorem aQ.ZG{T:Tab}{Z:List Addr}{h:AH}{H:Hp}(R:aQ T Z h H){n:Nat}{a:Addr}{kvs:List (aD×AV)}(e:h.ob n=some (.bM kvs))(q:Z[n]?=some a) :
  ∃o kz,H a=some (.bH o (.dK kz))/\aQ T Z (h.put n (.aI kvs)) (aJ H a (.dK kz)):=by
 obtain⟨o,ks,ys,hO,ek,rv⟩:=R.obj n _ a e q;have ex:=Ma (Z:=Z) hO;refine⟨o,_,hO,⟨R.len,λk u z=>?_,λk u b z w=>?_,λk l b u v z1 z2 m1 m2 w1 w2=>?_⟩⟩
 .simp only[AH.put]at z;by_cases hx:k=n
  .subst hx;exact R.lS _ _ e
  .rw[if_neg hx]at z;exact R.lS k u z
 .simp only[AH.put]at z;by_cases hx:k=n
  .rw[if_pos hx]at z;cases z;subst hx;rw[q]at w;cases w;exact⟨ks,ys,dN,ek,rv.ext2 ex⟩
  .rw[if_neg hx]at z;refine(R.obj k u b z w).ext2 ex λmu=>?_;rw[aR];rintro rfl
   exact hx (R.inj k n b u _ z e mu rfl w q)
 .simp only[AH.put]at z1 z2;have back:∀{j:Nat} {y:dO},(if j=n then some (.aI kvs) else h.ob j)=some y->y.mu=true->∃y',h.ob j=some y'/\y'.mu=true:=λ{j y} z mu=>by
   by_cases hx:j=n
   .subst hx;exact⟨_,e,rfl⟩
   .rw[if_neg hx]at z;exact⟨y,z,mu⟩
  obtain⟨u',g1,k1⟩:=back z1 m1;obtain⟨v',g2,k2⟩:=back z2 m2;exact R.inj k l b u' v' g1 g2 k1 k2 w1 w2
abbrev Rl(α β:Type):=List Addr->Hp->α->β->Prop
def W{α β:Type}(T:Tab)(Rp:Rl α β)(r:Res α)(Z:List Addr)(H:Hp)(Q:β->Hp->Prop)(E:XK):Prop:=match r with
 |.ok a h=>∀Z' b H',Ext Z H Z' H'->aQ T Z' h H'->Rp Z' H' a b->Q b H'
 |.exc c _ h=>∀Z' H',Ext Z H Z' H'->aQ T Z' h H'->∃C,T.C c=some C/\E (.ref C) none H'
 |.bad=>False
section
variable {T:Tab}{α β γ δ:Type}{Rp:Rl α β}{Rq:Rl γ δ}{Z Z':List Addr}{H H':Hp}{E:XK}{Q:β->Hp->Prop}{h:AH}
theorem W.ext{r:Res α}(w:W T Rp r Z H Q E)(e:Ext Z H Z' H'):W T Rp r Z' H' Q E:=by
 cases r with
 |ok a h=>exact λZ2 b H2 x R q=>w Z2 b H2 (e.trans x) R q|exc c x h=>exact λZ2 H2 x R=>w Z2 H2 (e.trans x) R|bad=>exact w
theorem W.bind{m:M α}{k:α->M γ}{Q2:δ->Hp->Prop}(w:W T Rq (M.bind m k h) Z H Q2 E)
  (f:∀Z1 x y h1 H1,Ext Z H Z1 H1->aQ T Z1 h1 H1->Rp Z1 H1 x y->W T Rq (k x h1) Z1 H1 Q2 E->Q y H1):W T Rp (m h) Z H Q E:=by
 unfold M.bind at w;cases e:m h with
 |ok a h1=>rw[e]at w;exact λZ1 y H1 x R q=>f Z1 a y h1 H1 x R q (w.ext x)
 |exc c x h1=>rw[e]at w;exact w|bad=>rw[e]at w;exact w
theorem W.ok{a:α}{b:β}(w:W T Rp (.ok a h) Z H Q E)(e:Ext Z H Z' H')(R:aQ T Z' h H')(q:Rp Z' H' a b):Q b H':=w Z' b H' e R q
theorem W.here{a:α}{b:β}(w:W T Rp (.ok a h) Z H Q E)(R:aQ T Z h H)(q:Rp Z H a b):Q b H:=w Z b H .refl R q
end
abbrev aA:=List (Option AV)
def bA(T:Tab)(Z:List Addr)(H:Hp)(U:aA)(U':L2.St):Prop:=U.length=U'.length/\∀(i:Nat) v,U[i]?=some (some v)->∃v',U'[i]?=some (some v')/\aG T Z H v v'
theorem bA.ext{T:Tab}{Z Z':List Addr}{H H':Hp}{U:aA}{U':L2.St}(S:bA T Z H U U')(e:Ext Z H Z' H'):bA T Z' H' U U':=
 ⟨S.1,λi v q=>let ⟨v',a,b⟩:=S.2 i v q;⟨v',a,b.ext e⟩⟩
theorem bA.set{T:Tab}{Z:List Addr}{H:Hp}{U:aA}{U':L2.St}(S:bA T Z H U U'){v:AV}{v':V}(r:aG T Z H v v')(i:Nat):bA T Z H (U.set i (some v)) (U'.set i (some v')):=by
 refine⟨by simp[S.1],λj u q=>?_⟩;by_cases hj:i=j
 .subst hj;by_cases hl:i<U.length
  .rw[List.getElem?_set_self hl]at q;cases q;exact⟨v',List.getElem?_set_self (by rw[<- S.1];exact hl),r⟩
  .rw[List.getElem?_eq_none (by simpa using hl)]at q;cases q
 .rw[List.getElem?_set_ne hj]at q;obtain⟨w,a,b⟩:=S.2 j u q;exact⟨w,by rw[List.getElem?_set_ne hj];exact a,b⟩
def QE(X:Cx)(T:Tab)(E:XK)(e:Expr)(m:aA->M AV):Prop:=
 ∃t,PE X e t/\∀Z U U' h H Q,aQ T Z h H->bA T Z H U U'->W T (aG T) (m U h) Z H Q E->t U' H Q
def QA(X:Cx)(T:Tab)(E:XK)(es:List Expr)(m:aA->M (List AV)):Prop:=
 ∃t,PA X es t/\∀Z U U' h H Q,aQ T Z h H->bA T Z H U U'->W T (aO T) (m U h) Z H Q E->t U' H Q
abbrev RB:Rl Bool Bool:=λ_ _ a b=>a=b
def QT(X:Cx)(T:Tab)(E:XK)(e:Expr)(m:aA->M Bool):Prop:=
 ∃t,PT X e t/\∀Z U U' h H Q,aQ T Z h H->bA T Z H U U'->W T RB (m U h) Z H Q E->t U' H Q
def QW(X:Cx)(T:Tab)(E:XK)(e:Expr)(m:aA->M Bool):Prop:=
 ∃t,PW X e t/\∀Z U U' h H Q,aQ T Z h H->bA T Z H U U'->W T RB (m U h) Z H Q E->t U' H Q
theorem QW.qt{X:Cx}{T:Tab}{E:XK}{e:Expr}{m:aA->M Bool}(h:QW X T E e m):QT X T E e m:=let ⟨t,a,b⟩:=h;⟨t,a.pt,b⟩
def bZ(X:Cx)(T:Tab)(E:XK)(f:Value->Value->Sem Value)(g:AV->AV->M AV):Prop:=
 ∃r,bJ X f r/\∀Z h H x y x' y' Q,aQ T Z h H->aG T Z H x x'->aG T Z H y y'->W T (aG T) (g x y h) Z H Q E->r x' y' H Q
def Hy(X:Cx)(T:Tab)(E:XK)(f:Value->Sem Value)(g:AV->M AV):Prop:=
 ∃r,jh X f r/\∀Z h H x x' Q,aQ T Z h H->aG T Z H x x'->W T (aG T) (g x h) Z H Q E->r x' H Q
def je(X:Cx)(T:Tab)(E:XK)(g:AV->AV->M AV):Prop:=
 ∃r,lK X r/\∀Z h H x y x' y' Q,aQ T Z h H->aG T Z H x x'->aG T Z H y y'->W T (aG T) (g x y h) Z H Q E->r x' y' H Q
def nY(X:Cx)(T:Tab)(E:XK)(f:Value)(g:List AV->M AV):Prop:=
 ∃r,eI X f r/\∀Z h H xs bC Q,aQ T Z h H->aO T Z H xs bC->W T (aG T) (g xs h) Z H Q E->r bC H Q
def yV(i j:Int):Bool:=decide (i.natAbs<2 ^ 64)||decide (j.natAbs<2 ^ 64)||(decide (i.natAbs<2 ^ 1000)&&decide (j.natAbs<2 ^ 1000))
def sU(j:Int):Bool:=decide (0<j)&&decide (j<2 ^ 1000)
def dz(i j:Int):Bool:=decide (0<=j)&&decide (j<=1000000)&&decide (i.natAbs<2 ^ 64)
def fZ:AV->AV->M AV
 |.int i,.int j=>M.ret (.int (i+j))
 |.str i,.str j=>M.guard (i.length+j.length<=sizeLine) (M.ret (.str (i++j)))
 |.tup xs,.tup ys=>M.guard (xs.length+ys.length<=sizeLine) (M.ret (.tup (xs++ys)))
 |.ref n,.ref m=>λh=>match h.ob n,h.ob m with
  |some (.lst true xs),some (.lst true ys)=>if xs.length+ys.length<=sizeLine then .ok (.ref h.nx) (h.new (.lst true (xs++ys))) else .bad
  |_,_=>.bad
 |_,_=>M.bad
def iG(p:Int->Int->Bool)(f:Int->Int->Int):AV->AV->M AV
 |.int i,.int j=>λh=>if p i j=true then .ok (.int (f i j)) h else .bad
 |_,_=>M.bad
def kj:AV->AV->M AV:=iG (λ_ _=>true) (· - ·)
def Mw:AV->AV->M AV:=iG yV (·*·)
def Ml:AV->AV->M AV:=iG (λ_ j=>sU j) (· / ·)
def Mv:AV->AV->M AV:=iG (λ_ j=>decide (0<j)) (·%·)
def My:AV->AV->M AV:=iG dz λi j=>i ^ j.toNat
def Mz:AV->AV->M AV:=iG dz λi j=>i*2 ^ j.toNat
def Na:AV->AV->M AV:=iG (λ_ j=>decide (0<=j)) λi j=>i / 2 ^ j.toNat
def Mi:AV->AV->M AV:=iG (λ_ _=>true) Builtin.bitAnd
def Mx:AV->AV->M AV:=iG (λ_ _=>true) Builtin.bitOr
def Nc:AV->AV->M AV:=iG (λ_ _=>true) Builtin.bitXor
def cv(f:Int->Int->Bool):AV->AV->M AV
 |.int i,.int j=>M.ret (.bl (f i j))
 |_,_=>M.bad
def Ms:AV->AV->M AV:=cv λi j=>decide (i<j)
def Mq:AV->AV->M AV:=cv λi j=>decide (i<=j)
def Mn:AV->AV->M AV:=cv λi j=>decide (j<i)
def Mm:AV->AV->M AV:=cv λi j=>decide (j<=i)
def sW:AV->AV->Option Bool
 |.aC,.aC=>some true | .aC,.int _=>some false | .int _,.aC=>some false | .aC,.bl _=>some false | .bl _,.aC=>some false | .aC,.str _=>some false | .str _,.aC=>some false
 |.int i,.int j=>some (decide (i=j)) | .bl i,.bl j=>some (decide (i=j)) | .str i,.str j=>some (decide (i=j))
 |.int _,.str _=>some false | .str _,.int _=>some false | .bl _,.str _=>some false | .str _,.bl _=>some false
 |_,_=>none
def fF:AV->Bool
 |.aC=>true | .bl _=>true | .int _=>true | .str _=>true
 |_=>false
def zi:AV->AV->Bool
 |.aC,.aC=>true
 |.bl a,.bl b=>a==b
 |.bl a,.int b=>(if a then 1 else 0)==b
 |.int a,.bl b=>a==(if b then 1 else 0)
 |.int a,.int b=>a==b
 |.str a,.str b=>a==b
 |_,_=>false
def cy(x y:AV):M AV:=λh=>match sW x y with
 |some b=>.ok (.bl b) h
 |none=>.bad
def Aa(x y:AV):M AV:=λh=>match sW x y with
 |some b=>.ok (.bl (!b)) h
 |none=>.bad
def iH:AV->Bool
 |.aC=>true
 |_=>false
def zy(x y:AV):M AV:=if iH y=true then M.ret (.bl (iH x)) else M.bad
def zz(x y:AV):M AV:=if iH y=true then M.ret (.bl (!iH x)) else M.bad
def tB(x:AV)(xs:List AV):Bool:=xs.any λy=>zi y x
def dD(h:AH):AV->Option (List AV)
 |.tup xs=>some xs
 |.ref n=>match h.ob n with
  |some (.lst _ xs)=>some xs
  |_=>none
 |_=>none
def dP:AV->Option aD
 |.int i=>some (.inl i)
 |.str s=>some (.inr s)
 |_=>none
def dG(h:AH):AV->Option (List (aD×AV))
 |.ref n=>match h.ob n with
  |some (.aI kvs)=>some kvs
  |_=>none
 |_=>none
def bU(kvs:List (aD×AV))(k:aD):Option AV:=(kvs.find? λkv=>decide (kv.1=k)).map (·.2)
def jB(kvs:List (aD×AV))(k:aD)(v:AV):List (aD×AV):=
 if(kvs.any λkv=>decide (kv.1=k))=true then kvs.map (λkv=>if kv.1=k then(kv.1,v) else kv) else kvs++[(k,v)]
def pR(kvs:List (aD×AV))(k:aD):List (aD×AV):=kvs.filter λkv=>decide (kv.1≠k)
def pX(neg:Bool)(x y:AV):M AV:=λh=>match dD h y with
 |some xs=>if(fF x&&xs.all fF)=true then .ok (.bl (if neg then !tB x xs else tB x xs)) h else .bad
 |none=>.bad
def jZ(neg:Bool)(x y:AV):M AV:=λh=>match dG h y with
 |some kvs=>match dP x with
  |some k=>.ok (.bl (if neg then !(bU kvs k).isSome else(bU kvs k).isSome)) h
  |none=>.bad
 |none=>pX neg x y h
def ki:AV->M AV
 |.int i=>M.ret (.int (-i))
 |_=>M.bad
def yS(x y:AV):M AV:=λh=>match y with
 |.int i=>match x with
  |.str z=>if z.length<=sizeLine then match dF z.cps.toList i with
   |some c=>.ok (.str ⟨#[c]⟩) h
   |none=>.bad
   else .bad
  |x=>match (dD h x).bind λxs=>dF xs i with
   |some v=>.ok v h
   |none=>.bad
 |_=>.bad
def vS(h:AH):AV->Option (List (aD×AV))
 |.ref n=>match h.ob n with
  |some (.bM kvs)=>some kvs
  |_=>none
 |_=>none
def kg(x y:AV):M AV:=λh=>match vS h x with
 |some kvs=>match (dP y).bind (bU kvs) with
  |some v=>.ok v h
  |none=>.bad
 |none=>yS x y h
def pY(x y:AV):M AV:=λh=>match dG h x with
 |some kvs=>match (dP y).bind (bU kvs) with
  |some v=>.ok v h
  |none=>.bad
 |none=>kg x y h
def az(h:AH):AV->Option Bool
 |.aC=>some false
 |.bl b=>some b
 |.int i=>some (i != 0)
 |.str y=>if y.length<=sizeLine then some ((y.length:Int) != 0) else none
 |.tup xs=>some (!xs.isEmpty)
 |.ref n=>match h.ob n with
  |some (.lst _ xs)=>some (!xs.isEmpty)
  |some (.aI kvs)=>some (!kvs.isEmpty)
  |_=>none
 |_=>none
def bK(x:AV):M Bool:=λh=>match az h x with
 |some b=>.ok b h
 |none=>.bad
section
variable {X:Cx}{T:Tab}{E:XK}(hK:X.K=T.K)
theorem wA{α β:Type}{Rp:Rl α β}{p:Prop} [Decidable p] {m:M α}{Z:List Addr}{H:Hp}{h:AH}{Q:β->Hp->Prop}(w:W T Rp (M.guard p m h) Z H Q E):p/\W T Rp (m h) Z H Q E:=by
 unfold M.guard at w;by_cases hp:p
 .rw[if_pos hp]at w;exact⟨hp,w⟩
 .rw[if_neg hp]at w;exact w.elim
theorem oP{f:Value->Value->Sem Value}{C:Int->Int->Prop}{p:Int->Int->Bool}{g:Int->Int->Int}(ho:bJ X f (rI C λi j=>.int (g i j)))(hc:∀i j,p i j=true->C i j):bZ X T E f (iG p g):=by
 refine⟨_,ho,λZ h H x y x' y' Q R rx ry w=>?_⟩;cases x with
 |int i=>
  cases y with
  |int j=>
   cases rx;cases ry;simp only[iG]at w;by_cases hp:p i j=true
   .rw[if_pos hp]at w;exact⟨i,j,rfl,rfl,hc i j hp,w.here R (.int _)⟩
   .rw[if_neg hp]at w;exact w.elim
  |_=>exact w.elim
 |_=>exact w.elim
theorem mv{f:Value->Value->Sem Value}{g:Int->Int->Bool}(ho:bJ X f (jT λi j=>.bl (g i j))):bZ X T E f (cv g):=by
 refine⟨_,ho,λZ h H x y x' y' Q R rx ry w=>?_⟩;cases x with
 |int i=>
  cases y with
  |int j=>cases rx;cases ry;exact⟨i,j,rfl,rfl,W.here w R (.bl _)⟩
  |_=>exact w.elim
 |_=>exact w.elim
theorem vm{f:Value->Value->Sem Value}{g:Int->Int->V}(h:bJ X f (jT g)):bJ X f (rI (λ_ _=>True) g):=
 λpins s U H x y v u Q I rx ry ⟨i,j,a,b,_,q⟩=>h pins s U H x y v u Q I rx ry ⟨i,j,a,b,q⟩
theorem KO:bZ X T E (binaryOp .Sub) kj:=oP (vm JL) λ_ _ _=>trivial
theorem JO:bZ X T E (binaryOp .BitAnd) Mi:=oP (vm IJ) λ_ _ _=>trivial
theorem KI:bZ X T E (binaryOp .BitOr) Mx:=oP (vm JH) λ_ _ _=>trivial
theorem KP:bZ X T E (binaryOp .BitXor) Nc:=oP (vm JM) λ_ _ _=>trivial
theorem KA:bZ X T E (binaryOp .Mod) Mv:=oP JB λ_ _ h=>of_decide_eq_true h
theorem Pn{i j:Int}(h:dz i j=true):xc i j:=by simp only[dz,Bool.and_eq_true,decide_eq_true_eq]at h;exact⟨h.1.1,h.1.2,h.2⟩
theorem KJ:bZ X T E (binaryOp .Pow) My:=oP JI λ_ _ h=>Pn h
theorem KL:bZ X T E (binaryOp .LShift) Mz:=oP JJ λ_ _ h=>Pn h
theorem KN:bZ X T E (binaryOp .RShift) Na:=oP JK λ_ _ h=>of_decide_eq_true h
theorem HY{i j:Int}(h:yV i j=true):IntMulOk i j:=by
 simp only[yV,Bool.or_eq_true,Bool.and_eq_true,decide_eq_true_eq]at h;rcases h with(h|h)|⟨h1,h2⟩
 .exact .of_left (intBits_le h)
 .exact .of_right (intBits_le h)
 .exact .of_bits (Nat.le_trans (intBits_le h1) (by decide)) (Nat.le_trans (intBits_le h2) (by decide))
theorem JC:bJ X (binaryOp .Mult) (rI IntMulOk λi j=>.int (i*j)):=yY λ_ _ _ _ _ _ _ hc q=>mul_int q hc
theorem KC:bZ X T E (binaryOp .Mult) Mw:=oP JC λ_ _ h=>HY h
theorem log2_lt{j:Int}(h:j<2 ^ 1000)(h0:0<j):j.natAbs.log2<9000:=by
 have hn:j.natAbs<2 ^ 1000:=by omega
 have:j.natAbs.log2<1000:=(Nat.log2_lt (by omega)).mpr hn;omega
theorem IQ:bJ X (binaryOp .FloorDiv) (rI (λ_ j=>0<j/\j<2 ^ 1000) λi j=>.int (i / j)):=yY λi j _ _ _ _ _ hc q=>by have h1:(0:Int)<j:=hc.1;exact floordiv_int (by omega) (by rw[Int.fdiv_eq_ediv_of_nonneg i (by omega)];exact q) (.inl (PyProof.noPylong_of_log2 (log2_lt hc.2 hc.1)))
theorem Lq{j:Int}(h:sU j=true):0<j/\j<2 ^ 1000:=by simp only[sU,Bool.and_eq_true,decide_eq_true_eq]at h;exact h
theorem JR:bZ X T E (binaryOp .FloorDiv) Ml:=oP IQ λ_ _ h=>Lq h
theorem JZ:bZ X T E (compareOp .Lt) Ms:=mv JA
theorem JY:bZ X T E (compareOp .LtE) Mq:=mv IZ
theorem JT:bZ X T E (compareOp .Gt) Mn:=mv IT
theorem JS:bZ X T E (compareOp .GtE) Mm:=mv IS
theorem Lw{Z:List Addr}{H:Hp}{x y:AV}{x' y':V}{b:Bool}(rx:aG T Z H x x')(ry:aG T Z H y y')(e:sW x y=some b):vp x' y'=true/\decide (x'=y')=b:=by cases rx<;>cases ry<;>simp[sW]at e<;>(subst e)<;>simp[vp]
theorem zm{Z:List Addr}{H:Hp}{x:AV}{x':V}(r:aG T Z H x x')(f:fF x=true):oE x'=true:=by cases r<;>first|rfl|cases f
theorem zo{Z:List Addr}{H:Hp}:∀{xs:List AV} {ys:List V},aO T Z H xs ys->xs.all fF=true->ys.all oE=true
 |_,_,.nil,_=>rfl|_,_,.cons h hs,f=>by rw[List.all_cons,Bool.and_eq_true]at f ⊢;exact⟨zm h f.1,zo hs f.2⟩
theorem CH{Z:List Addr}{H:Hp}{x y:AV}{x' y':V}(rx:aG T Z H x x')(ry:aG T Z H y y')(fx:fF x=true)(fy:fF y=true):pU x' y'=zi x y:=by
 cases rx<;>first|cases fx;done|skip
 all_goals (cases ry<;>first|rfl|cases fy)
theorem JQ:bZ X T E (compareOp .Eq) cy:=by
 refine⟨_,IP,λZ h H x y x' y' Q R rx ry w=>?_⟩;unfold cy at w;cases e:sW x y with
 |none=>rw[e]at w;exact w.elim|some b=>rw[e]at w;obtain⟨h1,h2⟩:=Lw rx ry e;exact⟨h1,by rw[h2];exact w.here R (.bl _)⟩
theorem KD:bZ X T E (compareOp .NotEq) Aa:=by
 refine⟨_,JD,λZ h H x y x' y' Q R rx ry w=>?_⟩;unfold Aa at w;cases e:sW x y with
 |none=>rw[e]at w;exact w.elim|some b=>rw[e]at w;obtain⟨h1,h2⟩:=Lw rx ry e;exact⟨h1,by rw[h2];exact w.here R (.bl _)⟩
theorem lp{Z:List Addr}{H:Hp}{x:AV}{x':V}(r:aG T Z H x x'):decide (x' = .aC)=iH x:=by cases r<;>simp[iH]
theorem JW:bZ X T E (compareOp .Is) zy:=by
 refine⟨_,IW,λZ h H x y x' y' Q R rx ry w=>?_⟩;unfold zy at w;by_cases e:iH y=true
 .rw[if_pos e]at w;rw[<- lp ry]at e;exact⟨of_decide_eq_true e,by rw[lp rx];exact W.here w R (.bl _)⟩
 .rw[if_neg e]at w;exact w.elim
theorem JX:bZ X T E (compareOp .IsNot) zz:=by
 refine⟨_,JG,λZ h H x y x' y' Q R rx ry w=>?_⟩;unfold zz at w;by_cases e:iH y=true
 .rw[if_pos e]at w;rw[<- lp ry]at e;exact⟨of_decide_eq_true e,by rw[lp rx];exact W.here w R (.bl _)⟩
 .rw[if_neg e]at w;exact w.elim
theorem ZZ:Hy X T E (unaryOp .USub) ki:=by
 refine⟨_,ZX,λZ h H x x' Q R rx w=>?_⟩;cases x with
 |int i=>cases rx;exact⟨i,rfl,W.here w R (.int _)⟩|_=>exact w.elim
theorem Aj{Z:List Addr}{H:Hp}{x:AV}{x':V}(rx:aG T Z H x x')(fx:fF x=true):∀{xs:List AV} {ys:List V},aO T Z H xs ys->xs.all fF=true->ku x' ys=tB x xs
 |_,_,.nil,_=>rfl|_,_,.cons h hs,f=>by rw[List.all_cons,Bool.and_eq_true]at f;have:=Aj rx fx hs f.2;unfold ku tB at this ⊢;rw[List.any_cons,List.any_cons,this,CH h rx f.1 fx]
theorem iX{Z:List Addr}{h:AH}{H:Hp}{n:Nat}{m:Bool}{xs:List AV}{a:Addr}(R:aQ T Z h H)(e:h.ob n=some (.lst m xs))(q:Z[n]?=some a):∃ys,bO T.K H a ys/\aO T Z H xs ys:=by
 have r:=R.obj n _ a e q;cases m with
 |true=>obtain⟨ys,h1,h2⟩:=r;exact⟨ys,.of h1,h2⟩|false=>obtain⟨ys,h1,h2⟩:=r;exact⟨ys,h1.sq,h2⟩
theorem au{Z:List Addr}{h:AH}{H:Hp}{x:AV}{x':V}{xs:List AV}(R:aQ T Z h H)(r:aG T Z H x x')(e:dD h x=some xs):∃p ys,x' = .ref p/\(bO T.K H p ys\/cU T.K H p ys)/\aO T Z H xs ys:=by
 cases r with
 |tup hq hr=>cases e;exact⟨_,_,rfl,.inr hq,hr⟩|@ref n a q=>
  simp only[dD]at e;cases o:h.ob n with
  |none=>rw[o]at e;cases e|some u=>
   rw[o]at e;cases u with
   |lst m ys=>cases e;obtain⟨zs,h1,h2⟩:=iX R o q;exact⟨_,zs,rfl,.inl h1,h2⟩
   |aI kvs=>cases e|bM _=>cases e|ins c fs=>cases e|xo c=>cases e
 |_=>cases e
inductive eJ(T:Tab)(Z:List Addr)(H:Hp):List (aD×AV)->List (aD×V)->Prop where
 |nil:eJ T Z H [] []
 |cons {k:aD} {v:AV} {y:V} {xs:List (aD×AV)} {ys:List (aD×V)} (h:aG T Z H v y) (t:eJ T Z H xs ys):eJ T Z H ((k,v)::xs) ((k,y)::ys)
theorem Gu{Z:List Addr}{H:Hp}:∀{kvs:List (aD×AV)} {ys:List V},aO T Z H (kvs.map (·.2)) ys->eJ T Z H kvs ((kvs.map (·.1)).zip ys)
 |[],_,.nil=>.nil
 | (k,v)::kvs,_,.cons h t=>.cons h (Gu t)
theorem UX{Z:List Addr}{H:Hp}{kvs:List (aD×AV)}{us:List (aD×V)}(r:eJ T Z H kvs us):∃ys,us=(kvs.map (·.1)).zip ys/\aO T Z H (kvs.map (·.2)) ys:=by
 induction r with
 |nil=>exact⟨[],rfl,.nil⟩|cons h t ih=>obtain⟨ys,e,r⟩:=ih;exact⟨_::ys,by rw[e];rfl,.cons h r⟩
theorem Vd{Z:List Addr}{H:Hp}{kvs:List (aD×AV)}{us:List (aD×V)}(r:eJ T Z H kvs us):kvs.length=us.length:=by
 induction r with
 |nil=>rfl|cons h t ih=>rw[List.length_cons,List.length_cons,ih]
theorem xW{Z:List Addr}{H:Hp}{kvs:List (aD×AV)}{us:List (aD×V)}{k:aD}(r:eJ T Z H kvs us):(∀v,bU kvs k=some v->∃y,dE us k=some y/\aG T Z H v y)/\(bU kvs k=none->dE us k=none):=by
 induction r with
 |nil=>exact⟨(λv h=>by cases h),λ_=>rfl⟩|@cons k' v y xs ys h t ih=>
  by_cases e:k'=k
  .subst e;refine⟨λv' h'=>?_,λh'=>?_⟩
   .simp[bU]at h';subst h';exact⟨y,by simp[dE],h⟩
   .simp[bU]at h'
  .have e1:bU ((k',v)::xs) k=bU xs k:=by simp[bU,e]
   have e2:dE ((k',y)::ys) k=dE ys k:=by simp[dE,e]
   rw[e1,e2];exact ih
theorem Vf{Z:List Addr}{H:Hp}{kvs:List (aD×AV)}{us:List (aD×V)}{k:aD}(r:eJ T Z H kvs us):(dE us k).isSome=(bU kvs k).isSome:=by
 obtain⟨h1,h2⟩:=xW (k:=k) r;cases e:bU kvs k with
 |none=>rw[h2 e];rfl|some v=>obtain⟨y,e2,_⟩:=h1 v e;rw[e2];rfl
theorem UU{Z:List Addr}{H:Hp}{kvs:List (aD×AV)}{us:List (aD×V)}{k:aD}(r:eJ T Z H kvs us):(kvs.any λkv=>decide (kv.1=k))=us.any λkv=>decide (kv.1=k):=by
 induction r with
 |nil=>rfl|cons h t ih=>rw[List.any_cons,List.any_cons,ih]
theorem UW{Z:List Addr}{H:Hp}{kvs:List (aD×AV)}{us:List (aD×V)}{k:aD}{v:AV}{y:V}(r:eJ T Z H kvs us)(h:aG T Z H v y):eJ T Z H (kvs++[(k,v)]) (us++[(k,y)]):=by
 induction r with
 |nil=>exact .cons h .nil|cons h' t ih=>exact .cons h' ih
theorem UZ{Z:List Addr}{H:Hp}{kvs:List (aD×AV)}{us:List (aD×V)}{k:aD}{v:AV}{y:V}(r:eJ T Z H kvs us)(h:aG T Z H v y):eJ T Z H (kvs.map λkv=>if kv.1=k then(kv.1,v) else kv) (us.map λkv=>if kv.1=k then(kv.1,y) else kv):=by
 induction r with
 |nil=>exact .nil|@cons k' v' y' xs ys h' t ih=>
  by_cases e:k'=k
  .simp only[List.map_cons,e,if_true];exact .cons h ih
  .simp only[List.map_cons,e,if_false];exact .cons h' ih
theorem Ve{Z:List Addr}{H:Hp}{kvs:List (aD×AV)}{us:List (aD×V)}{k:aD}{v:AV}{y:V}(r:eJ T Z H kvs us)(h:aG T Z H v y):eJ T Z H (jB kvs k v) (fH us k y):=by
 unfold jB fH;rw[UU r];split
 .exact UZ r h
 .exact UW r h
theorem UY{Z:List Addr}{H:Hp}{kvs:List (aD×AV)}{us:List (aD×V)}{k:aD}(r:eJ T Z H kvs us):eJ T Z H (pR kvs k) (lT us k):=by
 induction r with
 |nil=>exact .nil|@cons k' v' y' xs ys h' t ih=>
  unfold pR lT;by_cases e:k'=k
  .simp only[List.filter_cons,e,ne_eq,not_true_eq_false,decide_false,Bool.false_eq_true,if_false];exact ih
  .simp only[List.filter_cons,e,ne_eq,not_false_eq_true,decide_true,if_true];exact .cons h' ih
theorem eJ.ext{Z Z':List Addr}{H H':Hp}{kvs:List (aD×AV)}{us:List (aD×V)}(r:eJ T Z H kvs us)(e:Ext Z H Z' H'):eJ T Z' H' kvs us:=by
 induction r with
 |nil=>exact .nil|cons h t ih=>exact .cons (h.ext e) ih
theorem sT{Z:List Addr}{h:AH}{H:Hp}{x:AV}{x':V}{kvs:List (aD×AV)}(R:aQ T Z h H)(r:aG T Z H x x')(e:dG h x=some kvs):∃n a us,x = .ref n/\Z[n]?=some a/\h.ob n=some (.aI kvs)/\x' = .ref a/\H a=some (.dK us)/\eJ T Z H kvs us:=by
 cases r with
 |@ref n a q=>
  simp only[dG]at e;cases o:h.ob n with
  |none=>rw[o]at e;cases e|some u=>
   rw[o]at e;cases u with
   |aI kvs'=>cases e;obtain⟨ks,ys,h1,rfl,h3⟩:=R.obj n _ a o q;exact⟨n,a,_,rfl,q,o,rfl,h1,Gu h3⟩
   |_=>cases e
 |_=>cases e
theorem AF{Z:List Addr}{h:AH}{H:Hp}{x:AV}{x':V}{kvs:List (aD×AV)}(R:aQ T Z h H)(r:aG T Z H x x')(e:vS h x=some kvs):∃a us,x' = .ref a/\Rd H a (.dK us)/\eJ T Z H kvs us:=by
 cases r with
 |@ref n a q=>
  simp only[vS]at e;cases o:h.ob n with
  |none=>rw[o]at e;cases e|some u=>
   rw[o]at e;cases u with
   |bM kvs'=>cases e;obtain⟨ob,ks,ys,h1,rfl,h3⟩:=R.obj n _ a o q;exact⟨a,_,rfl,.inr ⟨ob,h1⟩,Gu h3⟩
   |_=>cases e
 |_=>cases e
theorem yu{Z:List Addr}{H:Hp}{a:Addr}{kvs:List (aD×AV)}{us:List (aD×V)}(e:H a=some (.dK us))(r:eJ T Z H kvs us):iS T Z H a (.aI kvs):=by obtain⟨ys,e2,r2⟩:=UX r;subst e2;exact⟨_,ys,e,rfl,r2⟩
theorem oM{Z:List Addr}{H:Hp}{x:AV}{x':V}{k:aD}(r:aG T Z H x x')(e:dP x=some k):x'=kV k:=by cases r<;>simp[dP]at e<;>(subst e)<;>rfl
include hK in
theorem JV:bZ X T E (compareOp .In) (pX false):=by
 refine⟨_,IV,λZ h H x y x' y' Q R rx ry w=>?_⟩;unfold pX at w;cases e:dD h y with
 |none=>rw[e]at w;exact w.elim|some xs=>
  rw[e]at w;by_cases f:(fF x&&xs.all fF)=true
  .simp only[if_pos f]at w;rw[Bool.and_eq_true]at f;obtain⟨p,ys,e1,h1,h2⟩:=au R ry e;refine⟨p,ys,e1,by rw[hK];exact h1,zm rx f.1,zo h2 f.2,?_⟩;rw[Aj rx f.1 h2 f.2];exact w.here R (.bl _)
  .simp only[if_neg f]at w;exact w.elim
include hK in
theorem KH:bZ X T E (compareOp .NotIn) (pX true):=by
 refine⟨_,JF,λZ h H x y x' y' Q R rx ry w=>?_⟩;unfold pX at w;cases e:dD h y with
 |none=>rw[e]at w;exact w.elim|some xs=>
  rw[e]at w;by_cases f:(fF x&&xs.all fF)=true
  .simp only[if_pos f]at w;rw[Bool.and_eq_true]at f;obtain⟨p,ys,e1,h1,h2⟩:=au R ry e;refine⟨p,ys,e1,by rw[hK];exact h1,zm rx f.1,zo h2 f.2,?_⟩;rw[Aj rx f.1 h2 f.2];exact w.here R (.bl _)
  .simp only[if_neg f]at w;exact w.elim
theorem Ye{Z:List Addr}{H:Hp}{xs:List AV}{ys:List V}{i:Int}{v:AV}(r:aO T Z H xs ys)(e:dF xs i=some v):∃v',dF ys i=some v'/\aG T Z H v v':=by
 unfold dF at e ⊢;rw[<- r.length];cases q:iI xs.length i with
 |none=>rw[q]at e;cases e|some j=>rw[q]at e;exact r.get e
include hK in
theorem GC:je X T E yS:=by
 refine⟨_,FY,λZ h H x y x' y' Q R rx ry w=>?_⟩;cases y with
 |int i=>
  cases ry;have seqc:∀(xs:List AV) (v:AV),dD h x=some xs->dF xs i=some v->(W T (aG T) (.ok v h) Z H Q E)->Gp X.K x' (.int i) H Q:=λxs v e1 e2 w=>by
   obtain⟨p,ys,rfl,hq,hr⟩:=au R rx e1;obtain⟨v',e3,rv⟩:=Ye hr e2;rcases hq with hq|hq
   .exact .inl ⟨p,ys,i,v',rfl,rfl,by rw[hK];exact hq,e3,w.here R rv⟩
   .exact .inr (.inl ⟨p,ys,i,v',rfl,rfl,by rw[hK];exact hq,e3,w.here R rv⟩)
  have go:(match (dD h x).bind λxs=>dF xs i with
   |some v=>Res.ok v h
   |none=>Res.bad)=yS x (.int i) h->Gp X.K x' (.int i) H Q:=λe=>by
    rw[<- e]at w;cases s:dD h x with
    |none=>rw[s]at w;exact w.elim|some xs=>
     rw[s]at w;simp only[Option.bind_some]at w;cases q:dF xs i with
     |none=>rw[q]at w;exact w.elim|some v=>rw[q]at w;exact seqc xs v s q w
  cases x with
  |str z=>
   cases rx;simp only[yS]at w;by_cases hz:z.length<=sizeLine
   .rw[if_pos hz]at w;cases q:dF z.cps.toList i with
    |none=>rw[q]at w;exact w.elim|some c=>rw[q]at w;exact .inr (.inr ⟨z,i,c,rfl,rfl,hz,q,w.here R (.str _)⟩)
   .rw[if_neg hz]at w;exact w.elim
  |aC=>exact go rfl|bl b=>exact go rfl|int j=>exact go rfl|tup xs=>exact go rfl|ref n=>exact go rfl|kC n=>exact go rfl
 |_=>exact w.elim
include hK in
theorem JU(hu:X.A.units+1<cLine):bZ X T E (compareOp .In) (jZ false):=by
 obtain⟨r0,p0,q0⟩:=(JV hK:bZ X T E (compareOp .In) (pX false));refine⟨_,p0.or (IU hu),λZ h H x y x' y' Q R rx ry w=>?_⟩;unfold jZ at w;cases d:dG h y with
 |none=>simp only[d]at w;exact .inl (q0 Z h H _ _ _ _ Q R rx ry w)|some kvs=>
  simp only[d]at w;cases k:dP x with
  |none=>simp only[k]at w;exact w.elim|some k'=>simp only[k]at w;obtain⟨n,a,us,rfl,_,_,rfl,g,r⟩:=sT R ry d;refine .inr ⟨a,_,rfl,(oM rx k)▸gH.k g,?_⟩;rw[Vf r];exact W.here w R (.bl _)
include hK in
theorem KG(hu:X.A.units+1<cLine):bZ X T E (compareOp .NotIn) (jZ true):=by
 obtain⟨r0,p0,q0⟩:=(KH hK:bZ X T E (compareOp .NotIn) (pX true));refine⟨_,p0.or (JE hu),λZ h H x y x' y' Q R rx ry w=>?_⟩;unfold jZ at w;cases d:dG h y with
 |none=>simp only[d]at w;exact .inl (q0 Z h H _ _ _ _ Q R rx ry w)|some kvs=>
  simp only[d]at w;cases k:dP x with
  |none=>simp only[k]at w;exact w.elim|some k'=>simp only[k]at w;obtain⟨n,a,us,rfl,_,_,rfl,g,r⟩:=sT R ry d;refine .inr ⟨a,_,rfl,(oM rx k)▸gH.k g,?_⟩;rw[Vf r];exact W.here w R (.bl _)
include hK in
theorem GB(hu:X.A.units+1<cLine):je X T E pY:=by
 obtain⟨r0,p0,q0⟩:=(GC hK:je X T E yS);refine⟨_,p0.or (FW hu),λZ h H x y x' y' Q R rx ry w=>?_⟩;unfold pY at w;cases d:dG h x with
 |none=>
  simp only[d]at w;unfold kg at w;cases d2:vS h x with
  |none=>simp only[d2]at w;exact .inl (q0 Z h H _ _ _ _ Q R rx ry w)|some kvs=>
   simp only[d2]at w;cases k:dP y with
   |none=>simp only[k,Option.bind_none]at w;exact w.elim|some k'=>
    simp only[k,Option.bind_some]at w;cases l:bU kvs k' with
    |none=>simp only[l]at w;exact w.elim|some v=>simp only[l]at w;obtain⟨a,us,rfl,g,r⟩:=AF R rx d2;obtain⟨y1,l2,ry2⟩:=(xW (k:=k') r).1 v l;refine .inr ⟨a,y1,rfl,?_,W.here w R ry2⟩;rw[oM ry k,<- l2];exact .inl ⟨us,k',g,rfl,rfl⟩
 |some kvs=>
  simp only[d]at w;cases k:dP y with
  |none=>simp only[k,Option.bind_none]at w;exact w.elim|some k'=>
   simp only[k,Option.bind_some]at w;cases l:bU kvs k' with
   |none=>simp only[l]at w;exact w.elim|some v=>simp only[l]at w;obtain⟨n,a,us,rfl,_,_,rfl,g,r⟩:=sT R rx d;obtain⟨y1,l2,ry2⟩:=(xW (k:=k') r).1 v l;refine .inr ⟨a,y1,rfl,?_,W.here w R ry2⟩;rw[oM ry k,<- l2];exact gH.k g
def UG(K:W.Frag):R2:=λx y H Q=>∃a b ys,x = .ref a/\y = .ref b/\cU K H a []/\cU K H b ys/\Q (.ref b) H
theorem IM:bJ X (binaryOp .Add) (UG X.K):=by
 intro pins s U H x y v u Q I rx ry h;obtain⟨a,b,ys,rfl,rfl,ha,hb,q⟩:=h;cases rx;cases ry;obtain⟨its,r1,p1,_⟩:=I.tuple ha;obtain⟨its2,r2,p2,_⟩:=I.tuple hb;cases r1;obtain⟨⟨cls,dd,data,sl⟩,ho,hc,n,hd⟩:=id p1;obtain⟨⟨cls2,dd2,data2,sl2⟩,ho2,hc2,n2,hd2⟩:=id p2;simp only at hc hd hc2 hd2;subst hc hd hc2 hd2;exact concat_meets ⟨_,ho,rfl⟩ ⟨_,ho2,rfl⟩ noFill_tuple_add seq_tuple_add PySem.F.slot_tuple_add PySem.F.entry_tuple_add (PySem.F.args_tuple_add_2 _ _)
  (tuple_addW0 a b _ _ n n2 dd dd2 sl sl2 (by simp)) ⟨ho,ho2,⟨.ref b,H,I,rfl,q⟩⟩
include hK in
theorem JN:bZ X T E (binaryOp .Add) fZ:=by
 refine⟨_,IH.or (II.or (IL.or (IM.or IK))),λZ h H x y x' y' Q R rx ry w=>?_⟩;cases x with
 |int i=>
  cases y with
  |int j=>cases rx;cases ry;exact .inl ⟨i,j,rfl,rfl,W.here w R (.int _)⟩|_=>exact w.elim
 |str i=>
  cases y with
  |str j=>cases rx;cases ry;obtain⟨hz,w⟩:=wA w;exact .inr (.inl ⟨i,j,rfl,rfl,hz,W.here w R (.str _)⟩)
  |_=>exact w.elim
 |tup xs=>
  cases y with
  |tup ys=>
   obtain⟨h2,w⟩:=wA w;cases rx with
   |@tup a _ bC hq hr=>
    cases ry with
    |@tup b _ ys' hq2 hr2=>
     have l1:=hr.length;have l2:=hr2.length;by_cases h1:xs.length=0
     .have e0:xs=[]:=List.eq_nil_of_length_eq_zero h1;subst e0;have e0:bC=[]:=List.eq_nil_of_length_eq_zero l1.symm;subst e0;exact .inr (.inr (.inr (.inl ⟨a,b,ys',rfl,rfl,by rw[hK];exact hq,by rw[hK];exact hq2,W.here w R (.tup hq2 hr2)⟩)))
     refine .inr (.inr (.inl ⟨a,b,bC,ys',rfl,rfl,by rw[hK];exact hq,by rw[hK];exact hq2,λz=>?_,by omega,λz=>?_,λz p hp=>?_⟩))
     .rw[z]at l1;exact h1 l1
     .subst z;have e0:ys=[]:=by cases ys with|nil=>rfl|cons _ _=>cases l2
      subst e0;rw[List.append_nil]at w;exact W.here w R (.tup hq hr)
     .refine W.ok w (.fS hp) (R.keep hp) (.tup (.of dN) ?_);exact((hr.append hr2).ext (.fS hp))
  |_=>exact w.elim
 |ref n=>
  cases y with
  |ref m=>
   cases rx with
   |@ref _ a q=>
    cases ry with
    |@ref _ b q2=>
     have go:∀xs ys,h.ob n=some (.lst true xs)->h.ob m=some (.lst true ys)->Um (.ref a) (.ref b) H Q:=λxs ys e1 e2=>by
      simp only[fZ,e1,e2]at w;by_cases hz:xs.length+ys.length<=sizeLine
      .rw[if_pos hz]at w;obtain⟨bC,g1,r1⟩:=R.obj n _ a e1 q;obtain⟨ys',g2,r2⟩:=R.obj m _ b e2 q2;have l1:=r1.length;have l2:=r2.length;refine⟨a,b,bC,ys',rfl,rfl,g1,g2,by omega,λp hp=>?_⟩;have ho:iS T (Z++[p]) (aJ H p (.lst (bC++ys'))) p (.lst true (xs++ys)):=⟨_,dN,(r1.append r2).ext ⟨λk z e=>by have hl:=(List.getElem?_eq_some_iff.mp e).1;rw[List.getElem?_append_left hl];exact e,(Ext.fS (Z:=Z) hp).tup,(Ext.fS (Z:=Z) hp).bH⟩⟩
       obtain⟨R',ex⟩:=R.alloc hp ho;exact W.ok w ex R' (.ref (by rw[<- R.len];simp))
      .rw[if_neg hz]at w;exact w.elim
     refine .inr (.inr (.inr (.inr ?_)));cases e1:h.ob n with
     |none=>simp only[fZ,e1]at w;exact w.elim|some u=>
      cases e2:h.ob m with
      |none=>simp only[fZ,e1,e2]at w;cases u with
       |lst k xs=>cases k<;>exact w.elim|_=>exact w.elim
      |some v=>
       cases u with
       |lst k xs=>
        cases v with
        |lst k2 ys=>
         cases k with
         |true=>
          cases k2 with
          |true=>exact go xs ys e1 e2|false=>simp only[fZ,e1,e2]at w;exact w.elim
         |false=>simp only[fZ,e1,e2]at w;exact w.elim
        |aI _=>simp only[fZ,e1,e2]at w;cases k<;>exact w.elim|bM _=>simp only[fZ,e1,e2]at w;cases k<;>exact w.elim|ins _ _=>simp only[fZ,e1,e2]at w;cases k<;>exact w.elim|xo _=>simp only[fZ,e1,e2]at w;cases k<;>exact w.elim
       |aI _=>simp only[fZ,e1,e2]at w;exact w.elim|bM _=>simp only[fZ,e1,e2]at w;exact w.elim|ins _ _=>simp only[fZ,e1,e2]at w;exact w.elim|xo _=>simp only[fZ,e1,e2]at w;exact w.elim
  |_=>exact w.elim
 |_=>exact w.elim
theorem Wv(hK:X.K=T.K){Z:List Addr}{h:AH}{H:Hp}{x:AV}{x':V}{b:Bool}(R:aQ T Z h H)(r:aG T Z H x x')(e:az h x=some b):vN X.K x' H b:=by
 have emp:∀{xs:List AV} {ys:List V},aO T Z H xs ys->(!xs.isEmpty) = !ys.isEmpty:=λr=>by cases r<;>rfl
 cases r with
 |aC=>cases e;rfl|bl c=>cases e;rfl|int i=>cases e;rfl|str y=>
  simp only[az]at e;by_cases hy:y.length<=sizeLine
  .rw[if_pos hy]at e;cases e;exact⟨hy,rfl⟩
  .rw[if_neg hy]at e;cases e
 |tup hq hr=>cases e;exact .inr (.inl ⟨_,by rw[hK];exact hq,emp hr⟩)|@ref n a q=>
  simp only[az]at e;cases o:h.ob n with
  |none=>rw[o]at e;cases e|some u=>
   rw[o]at e;cases u with
   |lst m ys=>cases e;obtain⟨zs,h1,h2⟩:=iX R o q;exact .inl ⟨zs,by rw[hK];exact h1,emp h2⟩
   |aI kvs=>
    cases e;obtain⟨ks,ys,h1,h2,h3⟩:=R.obj n _ a o q;refine .inr (.inr ⟨_,h1,?_⟩);subst h2;cases kvs with
    |nil=>rfl|cons p r=>cases h3;rfl
   |bM _=>cases e|ins c fs=>cases e|xo c=>cases e
 |kC q=>cases e
end
def qA(i:Nat):aA->M AV:=λU h=>match U[i]? with
 |some (some v)=>.ok v h
 |_=>.bad
def Ib(m k:M AV):M AV:=m.bind λx=>(bK x).bind λb=>if b=true then k else M.ret x
def Pd(m k:M AV):M AV:=m.bind λx=>(bK x).bind λb=>if b=true then M.ret x else k
def Ia(m k:M Bool):M Bool:=m.bind λb=>if b=true then k else M.ret false
def Pc(m k:M Bool):M Bool:=m.bind λb=>if b=true then M.ret true else k
def lq{α:Type}(c:M Bool)(a b:M α):M α:=c.bind λt=>if t=true then a else b
def jk:AV->Option Bool
 |.bl b=>some b
 |_=>none
def yN(g g':AV->AV->M AV)(a b c:M AV):M AV:=a.bind λx=>b.bind λy=>(g x y).bind λz h=>match jk z with
 |some true=>(c.bind λw=>g' y w) h
 |some false=>.ok (.bl false) h
 |none=>.bad
def Lf(a:M AV)(r:M (List AV)):M (List AV):=a.bind λx=>r.bind λxs=>M.ret (x::xs)
def Hh(r:M (List AV)):M AV:=r.bind λxs=>M.guard (xs.length<=sizeLine) (M.ret (.tup xs))
def eW(xs:List AV):M AV:=λh=>.ok (.ref h.nx) (h.new (.lst true xs))
def wK(r:M (List AV)):M AV:=r.bind λxs=>M.guard (xs.length<=sizeLine) (eW xs)
def qG(g:AV->AV->M AV)(a b:M AV):M AV:=a.bind λx=>b.bind λy=>g x y
def aT:Expr->Bool
 |.Name ..=>true | .Constant ..=>true | .BinOp ..=>true | .UnaryOp ..=>true | .Compare ..=>true | .BoolOp ..=>true | .IfExp ..=>true
 |.Tuple ..=>true | .List ..=>true | .Subscript ..=>true | .Call ..=>true | .Attribute ..=>true | .ListComp ..=>true
 |.Dict ..=>true
 |_=>false
def oH:Expr->Bool
 |.ListComp ..=>true
 |_=>false
def dy:Expr->Bool
 |.Name ..=>true | .Constant ..=>true | .BinOp ..=>true | .Subscript ..=>true | .Call ..=>true | .Attribute ..=>true | .Tuple ..=>true | .List ..=>true | .ListComp ..=>true
 |.Dict ..=>true
 |_=>false
theorem cQ{e:Expr}{es:List Expr}{env:Env}(h:aT e=true):starEach (e::es) env=(false,eval e env)::starEach es env:=by cases e<;>first|rfl|cases h
theorem WV{e:Expr}(h:aT e=true):xl e:=λo i=>by cases e<;>first|rfl|cases h
theorem vv{e:Expr}{t:Option Expr}{n:Nat}{env:Env}(h:aT e=true)(hl:oH e=false):swapsWith e t n env=pure false:=by cases e<;>first|rfl|(cases hl;done)|(cases h;done)
theorem Gw{e:Expr}{env:Env}{x:Value}(h:aT e=true):foldedSetIterable e env x=pure x:=by cases e<;>first|rfl|cases h
theorem vt{e:Expr}{op:CmpOp}(h:aT e=true):behindInMarks op e=false:=by cases e<;>first|rfl|cases h
theorem MQ{e:Expr}{env:Env}(h:dy e=true):∀whole,isTrue e env whole=(do let v <- whole;standAt e.pos;holding [v] (truthy v)):=λ_=>by cases e<;>first|rfl|cases h
theorem lG{es:List Expr}{pos:Pos}{env:Env}(h:es.all aT=true):(backTo pos (starEach es env)).any (·.1)=false:=by
 induction es with
 |nil=>rfl|cons e es ih=>rw[List.all_cons,Bool.and_eq_true]at h;rw[cQ h.1];have:=ih h.2;simp only[backTo,List.map_cons,List.any_cons]at this ⊢;rw[Bool.false_or];exact this
section
variable {X:Cx}{T:Tab}{E:XK}{a b c e:Expr}{es:List Expr}{ma mb mc m:aA->M AV}{mr:aA->M (List AV)}{mt mu:aA->M Bool}{pos:Pos}
theorem Qa{i:Nat} {x:Str} (hN:X.N[i]?=some x) (hv:br X.env.scope x) (hd:(x==("__debug__":Str))=false) (hcd:(x==("__classdict__":Str))=false):QE X T E (.Name x pos) (qA i):=by
 refine⟨_,LW hN hv hd hcd,λZ U U' h H Q R S w=>?_⟩;unfold qA at w;cases q:U[i]? with
 |none=>rw[q]at w;exact w.elim|some o=>
  cases o with
  |none=>rw[q]at w;exact w.elim|some v=>rw[q]at w;obtain⟨v',e1,r⟩:=S.2 i v q;exact⟨v',e1,w.here R r⟩
theorem jD{v:AV}{v':V}(hp:PE X e (tC v'))(r:∀Z H,aG T Z H v v'):QE X T E e (λ_=>M.ret v):=
 ⟨_,hp,λZ _ _ h H Q R _ w=>W.here w R (r Z H)⟩
theorem er:QE X T E e (λ_=>M.bad):=⟨λ_ _ _=>False,λ_ _ _ _ _ _ h=>h.elim,λ_ _ _ _ _ _ _ _ w=>w⟩
theorem Gm:QT X T E e (λ_=>M.bad):=⟨λ_ _ _=>False,λ_ _ _ _ _ _ h=>h.elim,λ_ _ _ _ _ _ _ _ w=>w⟩
theorem qW{α β:Type}{Rp:Rl α β}{ta tb:TE}(ra:∀Z U U' h H Q,aQ T Z h H->bA T Z H U U'->W T (aG T) (ma U h) Z H Q E->ta U' H Q)(rb:∀Z U U' h H Q,aQ T Z h H->bA T Z H U U'->W T (aG T) (mb U h) Z H Q E->tb U' H Q)
  {Z:List Addr} {U:aA} {U':L2.St} {h:AH} {H:Hp} {g:AV->AV->M α} {Q:β->Hp->Prop} {F:V->V->Hp->Prop} (R:aQ T Z h H) (S:bA T Z H U U') (w:W T Rp ((ma U).bind (λx=>(mb U).bind λy=>g x y) h) Z H Q E)
  (f:∀Z2 x y x' y' h2 H2,Ext Z H Z2 H2->aQ T Z2 h2 H2->aG T Z2 H2 x x'->aG T Z2 H2 y y'->bA T Z2 H2 U U'->W T Rp (g x y h2) Z2 H2 Q E->F x' y' H2):ta U' H λx H1=>tb U' H1 λy H2=>F x y H2:=
 ra Z U U' h H _ R S (W.bind w λZ1 x x' h1 H1 e1 R1 q1 w1=>rb Z1 U U' h1 H1 _ R1 (S.ext e1) (W.bind w1 λZ2 y y' h2 H2 e2 R2 q2 w2=>f Z2 x y x' y' h2 H2 (e1.trans e2) R2 (q1.ext e2) q2 ((S.ext e1).ext e2) w2))
theorem OW{op:Operator}{g:AV->AV->M AV}(ho:bZ X T E (binaryOp op) g)(ha:QE X T E a ma)(hb:QE X T E b mb):QE X T E (.BinOp a op b pos) (λU=>qG g (ma U) (mb U)):=by obtain⟨r,hr,hg⟩:=ho;obtain⟨ta,pa,ra⟩:=ha;obtain⟨tb,pb,rb⟩:=hb;exact⟨_,LP hr pa pb,λZ U U' h H Q R S w=>qW ra rb R S w λZ2 x y x' y' h2 H2 _ R2 q1 q2 _ w2=>hg Z2 h2 H2 x y x' y' Q R2 q1 q2 w2⟩
theorem OO{g:AV->AV->M AV}(ho:je X T E g)(ha:QE X T E a ma)(hb:QE X T E b mb)(hs:xl b):QE X T E (.Subscript a b pos) (λU=>qG g (ma U) (mb U)):=by obtain⟨r,hr,hg⟩:=ho;obtain⟨ta,pa,ra⟩:=ha;obtain⟨tb,pb,rb⟩:=hb;exact⟨_,LG hr pa pb hs,λZ U U' h H Q R S w=>qW ra rb R S w λZ2 x y x' y' h2 H2 _ R2 q1 q2 _ w2=>hg Z2 h2 H2 x y x' y' Q R2 q1 q2 w2⟩
theorem OH{op:CmpOp}{g:AV->AV->M AV}(ho:bZ X T E (compareOp op) g)(ha:QE X T E a ma)(hb:QE X T E b mb)(hm:behindInMarks op b=false):QE X T E (.Compare a [op] [b] pos) (λU=>qG g (ma U) (mb U)):=by obtain⟨r,hr,hg⟩:=ho;obtain⟨ta,pa,ra⟩:=ha;obtain⟨tb,pb,rb⟩:=hb;exact⟨_,LA hr pa pb hm,λZ U U' h H Q R S w=>qW ra rb R S w λZ2 x y x' y' h2 H2 _ R2 q1 q2 _ w2=>hg Z2 h2 H2 x y x' y' Q R2 q1 q2 w2⟩
theorem PF{op:PySem.UnaryOp}{g:AV->M AV}(ho:Hy X T E (unaryOp op) g)(ha:QE X T E a ma):QE X T E (.UnaryOp op a pos) (λU=>(ma U).bind g):=by obtain⟨r,hr,hg⟩:=ho;obtain⟨ta,pa,ra⟩:=ha;exact⟨_,LV hr pa,λZ U U' h H Q R S w=>ra Z U U' h H _ R S (W.bind w λZ1 x x' h1 H1 e1 R1 q1 w1=>hg Z1 h1 H1 x x' Q R1 q1 w1)⟩
theorem Ad(hK:X.K=T.K){γ δ:Type}{Rq:Rl γ δ}{Z:List Addr}{h:AH}{H:Hp}{x:AV}{x':V}{k:Bool->M γ}{Q:δ->Hp->Prop}(R:aQ T Z h H)(r:aG T Z H x x')(w:W T Rq ((bK x).bind k h) Z H Q E) :
  ∃d,vN X.K x' H d/\W T Rq (k d h) Z H Q E:=by
 unfold M.bind bK at w;cases e:az h x with
 |none=>rw[e]at w;exact w.elim|some d=>rw[e]at w;exact⟨d,Wv hK R r e,w⟩
theorem OK(hc:QT X T E c mt)(ha:QE X T E a ma)(hb:QE X T E b mb):QE X T E (.IfExp c a b pos) (λU=>lq (mt U) (ma U) (mb U)):=by
 obtain⟨tc,pc,rc⟩:=hc;obtain⟨ta,pa,ra⟩:=ha;obtain⟨tb,pb,rb⟩:=hb;refine⟨_,LF pc pa pb,λZ U U' h H Q R S w=>rc Z U U' h H _ R S (W.bind w λZ1 d d' h1 H1 e1 R1 q1 w1=>?_)⟩;have q1':d=d':=q1;subst q1';cases d with
 |true=>exact ra Z1 U U' h1 H1 Q R1 (S.ext e1) w1|false=>exact rb Z1 U U' h1 H1 Q R1 (S.ext e1) w1
def YD(K:W.Frag)(ta tb:TE):TE:=λU H Q=>ta U H λx H1=>∃c,vN K x H1 c/\if c=true then tb U H1 Q else Q x H1
def YT(K:W.Frag)(ta tb:TE):TE:=λU H Q=>ta U H λx H1=>∃c,vN K x H1 c/\if c=true then Q x H1 else tb U H1 Q
def YR(K:W.Frag)(ta:TE):TE:=λU H Q=>ta U H λx H1=>∃c,vN K x H1 c/\Q (.bl (!c)) H1
variable {ta tb:TE}{rest:List Expr}
theorem KR(ha:PE X a ta)(hb:PE X (.BoolOp .And (b::rest) pos) tb):PE X (.BoolOp .And (a::b::rest) pos) (YD X.K ta tb):=by
 intro pins s U H Q I h;refine BoolOp_and (aN (ha pins s U H _ I h) λv s1 ⟨x,H1,I1,r1,c,ht,q1⟩=>?_);refine aN (wo pins s1 U H1 x v (λd H2=>d=c/\H2=H1) I1 r1 ⟨c,ht,rfl,rfl⟩) λd s2 ⟨H2,I2,e1,e2⟩=>?_;subst e1;subst e2;cases d with
 |true=>exact hb pins s2 U H2 Q I2 q1|false=>exact⟨x,H2,I2,r1,q1⟩
theorem LQ(ha:PE X a ta)(hb:PE X (.BoolOp .Or (b::rest) pos) tb):PE X (.BoolOp .Or (a::b::rest) pos) (YT X.K ta tb):=by
 intro pins s U H Q I h;refine BoolOp_or (aN (ha pins s U H _ I h) λv s1 ⟨x,H1,I1,r1,c,ht,q1⟩=>?_);refine aN (wo pins s1 U H1 x v (λd H2=>d=c/\H2=H1) I1 r1 ⟨c,ht,rfl,rfl⟩) λd s2 ⟨H2,I2,e1,e2⟩=>?_;subst e1;subst e2;cases d with
 |false=>exact hb pins s2 U H2 Q I2 q1|true=>exact⟨x,H2,I2,r1,q1⟩
theorem LN(ha:PE X a ta):PE X (.UnaryOp .Not a pos) (YR X.K ta):=by intro pins s U H Q I h;refine UnaryOp_ (aN (ha pins s U H _ I h) λv s1 ⟨x,H1,I1,r1,c,ht,q1⟩=>?_);refine not_of (aN (wo pins s1 U H1 x v (λd H2=>d=c/\H2=H1) I1 r1 ⟨c,ht,rfl,rfl⟩) λd s2 ⟨H2,I2,e1,e2⟩=>?_);subst e1;subst e2;exact⟨.bl (!d),H2,I2,rfl,q1⟩
theorem Py{op:PySem.BoolOp}(ha:QE X T E a ma):QE X T E (.BoolOp op [a] pos) ma:=let ⟨t,p,r⟩:=ha;⟨t,LO p,r⟩
theorem OA(hK:X.K=T.K)(ha:QE X T E a ma)(hb:QE X T E (.BoolOp .And (b::rest) pos) mb):QE X T E (.BoolOp .And (a::b::rest) pos) (λU=>Ib (ma U) (mb U)):=by
 obtain⟨ta,pa,ra⟩:=ha;obtain⟨tb,pb,rb⟩:=hb;refine⟨_,KR pa pb,λZ U U' h H Q R S w=>ra Z U U' h H _ R S (W.bind w λZ1 x x' h1 H1 e1 R1 q1 w1=>?_)⟩;obtain⟨d,td,w2⟩:=Ad hK R1 q1 w1;refine⟨d,td,?_⟩;cases d with
 |true=>exact rb Z1 U U' h1 H1 Q R1 (S.ext e1) w2|false=>exact W.here w2 R1 q1
theorem OX(hK:X.K=T.K)(ha:QE X T E a ma)(hb:QE X T E (.BoolOp .Or (b::rest) pos) mb):QE X T E (.BoolOp .Or (a::b::rest) pos) (λU=>Pd (ma U) (mb U)):=by
 obtain⟨ta,pa,ra⟩:=ha;obtain⟨tb,pb,rb⟩:=hb;refine⟨_,LQ pa pb,λZ U U' h H Q R S w=>ra Z U U' h H _ R S (W.bind w λZ1 x x' h1 H1 e1 R1 q1 w1=>?_)⟩;obtain⟨d,td,w2⟩:=Ad hK R1 q1 w1;refine⟨d,td,?_⟩;cases d with
 |false=>exact rb Z1 U U' h1 H1 Q R1 (S.ext e1) w2|true=>exact W.here w2 R1 q1
theorem OV(hK:X.K=T.K)(ha:QE X T E a ma):QE X T E (.UnaryOp .Not a pos) (λU=>(ma U).bind λx=>(bK x).bind λb=>M.ret (.bl (!b))):=by obtain⟨ta,pa,ra⟩:=ha;refine⟨_,LN pa,λZ U U' h H Q R S w=>ra Z U U' h H _ R S (W.bind w λZ1 x x' h1 H1 e1 R1 q1 w1=>?_)⟩;obtain⟨d,td,w2⟩:=Ad hK R1 q1 w1;exact⟨d,td,W.here w2 R1 (.bl _)⟩
theorem Ku{r r':R2}{g g':AV->AV->M AV}{tc:TE}
  (hg:∀Z h H x y x' y' Q,aQ T Z h H->aG T Z H x x'->aG T Z H y y'->W T (aG T) (g x y h) Z H Q E->r x' y' H Q)
  (hg':∀Z h H x y x' y' Q,aQ T Z h H->aG T Z H x x'->aG T Z H y y'->W T (aG T) (g' x y h) Z H Q E->r' x' y' H Q)
  (ra:∀Z U U' h H Q,aQ T Z h H->bA T Z H U U'->W T (aG T) (ma U h) Z H Q E->ta U' H Q) (rb:∀Z U U' h H Q,aQ T Z h H->bA T Z H U U'->W T (aG T) (mb U h) Z H Q E->tb U' H Q)
  (rc:∀Z U U' h H Q,aQ T Z h H->bA T Z H U U'->W T (aG T) (mc U h) Z H Q E->tc U' H Q) {Z:List Addr} {U:aA} {U':L2.St} {h:AH} {H:Hp} {Q:VK} (R:aQ T Z h H) (S:bA T Z H U U')
  (w:W T (aG T) (yN g g' (ma U) (mb U) (mc U) h) Z H Q E):Ha r r' ta tb tc U' H Q:=by
 refine qW ra rb R S w λZ2 x y x' y' h2 H2 _ R2 q1 q2 S2 w2=>?_;refine hg Z2 h2 H2 x y x' y' _ R2 q1 q2 (W.bind w2 λZ3 z z' h3 H3 e3 R3 q3 w3=>?_);have w4:W T (aG T) (match jk z with
  |some true=>((mc U).bind λw=>g' y w) h3
  |some false=>Res.ok (.bl false) h3
  |none=>.bad) Z3 H3 Q E:=w3
 cases z with
 |bl d=>
  cases q3;refine⟨d,rfl,?_⟩;cases d with
  |true=>exact rc Z3 U U' h3 H3 _ R3 (S2.ext e3) (W.bind (k:=λw=>g' y w) w4 λZ4 u u' h4 H4 e4 R4 q4 w5=>hg' Z4 h4 H4 y u y' u' Q R4 ((q2.ext e3).ext e4) q4 w5)|false=>exact W.here w4 R3 (.bl _)
 |_=>exact w4.elim
theorem OF{op op':CmpOp}{g g':AV->AV->M AV}(ho:bZ X T E (compareOp op) g)(ho':bZ X T E (compareOp op') g')(ha:QE X T E a ma)(hb:QE X T E b mb)(hc:QE X T E c mc)
  (hm:lastMarks [op,op'] [b,c]=false):QE X T E (.Compare a [op,op'] [b,c] pos) (λU=>yN g g' (ma U) (mb U) (mc U)):=by
 obtain⟨r,hr,hg⟩:=ho;obtain⟨r',hr',hg'⟩:=ho';obtain⟨ta,pa,ra⟩:=ha;obtain⟨tb,pb,rb⟩:=hb;obtain⟨tc,pc,rc⟩:=hc;exact⟨_,KZ hr hr' pa pb pc hm,λZ U U' h H Q R S w=>Ku hg hg' ra rb rc R S w⟩
theorem jS(hK:X.K=T.K)(ha:QE X T E a ma)(he:dy a=true):QT X T E a (λU=>(ma U).bind bK):=by
 obtain⟨ta,pa,ra⟩:=ha;refine⟨_,NQ pa (MQ he),λZ U U' h H Q R S w=>ra Z U U' h H _ R S (W.bind w λZ1 x x' h1 H1 e1 R1 q1 w1=>?_)⟩;unfold bK at w1;cases e:az h1 x with
 |none=>rw[e]at w1;exact w1.elim|some d=>rw[e]at w1;exact⟨d,Wv hK R1 q1 e,w1.here R1 rfl⟩
theorem Kg{Z:List Addr}{h:AH}{H:Hp}{z:AV}{z':V}{Q:Bool->Hp->Prop}(R:aQ T Z h H)(r:aG T Z H z z')(w:W T RB (match jk z with
  |some d=>Res.ok d h
  |none=>.bad) Z H Q E):∃k,z' = .bl k/\Q k H:=by
 cases z with
 |bl d=>cases r;exact⟨d,rfl,W.here w R rfl⟩|_=>exact w.elim
def kb(z:AV):M Bool:=λh=>match jk z with
 |some d=>.ok d h
 |none=>.bad
theorem TR{op:CmpOp}{g:AV->AV->M AV}(ho:bZ X T E (compareOp op) g)(ha:QE X T E a ma)(hb:QE X T E b mb)(hm:behindInMarks op b=false):QT X T E (.Compare a [op] [b] pos) (λU=>(qG g (ma U) (mb U)).bind kb):=by obtain⟨r,hr,hg⟩:=ho;obtain⟨ta,pa,ra⟩:=ha;obtain⟨tb,pb,rb⟩:=hb;refine⟨_,NO hr pa pb hm,λZ U U' h H Q R S w=>?_⟩;have w':W T (aG T) (qG g (ma U) (mb U) h) Z H (λx H'=>∃k,x = .bl k/\Q k H') E:=W.bind w λZ1 z z' h1 H1 e1 R1 q1 w1=>Kg R1 q1 w1;exact qW ra rb R S w' λZ2 x y x' y' h2 H2 _ R2 q1 q2 _ w2=>hg Z2 h2 H2 x y x' y' _ R2 q1 q2 w2
theorem TQ{op op':CmpOp}{g g':AV->AV->M AV}(ho:bZ X T E (compareOp op) g)(ho':bZ X T E (compareOp op') g')(ha:QE X T E a ma)(hb:QE X T E b mb)(hc:QE X T E c mc)
  (hm:lastMarks [op,op'] [b,c]=false):QT X T E (.Compare a [op,op'] [b,c] pos) (λU=>(yN g g' (ma U) (mb U) (mc U)).bind kb):=by
 obtain⟨r,hr,hg⟩:=ho;obtain⟨r',hr',hg'⟩:=ho';obtain⟨ta,pa,ra⟩:=ha;obtain⟨tb,pb,rb⟩:=hb;obtain⟨tc,pc,rc⟩:=hc;refine⟨_,NN hr hr' pa pb pc hm,λZ U U' h H Q R S w=>?_⟩;have w':W T (aG T) (yN g g' (ma U) (mb U) (mc U) h) Z H (λx H'=>∃k,x = .bl k/\Q k H') E:=W.bind w λZ1 z z' h1 H1 e1 R1 q1 w1=>Kg R1 q1 w1;exact Ku hg hg' ra rb rc R S w'
theorem TU(ha:QT X T E a mt):QT X T E (.UnaryOp .Not a pos) (λU=>(mt U).bind λb=>M.ret (!b)):=by obtain⟨ta,pa,ra⟩:=ha;refine⟨_,NP pa,λZ U U' h H Q R S w=>ra Z U U' h H _ R S (W.bind w λZ1 x x' h1 H1 e1 R1 q1 w1=>?_)⟩;have q1':x=x':=q1;subst q1';exact W.here w1 R1 rfl
theorem TX(ha:QT X T E a mt):QW X T E (.BoolOp .And [a] pos) mt:=let ⟨t,p,r⟩:=ha;⟨t,NV p,r⟩
theorem TZ(ha:QT X T E a mt):QW X T E (.BoolOp .Or [a] pos) mt:=let ⟨t,p,r⟩:=ha;⟨t,NX p,r⟩
theorem TV(ha:QT X T E a mt)(hb:QW X T E (.BoolOp .And (b::rest) pos) mu):QW X T E (.BoolOp .And (a::b::rest) pos) (λU=>Ia (mt U) (mu U)):=by
 obtain⟨ta,pa,ra⟩:=ha;obtain⟨tb,pb,rb⟩:=hb;refine⟨_,NU pa pb,λZ U U' h H Q R S w=>ra Z U U' h H _ R S (W.bind w λZ1 x x' h1 H1 e1 R1 q1 w1=>?_)⟩;have q1':x=x':=q1;subst q1';cases x with
 |true=>exact rb Z1 U U' h1 H1 Q R1 (S.ext e1) w1|false=>exact W.here w1 R1 rfl
theorem TY(ha:QT X T E a mt)(hb:QW X T E (.BoolOp .Or (b::rest) pos) mu):QW X T E (.BoolOp .Or (a::b::rest) pos) (λU=>Pc (mt U) (mu U)):=by
 obtain⟨ta,pa,ra⟩:=ha;obtain⟨tb,pb,rb⟩:=hb;refine⟨_,NW pa pb,λZ U U' h H Q R S w=>ra Z U U' h H _ R S (W.bind w λZ1 x x' h1 H1 e1 R1 q1 w1=>?_)⟩;have q1':x=x':=q1;subst q1';cases x with
 |true=>exact W.here w1 R1 rfl|false=>exact rb Z1 U U' h1 H1 Q R1 (S.ext e1) w1
theorem NZ:QA X T E [] (λ_=>M.ret []):=⟨_,qH,λZ _ _ h H Q R _ w=>W.here w R .nil⟩
theorem NY(ha:QE X T E e m)(hr:QA X T E es mr)(hs:aT e=true):QA X T E (e::es) (λU=>Lf (m U) (mr U)):=by obtain⟨ta,pa,ra⟩:=ha;obtain⟨tr,pr,rr⟩:=hr;refine⟨_,kG pa pr (cQ hs),λZ U U' h H Q R S w=>ra Z U U' h H _ R S (W.bind w λZ1 x x' h1 H1 e1 R1 q1 w1=>?_)⟩;exact rr Z1 U U' h1 H1 _ R1 (S.ext e1) (W.bind w1 λZ2 xs bC h2 H2 e2 R2 q2 w2=>W.here w2 R2 (.cons (q1.ext e2) q2))
theorem MU{Z:List Addr}{p:Addr}{H:Hp}{O:HO}(hp:H p=none):Ext Z H (Z++[p]) (aJ H p O):=⟨λk z e=>by have hl:=(List.getElem?_eq_some_iff.mp e).1;rw[List.getElem?_append_left hl];exact e,(Ext.fS (Z:=Z) hp).tup,(Ext.fS (Z:=Z) hp).bH⟩
theorem tI{Z:List Addr}{h:AH}{H:Hp}{xs:List AV}{bC:List V}{Q:VK}{p:Addr}(R:aQ T Z h H)(r:aO T Z H xs bC)(hp:H p=none)(w:W T (aG T) (eW xs h) Z H Q E):Q (.ref p) (aJ H p (.lst bC)):=by obtain⟨R',ex⟩:=R.alloc (o:=.lst true xs) (O:=.lst bC) hp ⟨_,dN,r.ext (MU hp)⟩;exact W.ok w ex R' (.ref (by rw[<- R.len];simp))
theorem mm{Z:List Addr}{h:AH}{H:Hp}{xs:List AV}{bC:List V}{Q:VK}{p:Addr}(R:aQ T Z h H)(r:aO T Z H xs bC)(hp:H p=none)(w:W T (aG T) (.ok (.tup xs) h) Z H Q E):Q (.ref p) (aJ H p (.tup bC)):=
 W.ok w (.fS hp) (R.keep hp) (.tup (.of dN) (r.ext (.fS hp)))
theorem PD{k:Nat}(h:QA X T E es mr):QE X T E (.Tuple es k pos) (λU=>Hh (mr U)):=by obtain⟨tr,pr,rr⟩:=h;refine⟨_,LU pr,λZ U U' h H Q R S w=>rr Z U U' h H _ R S (W.bind w λZ1 xs bC h1 H1 e1 R1 q1 w1=>?_)⟩;obtain⟨hz,w1⟩:=wA w1;exact⟨by rw[<- q1.length];exact hz,λp hp=>mm R1 q1 hp w1⟩
theorem OP(h:QA X T E es mr):QE X T E (.List es pos) (λU=>wK (mr U)):=by obtain⟨tr,pr,rr⟩:=h;refine⟨_,LH pr,λZ U U' h H Q R S w=>rr Z U U' h H _ R S (W.bind w λZ1 xs bC h1 H1 e1 R1 q1 w1=>?_)⟩;obtain⟨hz,w1⟩:=wA w1;exact⟨by rw[<- q1.length];exact hz,λp hp=>tI R1 q1 hp w1⟩
def hJ(T:Tab)(g:List AV->M AV):Sp:=λvs H Q E=>∃Z h args,aQ T Z h H/\aO T Z H args vs/\W T (aG T) (g args h) Z H Q E
structure Fn(X:Cx)(T:Tab)(E:XK)(x:Str)(g:List AV->M AV):Prop where
 ex:∃(k:Nat) (f:Addr) (fd:FuncData) (ps:List Str),dU X.prog X.w X.K X.mg X.base (cW X.prog X.w) k f fd ps (hJ T g)/\cD (k+1) X.A/\X.mg x=some (.ref f)/\W.keepIn X.K (.ref f)=true/\Binds X.K fd ps []/\lM (cW X.prog X.w) X E
theorem OE{x:Str} {p:Pos} {g:List AV->M AV} (F:Fn X T E x g) (hg:Gl X x) (hd:(x==("__debug__":Str))=false):QE X T E (.Call (.Name x p) [] [] pos) (λ_=>g []):=by obtain⟨k,f,fd,ps,F,hr,hm,hk,hb,hx⟩:=F.ex;exact⟨_,KU F (hr.mono (Nat.le_succ _)) hg hm hk hb .nil hx hd,λZ U U' h H Q R S w=>⟨Z,h,[],R,.nil,w⟩⟩
theorem OD{x:Str} {p:Pos} {g:List AV->M AV} (F:Fn X T E x g) (hg:Gl X x) (ha:QA X T E (e::es) mr) (hs:(e::es).all aT=true) (hd:(x==("__debug__":Str))=false):QE X T E (.Call (.Name x p) (e::es) [] pos) (λU=>(mr U).bind g):=by obtain⟨k,f,fd,ps,F,hr,hm,hk,hb,hx⟩:=F.ex;obtain⟨tr,pr,rr⟩:=ha;rw[List.all_cons,Bool.and_eq_true]at hs;refine⟨_,KS F (hr.mono (Nat.le_succ _)) hg hm hk hb .nil hx pr hd (cQ hs.1) (lG hs.2),λZ U U' h H Q R S w=>rr Z U U' h H _ R S (W.bind w λZ1 xs bC h1 H1 e1 R1 q1 w1=>?_)⟩;rw[List.append_nil];exact⟨Z1,h1,xs,R1,q1,w1⟩
end
inductive Out where
 |nx (U:aA)|ret (v:AV)|brk (U:aA)|cnt (U:aA)
inductive dY where
 |nx (U:L2.St)|ret (v:V)|brk (U:L2.St)|cnt (U:L2.St)
def RO(T:Tab):Rl Out dY:=λZ H a b=>match a,b with
 |.nx U,.nx U'=>bA T Z H U U'
 |.ret v,.ret v'=>aG T Z H v v'
 |.brk U,.brk U'=>bA T Z H U U'
 |.cnt U,.cnt U'=>bA T Z H U U'
 |_,_=>False
def eB(D:Ends):dY->Hp->Prop
 |.nx U=>D.nx U
 |.ret v=>D.rt v
 |.brk U=>D.bk U
 |.cnt U=>D.ct U
def QS(X:Cx)(T:Tab)(E:XK)(st:Stmt)(m:aA->M Out):Prop:=
 ∃t,PS X st t/\∀Z U U' h H D,aQ T Z h H->bA T Z H U U'->W T (RO T) (m U h) Z H (eB D) E->t D U' H
def oA(X:Cx)(T:Tab)(E:XK)(st:List Stmt)(m:aA->M Out):Prop:=
 ∃t,hZ X st t/\∀Z U U' h H D,aQ T Z h H->bA T Z H U U'->W T (RO T) (m U h) Z H (eB D) E->t D U' H
def QG(X:Cx)(T:Tab)(E:XK)(tg:Expr)(g:AV->aA->M aA):Prop:=
 ∃t,PG X tg t/\∀Z v v' U U' h H Q,aQ T Z h H->bA T Z H U U'->aG T Z H v v'->W T (bA T) (g v U h) Z H Q E->t v' U' H Q
def yJ(X:Cx)(T:Tab)(E:XK)(iq:List Expr)(g:List AV->aA->M aA):Prop:=
 ∃t,bp X iq t/\∀Z vs vs' U U' h H Q,aQ T Z h H->bA T Z H U U'->aO T Z H vs vs'->W T (bA T) (g vs U h) Z H Q E->t vs' U' H Q
def Vk(m:M Out)(k:aA->M Out):M Out:=m.bind λo=>match o with
 |.nx U=>k U
 |.ret v=>M.ret (.ret v)
 |.brk U=>M.ret (.brk U)
 |.cnt U=>M.ret (.cnt U)
section
variable {X:Cx}{T:Tab}{E:XK}{a b c e tg:Expr}{es:List Expr}{ma mb mc m:aA->M AV}{mt:aA->M Bool}{ms mk:aA->M Out}{pos:Pos}{st:Stmt}{sts rest:List Stmt}{g:AV->aA->M aA}{gs:List AV->aA->M aA}
theorem dB:QS X T E st (λ_=>M.bad):=⟨_,NC,λ_ _ _ _ _ _ _ _ w=>w⟩
theorem TN:oA X T E [] (λU=>M.ret (.nx U)):=⟨_,nh,λZ U U' h H D R S w=>W.here (b:=dY.nx U') w R S⟩
theorem TM(h1:QS X T E st ms)(h2:oA X T E rest mk):oA X T E (st::rest) (λU=>Vk (ms U) mk):=by
 obtain⟨t,p,r⟩:=h1;obtain⟨u,q,s⟩:=h2;refine⟨_,nc p q,λZ U U' h H D R S w=>r Z U U' h H _ R S (W.bind w λZ1 o o' h1 H1 e1 R1 q1 w1=>?_)⟩;cases o with
 |nx U1=>cases o' with
  |nx U1'=>exact s Z1 U1 U1' h1 H1 D R1 q1 w1|_=>exact q1.elim
 |ret v=>cases o' with
  |ret v'=>exact(W.here (Q:=eB D) (b:=dY.ret v') w1 R1 q1:D.rt v' H1)|_=>exact q1.elim
 |brk U1=>cases o' with
  |brk U1'=>exact(W.here (Q:=eB D) (b:=dY.brk U1') w1 R1 q1:D.bk U1' H1)|_=>exact q1.elim
 |cnt U1=>cases o' with
  |cnt U1'=>exact(W.here (Q:=eB D) (b:=dY.cnt U1') w1 R1 q1:D.ct U1' H1)|_=>exact q1.elim
theorem Ud:QS X T E (.Pass pos) (λU=>M.ret (.nx U)):=⟨_,ND,λZ U U' h H D R S w=>W.here (b:=dY.nx U') w R S⟩
theorem SU:QS X T E (.Break pos) (λU=>M.ret (.brk U)):=⟨_,MW,λZ U U' h H D R S w=>W.here (b:=dY.brk U') w R S⟩
theorem SV:QS X T E (.Continue pos) (λU=>M.ret (.cnt U)):=⟨_,MX,λZ U U' h H D R S w=>W.here (b:=dY.cnt U') w R S⟩
theorem SW(he:QE X T E e m)(hs:aT e=true)(hlc:oH e=false):QS X T E (.Expr e pos) (λU=>(m U).bind λ_=>M.ret (.nx U)):=by obtain⟨t,p,r⟩:=he;exact⟨_,Po p (vv hs hlc),λZ U U' h H D R S w=>r Z U U' h H _ R S (W.bind w λZ1 x x' h1 H1 e1 R1 q1 w1=>W.here (b:=dY.nx U') w1 R1 (S.ext e1))⟩
theorem Ue(he:QE X T E e m):QS X T E (.Return (some e) pos) (λU=>(m U).bind λv=>M.ret (.ret v)):=by obtain⟨t,p,r⟩:=he;exact⟨_,Pp p,λZ U U' h H D R S w=>r Z U U' h H _ R S (W.bind w λZ1 x x' h1 H1 e1 R1 q1 w1=>W.here (b:=dY.ret x') w1 R1 q1)⟩
theorem Ug:QS X T E (.Return none pos) (λ_=>M.ret (.ret .aC)):=⟨_,NH,λZ U U' h H D R S w=>W.here (b:=dY.ret .aC) w R .aC⟩
theorem TC(hc:QT X T E c mt)(ha:oA X T E sts ms)(hb:oA X T E rest mk):QS X T E (.If c sts rest pos) (λU=>lq (mt U) (ms U) (mk U)):=by
 obtain⟨tc,pc,rc⟩:=hc;obtain⟨ta,pa,ra⟩:=ha;obtain⟨tb,pb,rb⟩:=hb;refine⟨_,NB pc pa pb,λZ U U' h H D R S w=>rc Z U U' h H _ R S (W.bind w λZ1 d d' h1 H1 e1 R1 q1 w1=>?_)⟩;have q1':d=d':=q1;subst q1';cases d with
 |true=>exact ra Z1 U U' h1 H1 D R1 (S.ext e1) w1|false=>exact rb Z1 U U' h1 H1 D R1 (S.ext e1) w1
theorem qI:QG X T E tg (λ_ _=>M.bad):=⟨λ_ _ _ _=>False,λ_ _ _ _ _ _ _ _ _ h=>h.elim,λ_ _ _ _ _ _ _ _ _ _ _ w=>w⟩
theorem nj{i:Nat}{x:Str}(hN:X.N.Nodup)(hi:X.N[i]?=some x)(hx:pK X.env.scope x)(hf:X.fn x=true\/X.env.scope.names.lookup x=some .local):QG X T E (.Name x pos) (λv U=>M.ret (U.set i (some v))):=
 ⟨_,LX hN hi hx hf,λZ v v' U U' h H Q R S r w=>W.here w R (S.set r i)⟩
def Af(vs:List AV)(U:aA):M aA:=match vs with
 |[]=>M.ret U
 |_=>M.bad
def Ae(g:AV->aA->M aA)(gs:List AV->aA->M aA)(vs:List AV)(U:aA):M aA:=match vs with
 |v::r=>(g v U).bind λU1=>gs r U1
 |[]=>M.bad
def B2(n:Nat)(gs:List AV->aA->M aA)(v:AV)(U:aA):M aA:=λh=>match v with
 |.tup xs=>if xs.length=n then gs xs U h else .bad
 |.ref k=>match h.ob k with
  |some (.lst _ xs)=>if xs.length=n then gs xs U h else .bad
  |_=>.bad
 |_=>.bad
theorem Qd:yJ X T E [] Af:=⟨_,MC,λZ vs vs' U U' h H Q R S r w=>by
 cases r with
 |nil=>exact⟨rfl,W.here w R S⟩|cons _ _=>exact w.elim⟩
def nV:Expr->Bool
 |.Name ..=>true | .Tuple ..=>true | .Subscript ..=>true | .Attribute ..=>true
 |_=>false
theorem Hc{t:Expr}{ts:List Expr}{env:Env}(h:nV t=true):assignEach (t::ts) env=(false,assign t env)::assignEach ts env:=by cases t<;>first|rfl|cases h
theorem Qc(h1:QG X T E tg g)(h2:yJ X T E es gs)(ht:nV tg=true):yJ X T E (tg::es) (Ae g gs):=by
 obtain⟨t,p,r⟩:=h1;obtain⟨u,q,s⟩:=h2;refine⟨_,MB p q (by rw[Hc ht];rfl),λZ vs vs' U U' h H Q R S rv w=>?_⟩;cases rv with
 |nil=>exact w.elim|cons r1 rs=>exact⟨_,_,rfl,r Z _ _ U U' h H _ R S r1 (W.bind w λZ1 U1 U1' h1 H1 e1 R1 q1 w1=>s Z1 _ _ U1 U1' h1 H1 Q R1 q1 (rs.ext e1) w1)⟩
theorem CB{ts:List Expr}{env:Env}(h:ts.all nV=true):(assignEach ts env).length=ts.length/\(assignEach ts env).findIdx? (·.1)=none:=by
 induction ts with
 |nil=>exact⟨rfl,rfl⟩|cons t ts ih=>rw[List.all_cons,Bool.and_eq_true]at h;rw[Hc h.1];obtain⟨h1,h2⟩:=ih h.2;refine⟨by rw[List.length_cons,List.length_cons,h1],?_⟩;rw[List.findIdx?_cons,h2];rfl
end
section
variable {prog:Program}{w:World}{A:Around}{E:Value->Shared->Prop}{s:Shared}
theorem Ls{it l:Addr}{items:Array Value}(hne:l≠it):∀(n i:Nat) (s:Shared) (Q:List Value->Shared->Prop),s.heap.IsListIter it l i->s.heap.IsList l items->i+n<=items.size ->
  (∀h',h'.IsListIter it l (i+n)->Heap.SameBut it s.heap h'->Q ((items.toList.drop i).take n) { s with heap:=h' })->wpAny (model prog w) A (draw (.ref it) n) Q E s
 |0,i,s,Q,hit,_,_,hQ=>by show wpAny _ _ (pure []) Q E s;exact wpAny_pure (by simpa using hQ s.heap hit (Heap.SameBut.refl ..))
 |n+1,i,s,Q,hit,ht,hle,hQ=>by
  have hlt:i<items.size:=by omega
  show wpAny _ _ (pyNext (.ref it)>>=_) Q E s;refine wpAny_bind (wpAny_pyNext_list_item hit ht (x:=items[i]) (by simp[hlt]) λh₁ hit₁ hs₁=>?_);refine wpAny_bind (wpAny_holding (Ls hne n (i+1) _ _ hit₁ (ht.extBut hs₁.extBut hne) (by omega) λh₂ hit₂ hs₂=>wpAny_pure ?_));have hd:items.toList.drop i=items[i]::items.toList.drop (i+1):=by simp[List.drop_eq_getElem_cons,hlt]
  have:=hQ h₂ (by rw[show i+(n+1)=i+1+n by omega];exact hit₂) (hs₁.trans hs₂);rw[hd,List.take_succ_cons]at this;exact this
theorem ZY{t:Addr}{items:Array Value}{Q:List Value->Shared->Prop}(hh:A.handled=none)(ht:s.heap.IsList t items)
  (hQ:∀h',Heap.ExtBut s.heap.objs.size s.heap h'->Q items.toList { s with heap:=h' }):wpAny (model prog w) A (unpackItems (.ref t) items.size none) Q E s:=by
 have hlt:t≠s.heap.objs.size:=by obtain⟨o,ho,_⟩:=ht;exact Nat.ne_of_lt (Heap.lt_size ho)
 unfold unpackItems;refine wpAny_bind ?_
 .unfold notIterableAtAll;refine wpAny_bind (wpAny_specialOf ht.typeIs PySem.slot_list_iter.lookup ?_);refine wpAny_pure ?_;simp only[Bool.false_eq_true,if_false];refine wpAny_bind (wpAny_holding (wpAny_pyIter_list ht ?_));have ht0:(s.heap.push { cls:=.type "list_iterator",data:=.fields #[.ref t,.int 0 0] }).IsList t items:=ht.at λo e=>Heap.get?_push_of_some _ e;refine wpAny_bind (wpAny_holding (Ls hlt items.size 0 _ _ ⟨_,Heap.get?_push_size _ rfl,rfl,rfl⟩ ht0 (by omega) λh₁ hit₁ hs₁=>?_));have hall:List.take items.size (List.drop 0 items.toList)=items.toList:=by rw[List.drop_zero];exact List.take_of_length_le (by simp)
  rw[hall];rw[if_neg (by simp)];have ht₁:h₁.IsList t items:=ht0.extBut hs₁.extBut hlt;refine wpAny_bind (wpAny_holding (wpAny_pyNext_list_end hh hit₁ ht₁ (by simp) λh₂ he₂=>?_));simp only[Option.isSome_none,Bool.false_eq_true,if_false];refine wpAny_pure (hQ h₂ λb o hb e=>he₂ b o hb (hs₁.extBut b o hb (Heap.get?_push_of_some _ e)))
theorem Yb{env:Env}{elts:List Expr}{x1}{pos:Pos}{t:Addr}{items:Array Value}{Q:Unit->Shared->Prop}(hh:A.handled=none)(ht:s.heap.IsList t items)
  (hn:(assignEach elts env).length=items.size) (hstar:(assignEach elts env).findIdx? (·.1)=none)
  (h:∀h',Heap.ExtBut s.heap.objs.size s.heap h'->wpAny (model prog w) A (assignInOrder ((assignEach elts env).map (·.2)) items.toList) Q E { s with heap:=h' }) :
  wpAny (model prog w) A (assign (.Tuple elts x1 pos) env (.ref t)) Q E s:=by
 rw[assign_Tuple];refine wpAny_bind (wpAny_standAt ?_);unfold unpack;rw[hn,hstar];exact wpAny_bind (wpAny_holding (ZY hh ht h))
end
section
variable {X:Cx}{T:Tab}{E:XK}{a b c e tg:Expr}{es:List Expr}{ma mb mc m:aA->M AV}{mt:aA->M Bool}{ms mk:aA->M Out}{pos:Pos}{st:Stmt}{sts rest:List Stmt}{g:AV->aA->M aA}{gs:List AV->aA->M aA}
def EG(K:W.Frag)(n:Nat)(t:vM):TG:=λv U H Q=>∃a xs,v = .ref a/\(bO K H a xs\/cU K H a xs)/\xs.length=n/\t xs U H Q
theorem LZ{k:Nat}{t:vM}(hc:X.calm=true)(h:bp X es t)(hs:es.all nV=true):PG X (.Tuple es k pos) (EG X.K es.length t):=by
 obtain⟨hn,hst⟩:=CB (env:=X.env) hs;intro pins s U H v u Q I r hw;obtain⟨a,xs,e1,hq,hl,hw⟩:=hw;subst e1;cases r;rcases hq with hq|hq
 .obtain⟨its,rv,ht,hz⟩:=I.list hq;refine Yb (I.ok.hd hc) ht.isList (by simp[hn,<- hl,rv.length]) hst λh' hx=>?_;have I1:Inv X pins U H { s with heap:=h' }:=I.kept (t':=s.toks) λb o e=>hx b o (Nat.ne_of_lt (Heap.lt_size e)) e;exact h pins _ U H xs _ Q I1 (by simpa using rv) hw
 .obtain⟨its,rv,ht,hz⟩:=I.tuple hq;refine assign_Tuple_tuple (I.ok.hd hc) ht (by simp[hn,<- hl,rv.length]) hst λh' hx=>?_;have I1:Inv X pins U H { s with heap:=h' }:=I.kept (t':=s.toks) λb o e=>hx b o (Nat.ne_of_lt (Heap.lt_size e)) e;exact h pins _ U H xs _ Q I1 (by simpa using rv) hw
def vZ(n:Nat)(gs:List AV->aA->M aA)(v:AV)(U:aA):M aA:=λh=>match dD h v with
 |some xs=>if xs.length=n then gs xs U h else .bad
 |none=>.bad
theorem Qb(hK:X.K=T.K)(hc:X.calm=true){k:Nat}(h:yJ X T E es gs)(hs:es.all nV=true):QG X T E (.Tuple es k pos) (vZ es.length gs):=by
 obtain⟨t,p,r⟩:=h;refine⟨_,LZ hc p hs,λZ v v' U U' h H Q R S rv w=>?_⟩;unfold vZ at w;cases q:dD h v with
 |none=>rw[q]at w;exact w.elim|some xs=>
  rw[q]at w;by_cases hl:xs.length=es.length
  .simp only[if_pos hl]at w;obtain⟨p,ys,rfl,hq,hr⟩:=au R rv q;exact⟨p,ys,rfl,by rw[hK];exact hq,by rw[<- hr.length];exact hl,r Z xs ys U U' h H Q R S hr w⟩
  .simp only[if_neg hl]at w;exact w.elim
def kB(o i v:AV):M Unit:=λh=>match o,i with
 |.ref n,.int k=>match h.ob n with
  |some (.lst true xs)=>match iI xs.length k with
   |some j=>.ok () (h.put n (.lst true (xs.set j v)))
   |none=>.bad
  |_=>.bad
 |_,_=>.bad
def pZ(o i v:AV):M Unit:=λh=>match dG h o with
 |some kvs=>match o,dP i with
  |.ref n,some k=>if kvs.length<sizeLine then .ok () (h.put n (.aI (jB kvs k v))) else .bad
  |_,_=>.bad
 |none=>kB o i v h
theorem PH(hu:X.A.units+1<cLine)(ha:QE X T E a ma)(hb:QE X T E b mb)(hs:aT b=true):QG X T E (.Subscript a b pos) (λv U=>(ma U).bind λo=>(mb U).bind λi=>(pZ o i v).bind λ_=>M.ret U):=by
 obtain⟨ta,pa,ra⟩:=ha;obtain⟨tb,pb,rb⟩:=hb;refine⟨_,MA pa pb (WR hu) (by intro v;cases b<;>first|rfl|cases hs),λZ v v' U U' h H Q R S rv w=>?_⟩;refine qW ra rb R S w λZ2 x y x' y' h2 H2 e2 R2 q1 q2 S2 w2=>?_;have rv2:=rv.ext e2;cases d:dG h2 x with
 |some kvs=>
  refine .inr ?_;obtain⟨n,a,us,rfl,q,o,rfl,g,r⟩:=sT R2 q1 d;cases k:dP y with
  |none=>simp only[M.bind,pZ,d,k]at w2;exact w2.elim|some k'=>
   by_cases hz:kvs.length<sizeLine
   .simp only[M.bind,pZ,d,k,if_pos hz]at w2;have ex:Ext Z2 H2 Z2 (aJ H2 a (.dK (fH us k' v'))):=⟨λ_ _ z=>z,λb xs z=>by
     rw[aR (lX z g λw=>by cases w)];exact z,λb x u z=>by
     rw[aR (lX z g λw=>by cases w)];exact z⟩
    obtain⟨R3,e3⟩:=R2.write (o':=.aI (jB kvs k' v)) (O':=.dK (fH us k' v')) o rfl rfl q g (λ_ z=>by cases z) (λ_ _ z=>by cases z) (yu dN ((Ve r rv2).ext ex));refine⟨a,_,rfl,?_,W.ok w2 e3 R3 (S2.ext e3)⟩;rw[oM q2 k];exact bf.k g (by rw[<- Vd r];exact hz)
   .simp only[M.bind,pZ,d,k,if_neg hz]at w2;exact w2.elim
 |none=>
 refine .inl ?_;have w2:W T (bA T) (((kB x y v).bind λ_=>M.ret U) h2) Z2 H2 Q E:=by
  have e:(pZ x y v) h2=kB x y v h2:=by simp only[pZ,d]
  simp only[M.bind,e]at w2 ⊢;exact w2
 cases x with
 |ref n=>
  cases y with
  |int k=>
   cases q2;cases q1 with
   |@ref _ p q=>
    cases o:h2.ob n with
    |none=>simp only[M.bind,kB,o]at w2;exact w2.elim|some u=>
     cases u with
     |lst mu xs=>
      cases mu with
      |true=>
       obtain⟨ys,g1,r1⟩:=R2.obj n _ p o q;cases j:iI xs.length k with
       |none=>simp only[M.bind,kB,o,j]at w2;exact w2.elim|some jj=>
        simp only[M.bind,kB,o,j]at w2;obtain⟨R3,e3⟩:=R2.write (o':=.lst true (xs.set jj v)) (O':=.lst (ys.set jj v')) o rfl rfl q g1 (λ_ z=>by cases z) (λ_ _ z=>by cases z) ⟨_,dN,by
         have:Ext Z2 H2 Z2 (aJ H2 p (.lst (ys.set jj v'))):=⟨λ_ _ z=>z,λb xs z=>by
          rw[aR (lX z g1 λw=>by cases w)];exact z,λb x u z=>by
          rw[aR (lX z g1 λw=>by cases w)];exact z⟩
         exact(aO.set rv2 jj r1).ext this⟩
        exact⟨p,ys,k,jj,rfl,rfl,g1,by rw[<- r1.length];exact j,W.ok w2 e3 R3 (S2.ext e3)⟩
      |false=>simp only[M.bind,kB,o]at w2;exact w2.elim
     |aI _=>simp only[M.bind,kB,o]at w2;exact w2.elim|bM _=>simp only[M.bind,kB,o]at w2;exact w2.elim|ins _ _=>simp only[M.bind,kB,o]at w2;exact w2.elim|xo _=>simp only[M.bind,kB,o]at w2;exact w2.elim
  |_=>exact w2.elim
 |_=>exact w2.elim
theorem YB{env:Env}{tg:Expr}(h:∀es k p,tg = .Tuple es k p->∀vs k2 p2,e ≠ .Tuple vs k2 p2)(h2:nV tg=true):swappedStores [tg] e env=pure none:=by
 cases tg with
 |Tuple es k p=>
  cases e with
  |Tuple vs k2 p2=>exact absurd rfl (h es k p rfl vs k2 p2)|_=>rfl
 |_=>first|cases h2;done|(cases e<;>rfl)
theorem Uc(he:QE X T E e m)(hg:QG X T E tg g)(hs:aT e=true)(hlc:oH e=false)(ht:nV tg=true)(hw:∀es k p,tg = .Tuple es k p->∀vs k2 p2,e ≠ .Tuple vs k2 p2):QS X T E (.Assign [tg] e pos) (λU=>(m U).bind λv=>(g v U).bind λU1=>M.ret (.nx U1)):=by obtain⟨te,p,r⟩:=he;obtain⟨t,q,s⟩:=hg;refine⟨_,MV p q (vv hs hlc) (YB hw ht) (by rw[Hc ht];rfl),λZ U U' h H D R S w=>r Z U U' h H _ R S (W.bind w λZ1 x x' h1 H1 e1 R1 q1 w1=>?_)⟩;exact s Z1 x x' U U' h1 H1 _ R1 (S.ext e1) q1 (W.bind w1 λZ2 U2 U2' h2 H2 e2 R2 q2 w2=>W.here (Q:=eB D) (b:=dY.nx U2') w2 R2 q2)
abbrev dS:=Nat->AH->Option (Option AV)
def RI(T:Tab):Rl dS It:=λZ H it J=>∀Z' h' H' i,Ext Z H Z' H'->aQ T Z' h' H' ->
 (it i h'=some none->J.stop i H')/\∀v,it i h'=some (some v)->J.go i H'/\∀x H2,J.jb i H' x H2->∃Z2,Ext Z' H' Z2 H2/\aQ T Z2 h' H2/\aG T Z2 H2 v x
def QI(X:Cx)(T:Tab)(E:XK)(tg bG:Expr)(mi:aA->M dS):Prop:=
 ∃wi,PI X tg bG wi/\∀Z U U' h H R,aQ T Z h H->bA T Z H U U'->W T (RI T) (mi U h) Z H R E->wi U' H R
def fG(it:dS)(g:AV->aA->M aA)(body:aA->M Out):Nat->Nat->aA->M Out
 |0,_,_=>M.bad
 |f+1,i,U=>λh=>match it i h with
  |none=>.bad
  |some none=>.ok (.nx U) h
  |some (some v)=>((g v U).bind λU1=>(body U1).bind λo=>match o with
   |.nx U2=>fG it g body f (i+1) U2
   |.cnt U2=>fG it g body f (i+1) U2
   |.brk U2=>M.ret (.nx U2)
   |.ret v=>M.ret (.ret v)) h
def FU:Nat:=1000000
theorem TB{bG:Expr}{mi:aA->M dS}(hp:PassesOwn (model X.prog X.w) X.A X.env X.xe)(hc:X.calm=true)(hi:QI X T E tg bG mi)(hg:QG X T E tg g)(hb:oA X T E sts ms)(hs:aT bG=true) :
  QS X T E (.For tg bG sts [] pos) (λU=>(mi U).bind λit=>fG it g ms FU 0 U):=by
 obtain⟨wi,pi,ri⟩:=hi;obtain⟨t,q,s⟩:=hg;obtain⟨u,pb,rb⟩:=hb;refine⟨_,NA hp hc pi q pb (λx=>Gw hs),λZ0 U0 U0' h0 H0 D R0 S0 w0=>ri Z0 U0 U0' h0 H0 _ R0 S0 (W.bind w0 λZ1 it J h1 H1 e1 R1 q1 w1=>?_)⟩;refine⟨λi m U' H=>∃Z U h,Ext Z1 H1 Z H/\aQ T Z h H/\bA T Z H U U'/\W T (RO T) (fG it g ms m i U h) Z H (eB D) E,⟨FU,Z1,U0,h1,.refl,R1,S0.ext e1,w1⟩,?_⟩;rintro i m U' H ⟨Z,U,h,e,R,S,w⟩
 cases m with
 |zero=>exact w.elim|succ f=>
  simp only[fG]at w;cases hit:it i h with
  |none=>rw[hit]at w;exact w.elim|some o=>
   cases o with
   |none=>rw[hit]at w;exact .inl ⟨(q1 Z h H i e R).1 hit,W.here (Q:=eB D) (b:=dY.nx U') w R S⟩
   |some v=>
    rw[hit]at w;obtain⟨go,yl⟩:=(q1 Z h H i e R).2 v hit;refine .inr ⟨go,λU2' H2=>∃Z2 U2 h2,Ext Z1 H1 Z2 H2/\aQ T Z2 h2 H2/\bA T Z2 H2 U2 U2'/\W T (RO T) (fG it g ms f (i+1) U2 h2) Z2 H2 (eB D) E,λU2' H2 z=>⟨f,Nat.lt_succ_self f,z⟩,λx H2 y=>?_⟩;obtain⟨Z2,e2,R2,rv⟩:=yl x H2 y;refine s Z2 v x U U' h H2 _ R2 (S.ext e2) rv (W.bind (w.ext e2) λZ3 U3 U3' h3 H3 e3 R3 S3 w3=>?_);refine rb Z3 U3 U3' h3 H3 _ R3 S3 (W.bind w3 λZ4 o o' h4 H4 e4 R4 q4 w4=>?_);have eE:=((e.trans e2).trans e3).trans e4;cases o with
    |nx U4=>cases o' with
     |nx U4'=>exact⟨Z4,U4,h4,eE,R4,q4,w4⟩|_=>exact q4.elim
    |cnt U4=>cases o' with
     |cnt U4'=>exact⟨Z4,U4,h4,eE,R4,q4,w4⟩|_=>exact q4.elim
    |brk U4=>cases o' with
     |brk U4'=>exact(W.here (Q:=eB D) (b:=dY.nx U4') w4 R4 q4:D.nx U4' H4)|_=>exact q4.elim
    |ret v=>cases o' with
     |ret v'=>exact(W.here (Q:=eB D) (b:=dY.ret v') w4 R4 q4:D.rt v' H4)|_=>exact q4.elim
def Xo(c:aA->M Bool)(body:aA->M Out):Nat->aA->M Out
 |0,_=>M.bad
 |f+1,U=>(c U).bind λb=>if b=true then((body U).bind λo=>match o with
  |.nx U2=>Xo c body f U2
  |.cnt U2=>Xo c body f U2
  |.brk U2=>M.ret (.nx U2)
  |.ret v=>M.ret (.ret v)) else M.ret (.nx U)
end
section
variable {prog:Program}{w:World}{A:Around}{E:Value->Shared->Prop}{s:Shared}
theorem NR{it t:Addr}{i:Nat}{items:Array Value}{x:Value}{Q:Value->Shared->Prop}(hit:s.heap.IsTupleIter it t i)(ht:s.heap.IsTuple t items)(hx:items[i]?=some x)
  (hQ:∀h',h'.IsTupleIter it t (i+1)->Heap.SameBut it s.heap h'->Q x { s with heap:=h' }):wpAny (model prog w) A (Builtin.SmallTypes.nextOf (.ref it)) Q E s:=by
 obtain⟨o,ho,hc,hd⟩:=id hit;obtain⟨ol,hol,_,nl,hdl⟩:=ht;unfold Builtin.SmallTypes.nextOf;refine wpAny_bind (wpAny_callSpecial?_slot (name:=Str.ofString "__next__") hit.typeIs F.slot_tuple_iterator_next (wpAny_call_entry F.slot_tuple_iterator_next hit.typeIs F.entry_tuple_iterator_next ?_ (F.args_tuple_iterator_next_1 _)));show wpAny _ _ (field (.ref it) 0>>=_) _ _ s;refine wpAny_bind (wpAny_field ho hd (x:=.ref t) rfl ?_);show wpAny _ _ (if(Value.ref t==Value.none)=true then _ else _) _ _ s;rw[if_neg (show¬((Value.ref t==Value.none)=true) from Bool.false_ne_true)];show wpAny _ _ (field (.ref it) 1>>=_) _ _ s;refine wpAny_bind (wpAny_field ho hd (x:=.int i 0) rfl ?_);show wpAny _ _ (seqItems? (.ref t)>>=_) _ _ s;refine wpAny_bind (wpAny_seqItems hol hdl ?_);simp only[Int.toNat_natCast,hx];refine wpAny_bind (wpAny_setField ho hd (by simp) (wpAny_pure ⟨x,rfl,wpAny_pure (hQ _ ?_ (Heap.SameBut.update ..))⟩));exact⟨_,Heap.get?_update_self _ ho (Obj.isFreed_of_fields (Obj.data_mapFields hd _)),(Obj.cls_mapFields ..).trans hc,by rw[Obj.data_mapFields hd];simp[rawInt]⟩
theorem NS{it t:Addr}{i:Nat}{items:Array Value}{Q:Value->Shared->Prop}(hh:A.handled=none)(hit:s.heap.IsTupleIter it t i)(ht:s.heap.IsTuple t items)(hx:items[i]?=none)
  (hE:∀h' e,Heap.ExtBut it s.heap h'->(∃o,h'.get? e=some o/\o.cls = .type "StopIteration")->E (.ref e) { s with heap:=h' }):wpAny (model prog w) A (Builtin.SmallTypes.nextOf (.ref it)) Q E s:=by
 obtain⟨o,ho,hc,hd⟩:=id hit;obtain⟨ol,hol,_,nl,hdl⟩:=ht;unfold Builtin.SmallTypes.nextOf;refine wpAny_bind (wpAny_callSpecial?_slot (name:=Str.ofString "__next__") hit.typeIs F.slot_tuple_iterator_next (wpAny_call_entry F.slot_tuple_iterator_next hit.typeIs F.entry_tuple_iterator_next ?_ (F.args_tuple_iterator_next_1 _)));show wpAny _ _ (field (.ref it) 0>>=_) _ _ s;refine wpAny_bind (wpAny_field ho hd (x:=.ref t) rfl ?_);show wpAny _ _ (if(Value.ref t==Value.none)=true then _ else _) _ _ s;rw[if_neg (show¬((Value.ref t==Value.none)=true) from Bool.false_ne_true)];show wpAny _ _ (field (.ref it) 1>>=_) _ _ s;refine wpAny_bind (wpAny_field ho hd (x:=.int i 0) rfl ?_);show wpAny _ _ (seqItems? (.ref t)>>=_) _ _ s;refine wpAny_bind (wpAny_seqItems hol hdl ?_);simp only[Int.toNat_natCast,hx];refine wpAny_bind (wpAny_rule (wpAny_bind (wpAny_setField ho hd (by simp) ?_)));show wpAny _ _ (newExc (.type "StopIteration") []>>=_) _ _ _;refine wpAny_bind ?_;simp only[newExc,newTuple];refine wpAny_bind (wpAny_newObj_type ?_ (by size_fits));refine wpAny_bind (m:=firstArgMember _ _) (wpAny_of_eq (a:=Value.none) (by first|rfl|(simp only[firstArgMember];rfl)) ?_);refine wpAny_newObj_type ?_ (by size_fits);simp only[raiseNew];refine wpAny_bind (wpAny_handled ?_);first|rw[show A.in1.handled=none from hh] | rw[hh]
 refine wpAny_bind (wpAny_pure (wpAny_throw ?_));exact hE _ _ (((Heap.SameBut.update ..).extBut.push _).push _) ⟨_,Heap.get?_push_size _ rfl,rfl⟩
end
structure eT(prog:Program)(w:World)(A:Around)(it l:Addr)(S:Nat->Heap->Prop)(items:Array Value):Prop where
 keep:∀k h h',S k h->(∀b,b=it\/b=l->∀o,h.get? b=some o->h'.get? b=some o)->S k h'
 live:∀k h,S k h->∃o,h.get? it=some o/\o.cls ≠ .type "zip"/\(∀v,o.data ≠ .cell v)
 item:∀k x (s:Shared) (Q:Value->Shared->Prop) (E:Value->Shared->Prop),S k s.heap->items[k]?=some x->(∀h',S (k+1) h'->Heap.SameBut it s.heap h'->Q x { s with heap:=h' })->wpAny (model prog w) A (Builtin.SmallTypes.nextOf (.ref it)) Q E s
 done:∀k (s:Shared) (Q:Value->Shared->Prop) (E:Value->Shared->Prop),S k s.heap->items[k]?=none->(∀h' e,Heap.ExtBut it s.heap h'->(∃o,h'.get? e=some o/\o.cls = .type "StopIteration")->E (.ref e) { s with heap:=h' })->wpAny (model prog w) A (Builtin.SmallTypes.nextOf (.ref it)) Q E s
theorem eT.list{prog:Program}{w:World}{A:Around}(hh:A.handled=none){it l:Addr}(hne:l≠it)(items:Array Value):eT prog w A it l (λk h=>h.IsListIter it l k/\h.IsList l items) items where
 keep:=λk h h' st hk=>⟨st.1.at λo e=>hk it (.inl rfl) o e,st.2.at λo e=>hk l (.inr rfl) o e⟩
 live:=λk h st=>let ⟨o,ho,hc,hd⟩:=st.1;⟨o,ho,by rw[hc];decide,λv z=>by rw[hd]at z;cases z⟩
 item:=λk x s Q E st hx hQ=>wpAny_nextOf_list_item st.1 st.2 hx λh' hit' hs'=>hQ h' ⟨hit',st.2.extBut hs'.extBut hne⟩ hs'
 done:=λk s Q E st hx hE=>wpAny_nextOf_list_end hh st.1 st.2 hx hE
theorem eT.tuple{prog:Program}{w:World}{A:Around}(hh:A.handled=none){it l:Addr}(hne:l≠it)(items:Array Value):eT prog w A it l (λk h=>h.IsTupleIter it l k/\h.IsTuple l items) items where
 keep:=λk h h' st hk=>⟨st.1.at λo e=>hk it (.inl rfl) o e,let ⟨o,e,r⟩:=st.2;⟨o,hk l (.inr rfl) o e,r⟩⟩
 live:=λk h st=>let ⟨o,ho,hc,hd⟩:=st.1;⟨o,ho,by rw[hc];decide,λv z=>by rw[hd]at z;cases z⟩
 item:=λk x s Q E st hx hQ=>NR st.1 st.2 hx λh' hit' hs'=>hQ h' ⟨hit',let ⟨o,e,r⟩:=st.2;⟨o,hs'.extBut _ _ hne e,r⟩⟩ hs'
 done:=λk s Q E st hx hE=>NS hh st.1 st.2 hx hE
section
variable {prog:Program}{w:World}{A:Around}{E:Value->Shared->Prop}{s:Shared}{z TI TO i1 i2 l1 l2:Addr}{S1 S2:Nat->Heap->Prop}{xs ys:Array Value}{k:Nat}{a b x y:Value}
theorem jW(P:eT prog w A i1 l1 S1 xs){h h':Heap}{c:Addr}(st:S1 k h)(e:Heap.ExtBut c h h')(n1:i1≠c)(n2:l1≠c):S1 k h':=P.keep k h h' st λb hb o q=>e b o (by rcases hb with rfl|rfl<;>assumption) q
theorem A5{Q:Value->Shared->Prop}(D:ZipApart z TI TO i1 i2 l1 l2)(P1:eT prog w A i1 l1 S1 xs)(P2:eT prog w A i2 l2 S2 ys)(hz:IsZip s.heap z TI TO .none)(hTI:IsPair s.heap TI (.ref i1) (.ref i2))(hTO:IsPair s.heap TO a b)
  (h1:S1 k s.heap) (h2:S2 k s.heap) (hx:xs[k]?=some x) (hy:ys[k]?=some y)
  (hQ:∀h',IsZip h' z TI TO (rawInt s.heap.objs.size)->IsPair h' TO x y->S1 (k+1) h'->S2 (k+1) h'->IsPair h' s.heap.objs.size x y ->
   (∀c o,c≠z->c≠TO->c≠i1->c≠i2->s.heap.get? c=some o->h'.get? c=some o)->Q (.ref s.heap.objs.size) { s with heap:=h' }) :
  wpAny (model prog w) A (Builtin.«zip.__next__» ⟨[.ref z],[]⟩) (λfin s'=>∃v,fin = .done (.ret v)/\Q v s') E s:=by
 show wpAny _ _ (field (.ref z) 2>>=_) _ _ _;refine wpAny_bind (wpAny_field hz rfl (x:=.bool false) rfl ?_);show wpAny _ _ (field (.ref z) 3>>=_) _ _ _;refine wpAny_bind (wpAny_field hz rfl (x:=.ref TI) rfl (wpAny_bind (wpAny_seqItems hTI rfl ?_)));show wpAny _ _ (Builtin.SmallTypes.ownedTupleIsFree (.ref z)>>=_) _ _ _;refine wpAny_bind ?_;unfold Builtin.SmallTypes.ownedTupleIsFree;refine wpAny_bind (wpAny_field hz rfl (x:=.none) rfl (wpAny_pure ?_));simp only[if_true];refine wpAny_bind (wpAny_rule (wpAny_bind (wpAny_field hz rfl (x:=.ref TO) rfl (wpAny_bind (wpAny_setField_rec hz (by simp) λha za sa=>?_)))));replace za:IsZip ha z TI TO .ellipsis:=za
 refine wpAny_bind ?_;simp only[List.zipIdx_cons,List.zipIdx_nil,List.forIn_cons,List.forIn_nil];refine wpAny_bind (wpAny_bind (wpAny_onRaise ?_));show wpAny _ _ (Builtin.SmallTypes.nextOf (.ref i1)>>=_) _ _ _;refine wpAny_bind (P1.item k x _ _ _ (jW P1 h1 sa.extBut D.i1z D.l1z) hx λhb pb sb=>wpAny_pure ?_);have tb:IsPair hb TO a b:=sb.extBut _ _ D.TOi1 (sa.extBut _ _ D.TOz hTO);refine wpAny_bind (wpAny_seqItems tb rfl (wpAny_bind (wpAny_updateSeq_pair tb λhc tc sc=>?_)));replace tc:IsPair hc TO x b:=tc
 refine wpAny_bind (wpAny_letGo (wpAny_pure (wpAny_bind (wpAny_bind (wpAny_onRaise ?_)))));show wpAny _ _ (Builtin.SmallTypes.nextOf (.ref i2)>>=_) _ _ _;refine wpAny_bind (P2.item k y _ _ _ (jW P2 (jW P2 (jW P2 h2 sa.extBut D.i2z D.l2z) sb.extBut D.i12.symm D.l2i1) sc.extBut D.TOi2.symm D.l2TO) hy λhd pd sd=>wpAny_pure ?_);have td:IsPair hd TO x b:=sd.extBut _ _ D.TOi2 tc;refine wpAny_bind (wpAny_seqItems td rfl (wpAny_bind (wpAny_updateSeq_pair td λhe te se=>?_)));replace te:IsPair he TO x y:=te
 refine wpAny_bind (wpAny_letGo (wpAny_pure (wpAny_pure (wpAny_bind (wpAny_seqItems te rfl (wpAny_bind (wpAny_newTuple ?_)))))));have size:he.objs.size=s.heap.objs.size:=by rw[se.1,sd.1,sc.1,sb.1,sa.1]
 have ze:IsZip he z TI TO .ellipsis:=se.extBut _ _ D.TOz.symm (sd.extBut _ _ D.i2z.symm (sc.extBut _ _ D.TOz.symm (sb.extBut _ _ D.i1z.symm za)));have kept:∀c o,c≠z->c≠TO->c≠i1->c≠i2->s.heap.get? c=some o->he.get? c=some o:=λc o n1 n2 n3 n4 e=>se.extBut _ _ n2 (sd.extBut _ _ n4 (sc.extBut _ _ n2 (sb.extBut _ _ n3 (sa.extBut _ _ n1 e))));have pe:S1 (k+1) he:=jW P1 (jW P1 (jW P1 pb sc.extBut D.TOi1.symm D.l1TO) sd.extBut D.i12 D.l1i2) se.extBut D.TOi1.symm D.l1TO;have re:S2 (k+1) he:=jW P2 pd se.extBut D.TOi2.symm D.l2TO;have zlt:z<he.objs.size:=Heap.lt_size ze;show wpAny _ _ (Builtin.SmallTypes.ownedTupleHandOut (.ref z) (.ref he.objs.size)>>=_) _ _ _;refine wpAny_bind ?_;unfold Builtin.SmallTypes.ownedTupleHandOut;have zf:IsZip (he.push { cls:=.type "tuple",data:=.seq #[x,y] }) z TI TO .ellipsis:=Heap.get?_push_of_some _ ze;refine wpAny_bind (wpAny_setField_rec zf (by simp) λhg zg sg=>?_);replace zg:IsZip hg z TI TO (rawInt he.objs.size):=zg
 refine wpAny_setField_rec zg (by simp) λhh zh sh=>?_;replace zh:IsZip hh z TI TO (rawInt he.objs.size):=zh
 have up:∀c o,c≠z->he.get? c=some o->hh.get? c=some o:=λc o n1 e=>sh.extBut _ _ n1 (sg.extBut _ _ n1 (Heap.get?_push_of_some _ e));have new:IsPair hh he.objs.size x y:=sh.extBut _ _ (Nat.ne_of_gt zlt) (sg.extBut _ _ (Nat.ne_of_gt zlt) (Heap.get?_push_size _ rfl));rw[size]at zh new;refine wpAny_pure ⟨_,rfl,?_⟩;show Q (.ref he.objs.size) _;rw[size];exact hQ hh zh (up _ _ D.TOz te) (P1.keep _ _ _ pe λc hc o e=>up c o (by rcases hc with rfl|rfl;exact D.i1z;exact D.l1z) e) (P2.keep _ _ _ re λc hc o e=>up c o (by rcases hc with rfl|rfl;exact D.i2z;exact D.l2z) e) new
  λc o n1 n2 n3 n4 e=>up c o n1 (kept c o n1 n2 n3 n4 e)
theorem A6{Q:Fin->Shared->Prop}(D:ZipApart z TI TO i1 i2 l1 l2)(P1:eT prog w A i1 l1 S1 xs)(P2:eT prog w A i2 l2 S2 ys)(hz:IsZip s.heap z TI TO .none)(hTI:IsPair s.heap TI (.ref i1) (.ref i2))(hTO:IsPair s.heap TO a b)
  (h1:S1 k s.heap) (h2:S2 k s.heap) (hend:xs[k]?=none\/ys[k]?=none)
  (hE:∀h' e,(∀c o,c≠z->c≠TO->c≠i1->c≠i2->s.heap.get? c=some o->h'.get? c=some o)->(∃o,h'.get? e=some o/\o.cls = .type "StopIteration")->E (.ref e) { s with heap:=h' }) :
  wpAny (model prog w) A (Builtin.«zip.__next__» ⟨[.ref z],[]⟩) Q E s:=by
 show wpAny _ _ (field (.ref z) 2>>=_) _ _ _;refine wpAny_bind (wpAny_field hz rfl (x:=.bool false) rfl ?_);show wpAny _ _ (field (.ref z) 3>>=_) _ _ _;refine wpAny_bind (wpAny_field hz rfl (x:=.ref TI) rfl (wpAny_bind (wpAny_seqItems hTI rfl ?_)));show wpAny _ _ (Builtin.SmallTypes.ownedTupleIsFree (.ref z)>>=_) _ _ _;refine wpAny_bind ?_;unfold Builtin.SmallTypes.ownedTupleIsFree;refine wpAny_bind (wpAny_field hz rfl (x:=.none) rfl (wpAny_pure ?_));simp only[if_true];refine wpAny_bind (wpAny_rule (wpAny_bind (wpAny_field hz rfl (x:=.ref TO) rfl (wpAny_bind (wpAny_setField_rec hz (by simp) λha za sa=>?_)))));replace za:IsZip ha z TI TO .ellipsis:=za
 refine wpAny_bind ?_;simp only[List.zipIdx_cons,List.zipIdx_nil,List.forIn_cons,List.forIn_nil];refine wpAny_bind (wpAny_bind (wpAny_onRaise ?_));show wpAny _ _ (Builtin.SmallTypes.nextOf (.ref i1)>>=_) _ _ _;have sa1:=jW P1 h1 sa.extBut D.i1z D.l1z;cases hx:xs[k]? with
 |none=>
  refine wpAny_bind (P1.done k _ _ _ sa1 hx λhb e sb he=>?_);obtain⟨oe,hoe,hce⟩:=he;have zb:IsZip hb z TI TO .ellipsis:=sb _ _ D.i1z.symm za;have ne:e≠z:=λq=>by subst q;rw[zb]at hoe;cases hoe;simp at hce
  exact wpAny_setField_rec zb (by simp) λhc _ sc=>hE hc e (λc o n1 _ n3 _ q=>sc.extBut _ _ n1 (sb _ _ n3 (sa.extBut _ _ n1 q))) ⟨oe,sc.extBut _ _ ne hoe,hce⟩
 |some x=>
  have hy:ys[k]?=none:=by rcases hend with q|q;rw[hx]at q;cases q;exact q
  refine wpAny_bind (P1.item k x _ _ _ sa1 hx λhb pb sb=>wpAny_pure ?_);have tb:IsPair hb TO a b:=sb.extBut _ _ D.TOi1 (sa.extBut _ _ D.TOz hTO);refine wpAny_bind (wpAny_seqItems tb rfl (wpAny_bind (wpAny_updateSeq_pair tb λhc tc sc=>?_)));refine wpAny_bind (wpAny_letGo (wpAny_pure (wpAny_bind (wpAny_bind (wpAny_onRaise ?_)))));show wpAny _ _ (Builtin.SmallTypes.nextOf (.ref i2)>>=_) _ _ _;refine wpAny_bind (P2.done k _ _ _ (jW P2 (jW P2 (jW P2 h2 sa.extBut D.i2z D.l2z) sb.extBut D.i12.symm D.l2i1) sc.extBut D.TOi2.symm D.l2TO) hy λhd e sd he=>?_);obtain⟨oe,hoe,hce⟩:=he;have zd:IsZip hd z TI TO .ellipsis:=sd _ _ D.i2z.symm (sc.extBut _ _ D.TOz.symm (sb.extBut _ _ D.i1z.symm za));have ne:e≠z:=λq=>by subst q;rw[zd]at hoe;cases hoe;simp at hce
  exact wpAny_setField_rec zd (by simp) λhf _ sf=>hE hf e (λc o n1 n2 n3 n4 q=>sf.extBut _ _ n1 (sd _ _ n4 (sc.extBut _ _ n2 (sb.extBut _ _ n3 (sa.extBut _ _ n1 q))))) ⟨oe,sf.extBut _ _ ne hoe,hce⟩
end
def gT(kd:Bool)(h:Heap)(it l:Addr)(k:Nat):Prop:=if kd=true then h.IsListIter it l k else h.IsTupleIter it l k
def hV(kd:Bool)(h:Heap)(l:Addr)(items:Array Value):Prop:=if kd=true then h.IsList l items else h.IsTuple l items
def iT(kd:Bool)(K:W.Frag)(H:Hp)(a:Addr)(xs:List V):Prop:=if kd=true then bO K H a xs else cU K H a xs
def yn(kd:Bool):String:=if kd=true then "list_iterator" else "tuple_iterator"
theorem gT.at{kd:Bool}{h h':Heap}{it l:Addr}{k:Nat}(st:gT kd h it l k)(f:∀o,h.get? it=some o->h'.get? it=some o):gT kd h' it l k:=by
 cases kd with
 |true=>exact Heap.IsListIter.at st f|false=>exact Heap.IsTupleIter.at st f
theorem gT.live{kd:Bool}{h:Heap}{it l:Addr}{k:Nat}(st:gT kd h it l k):∃o,h.get? it=some o/\∀v,o.data ≠ .cell v:=by
 cases kd with
 |true=>obtain⟨o,ho,hc,hd⟩:=(show h.IsListIter it l k from st);exact⟨o,ho,λv z=>by rw[hd]at z;cases z⟩|false=>obtain⟨o,ho,hc,hd⟩:=(show h.IsTupleIter it l k from st);exact⟨o,ho,λv z=>by rw[hd]at z;cases z⟩
theorem eT.kd{prog:Program}{w:World}{A:Around}(hh:A.handled=none)(kd:Bool){it l:Addr}(hne:l≠it)(items:Array Value):eT prog w A it l (λk h=>gT kd h it l k/\hV kd h l items) items:=by
 cases kd with
 |true=>exact eT.list hh hne items|false=>exact eT.tuple hh hne items
theorem Nq(kd:Bool)(h:Heap)(l:Addr):gT kd (h.push { cls:=.type (yn kd),data:=.fields #[.ref l,.int 0 0] }) h.objs.size l 0:=by
 cases kd with
 |true=>exact⟨_,Heap.get?_push_size _ rfl,rfl,rfl⟩|false=>exact⟨_,Heap.get?_push_size _ rfl,rfl,rfl⟩
theorem Nt{prog:Program}{w:World}{A:Around}{E:Value->Shared->Prop}{s:Shared}(kd:Bool){l:Addr}{items:Array Value}{Q:Value->Shared->Prop}(hl:hV kd s.heap l items)
  (hQ:Q (.ref s.heap.objs.size) { s with heap:=s.heap.push { cls:=.type (yn kd),data:=.fields #[.ref l,.int 0 0] } }):wpAny (model prog w) A (pyIter (.ref l)) Q E s:=by
 cases kd with
 |true=>exact wpAny_pyIter_list hl hQ|false=>exact wpAny_pyIter_tuple hl hQ
theorem hV.push{kd:Bool}{h:Heap}{l:Addr}{items:Array Value}(hl:hV kd h l items)(o:Obj):hV kd (h.push o) l items:=by
 cases kd with
 |true=>exact Heap.IsList.push hl o|false=>obtain⟨ob,e,r⟩:=(show h.IsTuple l items from hl);exact⟨ob,Heap.get?_push_of_some _ e,r⟩
noncomputable abbrev zA(kd:Bool)(h:Heap)(l:Addr):Heap:=h.push { cls:=.type (yn kd),data:=.fields #[.ref l,.int 0 0] }
noncomputable abbrev zB(aZ bD:Bool)(h:Heap)(l1 l2:Addr):Heap:=zA bD (zA aZ h l1) l2
noncomputable abbrev zC(aZ bD:Bool)(h:Heap)(l1 l2:Addr):Heap:=(zB aZ bD h l1 l2).push { cls:=.type "tuple",data:=.seq #[.ref h.objs.size,.ref (zA aZ h l1).objs.size] }
noncomputable abbrev zD(aZ bD:Bool)(h:Heap)(l1 l2:Addr):Heap:=(zC aZ bD h l1 l2).push { cls:=.type "tuple",data:=.seq #[.none,.none] }
noncomputable abbrev zE(aZ bD:Bool)(h:Heap)(l1 l2:Addr):Heap:=(zD aZ bD h l1 l2).push { cls:=.type "zip",data:=.fields #[.none,.bool false,.bool false,.ref (zB aZ bD h l1 l2).objs.size,.ref (zC aZ bD h l1 l2).objs.size] }
theorem A7(aZ bD:Bool)(l1 l2:Addr)(xs ys:Array Value) :
  Meets (Builtin.«zip.__new__» ⟨[.type "zip",.ref l1,.ref l2],[]⟩) (λ_ R s=>hV aZ s.heap l1 xs/\hV bD s.heap l2 ys/\R (.ok (.ret (.ref (zD aZ bD s.heap l1 l2).objs.size))) { s with heap:=zE aZ bD s.heap l1 l2 }):=
 .of_wp λprog w A R s h=>by
  obtain⟨hp,g,d,tk,os⟩:=s;obtain⟨hl1,hl2,h⟩:=h;have hsub:=sub_zip;have hL1:hV aZ (Shared.heap ⟨hp,g,d,tk,os⟩) l1 xs:=hl1;have hL2:hV bD (Shared.heap ⟨zA aZ hp l1,g,d,tk,os⟩) l2 ys:=hV.push hl2 _;wp_walk using Nt aZ hL1,Nt bD hL2
  exact⟨_,rfl,h⟩
section
variable {prog:Program}{w:World}{A:Around}{E:Value->Shared->Prop}{s:Shared}
theorem Ze(aZ bD:Bool){l1 l2:Addr}{xs ys:Array Value}{Q:Value->Shared->Prop}(hl1:hV aZ s.heap l1 xs)(hl2:hV bD s.heap l2 ys)
  (h:∀h',IsZip h' (s.heap.objs.size+4) (s.heap.objs.size+2) (s.heap.objs.size+3) .none->IsPair h' (s.heap.objs.size+2) (.ref s.heap.objs.size) (.ref (s.heap.objs.size+1)) ->
   IsPair h' (s.heap.objs.size+3) .none .none->gT aZ h' s.heap.objs.size l1 0->gT bD h' (s.heap.objs.size+1) l2 0 ->
   (∀c o,s.heap.get? c=some o->h'.get? c=some o)->Q (.ref (s.heap.objs.size+4)) { s with heap:=h' }):wpAny (model prog w) A (call (.type "zip") [.ref l1,.ref l2]) Q E s:=by
 refine callType_new F.called_zip (by decide) (F.typeCall_zip_2 _ _) (F.newCall_zip_2 _ _) (λobj=>F.args_object_init_3 obj _ _) F.entry_zip_new (A7 aZ bD l1 l2 xs ys) ⟨hl1,hl2,?_⟩;have z1:(zA aZ s.heap l1).objs.size=s.heap.objs.size+1:=Heap.size_push ..;have z2:(zB aZ bD s.heap l1 l2).objs.size=s.heap.objs.size+2:=by rw[Heap.size_push,z1]
 have z3:(zC aZ bD s.heap l1 l2).objs.size=s.heap.objs.size+3:=by rw[Heap.size_push,z2]
 have z4:(zD aZ bD s.heap l1 l2).objs.size=s.heap.objs.size+4:=by rw[Heap.size_push,z3]
 have g5:(zE aZ bD s.heap l1 l2).get? (zD aZ bD s.heap l1 l2).objs.size=some _:=Heap.get?_push_size _ rfl;have g4:(zE aZ bD s.heap l1 l2).get? (zC aZ bD s.heap l1 l2).objs.size=some _:=Heap.get?_push_of_some _ (Heap.get?_push_size _ rfl);have g3:(zE aZ bD s.heap l1 l2).get? (zB aZ bD s.heap l1 l2).objs.size=some _:=Heap.get?_push_of_some _ (Heap.get?_push_of_some _ (Heap.get?_push_size _ rfl));have up:∀c o,(zB aZ bD s.heap l1 l2).get? c=some o->(zE aZ bD s.heap l1 l2).get? c=some o:=λc o e=>Heap.get?_push_of_some _ (Heap.get?_push_of_some _ (Heap.get?_push_of_some _ e));have i2:gT bD (zE aZ bD s.heap l1 l2) (zA aZ s.heap l1).objs.size l2 0:=(Nq bD (zA aZ s.heap l1) l2).at λo e=>up _ o e;have i1:gT aZ (zE aZ bD s.heap l1 l2) s.heap.objs.size l1 0:=(Nq aZ s.heap l1).at λo e=>up _ o (Heap.get?_push_of_some _ e);show _/\_;rw[z2,z3,z4]at g5;rw[z1,z2]at g3;rw[z3]at g4;rw[z1]at i2;rw[z4];exact⟨⟨_,g5,rfl⟩,h _ g5 g3 g4 i1 i2 λc o e=>up c o (Heap.get?_push_of_some _ (Heap.get?_push_of_some _ e))⟩
variable {z TI TO i1 i2 l1 l2:Addr}{S1 S2:Nat->Heap->Prop}{xs ys:Array Value}{k:Nat}{a b x y:Value}
theorem IA{Q:Option Value->Shared->Prop}(D:ZipApart z TI TO i1 i2 l1 l2)(P1:eT prog w A.in1 i1 l1 S1 xs)(P2:eT prog w A.in1 i2 l2 S2 ys)(hz:IsZip s.heap z TI TO .none)(hTI:IsPair s.heap TI (.ref i1) (.ref i2))(hTO:IsPair s.heap TO a b)
  (h1:S1 k s.heap) (h2:S2 k s.heap) (hx:xs[k]?=some x) (hy:ys[k]?=some y)
  (hQ:∀h',IsZip h' z TI TO (rawInt s.heap.objs.size)->IsPair h' TO x y->S1 (k+1) h'->S2 (k+1) h'->IsPair h' s.heap.objs.size x y ->
   (∀c o,c≠z->c≠TO->c≠i1->c≠i2->s.heap.get? c=some o->h'.get? c=some o)->Q (some (.ref s.heap.objs.size)) { s with heap:=h' }):wpAny (model prog w) A (pyNext (.ref z)) Q E s:=by
 have hT:s.TypeIs (.ref z) "zip":=⟨_,hz,rfl⟩;unfold pyNext;exact wpAny_bind (wpAny_attempt (wpAny_callSpecial?_slot (name:=Str.ofString "__next__") hT F.slot_zip_next
  (wpAny_call_entry F.slot_zip_next hT F.entry_zip_next (A5 D P1 P2 hz hTI hTO h1 h2 hx hy λh' a1 a2 a3 a4 a5 a6=>wpAny_pure (hQ h' a1 a2 a3 a4 a5 a6)) (F.args_zip_next_1 _))))
theorem CC{Q:Option Value->Shared->Prop}(D:ZipApart z TI TO i1 i2 l1 l2)(P1:eT prog w A.in1 i1 l1 S1 xs)(P2:eT prog w A.in1 i2 l2 S2 ys)(hz:IsZip s.heap z TI TO .none)(hTI:IsPair s.heap TI (.ref i1) (.ref i2))(hTO:IsPair s.heap TO a b)
  (h1:S1 k s.heap) (h2:S2 k s.heap) (hend:xs[k]?=none\/ys[k]?=none)
  (hQ:∀h',(∀c o,c≠z->c≠TO->c≠i1->c≠i2->s.heap.get? c=some o->h'.get? c=some o)->Q none { s with heap:=h' }):wpAny (model prog w) A (pyNext (.ref z)) Q E s:=by
 have hT:s.TypeIs (.ref z) "zip":=⟨_,hz,rfl⟩;unfold pyNext;refine wpAny_bind (wpAny_attempt (wpAny_callSpecial?_slot (name:=Str.ofString "__next__") hT F.slot_zip_next
  (wpAny_call_entry F.slot_zip_next hT F.entry_zip_next (A6 D P1 P2 hz hTI hTO h1 h2 hend λh' e hk he=>?_) (F.args_zip_next_1 _))))
 obtain⟨o,ho,hc⟩:=he;exact wpAny_bind (wpAny_isInstance (T:="StopIteration") (b:=true) ⟨o,ho,hc⟩ isSubtype_stop (wpAny_pure (hQ _ hk)))
end
def eG(n:Nat):dS:=λi h=>match h.ob n with
 |some (.lst _ xs)=>some xs[i]?
 |_=>none
def yA(xs:List AV):dS:=λi _=>some xs[i]?
def vo(lo:Int)(n:Nat):dS:=λi _=>some (if i<n then some (.int (lo+i)) else none)
def pS(it:dS):dS:=λi h=>match it i h with
 |some (some v)=>some (some (.tup [.int i,v]))
 |some none=>some none
 |none=>none
def gL(v:AV):M dS:=λh=>match v with
 |.tup xs=>.ok (yA xs) h
 |.ref n=>match h.ob n with
  |some (.lst _ _)=>.ok (eG n) h
  |_=>.bad
 |_=>.bad
def vH(j:Int):Bool:=decide (-(2 ^ 62)<=j)&&decide (j<2 ^ 62)
def Ab(xs:List AV):M dS:=λh=>match xs with
 |[.int j]=>if vH j=true then .ok (vo 0 j.toNat) h else .bad
 |_=>.bad
def Ac(xs:List AV):M dS:=λh=>match xs with
 |[.int i,.int j]=>if(vH i&&vH j)=true then .ok (vo i (j-i).toNat) h else .bad
 |_=>.bad
def ke(v:AV):M dS:=λh=>match v with
 |.ref n=>match h.ob n with
  |some (.lst _ _)=>.ok (pS (eG n)) h
  |_=>.bad
 |_=>.bad
section
variable {X:Cx}{T:Tab}{E:XK}{a b c e tg l:Expr}{es:List Expr}{ma mb mc m:aA->M AV}{mr:aA->M (List AV)}{pos p:Pos}{tl:TE}
theorem Vb{Z:List Addr}{H:Hp}{n:Nat}{a:Addr}(q:Z[n]?=some a):RI T Z H (eG n) (xi T.K a):=by
 intro Z' h' H' i e R;have q':=e.pre n a q;unfold eG;cases o:h'.ob n with
 |none=>exact⟨λz=>(by cases z),λv z=>(by cases z)⟩|some u=>
  cases u with
  |lst m xs=>
   obtain⟨ys,h1,r⟩:=iX R o q';refine⟨λz=>⟨ys,h1,?_⟩,λv z=>?_⟩
   .have z':xs[i]?=none:=Option.some.inj z;rw[<- r.length];exact List.getElem?_eq_none_iff.mp z'
   .have z':xs[i]?=some v:=Option.some.inj z;obtain⟨y,h2,rv⟩:=r.get z';refine⟨⟨ys,y,h1,h2⟩,λx H2 yl=>?_⟩;obtain⟨e2,k⟩:=yl;subst e2;have:=k ys h1;rw[h2]at this;cases this;exact⟨Z',.refl,R,rv⟩
  |aI _=>exact⟨λz=>(by cases z),λv z=>(by cases z)⟩|bM _=>exact⟨λz=>(by cases z),λv z=>(by cases z)⟩|ins _ _=>exact⟨λz=>(by cases z),λv z=>(by cases z)⟩|xo _=>exact⟨λz=>(by cases z),λv z=>(by cases z)⟩
theorem UT{Z:List Addr}{H:Hp}{a:Addr}{xs:List AV}{ys:List V}(hq:cU T.K H a ys)(r:aO T Z H xs ys):RI T Z H (yA xs) (xj T.K a):=by
 intro Z' h' H' i e R;have r':=r.ext e;have hq':=e.ig hq;unfold yA;refine⟨λz=>⟨ys,hq',?_⟩,λv z=>?_⟩
 .have z':xs[i]?=none:=Option.some.inj z;rw[<- r.length];exact List.getElem?_eq_none_iff.mp z'
 .have z':xs[i]?=some v:=Option.some.inj z;obtain⟨y,h2,rv⟩:=r'.get z';refine⟨⟨ys,y,hq',h2⟩,λx H2 yl=>?_⟩;obtain⟨e2,k⟩:=yl;subst e2;have:=k ys hq';rw[h2]at this;cases this;exact⟨Z',.refl,R,rv⟩
theorem Vc{Z:List Addr}{H:Hp}{lo:Int}{n:Nat}:RI T Z H (vo lo n) (bh lo n):=by
 intro Z' h' H' i e R;unfold vo;by_cases hi:i<n
 .rw[if_pos hi];refine⟨λz=>(by cases z),λv z=>⟨hi,λx H2 yl=>?_⟩⟩;cases z;obtain⟨e2,e3⟩:=yl;subst e2;subst e3;exact⟨Z',.refl,R,.int _⟩
 .rw[if_neg hi];exact⟨λ_=>(by show n<=i;omega),λv z=>(by cases z)⟩
def EU(K:W.Frag)(tl:TE):TI:=λU H R=>tl U H λx H1=>∃a,x = .ref a/\(((∃xs,bO K H1 a xs)/\R (xi K a) H1)\/((∃xs,cU K H1 a xs)/\R (xj K a) H1))
theorem MH(hl:PE X l tl):PI X tg l (EU X.K tl):=by
 intro pins s U H R I h;refine aN (hl pins s U H _ I h) λv s1 ⟨x,H1,I1,r1,q1⟩=>?_;obtain⟨a,e,q⟩:=q1;subst e;cases r1;rcases q with⟨⟨xs,hq⟩,q⟩|⟨⟨xs,hq⟩,q⟩
 .obtain⟨its,rv,p,hz⟩:=I1.list hq;refine wpAny_pyIter_list p.isList ?_;refine⟨s1.heap.objs.size,[s1.heap.objs.size],_,_,H1,rfl,I1.kept (t':=s1.toks) λb o e=>Heap.get?_push_of_some _ e,ZQ a _,⟨_,Heap.get?_push_size _ rfl,rfl,rfl⟩,λb hb=>?_,q⟩;have e:b=s1.heap.objs.size:=by simpa using hb
  subst e;exact I1.oF (Nat.le_refl _) (I1.aE.fresh (Nat.le_refl _))
 .obtain⟨its,rv,p,hz⟩:=I1.tuple hq;refine wpAny_pyIter_tuple (show s1.heap.IsTuple a its.toArray from p) ?_;refine⟨s1.heap.objs.size,[s1.heap.objs.size],_,_,H1,rfl,I1.kept (t':=s1.toks) λb o e=>Heap.get?_push_of_some _ e,ZS a _,⟨_,Heap.get?_push_size _ rfl,rfl,rfl⟩,λb hb=>?_,q⟩;have e:b=s1.heap.objs.size:=by simpa using hb
  subst e;exact I1.oF (Nat.le_refl _) (I1.aE.fresh (Nat.le_refl _))
theorem tM:QI X T E tg e (λ_=>M.bad):=⟨λ_ _ _=>False,λ_ _ _ _ _ _ h=>h.elim,λ_ _ _ _ _ _ _ _ w=>w⟩
theorem Qe(hK:X.K=T.K)(ha:QE X T E l m):QI X T E tg l (λU=>(m U).bind gL):=by
 obtain⟨tl,pl,rl⟩:=ha;refine⟨_,MH pl,λZ U U' h H Q R S w=>rl Z U U' h H _ R S (W.bind w λZ1 x x' h1 H1 e1 R1 q1 w1=>?_)⟩;cases x with
 |tup xs=>
  cases q1 with
  |tup hq hr=>exact⟨_,rfl,.inr ⟨⟨_,by rw[hK];exact hq⟩,by rw[hK];exact W.here w1 R1 (UT hq hr)⟩⟩
 |ref n=>
  cases q1 with
  |@ref _ a q=>
   simp only[gL]at w1;cases o:h1.ob n with
   |none=>rw[o]at w1;exact w1.elim|some u=>
    rw[o]at w1;cases u with
    |lst mu xs=>obtain⟨ys,g1,r1⟩:=iX R1 o q;exact⟨a,rfl,.inl ⟨⟨ys,by rw[hK];exact g1⟩,by rw[hK];exact W.here w1 R1 (Vb q)⟩⟩
    |aI _=>exact w1.elim|bM _=>exact w1.elim|ins _ _=>exact w1.elim|xo _=>exact w1.elim
 |_=>exact w1.elim
theorem Gv{j:Int}(h:vH j=true):-(2 ^ 62)<=j/\j<2 ^ 62:=by simp only[vH,Bool.and_eq_true,decide_eq_true_eq]at h;exact h
theorem PM(hg:Gl X "range") (hm:X.mg "range"=none) (ha:QA X T E [a] mr) (hs:aT a=true):QI X T E tg (.Call (.Name "range" p) [a] [] pos) (λU=>(mr U).bind Ab):=by
 obtain⟨tr,pr,rr⟩:=ha;refine⟨_,MF hg hm pr (by rw[cQ hs];rfl),λZ U U' h H Q R S w=>rr Z U U' h H _ R S (W.bind w λZ1 xs bC h1 H1 e1 R1 q1 w1=>?_)⟩;cases q1 with
 |nil=>exact w1.elim|cons r1 rs=>
  cases rs with
  |nil=>
   cases r1 with
   |int j=>
    simp only[Ab]at w1;by_cases hj:vH j=true
    .rw[if_pos hj]at w1;obtain⟨h1,h2⟩:=Gv hj;exact⟨j,rfl,h1,h2,W.here w1 R1 Vc⟩
    .rw[if_neg hj]at w1;exact w1.elim
   |_=>exact w1.elim
  |cons r2 rs2=>cases r1<;>exact w1.elim
theorem PN(hg:Gl X "range") (hm:X.mg "range"=none) (ha:QA X T E [a,b] mr) (hs:aT a=true) (hs2:aT b=true):QI X T E tg (.Call (.Name "range" p) [a,b] [] pos) (λU=>(mr U).bind Ac):=by
 obtain⟨tr,pr,rr⟩:=ha;refine⟨_,MG hg hm pr (by rw[cQ hs,cQ hs2];rfl) (by rw[cQ hs2];rfl),λZ U U' h H Q R S w=>rr Z U U' h H _ R S (W.bind w λZ1 xs bC h1 H1 e1 R1 q1 w1=>?_)⟩;cases q1 with
 |nil=>exact w1.elim|cons r1 rs=>
  cases rs with
  |nil=>cases r1<;>exact w1.elim|cons r2 rs2=>
   cases rs2 with
   |nil=>
    cases r1 with
    |int i=>
     cases r2 with
     |int j=>
      simp only[Ac]at w1;by_cases hj:(vH i&&vH j)=true
      .rw[if_pos hj]at w1;rw[Bool.and_eq_true]at hj;obtain⟨h1,h2⟩:=Gv hj.1;obtain⟨h3,h4⟩:=Gv hj.2;exact⟨i,j,rfl,⟨h1,h2,h3,h4⟩,W.here w1 R1 Vc⟩
      .rw[if_neg hj]at w1;exact w1.elim
     |_=>exact w1.elim
    |_=>exact w1.elim
   |cons _ _=>cases r1<;>first|exact w1.elim|(cases r2<;>exact w1.elim)
def xh(K:W.Frag)(a:Addr):It:=
 ⟨λi H=>∃xs x,bO K H a xs/\xs[i]?=some x,λi H x H'=>∃T y,H T=none/\x = .ref T/\H'=aJ H T (.tup [.int i,y])/\∀xs,bO K H a xs->xs[i]?=some y,λi H=>∃xs,bO K H a xs/\xs.length<=i⟩
theorem Xb{pins:List (Addr×Obj)}{U:L2.St}{H:Hp}{s:Shared}{h':Heap}{tk:Nat}{ch:List Addr}{Tt:Addr}{ys:List V}{its:List Value}(I:Inv X pins U H s)(hf:∀b∈ch,fK X pins H b)
  (k:∀b o,b∉ch->s.heap.get? b=some o->h'.get? b=some o) (th:∀b∈ch,∃o,h'.get? b=some o) (hT:s.heap.objs.size<=Tt) (ht:IsTup h' Tt its.toArray) (rv:Vals ys its) (hz:ys.length<=sizeLine) :
  Inv X pins U (aJ H Tt (.tup ys)) { s with heap:=h',toks:=tk }:=by
 have hn:H Tt=none:=I.aE.fresh hT;have nch:∀b u,H b=some u->b∉ch:=λb u e hb=>by rw[(hf b hb).1]at e;cases e
 have lch:X.env.locals∉ch:=λhb=>(hf _ hb).2.1 rfl;refine I.step (g':=s.gens) (d':=s.drawn) (ch:=ch) (λb hb=>⟨(hf b hb).2.2.2.1,(hf b hb).2.1,(hf b hb).2.2.2.2.1,(hf b hb).2.2.2.2.2⟩) (λb o _ _ hc e _=>k b o hc e) (λb o _ _ hc e _=>⟨o.slots,k b o hc e⟩)
  (λb o _ e n=>by rw[aR (Nat.ne_of_lt (Nat.lt_of_lt_of_le (Heap.lt_size e) hT))];exact n) (λb o hc e=>⟨o,k b o hc e⟩)
  (λb xs e=>by rw[aR (dW e hn)];exact e) (λb o u e=>by rw[aR (dW e hn)];exact e) (λb ps e=>⟨#[],by rw[aR (dW e hn),e];simp⟩) (λm hm=>?_) (λb u e=>?_) I.bare
 .obtain⟨o,es,ep,ho,r⟩:=hm;exact⟨o,es,ep,k _ o lch ho,r⟩
 .by_cases hb:b=Tt
  .subst hb;rw[dN]at e;cases e;exact⟨hz,its,rv,ht⟩
  .rw[aR hb]at e;refine(I.aE b u e).gQ (λc v hc q=>k c v ?_ q) (λc q=>by rw[aR (dW q hn)];exact q) λc xs q=>by rw[aR (dW q hn)];exact q
   rcases hc with rfl|hc
   .exact nch _ _ e
   .exact nch _ _ hc
theorem Xa{pins:List (Addr×Obj)}{U:L2.St}{H:Hp}{s:Shared}{h':Heap}{tk:Nat}{ch:List Addr}(I:Inv X pins U H s)(hf:∀b∈ch,fK X pins H b)
  (k:∀b o,b∉ch->s.heap.get? b=some o->h'.get? b=some o):Inv X pins U H { s with heap:=h',toks:=tk }:=by
 have nch:∀b u,H b=some u->b∉ch:=λb u e hb=>by rw[(hf b hb).1]at e;cases e
 have lch:X.env.locals∉ch:=λhb=>(hf _ hb).2.1 rfl;refine I.step (g':=s.gens) (d':=s.drawn) (ch:=ch) (λb hb=>⟨(hf b hb).2.2.2.1,(hf b hb).2.1,(hf b hb).2.2.2.2.1,(hf b hb).2.2.2.2.2⟩) (λb o _ _ hc e _=>k b o hc e) (λb o _ _ hc e _=>⟨o.slots,k b o hc e⟩)
  (λb o _ e n=>n) (λb o hc e=>⟨o,k b o hc e⟩) (λb xs e=>e) (λb o u e=>e) (λb ps e=>⟨#[],by rw[e];simp⟩) (λm hm=>?_) (λb u e=>?_) I.bare
 .obtain⟨o,es,ep,ho,r⟩:=hm;exact⟨o,es,ep,k _ o lch ho,r⟩
 .refine(I.aE b u e).gQ (λc v hc q=>k c v ?_ q) (λc q=>q) λc xs q=>q;rcases hc with rfl|hc
  .exact nch _ _ e
  .exact nch _ _ hc
theorem ZP{P:Program}{w:World}{K:W.Frag}{elts:List Expr}{k:Nat}{tp:Pos}(a en it:Addr)(h1:en≠it)(h2:a≠en)(h3:a≠it) :
  Turn P w K (.Tuple elts k tp) (xh K a) [en,it] en (λi h=>(∃old,IsEnum h en it i old)/\h.IsListIter it a i) where
 mem:=by simp
 obj:=λi h st b hb=>by
  obtain⟨⟨old,he⟩,o,e,c,d⟩:=st;rcases List.mem_cons.mp hb with rfl|hb
  .exact⟨_,he,λv z=>by cases z⟩
  .have e':b=it:=by simpa using hb
   subst e';exact⟨o,e,λv z=>by rw[d]at z;cases z⟩
 keep:=λi h h' st k=>by obtain⟨⟨old,he⟩,hit⟩:=st;exact⟨⟨old,k en (by simp) _ he⟩,hit.at λo e=>k it (by simp) o e⟩
 item:=by
  intro X hP hw hK hc i pins s U H E I hf st hg;subst hP hw hK;obtain⟨xs,x,hq,hx⟩:=hg;obtain⟨its,rv,p,hz⟩:=I.list hq;obtain⟨u,hu,ru⟩:=rv.get hx;have hi:i<its.toArray.size:=by have:=(List.getElem?_eq_some_iff.mp hu).1;simpa using this
  have W:=WalksT.enumerate (prog:=X.prog) (w:=X.w) (I.ok.hd hc) en it a h1 h2 h3 its.toArray;refine W.item i s _ _ hi ⟨st.1,st.2,p.isList⟩ λTt vals h' tk hv hT htup hmid kk=>?_;obtain⟨t,x',hx',rfl⟩:=hv;have ex:x'=u:=by
   have:its.toArray[i]?=some u:=by simpa using hu
   rw[this]at hx';exact(Option.some.inj hx').symm
  subst ex;refine⟨.ref Tt,rfl,?_⟩;refine W.go elts k tp i Tt { s with heap:=h',toks:=tk } _ _ hmid λh'' hst kk2=>?_;obtain⟨he2,hit2,hl2⟩:=hst;have keep2:∀b o,b∉[en,it]->s.heap.get? b=some o->h''.get? b=some o:=λb o hb e=>kk2 b o hb (kk b o hb e);have htup2:IsTup h'' Tt #[.int i t,x']:=by obtain⟨o,e,r⟩:=htup;exact⟨o,kk2 _ _ (W.apart i Tt _ hmid) e,r⟩
  have I2:Inv X pins U (aJ H Tt (.tup [.int i,x])) { s with heap:=h'',toks:=tk }:=Xb (its:=[.int i t,x']) I hf keep2 (λb hb=>by
   obtain⟨⟨old,he⟩,o,e,_⟩:=(⟨he2,hit2⟩:(∃old,IsEnum h'' en it (i+1) old)/\h''.IsListIter it a (i+1));rcases List.mem_cons.mp hb with rfl|hb
   .exact⟨_,he⟩
   .have e':b=it:=by simpa using hb
    subst e';exact⟨o,e⟩) hT htup2 (.cons ⟨t,rfl⟩ (.cons ru .nil)) (by show 2<=sizeLine;decide)
  have hn:H Tt=none:=I.aE.fresh hT;refine⟨.ref Tt,_,I2,rfl,⟨Tt,x,hn,rfl,rfl,λzs hzs=>by rw[I.Au hzs hq];exact hx⟩,⟨he2,hit2⟩,λb hb=>?_⟩;have hb':b<s.heap.objs.size:=by
   obtain⟨⟨old,he⟩,o,e,_⟩:=id st;rcases List.mem_cons.mp hb with rfl|hb
   .exact Heap.lt_size he
   .have e':b=it:=by simpa using hb
    subst e';exact Heap.lt_size e
  rw[aR (Nat.ne_of_lt (Nat.lt_of_lt_of_le hb' hT))];exact(hf b hb).1
 done:=by intro X hP hw hK hc i pins s U H E I hf st hg;subst hP hw hK;obtain⟨xs,hq,hx⟩:=hg;obtain⟨its,rv,p,hz⟩:=I.list hq;have hl:=rv.length;obtain⟨⟨old,he⟩,hit⟩:=st;exact wpAny_pyNext_enum_end (I.ok.hd hc) he hit p.isList (by simp;omega) λh' eb=>⟨rfl,Xa (tk:=s.toks) I hf λb o hb e=>eb b o (λz=>hb (by simp[z])) e⟩
 self:=λA i s Q E st h=>by obtain⟨⟨old,he⟩,_⟩:=st;exact wpAny_pyIter_enum he h
def ER(K:W.Frag)(ta:TA):TI:=λU H R=>ta U H λvs H1=>∃a,vs=[.ref a]/\(∃xs,bO K H1 a xs)/\R (xh K a) H1
theorem ME{elts:List Expr} {k:Nat} {tp:Pos} {ta:TA} (hg:Gl X "enumerate") (hm:X.mg "enumerate"=none) (ha:PA X [a] ta) (hs:starEach [a] X.env=[(false,eval a X.env)]):PI X (.Tuple elts k tp) (.Call (.Name "enumerate" p) [a] [] pos) (ER X.K ta):=by
 intro pins s U H R I h;refine Call_ (tF I hg hm boot_enumerate (PyProof.Rows.callWith_type1 (aN (ha pos pins s U H _ I h) λus s1 ⟨vs,H1,I1,r1,q1⟩=>?_) hs rfl));obtain⟨a,e,⟨xs,hq⟩,q⟩:=q1;subst e;cases r1 with
 |cons r rr=>
  cases rr;cases r;obtain⟨its,rv,p,hz⟩:=I1.list hq;have ha:a<s1.heap.objs.size:=by obtain⟨o,_,e,_⟩:=p;exact Heap.lt_size e
  refine call_enumerate_list p.isList λh' he hit hsz kk=>?_;have I2:Inv X pins U H1 { s1 with heap:=h' }:=I1.kept (t':=s1.toks) kk;refine wpAny_pyIter_enum he ?_;refine⟨s1.heap.objs.size+1,[s1.heap.objs.size+1,s1.heap.objs.size],_,_,H1,rfl,I2,ZP a _ _ (Nat.ne_of_gt (Nat.lt_succ_self _)) (Nat.ne_of_lt (Nat.lt_succ_of_lt ha)) (Nat.ne_of_lt ha),⟨⟨_,he⟩,hit⟩,λb hb=>?_,q⟩;rcases List.mem_cons.mp hb with rfl|hb
  .exact I1.oF (Nat.le_succ _) (I1.aE.fresh (Nat.le_succ _))
  .have e':b=s1.heap.objs.size:=by simpa using hb
   subst e';exact I1.oF (Nat.le_refl _) (I1.aE.fresh (Nat.le_refl _))
theorem US{Z:List Addr}{H:Hp}{n:Nat}{a:Addr}(q:Z[n]?=some a):RI T Z H (pS (eG n)) (xh T.K a):=by
 intro Z' h' H' i e R;obtain⟨h1,h2⟩:=Vb (T:=T) (H:=H) q Z' h' H' i e R;unfold pS;cases o:eG n i h' with
 |none=>exact⟨λz=>(by cases z),λv z=>(by cases z)⟩|some u=>
  cases u with
  |none=>exact⟨λ_=>h1 o,λv z=>(by cases z)⟩|some v=>refine⟨λz=>(by cases z),λv' z=>?_⟩;cases z;obtain⟨g1,g2⟩:=h2 v o;refine⟨g1,λx H2 yl=>?_⟩;obtain⟨Tt,y,hn,rfl,rfl,k⟩:=yl;obtain⟨Z2,e2,R2,rv⟩:=g2 y H' ⟨rfl,k⟩;exact⟨Z2,⟨e2.pre,(Ext.fS (Z:=Z') hn).tup,(Ext.fS (Z:=Z') hn).bH⟩,R2.keep hn,.tup (.of dN) (.cons (.int _) (.cons (rv.ext (.fS hn)) .nil))⟩
theorem PL{elts:List Expr} {k:Nat} {tp:Pos} (hK:X.K=T.K) (hg:Gl X "enumerate") (hm:X.mg "enumerate"=none) (ha:QE X T E a m) (hs:aT a=true) :
  QI X T E (.Tuple elts k tp) (.Call (.Name "enumerate" p) [a] [] pos) (λU=>(m U).bind ke):=by
 obtain⟨ta,pa,ra⟩:=ha;refine⟨_,ME hg hm (kG pa qH (cQ hs)) (by rw[cQ hs];rfl),λZ U U' h H Q R S w=>ra Z U U' h H _ R S (W.bind w λZ1 x x' h1 H1 e1 R1 q1 w1=>?_)⟩;cases x with
 |ref n=>
  cases q1 with
  |@ref _ a q=>
   simp only[ke]at w1;cases o:h1.ob n with
   |none=>rw[o]at w1;exact w1.elim|some u=>
    rw[o]at w1;cases u with
    |lst mu xs=>obtain⟨ys,g1,r1⟩:=iX R1 o q;exact⟨a,rfl,⟨ys,by rw[hK];exact g1⟩,by rw[hK];exact W.here w1 R1 (US q)⟩
    |aI _=>exact w1.elim|bM _=>exact w1.elim|ins _ _=>exact w1.elim|xo _=>exact w1.elim
 |_=>exact w1.elim
def vR(xs:List AV)(lo hi:Option Int):List AV:=(xs.drop (HT.aY xs.length 0 lo)).take (HT.aY xs.length xs.length hi-HT.aY xs.length 0 lo)
theorem Lh{Z:List Addr}{H:Hp}{xs:List AV}{ys:List V}(r:aO T Z H xs ys)(lo hi:Option Int):aO T Z H (vR xs lo hi) (rJ ys lo hi):=by unfold vR rJ;rw[<- r.length];exact(r.drop _).take _
def sZ(x:AV)(lo hi:Option Int):M AV:=λh=>match x with
 |.ref n=>match h.ob n with
  |some (.lst _ xs)=>eW (vR xs lo hi) h
  |_=>.bad
 |.tup xs=>if HT.aY xs.length 0 lo=0/\HT.aY xs.length xs.length hi=xs.length then .bad else .ok (.tup (vR xs lo hi)) h
 |_=>.bad
def Xt:Rl (Option Int) (Option Int):=λ_ _ a b=>a=b
def QO(X:Cx)(T:Tab)(E:XK)(o:Option Expr)(m:aA->M (Option Int)):Prop:=
 ∃t,PO X o t/\∀Z U U' h H Q,aQ T Z h H->bA T Z H U U'->W T Xt (m U h) Z H Q E->t U' H Q
def dc(v:AV):M (Option Int):=λh=>match v with
 |.int i=>.ok (some i) h
 |_=>.bad
theorem SN:QO X T E none (λ_=>M.ret none):=⟨_,MR,λZ U U' h H Q R S w=>W.here w R rfl⟩
theorem SO(ha:QE X T E a m):QO X T E (some a) (λU=>(m U).bind dc):=by
 obtain⟨ta,pa,ra⟩:=ha;refine⟨_,MS pa,λZ U U' h H Q R S w=>ra Z U U' h H _ R S (W.bind w λZ1 x x' h1 H1 e1 R1 q1 w1=>?_)⟩;cases x with
 |int i=>cases q1;exact⟨i,rfl,W.here w1 R1 rfl⟩|_=>exact w1.elim
theorem PB(hK:X.K=T.K){lo hi:Option Expr}{p2:Pos}{ml mh:aA->M (Option Int)}(ha:QE X T E a m)(hl:QO X T E lo ml)(hh:QO X T E hi mh) :
  QE X T E (.Subscript a (.Slice lo hi none p2) pos) (λU=>(m U).bind λx=>(ml U).bind λl=>(mh U).bind λu=>sZ x l u):=by
 obtain⟨ta,pa,ra⟩:=ha;obtain⟨tl,pl,rl⟩:=hl;obtain⟨th,ph,rh⟩:=hh;refine⟨_,LR (WW.or WX) pa pl ph,λZ U U' h H Q R S w=>ra Z U U' h H _ R S (W.bind w λZ1 x x' h1 H1 e1 R1 q1 w1=>?_)⟩;refine rl Z1 U U' h1 H1 _ R1 (S.ext e1) (W.bind w1 λZ2 l l' h2 H2 e2 R2 q2 w2=>?_);refine rh Z2 U U' h2 H2 _ R2 ((S.ext e1).ext e2) (W.bind w2 λZ3 u u' h3 H3 e3 R3 q3 w3=>?_);cases(show l=l' from q2);cases(show u=u' from q3);have q1':=(q1.ext e2).ext e3;cases x with
 |ref n=>
  cases q1' with
  |@ref _ a q=>
   simp only[sZ]at w3;cases o:h3.ob n with
   |none=>rw[o]at w3;exact w3.elim|some ob=>
    rw[o]at w3;cases ob with
    |lst mu xs=>obtain⟨ys,g1,r1⟩:=iX R3 o q;exact .inl ⟨a,ys,rfl,by rw[hK];exact g1,λp hp=>tI R3 (Lh r1 l u) hp w3⟩
    |aI _=>exact w3.elim|bM _=>exact w3.elim|ins _ _=>exact w3.elim|xo _=>exact w3.elim
 |tup xs=>
  cases q1' with
  |@tup a _ ys hq hr=>
   simp only[sZ]at w3;by_cases hw:HT.aY xs.length 0 l=0/\HT.aY xs.length xs.length u=xs.length
   .rw[if_pos hw]at w3;exact w3.elim
   .rw[if_neg hw]at w3;refine .inr ⟨a,ys,rfl,by rw[hK];exact hq,by rw[<- hr.length];exact hw,λp hp=>mm R3 (Lh hr l u) hp w3⟩
 |_=>exact w3.elim
def cz(xs:List AV):M AV:=λh=>match xs with
 |[.str z]=>if z.length<=sizeLine then .ok (.int z.length) h else .bad
 |[x]=>match dD h x with
  |some ys=>.ok (.int ys.length) h
  |none=>.bad
 |_=>.bad
def Mo(xs:List AV):M AV:=λh=>match xs with
 |[.int i]=>.ok (.int i) h
 |[.bl k]=>.ok (.int (if k then 1 else 0)) h
 |_=>.bad
def wD:List AV->Option (Int×Int)
 |[.int i,.int j]=>some (i,j)
 |_=>none
def yX:List AV->Option AV
 |[x]=>some x
 |_=>none
def Mu(xs:List AV):M AV:=λh=>match wD xs with
 |some (i,j)=>.ok (.int (if j<i then j else i)) h
 |none=>.bad
def Mt(xs:List AV):M AV:=λh=>match wD xs with
 |some (i,j)=>.ok (.int (if j > i then j else i)) h
 |none=>.bad
def Mj(xs:List AV):M AV:=λh=>match wD xs with
 |some (i,j)=>if sU j=true then .ok (.tup [.int (i / j),.int (i%j)]) h else .bad
 |none=>.bad
def Nb(xs:List AV):M AV:=λh=>match (yX xs).bind (dD h) with
 |some ys=>.ok (.tup ys) h
 |none=>.bad
def Mr(xs:List AV):M AV:=λh=>match (yX xs).bind (dD h) with
 |some ys=>eW ys h
 |none=>.bad
theorem FJ{xs:List AV}{i j:Int}(h:wD xs=some (i,j)):xs=[.int i,.int j]:=by
 unfold wD at h;split at h
 .cases h;rfl
 .cases h
theorem IG{xs:List AV}{x:AV}(h:yX xs=some x):xs=[x]:=by
 unfold yX at h;split at h
 .cases h;rfl
 .cases h
theorem Zm(hK:X.K=T.K):nY X T E (.builtin "len") cz:=by
 refine⟨_,Ys.or Yt,λZ h H xs bC Q R r w=>?_⟩;cases r with
 |nil=>exact w.elim|@cons x x' _ _ r1 rs=>
  cases rs with
  |nil=>
   have go:(∀z,x ≠ .str z)->(∃p ys,[x']=[.ref p]/\(bO X.K H p ys\/cU X.K H p ys)/\Q (.int ys.length) H):=λnz=>by
    have w':W T (aG T) (match dD h x with
     |some ys=>Res.ok (.int ys.length) h
     |none=>.bad) Z H Q E:=by
      cases x with
      |str z=>exact absurd rfl (nz z)|_=>exact w
    cases o:dD h x with
    |none=>rw[o]at w';exact w'.elim|some ys=>rw[o]at w';obtain⟨p,zs,e,hq,hr⟩:=au R r1 o;refine⟨p,zs,by rw[e],by rw[hK];exact hq,?_⟩;rw[<- hr.length];exact w'.here R (.int _)
   cases x with
   |str z=>
    cases r1;simp only[cz]at w;by_cases hz:z.length<=sizeLine
    .rw[if_pos hz]at w;exact .inr ⟨z,rfl,hz,w.here R (.int _)⟩
    .rw[if_neg hz]at w;exact w.elim
   |_=>exact .inl (go λz e=>by cases e)
  |cons r2 rs2=>cases x<;>exact w.elim
theorem Zl:nY X T E (.type "int") Mo:=by
 refine⟨_,Yo,λZ h H xs bC Q R r w=>?_⟩;cases r with
 |nil=>exact w.elim|cons r1 rs=>
  cases rs with
  |nil=>
   cases r1 with
   |int i=>exact .inl ⟨i,rfl,W.here w R (.int _)⟩|bl k=>exact .inr ⟨k,rfl,W.here w R (.int _)⟩|_=>exact w.elim
  |cons r2 rs2=>cases r1<;>exact w.elim
theorem yr{f:Value}{k:Int->Int->M AV}{r:List V->Hp->VK->Prop}(hr:eI X f r)
  (hw:∀Z h H i j Q,aQ T Z h H->W T (aG T) (k i j h) Z H Q E->r [.int i,.int j] H Q):nY X T E f (λxs h=>match wD xs with
   |some (i,j)=>k i j h
   |none=>.bad):=by
 refine⟨_,hr,λZ h H xs bC Q R rr w=>?_⟩;cases o:wD xs with
 |none=>simp only[o]at w;exact w.elim|some q=>
  obtain⟨i,j⟩:=q;simp only[o]at w;have e:=FJ o;subst e;cases rr with
  |cons r1 rs=>
   cases r1;cases rs with
   |cons r2 rs2=>cases r2;cases rs2;exact hw Z h H i j Q R w
theorem Zp(hc:X.calm=true):nY X T E (.builtin "min") Mu:=yr (k:=λi j h=>.ok (.int (if j<i then j else i)) h) (Yw hc) λZ h H i j Q R w=>⟨i,j,rfl,W.here w R (.int _)⟩
theorem Zo(hc:X.calm=true):nY X T E (.builtin "max") Mt:=yr (k:=λi j h=>.ok (.int (if j > i then j else i)) h) (Yv hc) λZ h H i j Q R w=>⟨i,j,rfl,W.here w R (.int _)⟩
theorem Yn:eI X (.builtin "divmod") (λxs H Q=>∃i j,xs=[.int i,.int j]/\(0<j/\j<2 ^ 1000)/\∀p,H p=none->Q (.ref p) (aJ H p (.tup [.int (i / j),.int (i%j)]))):=by intro pins s U H xs us Q I r h;obtain⟨i,j,rfl,⟨h1,h2⟩,q⟩:=h;obtain⟨u,w',rfl,⟨t,rfl⟩,⟨t',rfl⟩⟩:=qX r;refine divmod_int (by omega) ?_ (.inl (PyProof.noPylong_of_log2 (log2_lt h2 h1)));rw[Int.fdiv_eq_ediv_of_nonneg i (by omega),Int.fmod_eq_emod_of_nonneg i (by omega)];have hn:H s.heap.objs.size=none:=I.aE.fresh (Nat.le_refl _);refine⟨.ref s.heap.objs.size,_,?_,rfl,q _ hn⟩;refine I.laid (λb o e=>Heap.get?_push_of_some _ e) (Nat.le_refl _) ⟨by simp only[List.length_cons,List.length_nil];rw[sizeLine_eq];decide,[.int (i / j) s.toks,.int (i%j) (s.toks+1)],.cons ⟨_,rfl⟩ (.cons ⟨_,rfl⟩ .nil),?_⟩;exact⟨_,Heap.get?_push_size s.heap rfl,rfl,0,rfl⟩
theorem Zk:nY X T E (.builtin "divmod") Mj:=yr (k:=λi j h=>if sU j=true then .ok (.tup [.int (i / j),.int (i%j)]) h else .bad) Yn λZ h H i j Q R w=>by
 by_cases hj:sU j=true
 .simp only[if_pos hj]at w;exact⟨i,j,rfl,Lq hj,λp hp=>mm R (.cons (.int _) (.cons (.int _) .nil)) hp w⟩
 .simp only[if_neg hj]at w;exact w.elim
theorem Pb{Z:List Addr}{h:AH}{H:Hp}{xs:List AV}{bC:List V}{Q:VK}{k:List AV->M AV}(R:aQ T Z h H)(r:aO T Z H xs bC)(w:W T (aG T) ((match (yX xs).bind (dD h) with
  |some ys=>k ys h
  |none=>.bad:Res AV)) Z H Q E):∃p ys zs,bC=[.ref p]/\(bO T.K H p zs\/cU T.K H p zs)/\aO T Z H ys zs/\W T (aG T) (k ys h) Z H Q E:=by
 cases o1:yX xs with
 |none=>rw[o1]at w;exact w.elim|some x=>
  rw[o1]at w;simp only[Option.bind_some]at w;have e:=IG o1;subst e;cases r with
  |cons r1 rs=>
   cases rs;cases o:dD h x with
   |none=>rw[o]at w;exact w.elim|some ys=>rw[o]at w;obtain⟨p,zs,e,hq,hr⟩:=au R r1 o;exact⟨p,ys,zs,by rw[e],hq,hr,w⟩
theorem Zq(hK:X.K=T.K):nY X T E (.type "tuple") Nb:=by
 refine⟨_,Zd,λZ h H xs bC Q R r w=>?_⟩;obtain⟨p,ys,zs,rfl,hq,hr,w'⟩:=Pb (k:=λys h=>.ok (.tup ys) h) R r w;rcases hq with hq|hq
 .exact⟨p,zs,rfl,.inl ⟨by rw[hK];exact hq,λl hl=>mm R hr hl w'⟩⟩
 .exact⟨p,zs,rfl,.inr ⟨by rw[hK];exact hq,W.here w' R (.tup hq hr)⟩⟩
theorem Zn(hK:X.K=T.K):nY X T E (.type "list") Mr:=by refine⟨_,Yu,λZ h H xs bC Q R r w=>?_⟩;obtain⟨p,ys,zs,rfl,hq,hr,w'⟩:=Pb (k:=λys h=>eW ys h) R r w;exact⟨p,zs,rfl,by rw[hK];exact hq,λl hl=>tI R hr hl w'⟩
theorem ni{x:Str} {id:String} {g:List AV->M AV} (hc:nY X T E (.builtin id) g) (hg:Gl X x) (hm:X.mg x=none) (hv:bootBuiltins x=some (.builtin id)) (ha:QA X T E (e::es) mr) (hs:(e::es).all aT=true) (hn:x≠"__name__") (hd:(x==("__debug__":Str))=false) :
  QE X T E (.Call (.Name x p) (e::es) [] pos) (λU=>(mr U).bind g):=by
 obtain⟨r,hr,hgg⟩:=hc;obtain⟨tr,pr,rr⟩:=ha;rw[List.all_cons,Bool.and_eq_true]at hs;exact⟨_,zF hr hg hm hv pr hn hd (cQ hs.1) (lG hs.2),λZ U U' h H Q R S w=>rr Z U U' h H _ R S (W.bind w λZ1 xs bC h1 H1 e1 R1 q1 w1=>hgg Z1 h1 H1 xs bC Q R1 q1 w1)⟩
theorem Br{x:Str} {id:String} {g:List AV->M AV} (hc:nY X T E (.type id) g) (hg:Gl X x) (hm:X.mg x=none) (hv:bootBuiltins x=some (.type id)) (ha:QA X T E (e::es) mr) (hs:(e::es).all aT=true) (hn:x≠"__name__") (hd:(x==("__debug__":Str))=false) :
  QE X T E (.Call (.Name x p) (e::es) [] pos) (λU=>(mr U).bind g):=by
 obtain⟨r,hr,hgg⟩:=hc;obtain⟨tr,pr,rr⟩:=ha;rw[List.all_cons,Bool.and_eq_true]at hs;exact⟨_,KY hr hg hm hv pr hn hd (cQ hs.1) (lG hs.2),λZ U U' h H Q R S w=>rr Z U U' h H _ R S (W.bind w λZ1 xs bC h1 H1 e1 R1 q1 w1=>hgg Z1 h1 H1 xs bC Q R1 q1 w1)⟩
end
def Hv(aZ bD:Bool)(K:W.Frag)(a b:Addr):It:=
  ⟨λi H=>∃xs ys x y,iT aZ K H a xs/\iT bD K H b ys/\xs[i]?=some x/\ys[i]?=some y,
   λi H x H'=>∃T u v,H T=none/\x = .ref T/\H'=aJ H T (.tup [u,v])/\(∀xs,iT aZ K H a xs->xs[i]?=some u)/\∀ys,iT bD K H b ys->ys[i]?=some v,
   λi H=>∃xs ys,iT aZ K H a xs/\iT bD K H b ys/\(xs[i]?=none\/ys[i]?=none)⟩
section
variable {X:Cx}{T:Tab}{E:XK}{a b c e tg l:Expr}{es:List Expr}{ma mb m:aA->M AV}{mr:aA->M (List AV)}{pos p:Pos}
theorem av{pins:List (Addr×Obj)}{U:L2.St}{H:Hp}{s:Shared}{kd:Bool}{l:Addr}{xs:List V}(I:Inv X pins U H s)(h:iT kd X.K H l xs):∃its:List Value,Vals xs its/\hV kd s.heap l its.toArray:=by
 cases kd with
 |true=>obtain⟨its,rv,p,_⟩:=I.list h;exact⟨its,rv,p.isList⟩|false=>obtain⟨its,rv,p,_⟩:=I.tuple h;exact⟨its,rv,p⟩
theorem Vw{pins:List (Addr×Obj)}{U:L2.St}{H:Hp}{s:Shared}{kd:Bool}{l:Addr}{xs ys:List V}(I:Inv X pins U H s)(h:iT kd X.K H l xs)(h':iT kd X.K H l ys):xs=ys:=by
 cases kd with
 |true=>exact I.Au h h'|false=>exact I.Wz h h'
theorem ZT{P:Program}{w:World}{K:W.Frag}{elts:List Expr}{k:Nat}{tp:Pos}(aZ bD:Bool){z TI TO i1 i2 l1 l2:Addr}(D:ZipApart z TI TO i1 i2 l1 l2) :
  Turn P w K (.Tuple elts k tp) (Hv aZ bD K l1 l2) [z,TI,TO,i1,i2] z (λi h=>IsZip h z TI TO .none/\IsPair h TI (.ref i1) (.ref i2)/\(∃a b,IsPair h TO a b)/\gT aZ h i1 l1 i/\gT bD h i2 l2 i) where
 mem:=by simp
 obj:=λi h st b hb=>by
  obtain⟨hz,hTI,⟨a,b',hTO⟩,h1,h2⟩:=st;simp only[List.mem_cons,List.not_mem_nil,or_false]at hb;rcases hb with rfl|rfl|rfl|rfl|rfl
  .exact⟨_,hz,λv q=>by cases q⟩
  .exact⟨_,hTI,λv q=>by cases q⟩
  .exact⟨_,hTO,λv q=>by cases q⟩
  .exact h1.live
  .exact h2.live
 keep:=λi h h' st kk=>by obtain⟨hz,hTI,⟨a,b',hTO⟩,h1,h2⟩:=st;exact⟨kk z (by simp) _ hz,kk TI (by simp) _ hTI,⟨a,b',kk TO (by simp) _ hTO⟩,h1.at λo e=>kk i1 (by simp) o e,h2.at λo e=>kk i2 (by simp) o e⟩
 item:=by
  intro X hP hw hK hc i pins s U H E I hf st hg;subst hP hw hK;obtain⟨xs,ys,x,y,hq1,hq2,hx,hy⟩:=hg;obtain⟨its1,rv1,p1⟩:=av I hq1;obtain⟨its2,rv2,p2⟩:=av I hq2;obtain⟨u1,hu1,ru1⟩:=rv1.get hx;obtain⟨u2,hu2,ru2⟩:=rv2.get hy;obtain⟨hz,hTI,⟨a,b',hTO⟩,h1,h2⟩:=id st;have hh:X.A.in1.handled=none:=I.ok.hd hc;refine IA D (eT.kd hh aZ D.l1i1 its1.toArray) (eT.kd hh bD D.l2i2 its2.toArray) hz hTI hTO ⟨h1,p1⟩ ⟨h2,p2⟩ (x:=u1) (y:=u2) (by simpa using hu1) (by simpa using hu2) λh' z' t' s1 s2 new kk=>?_;refine⟨_,rfl,?_⟩;refine wpAny_letOwnedTupleGo_zip z' λh'' z'' sb=>?_;have lt:∀{c:Addr} {o:Obj},s.heap.get? c=some o->s.heap.objs.size≠c:=λe=>Nat.ne_of_gt (Heap.lt_size e);have keep2:∀c o,c∉[z,TI,TO,i1,i2]->s.heap.get? c=some o->h''.get? c=some o:=λc o hc e=>by simp only[List.mem_cons,List.not_mem_nil,or_false,not_or]at hc;exact sb.extBut _ _ hc.1 (kk c o hc.1 hc.2.2.1 hc.2.2.2.1 hc.2.2.2.2 e)
  have hTI2:IsPair h'' TI (.ref i1) (.ref i2):=sb.extBut _ _ D.TIz (kk _ _ D.TIz D.TITO D.TIi1 D.TIi2 hTI);have hTO2:IsPair h'' TO u1 u2:=sb.extBut _ _ D.TOz t';have s1':gT aZ h'' i1 l1 (i+1):=s1.1.at λo e=>sb.extBut _ _ D.i1z e;have s2':gT bD h'' i2 l2 (i+1):=s2.1.at λo e=>sb.extBut _ _ D.i2z e;have new2:IsPair h'' s.heap.objs.size u1 u2:=sb.extBut _ _ (lt hz) new;have I2:Inv X pins U (aJ H s.heap.objs.size (.tup [x,y])) { s with heap:=h'' }:=Xb (tk:=s.toks) (its:=[u1,u2]) I hf keep2 (λc hc=>by
   simp only[List.mem_cons,List.not_mem_nil,or_false]at hc;rcases hc with rfl|rfl|rfl|rfl|rfl
   .exact⟨_,z''⟩
   .exact⟨_,hTI2⟩
   .exact⟨_,hTO2⟩
   .exact let ⟨o,e,_⟩:=s1'.live;⟨o,e⟩
   .exact let ⟨o,e,_⟩:=s2'.live;⟨o,e⟩) (Nat.le_refl _) ⟨_,new2,rfl,_,rfl⟩ (.cons ru1 (.cons ru2 .nil)) (by show 2<=sizeLine;decide)
  have hn:H s.heap.objs.size=none:=I.aE.fresh (Nat.le_refl _);refine⟨.ref s.heap.objs.size,_,I2,rfl,⟨_,x,y,hn,rfl,rfl,λzs hzs=>by rw[Vw I hzs hq1];exact hx,λzs hzs=>by rw[Vw I hzs hq2];exact hy⟩,⟨z'',hTI2,⟨_,_,hTO2⟩,s1',s2'⟩,λc hc=>?_⟩;have hc':s.heap.objs.size≠c:=by
   simp only[List.mem_cons,List.not_mem_nil,or_false]at hc;rcases hc with rfl|rfl|rfl|rfl|rfl
   .exact lt hz
   .exact lt hTI
   .exact lt hTO
   .exact let ⟨o,e,_⟩:=h1.live;lt e
   .exact let ⟨o,e,_⟩:=h2.live;lt e
  rw[aR hc'.symm];exact(hf c hc).1
 done:=by
  intro X hP hw hK hc i pins s U H E I hf st hg;subst hP hw hK;obtain⟨xs,ys,hq1,hq2,hend⟩:=hg;obtain⟨its1,rv1,p1⟩:=av I hq1;obtain⟨its2,rv2,p2⟩:=av I hq2;obtain⟨hz,hTI,⟨a,b',hTO⟩,h1,h2⟩:=id st;have hh:X.A.in1.handled=none:=I.ok.hd hc;refine CC D (eT.kd hh aZ D.l1i1 its1.toArray) (eT.kd hh bD D.l2i2 its2.toArray) hz hTI hTO ⟨h1,p1⟩ ⟨h2,p2⟩ ?_ λh' kk=>⟨rfl,Xa (tk:=s.toks) I hf λc o hc e=>?_⟩
  .rcases hend with q|q
   .exact .inl (by simpa using rv1.none_of q)
   .exact .inr (by simpa using rv2.none_of q)
  .simp only[List.mem_cons,List.not_mem_nil,or_false,not_or]at hc;exact kk c o hc.1 hc.2.2.1 hc.2.2.2.1 hc.2.2.2.2 e
 self:=λA i s Q E st h=>wpAny_pyIter_zip st.1 h
theorem A4(n a b:Nat)(ha:a<n)(hb:b<n):ZipApart (n+4) (n+2) (n+3) n (n+1) a b:=
 ⟨Nat.ne_of_lt (by omega),Nat.ne_of_lt (by omega),Nat.ne_of_lt (by omega),Nat.ne_of_lt (by omega),Nat.ne_of_lt (by omega),Nat.ne_of_gt (by omega),Nat.ne_of_gt (by omega),Nat.ne_of_gt (by omega),Nat.ne_of_gt (by omega),Nat.ne_of_lt (by omega),
  Nat.ne_of_lt (by omega),Nat.ne_of_lt (by omega),Nat.ne_of_lt (by omega),Nat.ne_of_lt (by omega),Nat.ne_of_lt (by omega),Nat.ne_of_lt (by omega),Nat.ne_of_lt (by omega),Nat.ne_of_lt (by omega)⟩
def EV(K:W.Frag)(ta:TA):TI:=λU H R=>ta U H λvs H1=>∃a b aZ bD,vs=[.ref a,.ref b]/\(∃xs,iT aZ K H1 a xs)/\(∃ys,iT bD K H1 b ys)/\R (Hv aZ bD K a b) H1
theorem MI{elts:List Expr} {k:Nat} {tp:Pos} {ta:TA} (hg:Gl X "zip") (hm:X.mg "zip"=none) (ha:PA X [a,b] ta) (hs:aT a=true) (hs2:aT b=true):PI X (.Tuple elts k tp) (.Call (.Name "zip" p) [a,b] [] pos) (EV X.K ta):=by
 intro pins s U H R I h;refine Call_ (tF I hg hm boot_zip (PyProof.Rows.callWith_type1 (aN (ha pos pins s U H _ I h) λus s1 ⟨vs,H1,I1,r1,q1⟩=>?_) (cQ hs) (lG (by simp[hs2]))));obtain⟨a,b,aZ,bD,e,⟨xs,hq1⟩,⟨ys,hq2⟩,q⟩:=q1;subst e;cases r1 with
 |cons r rr=>
  cases r;cases rr with
  |cons r' rr'=>
   cases r';cases rr';obtain⟨its1,rv1,p1⟩:=av I1 hq1;obtain⟨its2,rv2,p2⟩:=av I1 hq2;have ltA:∀{kd:Bool} {l:Addr} {items:Array Value},hV kd s1.heap l items->l<s1.heap.objs.size:=λ{kd l items} hl=>by
    cases kd with
    |true=>obtain⟨o,e,_⟩:=(show s1.heap.IsList l items from hl);exact Heap.lt_size e|false=>obtain⟨o,e,_⟩:=(show s1.heap.IsTuple l items from hl);exact Heap.lt_size e
   have la:=ltA p1;have lb:=ltA p2;refine Ze aZ bD p1 p2 λh' hz hTI hTO h1 h2 kk=>?_;have I2:Inv X pins U H1 { s1 with heap:=h' }:=I1.kept (t':=s1.toks) kk;refine wpAny_pyIter_zip hz ?_;have ne:∀{x y:Nat},x<y->x≠y:=λh=>Nat.ne_of_lt h;have D:ZipApart (s1.heap.objs.size+4) (s1.heap.objs.size+2) (s1.heap.objs.size+3) s1.heap.objs.size (s1.heap.objs.size+1) a b:=A4 _ _ _ la lb;refine⟨s1.heap.objs.size+4,[s1.heap.objs.size+4,s1.heap.objs.size+2,s1.heap.objs.size+3,s1.heap.objs.size,s1.heap.objs.size+1],_,_,H1,rfl,I2,ZT aZ bD D,⟨hz,hTI,⟨_,_,hTO⟩,h1,h2⟩,λc hc=>?_,q⟩;have hle:s1.heap.objs.size<=c:=by
    simp only[List.mem_cons,List.not_mem_nil,or_false]at hc;rcases hc with rfl|rfl|rfl|rfl|rfl
    .exact Nat.le_add_right _ _
    .exact Nat.le_add_right _ _
    .exact Nat.le_add_right _ _
    .exact Nat.le_refl _
    .exact Nat.le_add_right _ _
   exact I1.oF hle (I1.aE.fresh hle)
def rA(it jt:dS):dS:=λi h=>match it i h,jt i h with
 |some (some u),some (some v)=>some (some (.tup [u,v]))
 |some none,some _=>some none
 |some _,some none=>some none
 |_,_=>none
def kl(xs:List AV):M dS:=λh=>match xs with
 |[x,y]=>match gL x h,gL y h with
  |.ok it _,.ok jt _=>.ok (rA it jt) h
  |_,_=>.bad
 |_=>.bad
theorem Nu{Z:List Addr}{h:AH}{H:Hp}{x:AV}{x':V}{it:dS}{h2:AH}(R:aQ T Z h H)(r:aG T Z H x x')(e:gL x h = .ok it h2) :
  ∃a kd,x' = .ref a/\(∃xs,iT kd T.K H a xs)/\∀Z' h' H' i,Ext Z H Z' H'->aQ T Z' h' H'->∀o,it i h'=some o->∃ys,iT kd T.K H' a ys/\((o=none/\ys[i]?=none)\/∃v v',o=some v/\ys[i]?=some v'/\aG T Z' H' v v'):=by
 cases x with
 |tup xs=>
  cases r with
  |@tup a _ ys hq hr=>
   cases e;refine⟨a,false,rfl,⟨ys,hq⟩,λZ' h' H' i ex R' o ho=>⟨ys,ex.ig hq,?_⟩⟩;have ho':xs[i]?=o:=Option.some.inj ho;have r':=hr.ext ex;cases o with
   |none=>exact .inl ⟨rfl,by rw[List.getElem?_eq_none_iff]at ho' ⊢;rw[<- hr.length];exact ho'⟩|some v=>obtain⟨v',g1,g2⟩:=r'.get ho';exact .inr ⟨v,v',rfl,g1,g2⟩
 |ref n=>
  cases r with
  |@ref _ a q=>
   simp only[gL]at e;cases ob:h.ob n with
   |none=>rw[ob]at e;cases e|some u=>
    rw[ob]at e;cases u with
    |lst mu xs=>
     cases e;obtain⟨ys,g1,r1⟩:=iX R ob q;refine⟨a,true,rfl,⟨ys,g1⟩,λZ' h' H' i ex R' o ho=>?_⟩;unfold eG at ho;cases ob':h'.ob n with
     |none=>rw[ob']at ho;cases ho|some u'=>
      rw[ob']at ho;cases u' with
      |lst mu' bC=>
       obtain⟨zs,g2,r2⟩:=iX R' ob' (ex.pre n a q);have ho':bC[i]?=o:=Option.some.inj ho;refine⟨zs,g2,?_⟩;cases o with
       |none=>exact .inl ⟨rfl,by rw[List.getElem?_eq_none_iff]at ho' ⊢;rw[<- r2.length];exact ho'⟩|some v=>obtain⟨v',g3,g4⟩:=r2.get ho';exact .inr ⟨v,v',rfl,g3,g4⟩
      |aI _=>cases ho|bM _=>cases ho|ins _ _=>cases ho|xo _=>cases ho
    |aI _=>cases e|bM _=>cases e|ins _ _=>cases e|xo _=>cases e
 |_=>cases e
theorem PQ{elts:List Expr} {k:Nat} {tp:Pos} (hK:X.K=T.K) (hg:Gl X "zip") (hm:X.mg "zip"=none) (ha:QA X T E [a,b] mr) (hs:aT a=true) (hs2:aT b=true) :
  QI X T E (.Tuple elts k tp) (.Call (.Name "zip" p) [a,b] [] pos) (λU=>(mr U).bind kl):=by
 obtain⟨ta,pa,ra⟩:=ha;refine⟨_,MI hg hm pa hs hs2,λZ U U' h H Q R S w=>ra Z U U' h H _ R S (W.bind w λZ1 xs bC h1 H1 e1 R1 q1 w1=>?_)⟩;cases q1 with
 |nil=>exact w1.elim|@cons x x' _ _ r1 rs=>
  cases rs with
  |nil=>exact w1.elim|@cons y y' _ _ r2 rs2=>
   cases rs2 with
   |cons _ _=>exact w1.elim|nil=>
    simp only[kl]at w1;cases g1:gL x h1 with
    |exc _ _ _=>rw[g1]at w1;exact w1.elim|bad=>rw[g1]at w1;exact w1.elim|ok it hx=>
     cases g2:gL y h1 with
     |exc _ _ _=>rw[g1,g2]at w1;exact w1.elim|bad=>rw[g1,g2]at w1;exact w1.elim|ok jt hy=>
      rw[g1,g2]at w1;obtain⟨pa,aZ,rfl,sa,fa⟩:=Nu R1 r1 g1;obtain⟨pb,bD,rfl,sb,fb⟩:=Nu R1 r2 g2;refine⟨pa,pb,aZ,bD,rfl,by rw[hK];exact sa,by rw[hK];exact sb,?_⟩;rw[hK];refine W.here w1 R1 λZ' h' H' i ex R'=>?_;unfold rA;cases o1:it i h' with
      |none=>exact⟨λq=>(by cases q),λv q=>(by cases q)⟩|some u=>
       cases o2:jt i h' with
       |none=>
        cases u with
        |none=>exact⟨λq=>(by cases q),λv q=>(by cases q)⟩|some u=>exact⟨λq=>(by cases q),λv q=>(by cases q)⟩
       |some v=>
        obtain⟨ys1,s1,c1⟩:=fa Z' h' H' i ex R' u o1;obtain⟨ys2,s2,c2⟩:=fb Z' h' H' i ex R' v o2;rcases c1 with⟨rfl,n1⟩|⟨u1,u1',rfl,n1,t1⟩
        .exact⟨λ_=>⟨ys1,ys2,s1,s2,.inl n1⟩,λv q=>(by cases q)⟩
        .rcases c2 with⟨rfl,n2⟩|⟨u2,u2',rfl,n2,t2⟩
         .exact⟨λ_=>⟨ys1,ys2,s1,s2,.inr n2⟩,λv q=>(by cases q)⟩
         .refine⟨λq=>(by cases q),λv q=>⟨⟨ys1,ys2,u1',u2',s1,s2,n1,n2⟩,λx H2 yl=>?_⟩⟩;cases q;obtain⟨Tt,y1,y2,hn,rfl,rfl,k1,k2⟩:=yl;have e1:=k1 ys1 s1;have e2:=k2 ys2 s2;rw[n1]at e1;rw[n2]at e2;cases e1;cases e2;exact⟨Z',.fS hn,R'.keep hn,.tup (.of dN) (.cons (t1.ext (.fS hn)) (.cons (t2.ext (.fS hn)) .nil))⟩
end
def cO{α:Type}(m:M α):M α:=λh=>match m h with
 |.ok a h1=>.ok a h1
 |_=>.bad
theorem Be{T:Tab}{α β:Type}{Rp:Rl α β}{m:M α}{h:AH}{Z:List Addr}{H:Hp}{Q:β->Hp->Prop}{E E':XK}(w:W T Rp (cO m h) Z H Q E):W T Rp (m h) Z H Q E':=by
 unfold cO at w;cases e:m h with
 |ok a h1=>rw[e]at w;exact w|exc c x h1=>rw[e]at w;exact w.elim|bad=>rw[e]at w;exact w.elim
theorem M.bind_assoc{α β γ:Type}(m:M α)(k:α->M β)(l:β->M γ):(m.bind k).bind l=m.bind λx=>(k x).bind l:=by
 funext h
 unfold M.bind;cases m h<;>rfl
def cM(it:dS)(g:AV->aA->M aA)(mt:aA->M Bool)(me:aA->M AV):Nat->Nat->List AV->aA->M (List AV)
 |0,_,_,_=>M.bad
 |f+1,i,ys,U=>λh=>match it i h with
  |none=>.bad
  |some none=>.ok ys h
  |some (some v)=>((cO (g v U)).bind λU1=>(cO (mt U1)).bind λb=>if b=true then(cO (me U1)).bind λy=>M.guard (ys.length<sizeLine) (cM it g mt me f (i+1) (ys++[y]) U1) else cM it g mt me f (i+1) ys U1) h
def gM{α:Type}(imp:List (Option Nat))(U:List (Option α)):List (Option α):=imp.map λo=>match o with
 |some j=>(U[j]?).getD none
 |none=>none
def vP(mi:M dS)(g:AV->aA->M aA)(mt:aA->M Bool)(me:aA->M AV)(imp:List (Option Nat))(U:aA):M AV:=mi.bind λit=>(cM it g mt me FU 0 [] (gM imp U)).bind eW
def Wf(T:Tab)(m:aA->M AV):TE:=λU' H Q=>∃Z U h,aQ T Z h H/\bA T Z H U U'/\W T (aG T) (m U h) Z H Q E0
def Wh(T:Tab)(m:aA->M Bool):TT:=λU' H Q=>∃Z U h,aQ T Z h H/\bA T Z H U U'/\W T RB (m U h) Z H Q E0
def Wg(T:Tab)(g:AV->aA->M aA):TG:=λv' U' H Q=>∃Z v U h,aQ T Z h H/\bA T Z H U U'/\aG T Z H v v'/\W T (bA T) (g v U h) Z H Q E0
section
variable {X:Cx}{T:Tab}{E:XK}{elt tg bG:Expr}{ct:Option Expr}{me:aA->M AV}{mt:aA->M Bool}{mi:aA->M dS}{g:AV->aA->M aA}{imp:List (Option Nat)}{N':List Str}{scope:Scope}{pos:Pos}
theorem QE.canon{e:Expr}{m:aA->M AV}(h:QE X T E0 e m):PE X e (Wf T m):=let ⟨t,p,r⟩:=h;λpins s U' H Q I ⟨Z,U,h,R,S,w⟩=>p pins s U' H Q I (r Z U U' h H Q R S w)
theorem QT.canon{e:Expr}{m:aA->M Bool}(h:QT X T E0 e m):PT X e (Wh T m):=let ⟨t,p,r⟩:=h;λpins s U' H Q I ⟨Z,U,h,R,S,w⟩=>p pins s U' H Q I (r Z U U' h H Q R S w)
theorem QG.canon{e:Expr}{g:AV->aA->M aA}(h:QG X T E0 e g):PG X e (Wg T g):=let ⟨t,p,r⟩:=h;λpins s U' H v' u Q I ru ⟨Z,v,U,h,R,S,rv,w⟩=>p pins s U' H v' u Q I ru (r Z v v' U U' h H Q R S rv w)
theorem kr{α:Type}(U:List (Option α)):(gM imp U).length=imp.length:=by simp[gM]
theorem Ai{α:Type}{U:List (Option α)}{i:Nat}{v:α}(h:(gM imp U)[i]?=some (some v)):∃j,imp[i]?=some (some j)/\U[j]?=some (some v):=by
 unfold gM at h;rw[List.getElem?_map]at h;cases e:imp[i]? with
 |none=>rw[e]at h;cases h|some o=>
  rw[e]at h;cases o with
  |none=>cases h|some j=>
   refine⟨j,rfl,?_⟩;have h':(U[j]?).getD none=some v:=Option.some.inj h;cases q:U[j]? with
   |none=>rw[q]at h';cases h'|some w=>rw[q]at h';exact congrArg some h'
theorem bA.FF{Z:List Addr}{H:Hp}{U:aA}{U':L2.St}(S:bA T Z H U U'):bA T Z H (gM imp U) (gM imp U'):=by refine⟨by rw[kr,kr],λi v e=>?_⟩;obtain⟨j,h1,h2⟩:=Ai e;obtain⟨v',h3,r⟩:=S.2 j v h2;refine⟨v',?_,r⟩;unfold gM;rw[List.getElem?_map,h1];show some ((U'[j]?).getD none)=_;rw[h3];rfl
theorem Le{wi:TI}(ri:∀Z U U' h H R,aQ T Z h H->bA T Z H U U'->W T (RI T) (mi U h) Z H R E->wi U' H R){Z:List Addr}{U:aA}{U':L2.St}{h:AH}{H:Hp}{Q:VK}(R:aQ T Z h H)(S:bA T Z H U U')
  (w:W T (aG T) (vP (mi U) g mt me imp U h) Z H Q E):Hb wi (gM imp) (Wg T g) (Wh T mt) (Wf T me) U' H Q:=by
 refine ri Z U U' h H _ R S (W.bind w λZ1 it J h1 H1 e1 R1 q1 w1=>?_);refine⟨λi m ys' U' H=>∃Z ys U h,Ext Z1 H1 Z H/\aQ T Z h H/\bA T Z H U U'/\aO T Z H ys ys'/\W T (aG T) (((cM it g mt me m i ys U).bind eW) h) Z H Q E,FU,⟨Z1,[],_,h1,.refl,R1,(S.ext e1).FF,.nil,w1⟩,?_⟩;rintro i m ys' U' H ⟨Z,ys,U,h,e,R,S,rys,w⟩
 cases m with
 |zero=>exact w.elim|succ f=>
  cases hit:it i h with
  |none=>
   have w':W T (aG T) Res.bad Z H Q E:=by simp only[cM,M.bind,hit]at w;exact w
   exact w'.elim
  |some o=>
   cases o with
   |none=>
    have w':W T (aG T) (eW ys h) Z H Q E:=by simp only[cM,M.bind,hit]at w;exact w
    exact .inl ⟨(q1 Z h H i e R).1 hit,λD hD=>tI R rys hD w'⟩
   |some v=>
    have w':W T (aG T) ((((cO (g v U)).bind λU1=>(cO (mt U1)).bind λb=>if b=true then(cO (me U1)).bind λy=>M.guard (ys.length<sizeLine) (cM it g mt me f (i+1) (ys++[y]) U1) else cM it g mt me f (i+1) ys U1).bind eW) h) Z H Q E:=by
     have e1:∀k:List AV->M AV,((cM it g mt me (f+1) i ys U).bind k) h=((((cO (g v U)).bind λU1=>(cO (mt U1)).bind λb=>if b=true then(cO (me U1)).bind λy=>M.guard (ys.length<sizeLine) (cM it g mt me f (i+1) (ys++[y]) U1) else cM it g mt me f (i+1) ys U1).bind k) h):=λk=>by unfold M.bind;simp only[cM,hit];rfl
     rw[e1]at w;exact w
    rw[M.bind_assoc]at w';obtain⟨go,yl⟩:=(q1 Z h H i e R).2 v hit;refine .inr ⟨go,λx H2 y=>?_⟩;obtain⟨Z2,e2,R2,rv⟩:=yl x H2 y;refine⟨Z2,v,U,h,R2,S.ext e2,rv,Be (E:=E) (W.bind (w'.ext e2) λZ3 U3 U3' h3 H3 e3 R3 S3 w3=>?_)⟩;rw[M.bind_assoc]at w3;refine⟨Z3,U3,h3,R3,S3,Be (E:=E) (W.bind w3 λZ4 d d' h4 H4 e4 R4 q4 w4=>?_)⟩;have q4':d=d':=q4;subst q4';cases d with
    |true=>
     rw[if_pos rfl]at w4 ⊢;rw[M.bind_assoc]at w4;refine⟨Z4,U3,h4,R4,S3.ext e4,Be (E:=E) (W.bind w4 λZ5 y y' h5 H5 e5 R5 q5 w5=>?_)⟩;by_cases hz:ys.length<sizeLine
     .have w6:W T (aG T) (((cM it g mt me f (i+1) (ys++[y]) U3).bind eW) h5) Z5 H5 Q E:=by
       have e6:((M.guard (ys.length<sizeLine) (cM it g mt me f (i+1) (ys++[y]) U3)).bind eW) h5=((cM it g mt me f (i+1) (ys++[y]) U3).bind eW) h5:=by unfold M.bind M.guard;rw[if_pos hz]
       rw[e6]at w5;exact w5
      have eE:=(((e.trans e2).trans e3).trans e4).trans e5;exact⟨by rw[<- rys.length];exact hz,f,Nat.lt_succ_self f,Z5,ys++[y],U3,h5,eE,R5,(S3.ext e4).ext e5,(rys.ext (((e2.trans e3).trans e4).trans e5)).append (.cons q5 .nil),w6⟩
     .have e6:((M.guard (ys.length<sizeLine) (cM it g mt me f (i+1) (ys++[y]) U3)).bind eW) h5 = .bad:=by unfold M.bind M.guard;rw[if_neg hz]
      rw[e6]at w5;exact w5.elim
    |false=>rw[if_neg Bool.false_ne_true]at w4 ⊢;exact⟨f,Nat.lt_succ_self f,Z4,ys,U3,h4,((e.trans e2).trans e3).trans e4,R4,S3.ext e4,rys.ext ((e2.trans e3).trans e4),w4⟩
theorem Pw(hsc:jV X N' scope)(hcalm:X.calm=true)(hi:QI X T E tg bG mi)(hg:∀s H C fp,QG (X.comp N' scope s H C fp) T E0 tg g)(hct:∀c,ct=some c->∀s H C fp,QT (X.comp N' scope s H C fp) T E0 c mt)
  (hct0:ct=none->mt=λ_=>M.ret true) (he:∀s H C fp,QE (X.comp N' scope s H C fp) T E0 elt me) (himp:imp.length=N'.length)
  (hU:∀(i j:Nat) x,N'[i]?=some x->imp[i]?=some (some j)->scope.names.lookup x=some .free/\(x,NameKind.free)∈scope.names/\X.N[j]?=some x) (hs:aT bG=true) :
  QE X T E (.ListComp elt [⟨tg,bG,ct.toList,0⟩] scope pos) (λU=>vP (mi U) g mt me imp U):=by
 obtain⟨wi,pi,ri⟩:=hi;refine⟨_,LB (imp:=gM imp) hsc hcalm pi (λs H C fp=>(hg s H C fp).canon) (λc e s H C fp=>(hct c e s H C fp).canon) (λe U H Q=>?_) (λs H C fp=>(he s H C fp).canon) (λU=>by rw[kr,himp]) (λU i x v e1 e2=>?_) λx=>Gw hs,λZ U U' h H Q R S w=>Le ri R S w⟩
 .rintro ⟨Z,U,h,R,S,w⟩
  rw[hct0 e]at w;exact W.here (Rp:=RB) w R rfl
 .obtain⟨j,h1,h2⟩:=Ai e2;obtain⟨a,b,c⟩:=hU i j x e1 h1;exact⟨a,b,j,c,h2⟩
theorem Uh{i:Nat}{y:Str}{py spos:Pos}(hN:X.N.Nodup)(hi':X.N[i]?=some y)(hy:X.env.scope.names.lookup y=some .local)
  (hsw:swapsWith (.ListComp elt [⟨tg,bG,ct.toList,0⟩] scope pos) (some (.Name y py)) spos.line X.env=pure true) (hsc:jV X N' scope) (hcalm:X.calm=true) (hi:QI X T E tg bG mi) (hg:∀s H C fp,QG (X.comp N' scope s H C fp) T E0 tg g) (hct:∀c,ct=some c->∀s H C fp,QT (X.comp N' scope s H C fp) T E0 c mt)
  (hct0:ct=none->mt=λ_=>M.ret true) (he:∀s H C fp,QE (X.comp N' scope s H C fp) T E0 elt me) (himp:imp.length=N'.length)
  (hU:∀(i j:Nat) x,N'[i]?=some x->imp[i]?=some (some j)->scope.names.lookup x=some .free/\(x,NameKind.free)∈scope.names/\X.N[j]?=some x) (hs:aT bG=true) :
  QS X T E (.Assign [.Name y py] (.ListComp elt [⟨tg,bG,ct.toList,0⟩] scope pos) spos) (λU=>(vP (mi U) g mt me imp U).bind λv=>(M.ret (U.set i (some v))).bind λU1=>M.ret (.nx U1)):=by
 obtain⟨wi,pi,ri⟩:=hi;refine⟨_,NJ (imp:=gM imp) hN hi' hy hsw hsc hcalm pi (λs H C fp=>(hg s H C fp).canon) (λc e s H C fp=>(hct c e s H C fp).canon) (λe U H Q=>?_) (λs H C fp=>(he s H C fp).canon) (λU=>by rw[kr,himp]) (λU i x v e1 e2=>?_) λx=>Gw hs,
  λZ U U' h H D R S w=>Le ri R S (W.bind w λZ1 x x' h1 H1 e1 R1 q1 w1=>W.here (Q:=eB D) (b:=dY.nx (U'.set i (some x'))) w1 R1 ((S.ext e1).set q1 i))⟩
 .rintro ⟨Z,U,h,R,S,w⟩
  rw[hct0 e]at w;exact W.here (Rp:=RB) w R rfl
 .obtain⟨j,h1,h2⟩:=Ai e2;obtain⟨a,b,c⟩:=hU i j x e1 h1;exact⟨a,b,j,c,h2⟩
end
section
variable {X:Cx}{T:Tab}{E:XK}{e l tg:Expr}{st:Stmt}{m:aA->M AV}{ms:aA->M Out}
def oI:aD->AV
 |.inl i=>.int i
 |.inr x=>.str x
theorem GD{Z:List Addr}{H:Hp}(k:aD):aG T Z H (oI k) (kV k):=by
 cases k with
 |inl i=>exact .int i|inr x=>exact .str x
def gI(ks:List aD):dS:=λi _=>match ks[i]? with
 |some k=>some (some (oI k))
 |none=>if i=ks.length then some none else none
def cq(v:AV):M dS:=λh=>match v with
 |.ref n=>match h.ob n with
  |some (.aI kvs)=>.ok (gI (kvs.map (·.1))) (h.put n (.bM kvs))
  |_=>.bad
 |_=>.bad
def iu{α:Type}(n:Nat)(r:Res α):Res α:=match r with
 |.ok a h=>match h.ob n with
  |some (.bM kvs)=>.ok a (h.put n (.aI kvs))
  |_=>.bad
 |_=>.bad
theorem UR{Z:List Addr}{H:Hp}{a:Addr}{o:Obj}{kvs:List (aD×AV)}{ys:List V}(hH:H a=some (.bH o (.dK ((kvs.map (·.1)).zip ys))))(hl:ys.length=kvs.length):RI T Z H (gI (kvs.map (·.1))) (xg a o ((kvs.map (·.1)).zip ys)):=by
 intro Z' h' H' i e R;have hH':=e.bH _ _ _ hH;have hlen:((kvs.map (·.1)).zip ys).length=kvs.length:=by simp[hl]
 refine⟨λz=>?_,λv z=>?_⟩
 .unfold gI at z;cases q:(kvs.map (·.1))[i]? with
  |some k=>rw[q]at z;cases z|none=>
   rw[q]at z;dsimp only at z;by_cases hi:i=(kvs.map (·.1)).length
   .exact⟨hH',by rw[hlen];simpa using hi.symm⟩
   .rw[if_neg hi]at z;cases z
 .unfold gI at z;cases q:(kvs.map (·.1))[i]? with
  |none=>rw[q]at z;dsimp only at z;split at z<;>cases z
  |some k=>
   rw[q]at z;cases z;have hi:i<kvs.length:=by simpa using (List.getElem?_eq_some_iff.mp q).1
   refine⟨⟨hH',by rw[hlen];exact hi⟩,λx H2 y=>?_⟩;obtain⟨rfl,k',v',hk,rfl⟩:=y;have hk':k'=k:=by rw[List.getElem?_zip_eq_some]at hk;rw[q]at hk;exact(Option.some.inj hk.1).symm
   subst hk';exact⟨Z',.refl,R,GD k'⟩
theorem PJ(ha:QE X T E l m):QI X T E tg l (λU=>(m U).bind cq):=by
 obtain⟨tl,pl,rl⟩:=ha;refine⟨_,MD pl,λZ U U' h H R Rh S w=>rl Z U U' h H _ Rh S (W.bind w λZ1 v v' h1 H1 e1 R1 q1 w1=>?_)⟩;unfold cq at w1;cases v with
 |ref n=>
  cases q1 with
  |@ref _ a q=>
   dsimp only at w1;cases o:h1.ob n with
   |none=>rw[o]at w1;exact w1.elim|some u=>
    rw[o]at w1;cases u with
    |aI kvs=>
     dsimp only at w1;obtain⟨ks,ys,hH,hk,rv⟩:=R1.obj n _ a o q;subst hk;refine⟨a,_,rfl,hH,λob=>?_⟩;have ex:Ext Z1 H1 Z1 (aJ H1 a (.bH ob (.dK ((kvs.map (·.1)).zip ys)))):=⟨λ_ _ z=>z,λb xs z=>by
      rw[aR (lX z hH λw=>by cases w)];exact z,λb x u z=>by
      rw[aR (lX z hH λw=>by cases w)];exact z⟩
     obtain⟨Rf,ef⟩:=R1.write (o':=.bM kvs) (O':=.bH ob (.dK ((kvs.map (·.1)).zip ys))) o rfl rfl q hH (λ_ z=>by cases z) (λ_ _ z=>by cases z) ⟨ob,_,ys,dN,rfl,rv.ext ex⟩;exact w1 Z1 _ _ ef Rf (UR dN (by have:=rv.length;simpa using this.symm))
    |_=>exact w1.elim
 |_=>exact w1.elim
theorem ZI{α β:Type}{Rp:Rl α β}(sb:∀Z H H' a b,rB Z H H'->Rp Z H a b->Rp Z H' a b){r:Res α}{n:Nat}{h:AH}{Z:List Addr}{H:Hp}{Q:β->Hp->Prop}{kvs:List (aD×AV)}(R:aQ T Z h H)(hn:h.ob n=some (.aI kvs))
  (w:W T Rp (iu n r) Z H Q E):W T Rp r Z H (λb=>Tw H (Q b)) E:=by
 cases r with
 |ok a h'=>
  intro Z' b H' e R' q;unfold iu at w;dsimp only at w;cases o:h'.ob n with
  |none=>rw[o]at w;exact w.elim|some u=>
   rw[o]at w;cases u with
   |bM kvs'=>
    dsimp only at w;obtain⟨a0,q0,ks,ys,hH,_,_⟩:=R.at hn;have q':=e.pre n a0 q0;obtain⟨ob,kz,hO,R2⟩:=R'.ZG o q';refine⟨a0,_,ob,kz,hH,hO,w Z' b _ ⟨e.pre,λc xs z=>?_,λc x u z=>?_⟩ R2 (sb _ _ _ _ _ (Ma hO) q)⟩
    .have:=e.tup c xs z;rw[aR (λy=>by rw[y,hO]at this;cases this)];exact this
    .have:=e.bH c x u z;rw[aR (λy=>by rw[y,hH]at z;cases z)];exact this
   |_=>exact w.elim
 |exc c x h'=>exact w.elim|bad=>exact w.elim
def jr(r:Res AV):Option Nat:=match r with
 |.ok (.ref n) _=>some n
 |_=>none
def gR{α:Type}(m0:aA->M AV)(ms:aA->M α):aA->M α:=λU h=>match jr (m0 U h) with
 |some n=>match h.ob n with
  |some (.aI _)=>iu n (ms U h)
  |_=>.bad
 |none=>.bad
theorem Wn{α β:Type}{Rp:Rl α β}(sb:∀Z H H' a b,rB Z H H'->Rp Z H a b->Rp Z H' a b){m0:aA->M AV}{ma:aA->M α}{U:aA}{h:AH}{Z:List Addr}{H:Hp}{Q:β->Hp->Prop}(R:aQ T Z h H)
  (w:W T Rp (gR m0 ma U h) Z H Q E):W T Rp (ma U h) Z H (λb=>Tw H (Q b)) E:=by
 unfold gR at w;cases d:jr (m0 U h) with
 |none=>rw[d]at w;exact w.elim|some n=>
  rw[d]at w;dsimp only at w;cases o:h.ob n with
  |none=>rw[o]at w;exact w.elim|some u=>
   rw[o]at w;cases u with
   |aI kvs=>exact ZI sb R o w|_=>exact w.elim
theorem bA.ext2{Z:List Addr}{H H':Hp}{U:aA}{U':L2.St}(S:bA T Z H U U')(e:rB Z H H'):bA T Z H' U U':=
 ⟨S.1,λi v q=>let ⟨v',a,b⟩:=S.2 i v q;⟨v',a,b.ext2 e⟩⟩
theorem VA{Z:List Addr}{H H':Hp}{a:Out}{b:dY}(e:rB Z H H')(r:RO T Z H a b):RO T Z H' a b:=by cases a<;>cases b<;>first|exact bA.ext2 r e|exact aG.ext2 e r|exact r
theorem Ui(m0:aA->M AV)(hq:QS X T E st ms):QS X T E st (gR m0 ms):=by
 obtain⟨t,p,r⟩:=hq;refine⟨_,NK p,λZ U U' h H D R S w=>r Z U U' h H _ R S ?_⟩;have k:=Wn (Rp:=RO T) (λZ H H' a b e q=>VA e q) R w;have e:(λb=>Tw H (eB D b))=eB (Lv H D):=by funext b;cases b<;>rfl
 rw[e]at k;exact k
theorem Pz(m0:aA->M AV)(hq:QE X T E e m):QE X T E e (gR m0 m):=by obtain⟨t,p,r⟩:=hq;exact⟨_,LS p,λZ U U' h H Q R S w=>r Z U U' h H _ R S (Wn (Rp:=aG T) (λZ H H' a b e q=>aG.ext2 e q) R w)⟩
end
inductive Kc where
 |any|srt (b:Bool)|dq
 |sd
def rF:List AV->Option (List Bool)
 |[]=>some []
 |.bl b::r=>(rF r).map (b::·)
 |_=>none
def kD:List AV->Option (List Int)
 |[]=>some []
 |.int b::r=>(kD r).map (b::·)
 |_=>none
theorem Ke:∀bs:List Bool,rF (bs.map AV.bl)=some bs
 |[]=>rfl|b::bs=>by simp[rF,Ke bs]
theorem Am:∀bs:List Int,kD (bs.map AV.int)=some bs
 |[]=>rfl|b::bs=>by simp[kD,Am bs]
def Kc.gl:Kc->List AV->M AV
 |.any,xs=>λh=>match rF xs with
  |some bs=>.ok (.bl (bs.any id)) h
  |none=>.bad
 |.srt b,xs=>λh=>match kD xs with
  |some ns=>if ns.length<64 then eW ((gF b ns).map AV.int) h else .bad
  |none=>.bad
 |.dq,xs=>λh=>match kD xs with
  |some ns=>.ok (if ns.isEmpty then .aC else .int (lW ns)) h
  |none=>.bad
 |.sd,xs=>λh=>match kD xs with
  |some ns=>if ns.length<64 then eW ((gF false ns).map AV.int) h else .bad
  |none=>.bad
def tD:List aD->Option (List Int)
 |[]=>some []
 |.inl i::r=>(tD r).map (i::·)
 |_=>none
theorem Nl:∀bs:List Int,tD (bs.map Sum.inl)=some bs
 |[]=>rfl|b::bs=>by simp[tD,Nl bs]
theorem Nk:∀{ks:List aD} {ns:List Int},tD ks=some ns->ks=ns.map Sum.inl
 |[],ns,e=>by cases e;rfl
 |.inl i::r,ns,e=>by
  simp only[tD]at e;cases q:tD r with
  |none=>rw[q]at e;cases e|some bs=>rw[q]at e;cases e;rw[Nk q];rfl
 |.inr _::_,_,e=>by cases e
def Kc.gd:Kc->List (aD×AV)->M AV
 |.sd,kvs=>λh=>match tD (kvs.map (·.1)) with
  |some ns=>if ns.length<64 then eW ((gF false ns).map AV.int) h else .bad
  |none=>.bad
 |_,_=>M.bad
def Kc.g(k:Kc)(x:AV):M AV:=λh=>match x with
 |.ref n=>match h.ob n with
  |some (.lst _ xs)=>k.gl xs h
  |some (.aI kvs)=>k.gd kvs h
  |_=>.bad
 |_=>.bad
section
variable {X:Cx}{T:Tab}{E:XK}{a:Expr}{m:aA->M AV}{p pos:Pos}
theorem Kb{Z:List Addr}{H:Hp}:∀{xs:List AV} {ys:List V} {bs:List Bool},aO T Z H xs ys->rF xs=some bs->ys=bs.map V.bl
 |_,_,_,.nil,e=>by cases e;rfl
 |_,_,_,.cons (x:=x) (xs:=xs) h t,e=>by
  cases h with
  |bl b=>
   simp only[rF]at e;cases q:rF xs with
   |none=>rw[q]at e;cases e|some bs=>rw[q]at e;cases e;rw[Kb t q];rfl
  |_=>cases e
theorem lj{Z:List Addr}{H:Hp}:∀{xs:List AV} {ys:List V} {bs:List Int},aO T Z H xs ys->kD xs=some bs->ys=bs.map V.int
 |_,_,_,.nil,e=>by cases e;rfl
 |_,_,_,.cons (x:=x) (xs:=xs) h t,e=>by
  cases h with
  |int b=>
   simp only[kD]at e;cases q:kD xs with
   |none=>rw[q]at e;cases e|some bs=>rw[q]at e;cases e;rw[lj t q];rfl
  |_=>cases e
theorem Ap(hK:X.K=T.K){k:Kc}
  (hgd:k.gd=λ_=>M.bad)
  {Z:List Addr} {h:AH} {H:Hp} {x:AV} {x':V} {Q:VK} (R:aQ T Z h H) (r:aG T Z H x x') (w:W T (aG T) (k.g x h) Z H Q E) :
  ∃(l:Addr) (xs:List AV) (ys:List V),x' = .ref l/\bO X.K H l ys/\aO T Z H xs ys/\W T (aG T) (k.gl xs h) Z H Q E:=by
 unfold Kc.g at w;cases x with
 |ref n=>
  cases r with
  |@ref _ l q=>
   dsimp only at w;cases o:h.ob n with
   |none=>rw[o]at w;exact w.elim|some u=>
    rw[o]at w;cases u with
    |lst b xs=>obtain⟨ys,h1,h2⟩:=iX R o q;exact⟨l,xs,ys,rfl,by rw[hK];exact h1,h2,w⟩
    |aI kvs=>dsimp only at w;rw[hgd]at w;exact w.elim|_=>exact w.elim
 |_=>exact w.elim
theorem OB(hK:X.K=T.K) (hc:X.calm=true) (hg:Gl X "any") (hm:X.mg "any"=none) (ha:QE X T E a m) (hs:aT a=true):QE X T E (.Call (.Name "any" p) [a] [] pos) (λU=>(m U).bind (Kc.any.g)):=by
 obtain⟨ta,pa,ra⟩:=ha;refine⟨_,zF (Ym hc) hg hm (by decide +kernel) (kG pa qH (cQ hs)) (by decide) (by decide) (cQ hs) rfl,λZ U U' h H Q R S w=>?_⟩;refine ra Z U U' h H _ R S (W.bind w λZ1 x x' h1 H1 e1 R1 q1 w1=>?_);obtain⟨l,xs,ys,rfl,hq,hr,w2⟩:=Ap hK
  rfl
  R1 q1 w1
 simp only[Kc.gl]at w2;cases q:rF xs with
 |none=>rw[q]at w2;exact w2.elim|some bs=>rw[q]at w2;have e:=Kb hr q;subst e;exact⟨l,bs,rfl,hq,w2.here R1 (.bl _)⟩
theorem PC(hK:X.K=T.K) {b:Bool} {k:Nat} {kp kq:Pos} (hg:Gl X "sorted") (hm:X.mg "sorted"=none) (ha:QE X T E a m) (hs:aT a=true) :
  QE X T E (.Call (.Name "sorted" p) [a] [⟨some "reverse",.Constant (.bool b) k kq,kp⟩] pos) (λU=>(m U).bind ((Kc.srt b).g)):=by
 obtain⟨ta,pa,ra⟩:=ha;refine⟨_,Bk (z:=.bl b) (r:=λv H Q=>∃l ns,v = .ref l/\bO X.K H l (ns.map V.int)/\ns.length<64/\∀D,H D=none->Q (.ref D) (aJ H D (.lst ((gF b ns).map V.int)))) ?_ hg hm boot_sorted pa mx (cQ hs) (by decide) (by decide),λZ U U' h H Q R S w=>?_⟩
 .intro pins s U H v u zu Q I rv rz ⟨l,ns,ev,hq,hn,q⟩;subst ev;cases rv;have rz':zu=Value.bool b:=rz;subst rz';exact Zb b I hq hn q
 refine ra Z U U' h H _ R S (W.bind w λZ1 x x' h1 H1 e1 R1 q1 w1=>?_);obtain⟨l,xs,ys,rfl,hq,hr,w2⟩:=Ap hK
  rfl
  R1 q1 w1
 simp only[Kc.gl]at w2;cases q:kD xs with
 |none=>rw[q]at w2;exact w2.elim|some ns=>
  rw[q]at w2;dsimp only at w2;have e:=lj hr q;subst e;by_cases hn:ns.length<64
  .rw[if_pos hn]at w2;exact⟨l,ns,rfl,hq,hn,λD hD=>tI R1 (aO.ints _) hD w2⟩
  .rw[if_neg hn]at w2;exact w2.elim
theorem OU(hK:X.K=T.K) (hc:X.calm=true) {k:Nat} {kp kq:Pos} (hg:Gl X "min") (hm:X.mg "min"=none) (ha:QE X T E a m) (hs:aT a=true) :
  QE X T E (.Call (.Name "min" p) [a] [⟨some "default",.Constant .none k kq,kp⟩] pos) (λU=>(m U).bind (Kc.dq.g)):=by
 obtain⟨ta,pa,ra⟩:=ha;refine⟨_,Bk (z:=.aC) (r:=λv H Q=>∃l ns,v = .ref l/\bO X.K H l (ns.map V.int)/\Q (if ns.isEmpty then .aC else .int (lW ns)) H) ?_ hg hm (show bootBuiltins "min"=some (.builtin "min") from by decide +kernel) pa my (cQ hs) (by decide) (by decide),λZ U U' h H Q R S w=>?_⟩
 .intro pins s U H v u zu Q I rv rz ⟨l,ns,ev,hq,q⟩;subst ev;cases rv;cases ns with
  |nil=>exact Yx hc I hq rz q|cons n r=>exact Yy hc I hq (by intro z;cases z) q
 refine ra Z U U' h H _ R S (W.bind w λZ1 x x' h1 H1 e1 R1 q1 w1=>?_);obtain⟨l,xs,ys,rfl,hq,hr,w2⟩:=Ap hK rfl R1 q1 w1;simp only[Kc.gl]at w2;cases q:kD xs with
 |none=>rw[q]at w2;exact w2.elim|some ns=>
  rw[q]at w2;have e:=lj hr q;subst e;refine⟨l,ns,rfl,hq,?_⟩;cases ns with
  |nil=>exact W.here w2 R1 .aC|cons n r=>exact W.here w2 R1 (.int _)
theorem OY(hK:X.K=T.K) (hc:X.calm=true) (hg:Gl X "sorted") (hm:X.mg "sorted"=none) (ha:QE X T E a m) (hs:aT a=true):QE X T E (.Call (.Name "sorted" p) [a] [] pos) (λU=>(m U).bind (Kc.sd.g)):=by
 obtain⟨ta,pa,ra⟩:=ha;refine⟨_,zF (eI.or (Yz hc) Zc) hg hm boot_sorted (kG pa qH (cQ hs)) (by decide) (by decide) (cQ hs) rfl,λZ U U' h H Q R S w=>?_⟩;refine ra Z U U' h H _ R S (W.bind w λZ1 x x' h1 H1 e1 R1 q1 w1=>?_);unfold Kc.g at w1;cases x with
 |ref n=>
  cases q1 with
  |@ref _ a q=>
   dsimp only at w1;cases o:h1.ob n with
   |none=>rw[o]at w1;exact w1.elim|some u=>
    rw[o]at w1;cases u with
    |lst b xs=>
     obtain⟨ys,g1,g2⟩:=iX R1 o q;simp only[Kc.gl]at w1;cases qi:kD xs with
     |none=>rw[qi]at w1;exact w1.elim|some ns=>
      rw[qi]at w1;dsimp only at w1;have e:=lj g2 qi;subst e;by_cases hn:ns.length<64
      .rw[if_pos hn]at w1;exact .inr ⟨a,ns,rfl,by rw[hK];exact g1,hn,λD hD=>tI R1 (aO.ints _) hD w1⟩
      .rw[if_neg hn]at w1;exact w1.elim
    |aI kvs=>
     simp only[Kc.gd]at w1;obtain⟨ks,ys,hH,hk,rv⟩:=R1.obj n _ a o q;subst hk;cases qi:tD (kvs.map (·.1)) with
     |none=>rw[qi]at w1;exact w1.elim|some ns=>
      rw[qi]at w1;dsimp only at w1;by_cases hn:ns.length<64
      .rw[if_pos hn]at w1;refine .inl ⟨a,_,ns,rfl,hH,?_,hn,λD hD=>tI R1 (aO.ints _) hD w1⟩;rw[List.map_fst_zip (by have:=rv.length;simp at this ⊢;omega)];exact Nk qi
      .rw[if_neg hn]at w1;exact w1.elim
    |_=>exact w1.elim
 |_=>exact w1.elim
def yT(g:List AV->M AV):List AV->M (List Int)
 |[],h=>.ok [] h
 |x::r,h=>match g [x] h with
  |.ok (.int k) h1=>match yT g r h1 with
   |.ok ks h2=>.ok (k::ks) h2
   |_=>.bad
  |_=>.bad
def sY(g:List AV->M AV)(x:AV):M AV:=λh=>match x with
 |.ref n=>match h.ob n with
  |some (.lst _ xs)=>if xs.length<64 then match yT g xs h with
   |.ok ks h2=>if ks.Nodup then eW (iO ks xs) h2 else .bad
   |_=>.bad
   else .bad
  |_=>.bad
 |_=>.bad
theorem aO.paired{Z:List Addr}{H:Hp}:∀{xs:List AV} {ys:List V},aO T Z H xs ys->Paired (aG T Z H) xs ys
 |_,_,.nil=>.nil
 |_,_,.cons h t=>.cons h t.paired
theorem aO.Oz{Z:List Addr}{H:Hp}:∀{xs:List AV} {ys:List V},Paired (aG T Z H) xs ys->aO T Z H xs ys
 |_,_,.nil=>.nil
 |_,_,.cons h t=>.cons h (aO.Oz t)
theorem Od{g:List AV->M AV}:∀{xs:List AV} {ys:List V} {Z:List Addr} {h h2:AH} {H:Hp} {ks:List Int} {Q:List Int->Hp->Prop},aQ T Z h H->aO T Z H xs ys->yT g xs h = .ok ks h2 ->
  (∀Z' H',Ext Z H Z' H'->aQ T Z' h2 H'->Q ks H')->ay (hJ T g) ys H Q
 |[],_,Z,h,h2,H,ks,Q,R,.nil,e,q=>by cases e;exact q Z H .refl R
 |x::xs,_,Z,h,h2,H,ks,Q,R,.cons rx rs,e,q=>by
  simp only[yT]at e;split at e
  case h_2=>cases e
  case h_1 k h1 eg=>
   split at e
   case h_2=>cases e
   case h_1 ks' h3 ek=>cases e;refine⟨Z,h,[x],R,.cons rx .nil,?_⟩;rw[eg];intro Z1 v H1 e1 R1 rv;cases rv;exact⟨k,rfl,Od R1 (rs.ext e1) ek λZ2 H2 e2 R2=>q Z2 H2 (e1.trans e2) R2⟩
theorem OZ{g:List AV->M AV} {y:Str} {kp kq:Pos} (hK:X.K=T.K) (F:Fn X T E y g) (hy:Gl X y) (hd:(y==("__debug__":Str))=false) (hg:Gl X "sorted") (hm:X.mg "sorted"=none) (ha:QE X T E a m) (hs:aT a=true) :
  QE X T E (.Call (.Name "sorted" p) [a] [⟨some "key",.Name y kq,kp⟩] pos) (λU=>(m U).bind (sY g)):=by
 obtain⟨ta,pa,ra⟩:=ha;obtain⟨k,f,fd,ps,FO,hr,hmy,hk,hb,hx⟩:=F.ex;refine⟨_,Bk (z:=.ref f) (r:=λv H Q=>∃l ys,v = .ref l/\bO X.K H l ys/\ys.length<64/\ay (hJ T g) ys H λks H2=>ks.Nodup/\∀D,H2 D=none->Q (.ref D) (aJ H2 D (.lst (iO ks ys)))) ?_ hg hm boot_sorted pa (dw hy hmy rfl hd) (cQ hs) (by decide) (by decide),λZ U U' h H Q R S w=>?_⟩
 .intro pins s U H v u zu Q I rv rz ⟨l,ys,ev,hq,hn,q⟩;subst ev;cases rv;have rz':zu=Value.ref f:=rz;subst rz';exact Za FO hr hb I hq hn q
 refine ra Z U U' h H _ R S (W.bind w λZ1 x x' h1 H1 e1 R1 q1 w1=>?_);unfold sY at w1;cases x with
 |ref n=>
  cases q1 with
  |@ref _ l q=>
   dsimp only at w1;cases o:h1.ob n with
   |none=>rw[o]at w1;exact w1.elim|some u=>
    rw[o]at w1;cases u with
    |lst b xs=>
     obtain⟨ys,g1,g2⟩:=iX R1 o q;dsimp only at w1;by_cases hn:xs.length<64
     .rw[if_pos hn]at w1;split at w1
      case h_2=>exact w1.elim
      case h_1 ks h2 ek=>
       by_cases hnd:ks.Nodup
       .rw[if_pos hnd]at w1;refine⟨l,ys,rfl,by rw[hK];exact g1,by rw[<- g2.length];exact hn,Od R1 g2 ek λZ2 H2 e2 R2=>⟨hnd,λD hD=>?_⟩⟩;have w2:W T (aG T) (eW (iO ks xs) h2) Z2 H2 Q E:=λZ' b H' ee Rr rr=>w1 Z' b H' (e2.trans ee) Rr rr;exact tI R2 (aO.Oz (Vu (g2.ext e2).paired)) hD w2
       .rw[if_neg hnd]at w1;exact w1.elim
     .rw[if_neg hn]at w1;exact w1.elim
    |_=>exact w1.elim
 |_=>exact w1.elim
end
inductive BT where
 |aC|bl|int|str|tup|lst|aI
 deriving DecidableEq
def BT.nm:BT->String
 |.aC=>"NoneType" |.bl=>"bool" |.int=>"int" |.str=>"str" |.tup=>"tuple" |.lst=>"list" |.aI=>"dict"
def BT.sub(s t:BT):Bool:=decide (s=t)||(decide (s = .bl)&&decide (t = .int))
theorem wI{K:W.Frag}(s t:BT):W.kitOne K (.type s.nm) (.type t.nm)=some (s.sub t):=by cases s<;>cases t<;>first|rfl|(with_unfolding_all rfl)|decide +kernel
inductive pL(K:W.Frag)(H:Hp):V->BT->Prop where
 |aC:pL K H .aC .aC
 |bl (x:Bool):pL K H (.bl x) .bl
 |int (i:Int):pL K H (.int i) .int
 |str (x:Str):pL K H (.str x) .str
 |lst {a:Addr} {xs:List V} (e:bO K H a xs):pL K H (.ref a) .lst
 |tup {a:Addr} {xs:List V} (e:cU K H a xs):pL K H (.ref a) .tup
 |aI {a:Addr} {kvs:List (aD×V)} (e:H a=some (.dK kvs)):pL K H (.ref a) .aI
def pM(h:AH):AV->Option BT
 |.aC=>some .aC
 |.bl _=>some .bl
 |.int _=>some .int
 |.str _=>some .str
 |.tup _=>some .tup
 |.ref n=>match h.ob n with
  |some (.lst _ _)=>some .lst
  |some (.aI _)=>some .aI
  |_=>none
 |_=>none
def vX(t:BT)(x:AV):M AV:=λh=>match pM h x with
 |some s=>.ok (.bl (s.sub t)) h
 |none=>.bad
section
variable {X:Cx}{T:Tab}{E:XK}{a b c e tg l o:Expr}{es:List Expr}{ma mb mc m:aA->M AV}{mr:aA->M (List AV)}{pos p apos:Pos}
theorem Yp(t:BT):eI X (.builtin "isinstance") (λxs H Q=>∃x s,xs=[x,.ty t.nm]/\pL X.K H x s/\Q (.bl (s.sub t)) H):=by
 intro pins st U H xs us Q I r h;obtain⟨x,s,rfl,ty,q⟩:=h;obtain⟨u,w',rfl,ru,rw'⟩:=qX r;obtain rfl:w'=Value.type t.nm:=rw';have fin:∀tk,EP X pins U Q (.bool (s.sub t)) { st with toks:=tk }:=λtk=>⟨.bl _,H,I.tok tk,rfl,q⟩;cases ty with
 |aC=>cases ru;exact W.kia_one W.kitx_none I.bN True.intro (wI .aC t) (λz=>nomatch z) fin|bl y=>cases ru;exact W.kia_one W.kitx_bool I.bN True.intro (wI .bl t) (λz=>nomatch z) fin|int i=>obtain⟨tk,rfl⟩:=ru;exact W.kia_one W.kitx_int I.bN True.intro (wI .int t) (λz=>nomatch z) fin|str y=>obtain⟨tk,rfl⟩:=ru;exact W.kia_one W.kitx_str I.bN True.intro (wI .str t) (λz=>nomatch z) fin|lst e=>cases ru;obtain⟨_,_,⟨ob,n,h1,h2,_⟩,_⟩:=I.list e;exact W.kia_one W.kitx_list I.bN ⟨ob,h1,h2⟩ (wI .lst t) (λz=>nomatch z) fin
 |tup e=>cases ru;obtain⟨_,_,⟨ob,h1,h2,_⟩,_⟩:=I.tuple e;exact W.kia_one W.kitx_tuple I.bN ⟨ob,h1,h2⟩ (wI .tup t) (λz=>nomatch z) fin
 |@aI a kvs e=>cases ru;obtain⟨_,_,vs,_,ob,es,ep,h1,h2,_⟩:=(show cX X.prog X.w H st.heap a (.dK kvs) from I.aE a _ e);exact W.kia_one W.kitx_dict I.bN ⟨ob,h1,h2.1⟩ (wI .aI t) (λz=>nomatch z) fin
theorem Yk(hK:X.K=T.K){Z:List Addr}{h:AH}{H:Hp}{x:AV}{x':V}{s:BT}(R:aQ T Z h H)(r:aG T Z H x x')(e:pM h x=some s):pL X.K H x' s:=by
 cases r with
 |aC=>cases e;exact .aC|bl b=>cases e;exact .bl b|int i=>cases e;exact .int i|str y=>cases e;exact .str y|tup hq hr=>cases e;exact .tup (by rw[hK];exact hq)|@ref n a q=>
  simp only[pM]at e;cases o:h.ob n with
  |none=>rw[o]at e;cases e|some u=>
   rw[o]at e;cases u with
   |lst m xs=>cases e;obtain⟨ys,h1,_⟩:=iX R o q;exact .lst (by rw[hK];exact h1)
   |aI kvs=>cases e;obtain⟨ks,ys,h1,_⟩:=R.obj n _ a o q;exact .aI h1
   |bM _=>cases e|ins _ _=>cases e|xo _=>cases e
 |kC q=>cases e
theorem OL(hK:X.K=T.K) {y:Str} {p2:Pos} (t:BT) (hg:Gl X "isinstance") (hm:X.mg "isinstance"=none) (hg2:Gl X y) (hm2:X.mg y=none) (hv2:bootBuiltins y=some (.type t.nm)) (hn2:y≠"__name__") (hd2:(y==("__debug__":Str))=false)
  (ha:QE X T E a m) (hs:aT a=true):QE X T E (.Call (.Name "isinstance" p) [a,.Name y p2] [] pos) (λU=>(m U).bind (vX t)):=by
 obtain⟨ta,pa,ra⟩:=ha;refine⟨_,zF (Yp t) hg hm boot_isinstance (kG pa (kG (Pk (v:=.ty t.nm) hg2 hm2 hv2 rfl hn2 hd2) qH) (cQ hs)) (by decide) (by decide) (cQ hs) rfl,λZ U U' h H Q R S w=>?_⟩;refine ra Z U U' h H _ R S (W.bind w λZ1 x x' h1 H1 e1 R1 q1 w1=>?_);unfold vX at w1;cases o:pM h1 x with
 |none=>rw[o]at w1;exact w1.elim|some s=>rw[o]at w1;exact⟨x',s,rfl,Yk hK R1 q1 o,w1.here R1 (.bl _)⟩
def vY(cs:List (Nat×Bool))(x:AV):M AV:=λh=>match x with
 |.ref n=>match h.ob n with
  |some (.xo c)=>match cs.lookup c with
   |some b=>.ok (.bl b) h
   |none=>.bad
  |_=>.bad
 |_=>.bad
theorem Yr{v:V}{c:Value}(hv:∀u,RelV v u->u=c):eI X (.builtin "isinstance") (λxs H Q=>∃a C b,xs=[.ref a,v]/\H a=some (.ext (lI a (.ref C)))/\W.yF X.K C=true/\W.kitOne X.K (.ref C) c=some b/\Q (.bl b) H):=by intro pins st U H xs us Q I r h;obtain⟨a,C,b,rfl,e,hx,hk,q⟩:=h;obtain⟨u,w',rfl,ru,rw'⟩:=qX r;obtain rfl:=hv _ rw';cases ru;obtain⟨p,_,_⟩:=(show cX X.prog X.w H st.heap a (.ext (lI a (.ref C))) from I.aE a _ e);exact W.kia_one (W.A0 hx) I.bN p hk (λz=>nomatch z) λtk=>⟨.bl _,H,I.tok tk,rfl,q⟩
theorem ON(hK:X.K=T.K) {y:Str} {p2:Pos} {v:V} {d:Value} {cs:List (Nat×Bool)} (hv:∀u,RelV v u->u=d) (hg:Gl X "isinstance") (hm:X.mg "isinstance"=none) (py:PE X (.Name y p2) (tC v))
  (hcs:∀k b,cs.lookup k=some b->∃C,T.C k=some C/\W.yF X.K C=true/\W.kitOne X.K (.ref C) d=some b)
  (ha:QE X T E a m) (hs:aT a=true):QE X T E (.Call (.Name "isinstance" p) [a,.Name y p2] [] pos) (λU=>(m U).bind (vY cs)):=by
 obtain⟨ta,pa,ra⟩:=ha;refine⟨_,zF (Yr hv) hg hm boot_isinstance (kG pa (kG py qH) (cQ hs)) (by decide) (by decide) (cQ hs) rfl,λZ U U' h H Q R S w=>?_⟩;refine ra Z U U' h H _ R S (W.bind w λZ1 x x' h1 H1 e1 R1 q1 w1=>?_);unfold vY at w1;cases x with
 |ref n=>
  dsimp only at w1;cases q1 with
  |@ref _ a' q=>
   cases o:h1.ob n with
   |none=>rw[o]at w1;exact w1.elim|some u=>
    rw[o]at w1;cases u with
    |xo c=>
     dsimp only at w1;cases l:cs.lookup c with
     |none=>rw[l]at w1;exact w1.elim|some b=>rw[l]at w1;obtain⟨C,hC,g1⟩:=R1.obj n _ a' o q;obtain⟨C',hC',hx,hk⟩:=hcs c b l;rw[hC]at hC';cases hC';exact⟨a',C,b,rfl,g1,hx,hk,w1.here R1 (.bl _)⟩
    |_=>exact w1.elim
 |_=>exact w1.elim
def vW(x v:AV):M AV:=λh=>match x with
 |.ref n=>match h.ob n with
  |some (.lst true xs)=>if xs.length<sizeLine then .ok .aC (h.put n (.lst true (xs++[v]))) else .bad
  |_=>.bad
 |_=>.bad
def wF(h:AH):AV->Bool
 |.ref n=>match h.ob n with
  |some (.lst _ _)=>true
  |_=>false
 |_=>false
def xp(a b:M AV):M AV:=a.bind λx h=>if wF h x=true then(b.bind λy=>vW x y) h else .bad
def iB:Expr->Bool
 |.Name ..=>true | .Attribute ..=>true | .Subscript ..=>true
 |.Call (.Attribute ..) _ _ _=>true
 |.Call (.Name ..) (_::_) _ _=>true
 |_=>false
theorem yL{o:Expr}{f:Str}{env:Env}{whole:Sem Value}(h:iB o=true):attributeBase o f env whole=whole:=by
 cases o with
 |Name=>rfl|Attribute=>rfl|Subscript=>rfl|Call g es ks p=>
  cases g with
  |Attribute=>rfl|Name=>
   cases es with
   |nil=>cases h|cons=>rfl
  |_=>cases h
 |_=>cases h
theorem ja{Z:List Addr}{H:Hp}{p:Addr}{O O':HO}(g1:H p=some O)(nt:∀xs,O ≠ .tup xs)(nf:∀x u,O ≠ .bH x u):Ext Z H Z (aJ H p O'):=⟨λ_ _ z=>z,λb xs z=>by
 rw[aR (lX z g1 λw=>nt xs w.symm)];exact z,λb x u z=>by
 rw[aR (lX z g1 λw=>nf x u w.symm)];exact z⟩
theorem OC(hK:X.K=T.K)(ho:QE X T E o ma)(ha:QE X T E a mb)(hb:iB o=true)(hs:aT a=true)(hl:(apos.endLine==pos.line)=true) :
  QE X T E (.Call (.Attribute o "append" apos) [a] [] pos) (λU=>xp (ma U) (mb U)):=by
 obtain⟨ta,pa,ra⟩:=ho;obtain⟨tb,pb,rb⟩:=ha;refine⟨_,Pl PySem.F.plainAttrs_list PySem.F.slot_list_append PySem.F.type_list_append HU pa (kG pb qH (cQ hs)) (yL hb) (by rw[cQ hs];rfl) hl (cQ hs) rfl,λZ U U' h H Q R S w=>?_⟩;refine ra Z U U' h H _ R S (W.bind w λZ1 x x' h1 H1 e1 R1 q1 w1=>?_);have w1':W T (aG T) (if wF h1 x=true then((mb U).bind λy=>vW x y) h1 else .bad) Z1 H1 Q E:=w1;by_cases hL:wF h1 x=true
 case neg=>rw[if_neg hL]at w1';exact w1'.elim
 rw[if_pos hL]at w1';cases x with
 |ref n=>
  cases q1 with
  |@ref _ p q=>
   have fin:∀Z2 y y' h2 H2,Ext Z1 H1 Z2 H2->aQ T Z2 h2 H2->aG T Z2 H2 y y'->W T (aG T) (vW (.ref n) y h2) Z2 H2 Q E->Ul (.ref p) [y'] H2 Q:=λZ2 y y' h2 H2 e2 R2 q2 w2=>by
    have q':=e2.pre n p q;simp only[vW]at w2;cases ob:h2.ob n with
    |none=>rw[ob]at w2;exact w2.elim|some u=>
     rw[ob]at w2;cases u with
     |lst mu xs=>
      cases mu with
      |true=>
       obtain⟨ys,g1,r1⟩:=R2.obj n _ p ob q';by_cases hz:xs.length<sizeLine
       .simp only[if_pos hz]at w2;obtain⟨R3,e3⟩:=R2.write (o':=.lst true (xs++[y])) (O':=.lst (ys++[y'])) ob rfl rfl q' g1 (λ_ z=>by cases z) (λ_ _ z=>by cases z)
         ⟨_,dN,(r1.append (.cons q2 .nil)).ext (ja g1 (λ_ z=>by cases z) (λ_ _ z=>by cases z))⟩
        exact⟨p,ys,y',rfl,rfl,g1,by rw[<- r1.length];exact hz,W.ok w2 e3 R3 .aC⟩
       .simp only[if_neg hz]at w2;exact w2.elim
      |false=>exact w2.elim
     |aI _=>exact w2.elim|bM _=>exact w2.elim|ins _ _=>exact w2.elim|xo _=>exact w2.elim
   refine⟨.inl ⟨rfl,?_⟩,rb Z1 U U' h1 H1 _ R1 (S.ext e1) (W.bind w1' λZ2 y y' h2 H2 e2 R2 q2 w2=>fin Z2 y y' h2 H2 e2 R2 q2 w2)⟩;simp only[wF]at hL;cases ob:h1.ob n with
   |none=>rw[ob]at hL;cases hL|some u=>
    cases u with
    |lst mu xs=>obtain⟨ys,g1,_⟩:=iX R1 ob q;exact⟨ys,by rw[hK];exact g1⟩
    |aI _=>rw[ob]at hL;cases hL|bM _=>rw[ob]at hL;cases hL|ins _ _=>rw[ob]at hL;cases hL|xo _=>rw[ob]at hL;cases hL
 |_=>cases hL
def Hw(P:Program)(w:World)(K:W.Frag)(a:Addr)(kvs:List (Str×Int)):Prop:=∀h:Heap,K.In h->StrTab P w h a (kvs.map λp=>(PyData.str p.1,PyData.int p.2))
def getOf(kvs:List (Str×Int))(x:Str)(z:Int):Int:=(kvs.lookup x).getD z
def ZC:AV->Option (List (Str×Int))
 |.kC kvs=>some kvs
 |_=>none
def XZ:List AV->Option (Str×Int)
 |[.str s,.int z]=>some (s,z)
 |_=>none
def B3(o:M AV)(r:M (List AV)):M AV:=o.bind λx h=>match ZC x with
 |some kvs=>(r.bind λxs h2=>match XZ xs with
  |some (s,z)=>.ok (.int (getOf kvs s z)) h2
  |none=>.bad) h
 |none=>.bad
end
section
variable {X:Cx}{T:Tab}{E:XK}{o v:Expr}{ma mb:aA->M AV}{f:Str}{pos pos':Pos}{Z:List Addr}{H:Hp}
theorem zr{v:AV}:∀{fs:List (Str×AV)} {ys:List V},aO T Z H (fs.map (·.2)) ys->fs.lookup f=some v->∃y,((fs.map (·.1)).zip ys).lookup f=some y/\aG T Z H v y
 |[],_,_,l=>by cases l
 | (k,x)::fs,_,.cons h hs,l=>by
  rw[List.lookup_cons]at l;rw[List.map_cons,List.zip_cons_cons,List.lookup_cons];cases hb:(f==k) with
  |true=>simp only[hb]at l ⊢;cases l;exact⟨_,rfl,h⟩
  |false=>simp only[hb]at l ⊢;exact zr hs l
def pW(cs:List Nat)(f:Str)(x:AV):M AV:=λh=>match x with
 |.ref n=>match h.ob n with
  |some (.ins c fs)=>if cs.contains c=true then match fs.lookup f with
   |some v=>.ok v h
   |none=>.bad
   else .bad
  |_=>.bad
 |_=>.bad
def bg(K:W.Frag)(T:Tab)(cs:List Nat)(f:Str):Prop:=∀c C,cs.contains c=true->T.C c=some C->iR K C/\rD K C f
theorem OJ{cs:List Nat}(hC:bg X.K T cs f)(ho:QE X T E o ma)(hb:iB o=true):QE X T E (.Attribute o f pos) (λU=>(ma U).bind (pW cs f)):=by
 obtain⟨ta,pa,ra⟩:=ho;refine⟨_,LD pa (yL hb),λZ U U' h H Q R S w=>ra Z U U' h H _ R S (W.bind w λZ1 x x' h1 H1 e1 R1 q1 w1=>?_)⟩;cases x with
 |ref n=>
  cases q1 with
  |@ref _ p q=>
   simp only[pW]at w1;cases ob:h1.ob n with
   |none=>rw[ob]at w1;exact w1.elim|some u=>
    rw[ob]at w1;cases u with
    |ins c fs=>
     obtain⟨C,dx,ks,ys,hc,g,rfl,r⟩:=R1.obj n _ p ob q;by_cases hm:cs.contains c=true
     case neg=>simp only[if_neg hm]at w1;exact w1.elim
     simp only[if_pos hm]at w1;cases l:fs.lookup f with
     |none=>rw[l]at w1;exact w1.elim|some v=>rw[l]at w1;obtain⟨y,l2,ry⟩:=zr r l;obtain⟨h1,h2⟩:=hC c C hm hc;exact⟨p,C,dx,_,y,rfl,g,h1,h2,l2,W.here w1 R1 ry⟩
    |_=>exact w1.elim
 |_=>exact w1.elim
def fQ(f:Str)(v:AV):List (Str×AV)->List (Str×AV)
 |[]=>[(f,v)]
 | (g,x)::r=>if g=f then(g,v)::r else(g,x)::fQ f v r
theorem Bq{v:AV}{y:V}(rv:aG T Z H v y):∀{fs:List (Str×AV)} {ys:List V},aO T Z H (fs.map (·.2)) ys->∃ys',eX f y ((fs.map (·.1)).zip ys)=((fQ f v fs).map (·.1)).zip ys'/\aO T Z H ((fQ f v fs).map (·.2)) ys'
 |[],_,.nil=>⟨[y],rfl,.cons rv .nil⟩
 | (k,x)::fs,_,.cons (y:=z) (ys:=zs) h hs=>by
  obtain⟨ys',e,r⟩:=Bq rv hs;by_cases hk:k=f
  .refine⟨y::zs,?_,?_⟩
   .simp only[fQ,if_pos hk,List.map_cons,List.zip_cons_cons,eX]
   .simp only[fQ,if_pos hk,List.map_cons];exact .cons rv hs
  .refine⟨z::ys',?_,?_⟩
   .simp only[fQ,if_neg hk,List.map_cons,List.zip_cons_cons,eX,e]
   .simp only[fQ,if_neg hk,List.map_cons];exact .cons h r
def ib(cs:List Nat)(f:Str)(x v:AV)(h:AH):Option AH:=match x with
 |.ref n=>match h.ob n with
  |some (.ins c fs)=>if cs.contains c=true/\fs.length<1000 then some (h.put n (.ins c (fQ f v fs))) else none
  |_=>none
 |_=>none
def Me(cs:List Nat)(f:Str)(a b:M AV)(U:aA):M Out:=b.bind λv=>a.bind λx h=>match ib cs f x v h with
 |some h'=>.ok (.nx U) h'
 |none=>.bad
theorem SX{cs:List Nat}(hC:bg X.K T cs f)(ho:QE X T E o ma)(hv:QE X T E v mb)(hs:swapsWith v (some (.Attribute o f pos')) pos.line X.env=pure false) :
  QS X T E (.Assign [.Attribute o f pos'] v pos) (λU=>Me cs f (ma U) (mb U) U):=by
 obtain⟨ta,pa,ra⟩:=ho;obtain⟨tb,pb,rb⟩:=hv;refine⟨_,MY pa pb hs,λZ U U' h H D R S w=>rb Z U U' h H _ R S (W.bind w λZ1 y y' h1 H1 e1 R1 q1 w1=>ra Z1 U U' h1 H1 _ R1 (S.ext e1) (W.bind w1 λZ2 x x' h2 H2 e2 R2 q2 w2=>?_))⟩;have w3:W T (RO T) (match ib cs f x y h2 with
  |some h'=>.ok (.nx U) h'
  |none=>.bad) Z2 H2 (eB D) E:=w2
 cases x with
 |ref n=>
  cases q2 with
  |@ref _ p q=>
   simp only[ib]at w3;cases ob:h2.ob n with
   |none=>simp only[ob]at w3;exact w3.elim|some u=>
    simp only[ob]at w3;cases u with
    |ins c fs=>
     obtain⟨C,dx,ks,ys,hc,g,rfl,r⟩:=R2.obj n _ p ob q;by_cases hm:cs.contains c=true/\fs.length<1000
     case neg=>simp only[if_neg hm]at w3;exact w3.elim
     simp only[if_pos hm]at w3;obtain⟨c1,c2⟩:=hC c C hm.1 hc;have rv:=q1.ext e2;obtain⟨ys',ez,rz⟩:=Bq (f:=f) rv r;have ex:=ja (Z:=Z2) (p:=p) (O':=.ins C dx (((fQ f y fs).map (·.1)).zip ys')) g (λ_ z=>by cases z) (λ_ _ z=>by cases z);obtain⟨R3,e3⟩:=R2.write (o':=.ins c (fQ f y fs)) (O':=.ins C dx (((fQ f y fs).map (·.1)).zip ys')) ob rfl rfl q g (λ_ z=>by cases z) (λ_ _ z=>by cases z)
      ⟨C,dx,_,ys',hc,dN,rfl,rz.ext ex⟩
     refine⟨p,C,dx,_,rfl,g,c1,c2,?_,?_⟩
     .rw[List.length_zip,List.length_map];omega
     .rw[ez];exact W.ok (Q:=eB D) (b:=dY.nx U') w3 e3 R3 ((S.ext e1).ext (e2.trans e3))
    |_=>exact w3.elim
 |_=>exact w3.elim
structure bj(X:Cx)(T:Tab)(E:XK)(C:Addr)(m:Str)(g:List AV->M AV):Prop where
 ex:∃(k:Nat) (f:Addr) (fd:FuncData) (ps:List Str),dU X.prog X.w X.K X.mg X.base (cW X.prog X.w) k f fd ps (hJ T g)/\cD k X.A/\iR X.K C/\Meth X.K C m f/\Binds X.K fd ps []/\lM (cW X.prog X.w) X E
def Wd(X:Cx)(T:Tab)(m:Str)(E:XK)(ta:TE)(t:TA):TE:=λU H Q=>ta U H λx H1=>∃(a C dx:Addr) (fs:List (Str×V)) (g:List AV->M AV),x = .ref a/\H1 a=some (.ins C dx fs)/\fs.lookup m=none/\bj X T E C m g /\
 t U H1 λvs H2=>hJ T g (x::vs) H2 Q E
variable {e:Expr}{es:List Expr}{m:Str}{apos:Pos}{mr:aA->M (List AV)}{ta:TE}{t:TA}
theorem yk{env:Env}{args:List Expr}{A:Around}{Xe:Value->Shared->Prop}{s:Shared}{Q:Value->Shared->Prop}(h0:attributeBase o m env (eval o env)=eval o env)
  (h1:methodCallForm (args.length+([]:List Keyword).length) (backTo pos (starEach args env)) (backToKw pos (keywordEach [] env))=true) (h2:(apos.endLine==pos.line)=true)
  (h:wpAny (model X.prog X.w) A (eval o env) (λov s1=>∀pl,wpAny (model X.prog X.w) A (getMethod ov m pl) (λfx s2=>wpAny (model X.prog X.w) A (callWith pos fx.1 fx.2 (backTo pos (starEach args env)) (backToKw pos (keywordEach [] env))) Q Xe s2) Xe s1) Xe s) :
  wpAny (model X.prog X.w) A (eval (.Call (.Attribute o m apos) args [] pos) env) Q Xe s:=by
 have h3:methodCallPos true o env apos pos=pure pos:=by unfold methodCallPos;simp[h2]
 rw[arm_eval_Call,h0];refine wpAny_bind (aN h λov s1 z=>wpAny_bind (wpAny_standAt ?_));unfold methodCall;rw[h1];refine wpAny_bind (wpAny_holding (aN (z _) λfx s2 y=>?_));exact wpAny_bind (wpAny_of_eq h3 y)
theorem zv{args:List Expr}{env:Env}(hs:args.all aT=true)(hn:args.length<30):methodCallForm (args.length+([]:List Keyword).length) (backTo pos (starEach args env)) (backToKw pos (keywordEach [] env))=true:=by unfold methodCallForm;rw[<- List.not_any_eq_all_not,lG hs];simpa[keywordEach,backToKw]using hn
theorem LL(he:PE X o ta)(ha:PA X (e::es) t)(hb:iB o=true)(hs:(e::es).all aT=true)(hn:(e::es).length<30)(hl:(apos.endLine==pos.line)=true):PE X (.Call (.Attribute o m apos) (e::es) [] pos) (Wd X T m E ta t):=by
 intro pins s U H Q I h;have hs':=hs;rw[List.all_cons,Bool.and_eq_true]at hs;refine yk (yL hb) ?_ hl (aN (he pins s U H _ I h) λu s1 ⟨x,H1,I1,rx,a,C,dx,fs,g,ex,ea,l,F,q⟩ pl=>?_)
 .exact zv hs' hn
 subst ex;obtain rfl:u=Value.ref a:=rx;obtain⟨k,f,fd,ps,F,hr,c,hm,hbi,hx⟩:=F.ex;refine Nh I1 ea c hm l ?_;refine W.callWith_K (first:=[.ref a]) (h₀:=X.base) I.ok.mod.tE hm.kp (aN (ha pos pins s1 U H1 _ I1 q) λus s2 ⟨vs,H2,I2,r,q2⟩=>⟨I2.bN,?_⟩) (cQ hs.1) (lG hs.2);exact gz (us:=.ref a::us) (vs:=.ref a::vs) (dvs:=[]) F hr hbi .nil hx I2 (.cons rfl r) (by rw[List.append_nil];exact q2)
def ly(dp:Nat->Option (List AV->M AV))(m:Str)(a:M AV)(r:M (List AV)):M AV:=a.bind λx h=>match x with
 |.ref n=>match h.ob n with
  |some (.ins c fs)=>match dp c,fs.lookup m with
   |some g,none=>(r.bind λxs=>g (.ref n::xs)) h
   |_,_=>.bad
  |_=>.bad
 |_=>.bad
theorem zt:∀{fs:List (Str×AV)} {ys:List V},aO T Z H (fs.map (·.2)) ys->fs.lookup f=none->((fs.map (·.1)).zip ys).lookup f=none
 |[],_,.nil,_=>rfl
 | (k,x)::fs,_,.cons h hs,l=>by
  rw[List.lookup_cons]at l;rw[List.map_cons,List.zip_cons_cons,List.lookup_cons];cases hb:(f==k) with
  |true=>simp only[hb]at l;cases l|false=>simp only[hb]at l ⊢;exact zt hs l
theorem OS{dp:Nat->Option (List AV->M AV)}(hM:∀c C g,dp c=some g->T.C c=some C->bj X T E C m g)(ho:QE X T E o ma)(ha:QA X T E (e::es) mr)(hb:iB o=true)(hs:(e::es).all aT=true)
  (hn:(e::es).length<30) (hl:(apos.endLine==pos.line)=true):QE X T E (.Call (.Attribute o m apos) (e::es) [] pos) (λU=>ly dp m (ma U) (mr U)):=by
 obtain⟨ta,pa,ra⟩:=ho;obtain⟨tr,pr,rr⟩:=ha;refine⟨_,LL (T:=T) (E:=E) pa pr hb hs hn hl,λZ U U' h H Q R S w=>ra Z U U' h H _ R S (W.bind w λZ1 x x' h1 H1 e1 R1 q1 w1=>?_)⟩;cases x with
 |ref n=>
  cases q1 with
  |@ref _ p q=>
   cases ob:h1.ob n with
   |none=>simp only[ob]at w1;exact w1.elim|some u=>
    simp only[ob]at w1;cases u with
    |ins c fs=>
     obtain⟨C,dx,ks,ys,hc,g1,rfl,r⟩:=R1.obj n _ p ob q;cases hd:dp c with
     |none=>simp only[hd]at w1;exact w1.elim|some g=>
      cases l:fs.lookup m with
      |some v=>simp only[hd,l]at w1;exact w1.elim|none=>simp only[hd,l]at w1;refine⟨p,C,dx,_,g,rfl,g1,zt r l,hM c C g hd hc,rr Z1 U U' h1 H1 _ R1 (S.ext e1) (W.bind w1 λZ2 xs bC h2 H2 e2 R2 q2 w2=>?_)⟩;exact⟨Z2,h2,.ref n::xs,R2,.cons (.ref (e2.pre n p q)) q2,w2⟩
    |_=>exact w1.elim
 |_=>exact w1.elim
theorem LM(he:PE X o ta)(hb:iB o=true)(hl:(apos.endLine==pos.line)=true):PE X (.Call (.Attribute o m apos) [] [] pos) (Wd X T m E ta xX):=by intro pins s U H Q I h;refine yk (yL hb) (zv rfl (by decide)) hl (aN (he pins s U H _ I h) λu s1 ⟨x,H1,I1,rx,a,C,dx,fs,g,ex,ea,l,F,q⟩ pl=>?_);subst ex;obtain rfl:u=Value.ref a:=rx;obtain⟨k,f,fd,ps,F,hr,c,hm,hbi,hx⟩:=F.ex;refine Nh I1 ea c hm l ?_;exact W.callWith_K0 (first:=[.ref a]) I1.bN hm.kp (gz (us:=[.ref a]) (vs:=[.ref a]) (dvs:=[]) F hr hbi .nil hx I1 (.cons rfl .nil) q)
theorem OT{dp:Nat->Option (List AV->M AV)}(hM:∀c C g,dp c=some g->T.C c=some C->bj X T E C m g)(ho:QE X T E o ma)(hb:iB o=true)(hl:(apos.endLine==pos.line)=true) :
  QE X T E (.Call (.Attribute o m apos) [] [] pos) (λU=>ly dp m (ma U) (M.ret [])):=by
 obtain⟨ta,pa,ra⟩:=ho;refine⟨_,LM (T:=T) (E:=E) pa hb hl,λZ U U' h H Q R S w=>ra Z U U' h H _ R S (W.bind w λZ1 x x' h1 H1 e1 R1 q1 w1=>?_)⟩;cases x with
 |ref n=>
  cases q1 with
  |@ref _ p q=>
   cases ob:h1.ob n with
   |none=>simp only[ob]at w1;exact w1.elim|some u=>
    simp only[ob]at w1;cases u with
    |ins c fs=>
     obtain⟨C,dx,ks,ys,hc,g1,rfl,r⟩:=R1.obj n _ p ob q;cases hd:dp c with
     |none=>simp only[hd]at w1;exact w1.elim|some g=>
      cases l:fs.lookup m with
      |some v=>simp only[hd,l]at w1;exact w1.elim|none=>simp only[hd,l]at w1;exact⟨p,C,dx,_,g,rfl,g1,zt r l,hM c C g hd hc,⟨Z1,h1,[.ref n],R1,.cons (.ref q) .nil,w1⟩⟩
    |_=>exact w1.elim
 |_=>exact w1.elim
structure xb(X:Cx)(T:Tab)(E:XK)(x:Str)(c:Nat)(dv:List AV)(g:List AV->M AV):Prop where
 ex:∃(k:Nat) (C f:Addr) (fd:FuncData) (ps:List Str) (ds:List Value) (dvs:List V),T.C c=some C/\Mk X.K C f/\dU X.prog X.w X.K X.mg X.base (cW X.prog X.w) k f fd ps (hJ T g)/\cD (k+1) X.A/\X.mg x=some (.ref C)/\Binds X.K fd ps ds /\
  Vals dvs ds/\(∀Z H,aO T Z H dv dvs)/\lM (cW X.prog X.w) X E
def Ao:AV->Bool
 |.aC=>true
 |_=>false
def lu(c:Nat)(dv:List AV)(g:List AV->M AV)(r:M (List AV)):M AV:=r.bind λxs h=>((g (.ref h.nx::(xs++dv))).bind λv=>if Ao v=true then M.ret (.ref h.nx) else M.bad) (h.new (.ins c []))
theorem Ot{c:Nat}{C a dx:Addr}{g:List AV->M AV}{xs:List AV}{ys:List V}{h:AH}{Q:VK}(hc:T.C c=some C)(R:aQ T Z h H)(r:aO T Z H xs ys)(h1:H a=none)(h2:H dx=none)(h3:dx≠a)
  (w:W T (aG T) (((g (.ref h.nx::xs)).bind λv=>if Ao v=true then M.ret (.ref h.nx) else M.bad) (h.new (.ins c []))) Z H Q E) :
  hJ T g (.ref a::ys) (aJ (aJ H dx (.own a)) a (.ins C dx [])) (λv H2=>v = .aC/\Q (.ref a) H2) E:=by
 have R1:=R.keep (a:=dx) (o:=.own a) h2;have e1:Ext Z H Z (aJ H dx (.own a)):=.fS h2;have hn:(aJ H dx (.own a)) a=none:=by rw[aR (Ne.symm h3)];exact h1
 obtain⟨R2,e2⟩:=R1.alloc (a:=a) (o:=.ins c []) (O:=.ins C dx []) hn ⟨C,dx,[],[],hc,dN,rfl,.nil⟩;have e:=e1.trans e2;have hq:(Z++[a])[h.nx]?=some a:=by rw[<- R.len];simp
 refine⟨Z++[a],h.new (.ins c []),.ref h.nx::xs,R2,.cons (.ref hq) (r.ext e),W.bind (w.ext e) λZ3 v v' h3 H3 e3 R3 q3 w3=>?_⟩;cases v with
 |aC=>cases q3;exact⟨rfl,W.here w3 R3 (.ref (e3.pre _ _ hq))⟩
 |_=>exact w3.elim
theorem OQ{x:Str} {p:Pos} {c:Nat} {dv:List AV} {g:List AV->M AV} (F:xb X T E x c dv g) (hg:Gl X x) (ha:QA X T E (e::es) mr) (hs:(e::es).all aT=true) (hd:(x==("__debug__":Str))=false) :
  QE X T E (.Call (.Name x p) (e::es) [] pos) (λU=>lu c dv g (mr U)):=by
 obtain⟨k,C,f,fd,ps,ds,dvs,hc,K,F,hr,hm,hb,hv,hdv,hx⟩:=F.ex;obtain⟨tr,pr,rr⟩:=ha;rw[List.all_cons,Bool.and_eq_true]at hs;refine⟨_,LJ K F hr hg hm hb hv hx pr hd (cQ hs.1) (lG hs.2),λZ U U' h H Q R S w=>rr Z U U' h H _ R S (W.bind w λZ1 xs bC h1 H1 e1 R1 q1 w1=>λa dx n1 n2 n3=>?_)⟩;exact Ot hc R1 (q1.append (hdv _ _)) n1 n2 n3 w1
theorem OR{x:Str} {p:Pos} {c:Nat} {dv:List AV} {g:List AV->M AV} (F:xb X T E x c dv g) (hg:Gl X x) (hd:(x==("__debug__":Str))=false) :
  QE X T E (.Call (.Name x p) [] [] pos) (λU=>lu c dv g (M.ret [])):=by
 obtain⟨k,C,f,fd,ps,ds,dvs,hc,K,F,hr,hm,hb,hv,hdv,hx⟩:=F.ex;exact⟨_,LK K F hr hg hm hb hv hx hd,λZ U U' h H Q R S w=>λa dx n1 n2 n3=>Ot hc R (hdv _ _) n1 n2 n3 w⟩
def Ih(f:Str)(n c:Nat)(i:Int)(U:aA)(y:AV):M Out:=λh=>match y with
 |.int j=>match h.ob n with
  |some (.ins c' fs)=>if c'=c/\fs.length<1000 then .ok (.nx U) (h.put n (.ins c (fQ f (.int (i+j)) fs))) else .bad
  |_=>.bad
 |_=>.bad
def Ii(cs:List Nat)(f:Str)(a b:M AV)(U:aA):M Out:=a.bind λx h=>match x with
 |.ref n=>match h.ob n with
  |some (.ins c fs)=>if cs.contains c=true then match fs.lookup f with
   |some (.int i)=>(b.bind (Ih f n c i U)) h
   |_=>.bad
   else .bad
  |_=>.bad
 |_=>.bad
theorem SY{cs:List Nat}{tpos:Pos}(hC:bg X.K T cs f)(ho:QE X T E o ma)(hv:QE X T E v mb) :
  QS X T E (.AugAssign (.Attribute o f tpos) .Add v pos) (λU=>Ii cs f (ma U) (mb U) U):=by
 obtain⟨ta,pa,ra⟩:=ho;obtain⟨tb,pb,rb⟩:=hv;refine⟨_,MZ pa pb FG,λZ U U' h H D R S w=>ra Z U U' h H _ R S (W.bind w λZ1 x x' h1 H1 e1 R1 q1 w1=>?_)⟩;cases x with
 |ref n=>
  cases q1 with
  |@ref _ p q=>
   cases ob:h1.ob n with
   |none=>simp only[ob]at w1;exact w1.elim|some u=>
    simp only[ob]at w1;cases u with
    |ins c fs=>
     obtain⟨C,dx,ks,ys,hc,g,rfl,r⟩:=R1.obj n _ p ob q;by_cases hm:cs.contains c=true
     case neg=>simp only[if_neg hm]at w1;exact w1.elim
     simp only[if_pos hm]at w1;cases l:fs.lookup f with
     |none=>simp only[l]at w1;exact w1.elim|some v1=>
      simp only[l]at w1;cases v1 with
      |int i=>
       obtain⟨y1,l2,ry⟩:=zr r l;cases ry;obtain⟨c1,c2⟩:=hC c C hm hc;refine⟨p,C,dx,_,_,rfl,g,c1,c2,l2,rb Z1 U U' h1 H1 _ R1 (S.ext e1) (W.bind w1 λZ2 y y' h2 H2 e2 R2 q2 w2=>?_)⟩;cases y with
       |int j=>
        cases q2;simp only[Ih]at w2;cases ob2:h2.ob n with
        |none=>simp only[ob2]at w2;exact w2.elim|some u2=>
         simp only[ob2]at w2;cases u2 with
         |ins c' fs2=>
          by_cases hz:c'=c/\fs2.length<1000
          case neg=>simp only[if_neg hz]at w2;exact w2.elim
          simp only[if_pos hz]at w2;obtain⟨rfl,hz⟩:=hz;have q':=e2.pre n p q;obtain⟨C2,dx2,ks2,ys2,hc2,g2,rfl,r2⟩:=R2.obj n _ p ob2 q';rw[hc]at hc2;cases hc2;obtain⟨ys',ez,rz⟩:=Bq (f:=f) (v:=.int (i+j)) (y:=.int (i+j)) (.int _) r2;have ex:=ja (Z:=Z2) (p:=p) (O':=.ins C dx2 (((fQ f (.int (i+j)) fs2).map (·.1)).zip ys')) g2 (λ_ z=>by cases z) (λ_ _ z=>by cases z);obtain⟨R3,e3⟩:=R2.write (o':=.ins c' (fQ f (.int (i+j)) fs2)) (O':=.ins C dx2 (((fQ f (.int (i+j)) fs2).map (·.1)).zip ys')) ob2 rfl rfl q' g2 (λ_ z=>by cases z) (λ_ _ z=>by cases z)
           ⟨C,dx2,_,ys',hc,dN,rfl,rz.ext ex⟩
          refine⟨i,j,rfl,rfl,dx2,_,g2,?_,?_⟩
          .rw[List.length_zip,List.length_map];omega
          .rw[ez];exact W.ok (Q:=eB D) (b:=dY.nx U') w2 e3 R3 ((S.ext e1).ext (e2.trans e3))
         |_=>exact w2.elim
       |_=>exact w2.elim
      |_=>exact w1.elim
    |_=>exact w1.elim
 |_=>exact w1.elim
structure jd(K:W.Frag)(C:Addr):Prop where
 cl:iR K C
 ha:W.findIn K (.ref C) "__class__"=some (some (.builtin "object.__class__"))
 hn:W.specialIn K (.builtin "object.__class__") "__get__"=some (some (.builtin "getset_descriptor.__get__"))
 ht:W.takesIn K (.builtin "object.__class__")=some true
 hm:W.mroIn K C (.type "object")=some true
theorem Yq{vd:V}{d:Value}(hv:∀u,RelV vd u->u=d):eI X (.builtin "isinstance") (λxs H Q=>∃(a C dx:Addr) (fs:List (Str×V)) (b:Bool),xs=[.ref a,vd]/\H a=some (.ins C dx fs)/\jd X.K C/\W.kitOne X.K (.ref C) d=some b/\Q (.bl b) H):=by intro pins st U H xs us Q I r h;obtain⟨a,C,dx,fs,b,rfl,g,c,hk,q⟩:=h;obtain⟨u,u2,rfl,r1,r2⟩:=qX r;obtain rfl:=hv u2 r2;exact FV I r1 (.ins g c.cl c.ha c.hn c.ht c.hm) hk λtk=>⟨.bl _,H,I.tok tk,rfl,q⟩
def kf(cs:List (Nat×Bool))(x:AV):M AV:=λh=>match x with
 |.ref n=>match h.ob n with
  |some (.ins c _)=>match cs.lookup c with
   |some b=>.ok (.bl b) h
   |none=>.bad
  |_=>.bad
 |_=>.bad
theorem OM{y:Str} {p p2:Pos} {vd:V} {d:Value} {cs:List (Nat×Bool)} (hv:∀u,RelV vd u->u=d) (hg:Gl X "isinstance") (hm:X.mg "isinstance"=none) (py:PE X (.Name y p2) (tC vd))
  (hcs:∀k b,cs.lookup k=some b->∃C,T.C k=some C/\jd X.K C/\W.kitOne X.K (.ref C) d=some b) (ha:QE X T E o ma) (hs:aT o=true) :
  QE X T E (.Call (.Name "isinstance" p) [o,.Name y p2] [] pos) (λU=>(ma U).bind (kf cs)):=by
 obtain⟨ta,pa,ra⟩:=ha;refine⟨_,zF (Yq hv) hg hm boot_isinstance (kG pa (kG py qH) (cQ hs)) (by decide) (by decide) (cQ hs) rfl,λZ U U' h H Q R S w=>?_⟩;refine ra Z U U' h H _ R S (W.bind w λZ1 x x' h1 H1 e1 R1 q1 w1=>?_);unfold kf at w1;cases x with
 |ref n=>
  dsimp only at w1;cases q1 with
  |@ref _ p q=>
   cases ob:h1.ob n with
   |none=>rw[ob]at w1;exact w1.elim|some u=>
    rw[ob]at w1;cases u with
    |ins c fs=>
     dsimp only at w1;cases l:cs.lookup c with
     |none=>rw[l]at w1;exact w1.elim|some b=>rw[l]at w1;obtain⟨C,dx,ks,ys,hc,g1,_,_⟩:=R1.obj n _ p ob q;obtain⟨C',hc',hx,hk⟩:=hcs c b l;rw[hc]at hc';cases hc';exact⟨p,C,dx,_,b,rfl,g1,hx,hk,w1.here R1 (.bl _)⟩
    |_=>exact w1.elim
 |_=>exact w1.elim
def A8(sub:Bool)(i:Nat)(b:M AV)(U:aA):M Out:=match U[i]? with
 |some (some (.int a))=>b.bind λy=>match y with
  |.int j=>M.ret (.nx (U.set i (some (.int (if sub=true then a-j else a+j)))))
  |_=>M.bad
 |_=>M.bad
structure Ht(X:Cx)(T:Tab)(E:XK)(x m:Str)(g:List AV->M AV):Prop where
 ex:∃(k:Nat) (C f:Addr) (fd:FuncData) (ps:List Str),X.mg x=some (.ref C)/\dU X.prog X.w X.K X.mg X.base (cW X.prog X.w) k f fd ps (hJ T g)/\cD k X.A/\W.keepIn X.K (.ref f)=true /\
  W.specialIn X.K (.ref C) "__getattribute__"=some (some (.builtin "type.__getattribute__"))/\W.readsIn X.K C (.type "type")=true/\W.findCls X.K (.ref C) (.type "type") m=some (.val (.ref f))/\W.handedIn (.ref f)=true /\
  Binds X.K fd ps []/\lM (cW X.prog X.w) X E
theorem OG{x:Str} {p:Pos} {g:List AV->M AV} (B:Ht X T E x m g) (hg:Gl X x) (hd:(x==("__debug__":Str))=false) (ha:QA X T E (e::es) mr) (hs:(e::es).all aT=true) (hn:(e::es).length<30)
  (hl:(apos.endLine==pos.line)=true):QE X T E (.Call (.Attribute (.Name x p) m apos) (e::es) [] pos) (λU=>(mr U).bind g):=by
 obtain⟨k,C,f,fd,ps,hm,F,hr,kp,h1,h2,h3,h4,hb,hx⟩:=B.ex;obtain⟨tr,pr,rr⟩:=ha;refine⟨λU H Q=>tr U H λvs H2=>hJ T g vs H2 Q E,?_,λZ U U' h H Q R S w=>rr Z U U' h H _ R S (W.bind w λZ1 xs bC h1 H1 e1 R1 q1 w1=>⟨Z1,h1,xs,R1,q1,w1⟩)⟩;intro pins s U H Q I h;have hs':=hs;rw[List.all_cons,Bool.and_eq_true]at hs;refine yk (yL rfl) (zv hs' hn) hl (aN ((dw (v:=.ref C) hg hm rfl hd) pins s U H (λy H1=>y = .ref C/\tr U H1 λvs H2=>hJ T g vs H2 Q E) I ⟨rfl,h⟩) λu s1 ⟨y,H1,I1,ry,ey,q⟩ pl=>?_);subst ey;obtain rfl:u=Value.ref C:=ry;refine W.method_cls I1.bN h1 (W.cls_value I1.bN h2 h3 h4 ?_);refine W.callWith_K (first:=[]) (h₀:=X.base) I.ok.mod.tE kp (aN (pr pos pins _ U H1 _ (I1.tok _) q) λus s2 ⟨vs,H2,I2,r,q2⟩=>⟨I2.bN,?_⟩) (cQ hs.1) (lG hs.2);exact gz (us:=us) (vs:=vs) (dvs:=[]) F hr hb .nil hx I2 r (by rw[List.append_nil];exact q2)
end
section
variable {X:Cx}{T:Tab}{E:XK}{o:Expr}{ma:aA->M AV}{pos apos:Pos}
def A9(x:AV):M AV:=λh=>match x with
 |.ref n=>match h.ob n with
  |some (.lst true _)=>.ok .aC (h.put n (.lst true []))
  |_=>.bad
 |_=>.bad
def B0(x:AV):M AV:=λh=>match x with
 |.ref n=>match h.ob n with
  |some (.lst true xs)=>match xs[xs.length-1]? with
   |some y=>.ok y (h.put n (.lst true xs.dropLast))
   |none=>.bad
  |_=>.bad
 |_=>.bad
def yx:M AV:=λh=>.ok (.ref h.nx) (h.new (.aI []))
theorem OI:QE X T E (.Dict [] [] pos) (λ_=>yx):=by refine⟨_,LC,λZ U U' h H Q R S w p hp=>?_⟩;obtain⟨R1,e1⟩:=R.alloc (a:=p) (o:=.aI []) (O:=.dK []) hp ⟨[],[],dN,rfl,.nil⟩;refine W.ok (a:=AV.ref h.nx) (b:=V.ref p) w e1 R1 (.ref ?_);rw[<- R.len];simp
def jv(g:AV->List AV->M AV)(a:M AV)(r:M (List AV)):M AV:=a.bind λx h=>if(dG h x).isSome=true then(r.bind λxs=>g x xs) h else .bad
variable {e:Expr}{es:List Expr}{mr:aA->M (List AV)}
theorem Bs{m:Str} {id:String} {r:V->List V->Hp->VK->Prop} {g:AV->List AV->M AV} (slot:Slot "dict" m id) (hty:typeOf (.builtin id)=pure (.type "method_descriptor")) (hm:bo X id r)
  (hg:∀Z h H x x' xs bC Q,aQ T Z h H->aG T Z H x x'->aO T Z H xs bC->W T (aG T) (g x xs h) Z H Q E->r x' bC H Q)
  (ho:QE X T E o ma) (ha:QA X T E (e::es) mr) (hb:iB o=true) (hs:(e::es).all aT=true) (hn:(e::es).length<29) (hl:(apos.endLine==pos.line)=true) :
  QE X T E (.Call (.Attribute o m apos) (e::es) [] pos) (λU=>jv g (ma U) (mr U)):=by
 obtain⟨ta,pa,ra⟩:=ho;obtain⟨tr,pr,rr⟩:=ha;have hs':=hs;rw[List.all_cons,Bool.and_eq_true]at hs;have hany:=lG (env:=X.env) (pos:=pos) hs';refine⟨_,Pl PySem.F.plainAttrs_dict slot hty hm pa pr (yL hb) ?_ hl (cQ hs.1) (lG hs.2),λZ U U' h H Q R S w=>?_⟩
 .rw[<- List.not_any_eq_all_not,hany];simp only[keywordEach,backToKw,List.map_nil,List.all_nil,List.length_nil,List.isEmpty_nil,if_true,Bool.not_false,Bool.true_and,decide_eq_true_eq];omega
 refine ra Z U U' h H _ R S (W.bind w λZ1 x x' h1 H1 e1 R1 q1 w1=>?_);have w1':W T (aG T) (if(dG h1 x).isSome=true then((mr U).bind λxs=>g x xs) h1 else .bad) Z1 H1 Q E:=w1;by_cases hd:(dG h1 x).isSome=true
 case neg=>rw[if_neg hd]at w1';exact w1'.elim
 rw[if_pos hd]at w1';obtain⟨kvs,hd⟩:=Option.isSome_iff_exists.mp hd;obtain⟨n,a,us,rfl,q,ob,rfl,gd,rk⟩:=sT R1 q1 hd;refine⟨.inr (.inr (.inl ⟨rfl,.inl ⟨us,gd⟩⟩)),rr Z1 U U' h1 H1 _ R1 (S.ext e1) (W.bind w1' λZ2 xs bC h2 H2 e2 R2 q2 w2=>?_)⟩;exact hg Z2 h2 H2 _ _ xs bC Q R2 (.ref (e2.pre n a q)) q2 w2
def cw(x:AV)(xs:List AV):M AV:=λh=>match dG h x with
 |some kvs=>match xs with
  |[y]=>match dP y with
   |some k=>.ok ((bU kvs k).getD .aC) h
   |none=>.bad
  |[y,z]=>match dP y with
   |some k=>.ok ((bU kvs k).getD z) h
   |none=>.bad
  |_=>.bad
 |none=>.bad
def Gq:AV->Nat
 |.ref n=>n
 |_=>0
def cx(x:AV)(xs:List AV):M AV:=λh=>match dG h x with
 |some kvs=>match xs with
  |[y]=>match dP y with
   |some k=>match bU kvs k with
    |some v=>.ok v (h.put (Gq x) (.aI (pR kvs k)))
    |none=>.bad
   |none=>.bad
  |[y,z]=>match dP y with
   |some k=>match bU kvs k with
    |some v=>.ok v (h.put (Gq x) (.aI (pR kvs k)))
    |none=>.ok z h
   |none=>.bad
  |_=>.bad
 |none=>.bad
def zx(x:AV)(xs:List AV):M AV:=λh=>match dG h x with
 |some kvs=>match xs with
  |[y,z]=>match dP y with
   |some k=>if kvs.length<sizeLine then match bU kvs k with
    |some v=>.ok v h
    |none=>.ok z (h.put (Gq x) (.aI (jB kvs k z)))
    else .bad
   |none=>.bad
  |_=>.bad
 |none=>.bad
theorem AG(Z:List Addr)(h:AH)(H:Hp)(x:AV)(x':V)(xs:List AV)(bC:List V)(Q:VK)(R:aQ T Z h H)(rx:aG T Z H x x')(rs:aO T Z H xs bC)(w:W T (aG T) (cw x xs h) Z H Q E):Uo x' bC H Q:=by
 unfold cw at w;cases d:dG h x with
 |none=>simp only[d]at w;exact w.elim|some kvs=>
  simp only[d]at w;obtain⟨n,a,us,rfl,q,ob,rfl,gd,rk⟩:=sT R rx d;cases rs with
  |nil=>exact w.elim|@cons y y' ys ys' ry rs=>
   have fin:∀{k:aD} {z:AV} {z':V},aG T Z H z z'->aG T Z H ((bU kvs k).getD z) ((dE us k).getD z'):=λ{k z z'} rz=>by
    obtain⟨g1,g2⟩:=xW (k:=k) rk;cases l:bU kvs k with
    |none=>rw[g2 l];exact rz|some v=>obtain⟨y1,e1,r1⟩:=g1 v l;rw[e1];exact r1
   cases rs with
   |nil=>
    dsimp only at w;cases k:dP y with
    |none=>simp only[k]at w;exact w.elim|some k'=>simp only[k]at w;have ek:=oM ry k;subst ek;exact⟨a,_,_,rfl,gH.k gd,.inl ⟨rfl,W.here w R (fin .aC)⟩⟩
   |@cons z z' zs zs' rz rs=>
    cases rs with
    |nil=>
     dsimp only at w;cases k:dP y with
     |none=>simp only[k]at w;exact w.elim|some k'=>simp only[k]at w;have ek:=oM ry k;subst ek;exact⟨a,_,_,rfl,gH.k gd,.inr ⟨z',rfl,W.here w R (fin rz)⟩⟩
    |cons _ _=>exact w.elim
theorem AK(Z:List Addr)(h:AH)(H:Hp)(x:AV)(x':V)(xs:List AV)(bC:List V)(Q:VK)(R:aQ T Z h H)(rx:aG T Z H x x')(rs:aO T Z H xs bC)(w:W T (aG T) (cx x xs h) Z H Q E):Up x' bC H Q:=by
 unfold cx at w;cases d:dG h x with
 |none=>simp only[d]at w;exact w.elim|some kvs=>
  simp only[d]at w;obtain⟨n,a,us,rfl,q,ob,rfl,gd,rk⟩:=sT R rx d;have wr:∀{k:aD} {v:AV} {y:V},bU kvs k=some v->aG T Z H v y->W T (aG T) (.ok v (h.put n (.aI (pR kvs k)))) Z H Q E->Q y (aJ H a (.dK (lT us k))):=λ{k v y} l rv w=>by have ex:=ja (Z:=Z) (p:=a) (O':=.dK (lT us k)) gd (λ_ z=>by cases z) (λ_ _ z=>by cases z);obtain⟨R3,e3⟩:=R.write (o':=.aI (pR kvs k)) (O':=.dK (lT us k)) ob rfl rfl q gd (λ_ z=>by cases z) (λ_ _ z=>by cases z) (yu dN ((UY rk).ext ex));exact W.ok w e3 R3 (rv.ext e3)
  cases rs with
  |nil=>exact w.elim|@cons y y' ys ys' ry rs=>
   cases rs with
   |nil=>
    dsimp only at w;cases k:dP y with
    |none=>simp only[k]at w;exact w.elim|some k'=>
     simp only[k]at w;have ek:=oM ry k;subst ek;obtain⟨g1,g2⟩:=xW (k:=k') rk;cases l:bU kvs k' with
     |none=>simp only[l]at w;exact w.elim|some v=>simp only[l]at w;obtain⟨y1,e1,r1⟩:=g1 v l;exact⟨a,us,k',rfl,gd,.inl ⟨rfl,y1,e1,wr l r1 w⟩⟩
   |@cons z z' zs zs' rz rs=>
    cases rs with
    |nil=>
     dsimp only at w;cases k:dP y with
     |none=>simp only[k]at w;exact w.elim|some k'=>
      simp only[k]at w;have ek:=oM ry k;subst ek;obtain⟨g1,g2⟩:=xW (k:=k') rk;refine⟨a,us,k',rfl,gd,.inr ⟨z',rfl,λv1 e1=>?_,λe1=>?_⟩⟩
      .cases l:bU kvs k' with
       |none=>rw[g2 l]at e1;cases e1|some v=>simp only[l]at w;obtain⟨y1,e2,r1⟩:=g1 v l;rw[e1]at e2;cases e2;exact wr l r1 w
      .cases l:bU kvs k' with
       |none=>simp only[l]at w;exact W.here w R rz|some v=>obtain⟨y1,e2,r1⟩:=g1 v l;rw[e1]at e2;cases e2
    |cons _ _=>exact w.elim
theorem AN(Z:List Addr)(h:AH)(H:Hp)(x:AV)(x':V)(xs:List AV)(bC:List V)(Q:VK)(R:aQ T Z h H)(rx:aG T Z H x x')(rs:aO T Z H xs bC)(w:W T (aG T) (zx x xs h) Z H Q E):Uq x' bC H Q:=by
 unfold zx at w;cases d:dG h x with
 |none=>simp only[d]at w;exact w.elim|some kvs=>
  simp only[d]at w;obtain⟨n,a,us,rfl,q,ob,rfl,gd,rk⟩:=sT R rx d;cases rs with
  |nil=>exact w.elim|@cons y y' ys ys' ry rs=>
   cases rs with
   |nil=>exact w.elim|@cons z z' zs zs' rz rs=>
    cases rs with
    |nil=>
     dsimp only at w;cases k:dP y with
     |none=>simp only[k]at w;exact w.elim|some k'=>
      simp only[k]at w;have ek:=oM ry k;subst ek;by_cases hz:kvs.length<sizeLine
      case neg=>rw[if_neg hz]at w;exact w.elim
      rw[if_pos hz]at w;obtain⟨g1,g2⟩:=xW (k:=k') rk;refine⟨a,us,k',z',rfl,gd,rfl,by rw[<- Vd rk];exact hz,λv1 e1=>?_,λe1=>?_⟩
      .cases l:bU kvs k' with
       |none=>rw[g2 l]at e1;cases e1|some v=>simp only[l]at w;obtain⟨y1,e2,r1⟩:=g1 v l;rw[e1]at e2;cases e2;exact W.here w R r1
      .cases l:bU kvs k' with
       |none=>simp only[l]at w;have ex:=ja (Z:=Z) (p:=a) (O':=.dK (fH us k' z')) gd (λ_ z=>by cases z) (λ_ _ z=>by cases z);obtain⟨R3,e3⟩:=R.write (o':=.aI (jB kvs k' z)) (O':=.dK (fH us k' z')) ob rfl rfl q gd (λ_ z=>by cases z) (λ_ _ z=>by cases z) (yu dN ((Ve rk rz).ext ex));exact W.ok w e3 R3 (rz.ext e3)
       |some v=>obtain⟨y1,e2,r1⟩:=g1 v l;rw[e1]at e2;cases e2
    |cons _ _=>exact w.elim
inductive Dm where
 |get|pop|Vo
def Dm.g:Dm->AV->List AV->M AV
 |.get=>cw | .pop=>cx | .Vo=>zx
def jw(m:Str):Option Dm:=if m="get" then some .get else if m="pop" then some .pop else if m="setdefault" then some .Vo else none
theorem Px{m:Str}{f:Dm}(hf:jw m=some f)(hu:X.A.units+1<cLine)(ho:QE X T E o ma)(ha:QA X T E (e::es) mr)(hb:iB o=true)(hs:(e::es).all aT=true)(hn:(e::es).length<29)(hl:(apos.endLine==pos.line)=true) :
  QE X T E (.Call (.Attribute o m apos) (e::es) [] pos) (λU=>jv f.g (ma U) (mr U)):=by
 unfold jw at hf;split at hf
 case isTrue h=>cases hf;subst h;exact Bs PySem.F.slot_dict_get PySem.F.type_dict_get (HV hu) AG ho ha hb hs hn hl
 split at hf
 case isTrue h=>cases hf;subst h;exact Bs PySem.F.slot_dict_pop PySem.F.type_dict_pop HW AK ho ha hb hs hn hl
 split at hf
 case isTrue h=>cases hf;subst h;exact Bs PySem.F.slot_dict_setdefault PySem.F.type_dict_setdefault HX AN ho ha hb hs hn hl
 cases hf
end
inductive Op where
 |add|sub|mul|fdiv|mod|pow|shl|shr|band|bor|bxor|ix
def Op.g:Op->AV->AV->M AV
 |.add=>fZ | .sub=>kj | .mul=>Mw | .fdiv=>Ml | .mod=>Mv | .pow=>My | .shl=>Mz | .shr=>Na | .band=>Mi | .bor=>Mx | .bxor=>Nc | .ix=>pY
inductive Cp where
 |eq|ne|lt|le|gt|ge|eP|isn|oG|nin
def Cp.g:Cp->AV->AV->M AV
 |.eq=>cy | .ne=>Aa | .lt=>Ms | .le=>Mq | .gt=>Mn | .ge=>Mm | .eP=>zy | .isn=>zz | .oG=>jZ false | .nin=>jZ true
inductive Bi where
 |len|int|min|max|divmod|tuple|list
def Bi.g:Bi->List AV->M AV
 |.len=>cz | .int=>Mo | .min=>Mu | .max=>Mt | .divmod=>Mj | .tuple=>Nb | .list=>Mr
inductive CT where
 |bad
 |nm (i:Nat)
 |tup (is:List Nat)
def ji:List Nat->List AV->aA->M aA
 |[]=>Af
 |i::is=>Ae (λv U=>M.ret (U.set i (some v))) (ji is)
def iA:CT->AV->aA->M aA
 |.bad,_,_=>M.bad
 |.nm i,v,U=>M.ret (U.set i (some v))
 |.tup is,v,U=>vZ is.length (ji is) v U
mutual
inductive Ex where
 |fV (imp:List (Option Nat)) (t:CT) (it:Ir) (e:Ex)
 |eL (imp:List (Option Nat)) (t:CT) (it:Ir) (c e:Ex)
 |dX (d e:Ex)
 |bad|no
 |var (i:Nat)
 |val (v:AV)
 |op (o:Op) (a b:Ex)
 |cmp (o:Cp) (a b:Ex)
 |chain (o o':Cp) (a b c:Ex)
 |neg (a:Ex)
 |not (a:Ex)
 |and (a b:Ex)
 |or (a b:Ex)
 |ite (c a b:Ex)
 |tup (es:dH)
 |lst (es:dH)
 |slice (a lo hi:Ex)
 |call (f:Nat) (es:dH)
 |bi (f:Bi) (es:dH)
 |iW (t:BT) (a:Ex)
 |kc (k:Kc) (a:Ex)
 |sk (f:Nat) (a:Ex)
 |dJ (cs:List (Nat×Bool)) (a:Ex)
 |fld (cs:List Nat) (f:Str) (o:Ex)
 |iK (m:Str) (dp:List (Nat×Nat)) (o:Ex) (es:dH)
 |make (c i:Nat) (dv:List AV) (es:dH)
 |eV (cs:List (Nat×Bool)) (a:Ex)
 |yo (i:Nat) (es:dH)
 |yQ
 |dm (f:Dm) (o:Ex) (es:dH)
 |app (o a:Ex)
inductive dH where
 |nil
 |cons (e:Ex) (es:dH)
inductive Ir where
 |bad
 |seq (e:Ex)
 |Vg (es:dH)
 |Vh (es:dH)
 |enum (e:Ex)
 |zip (es:dH)
 |aI (e:Ex)
end
abbrev Run:=Nat->List AV->M AV
def kH(e:Ex)(m:M AV):M (Option Int):=match e with
 |.no=>M.ret none
 |_=>m.bind dc
mutual
noncomputable def aB(F:Run):Ex->aA->M AV
 |.bad,_=>M.bad
 |.no,_=>M.bad
 |.var i,U=>qA i U
 |.val v,_=>M.ret v
 |.op o a b,U=>qG o.g (aB F a U) (aB F b U)
 |.cmp o a b,U=>qG o.g (aB F a U) (aB F b U)
 |.chain o o' a b c,U=>yN o.g o'.g (aB F a U) (aB F b U) (aB F c U)
 |.neg a,U=>(aB F a U).bind ki
 |.not a,U=>(aB F a U).bind λx=>(bK x).bind λb=>M.ret (.bl (!b))
 |.and a b,U=>Ib (aB F a U) (aB F b U)
 |.or a b,U=>Pd (aB F a U) (aB F b U)
 |.ite c a b,U=>lq (bE F c U) (aB F a U) (aB F b U)
 |.tup es,U=>Hh (bS F es U)
 |.lst es,U=>wK (bS F es U)
 |.slice a lo hi,U=>(aB F a U).bind λx=>(kH lo (aB F lo U)).bind λl=>(kH hi (aB F hi U)).bind λu=>sZ x l u
 |.call f es,U=>(bS F es U).bind (F f)
 |.bi f es,U=>(bS F es U).bind f.g
 |.iW t a,U=>(aB F a U).bind (vX t)
 |.kc k a,U=>(aB F a U).bind k.g
 |.sk f a,U=>(aB F a U).bind (sY (F f))
 |.dJ cs a,U=>(aB F a U).bind (vY cs)
 |.fld cs f o,U=>(aB F o U).bind (pW cs f)
 |.iK m dp o es,U=>ly (λc=>(dp.lookup c).map F) m (aB F o U) (bS F es U)
 |.make c i dv es,U=>lu c dv (F i) (bS F es U)
 |.eV cs a,U=>(aB F a U).bind (kf cs)
 |.yo i es,U=>(bS F es U).bind (F i)
 |.yQ,_=>yx
 |.dm f o es,U=>jv f.g (aB F o U) (bS F es U)
 |.app o a,U=>xp (aB F o U) (aB F a U)
 |.fV imp t it e,U=>vP (bG F it U) (iA t) (λ_=>M.ret true) (aB F e) imp U
 |.eL imp t it c e,U=>vP (bG F it U) (iA t) (bE F c) (aB F e) imp U
 |.dX d e,U=>gR (aB F d) (aB F e) U
noncomputable def bE(F:Run):Ex->aA->M Bool
 |.bad,_=>M.bad
 |.no,_=>M.bad
 |.ite _ _ _,_=>M.bad
 |.var i,U=>(qA i U).bind bK
 |.val v,_=>bK v
 |.op o a b,U=>(qG o.g (aB F a U) (aB F b U)).bind bK
 |.cmp o a b,U=>(qG o.g (aB F a U) (aB F b U)).bind kb
 |.chain o o' a b c,U=>(yN o.g o'.g (aB F a U) (aB F b U) (aB F c U)).bind kb
 |.neg a,_=>M.bad
 |.not a,U=>(bE F a U).bind λb=>M.ret (!b)
 |.and a b,U=>Ia (bE F a U) (bE F b U)
 |.or a b,U=>Pc (bE F a U) (bE F b U)
 |.tup es,U=>(Hh (bS F es U)).bind bK
 |.lst es,U=>(wK (bS F es U)).bind bK
 |.slice a lo hi,U=>((aB F a U).bind λx=>(kH lo (aB F lo U)).bind λl=>(kH hi (aB F hi U)).bind λu=>sZ x l u).bind bK
 |.call f es,U=>((bS F es U).bind (F f)).bind bK
 |.bi f es,U=>((bS F es U).bind f.g).bind bK
 |.iW t a,U=>((aB F a U).bind (vX t)).bind bK
 |.kc k a,U=>((aB F a U).bind k.g).bind bK
 |.sk f a,U=>((aB F a U).bind (sY (F f))).bind bK
 |.dJ cs a,U=>((aB F a U).bind (vY cs)).bind bK
 |.fld cs f o,U=>((aB F o U).bind (pW cs f)).bind bK
 |.iK m dp o es,U=>(ly (λc=>(dp.lookup c).map F) m (aB F o U) (bS F es U)).bind bK
 |.make c i dv es,U=>(lu c dv (F i) (bS F es U)).bind bK
 |.eV cs a,U=>((aB F a U).bind (kf cs)).bind bK
 |.yo i es,U=>((bS F es U).bind (F i)).bind bK
 |.yQ,_=>yx.bind bK
 |.dm f o es,U=>(jv f.g (aB F o U) (bS F es U)).bind bK
 |.app o a,U=>(xp (aB F o U) (aB F a U)).bind bK
 |.fV imp t it e,U=>(vP (bG F it U) (iA t) (λ_=>M.ret true) (aB F e) imp U).bind bK
 |.eL imp t it c e,U=>(vP (bG F it U) (iA t) (bE F c) (aB F e) imp U).bind bK
 |.dX d e,U=>(gR (aB F d) (aB F e) U).bind bK
noncomputable def bS(F:Run):dH->aA->M (List AV)
 |.nil,_=>M.ret []
 |.cons e es,U=>Lf (aB F e U) (bS F es U)
noncomputable def bG(F:Run):Ir->aA->M dS
 |.bad,_=>M.bad
 |.seq e,U=>(aB F e U).bind gL
 |.Vg es,U=>(bS F es U).bind Ab
 |.Vh es,U=>(bS F es U).bind Ac
 |.enum e,U=>(aB F e U).bind ke
 |.zip es,U=>(bS F es U).bind kl
 |.aI e,U=>(aB F e U).bind cq
end
structure Cn where
 N:List Str
 sc:Scope
 fns:List Str
 de:List (Str×AV)
 eD:List Str
 jU:List (Str×Nat)
 cat:List (Str×List Nat)
 dJ:List (Str×List (Nat×Bool))
 top:Bool:=true
 fW:List (Str×List Nat):=[]
 iZ:List (Str×List (Nat×Nat)):=[]
 iY:List ((Str×Nat)×(Nat×Nat×List AV)):=[]
 eV:List (Str×List (Nat×Bool)):=[]
 iU:List (Str×List (Str×Nat)):=[]
 zc:List Str:=[]
def Cn.gl(C:Cn)(x:Str):Bool:=decide (C.sc.names.lookup x=some .globalImplicit)
def iL(x:Str):Bool:=!(x==("__debug__":Str)) && !(x==("__classdict__":Str)) && !(x==("__name__":Str))
def Cn.loc(C:Cn)(x:Str):Bool:=decide (C.sc.names.lookup x=some .local)||decide (C.sc.names.lookup x=some .cell)
def Cn.name(C:Cn)(x:Str):Ex:=if iL x then
  if C.loc x then match C.N.idxOf? x with
   |some i=>.var i
   |none=>.bad
  else if C.gl x then match C.de.lookup x with
   |some v=>.val v
   |none=>.bad
  else .bad
 else .bad
def yt:Const->Ex
 |.none=>.val .aC
 |.bool b=>.val (.bl b)
 |.int i=>.val (.int i)
 |.str x=>.val (.str x)
 |_=>.bad
def Jv:Operator->Option Op
 |.Add=>some .add | .Sub=>some .sub | .Mult=>some .mul | .FloorDiv=>some .fdiv | .Mod=>some .mod | .Pow=>some .pow
 |.LShift=>some .shl | .RShift=>some .shr | .BitAnd=>some .band | .BitOr=>some .bor | .BitXor=>some .bxor
 |_=>none
def jn:CmpOp->Cp
 |.Eq=>.eq | .NotEq=>.ne | .Lt=>.lt | .LtE=>.le | .Gt=>.gt | .GtE=>.ge | .Is=>.eP | .IsNot=>.isn | .In=>.oG | .NotIn=>.nin
def xy(op:Operator)(a b:Ex):Ex:=match Jv op with
 |some o=>.op o a b
 |none=>.bad
def rG(k:Ex->Ex->Ex):List Ex->Ex
 |[]=>.bad
 |[a]=>a
 |a::r=>k a (rG k r)
def gW:List Ex->dH
 |[]=>.nil
 |e::es=>.cons e (gW es)
def Ki(x:Str):Option BT:=
 if x="int" then some .int else if x="bool" then some .bl else if x="str" then some .str else if x="tuple" then some .tup else if x="list" then some .lst else if x="dict" then some .aI else none
def Ju(x:Str):Option Bi:=
 if x="len" then some .len else if x="int" then some .int else if x="min" then some .min else if x="max" then some .max else if x="divmod" then some .divmod else if x="tuple" then some .tuple else if x="list" then some .list else
  none
def Cn.bl(C:Cn)(x:Str):Bool:=C.gl x&&C.eD.contains x&&iL x
def yW:Expr->Option Str
 |.Name x _=>some x
 |_=>none
def Cn.jl(C:Cn)(x:Str)(es:List Expr)(cs:List Ex):Ex:=if iL x&&es.all aT then match C.fns.idxOf? x with
    |some i=>if C.gl x then .call i (gW cs) else .bad
    |none=>match C.iY.lookup (x,es.length) with
     |some (c,i,dv)=>if C.gl x then .make c i dv (gW cs) else .bad
     |none=>match Ju x with
      |some f=>if C.bl x && !es.isEmpty then .bi f (gW cs) else .bad
      |none=>if decide (x="isinstance")&&C.bl x then match es,cs with
          |[_,t],[a,_]=>match (yW t).bind λy=>if C.bl y then Ki y else none with
            |some bt=>.iW bt a
            |none=>match (yW t).bind λy=>if iL y&&C.gl y then C.dJ.lookup y else none with
              |some cs=>.dJ cs a
              |none=>match (yW t).bind λy=>if iL y&&C.gl y then C.eV.lookup y else none with
                |some cs=>.eV cs a
                |none=>.bad
          |_,_=>.bad
        else .bad
  else .bad
def EF:Nat:=40
def Cn.slot(C:Cn)(x:Str):Option Nat:=if C.loc x then C.N.idxOf? x else none
def Cn.An(C:Cn):Expr->Bool
 |.Attribute _ f _=>C.zc.contains f
 |_=>false
def Cn.dX(C:Cn)(it:Expr)(d e:Ex):Ex:=if C.An it then .dX d e else e
def cI(C:Cn)(f:Expr->Ex)(tg:Expr)(e:Expr):Ir:=match e with
 |.Call (.Name x _) es [] _=>
  if decide (x="range")&&C.bl x then match es with
   |[a]=>if aT a then .Vg (gW ([a].map f)) else .bad
   |[a,b]=>if aT a&&aT b then .Vh (gW ([a,b].map f)) else .bad
   |_=>.bad
  else if decide (x="enumerate")&&C.bl x then match es,tg with
   |[a],.Tuple _ _ _=>if aT a then .enum (f a) else .bad
   |_,_=>.bad
  else if decide (x="zip")&&C.bl x then match es,tg with
   |[a,b],.Tuple _ _ _=>if aT a&&aT b then .zip (gW ([a,b].map f)) else .bad
   |_,_=>.bad
  else .seq (f e)
 |e=>if aT e then(if C.An e then .aI (f e) else .seq (f e)) else .bad
def vQ(scope:Scope):List Str:=(scope.names.filter λx=>(x.2==NameKind.local&&x.1 != (".0":Str))||x.2==NameKind.free).map (·.1)
def Va(scope sc:Scope):Scope:=
 { scope with names:=scope.names.map λ(n,k)=>if(k == .free&&sc.kind == .function&&sc.names.lookup n==some .cell) then(n,.cell) else(n,k) }
def Cn.comp(C:Cn)(scope:Scope):Cn:={ C with N:=vQ scope,sc:=Va scope C.sc,top:=false }
def Cn.imp(C:Cn)(scope:Scope):List (Option Nat):=(vQ scope).map λx=>if decide (scope.names.lookup x=some .free) then C.N.idxOf? x else none
def Cn.pO(C:Cn)(scope:Scope):Bool:=decide (scope.kind = .function)&&scope.names.all (λy=>decide (y.2 ≠ .cell))&&scope.names.all (λy=>decide (y.2 = .local->scope.names.lookup y.1=some .local)) &&
 scope.names.all (λy=>decide (y.2 = .free->C.sc.names.lookup y.1=some .cell))&&decide (vQ scope).Nodup
def jq(C:Cn):List Expr->Option (List Nat)
 |[]=>some []
 |.Name x _::r=>if decide (C.sc.names.lookup x=some .local) then match C.N.idxOf? x,jq C r with
   |some i,some l=>some (i::l)
   |_,_=>none
  else none
 |_=>none
def yM(C:Cn)(e:Expr):CT:=match e with
 |.Name x _=>if decide (C.sc.names.lookup x=some .local) then match C.N.idxOf? x with
   |some i=>.nm i
   |none=>.bad
  else .bad
 |.Tuple es _ _=>match jq C es with
  |some l=>.tup l
  |none=>.bad
 |_=>.bad
def md(o:Expr)(m:Str)(eo:Ex):Ex:=
 .bad
def mf(o:Expr)(m:Str)(eo ea:Ex):Ex:=
 if decide (m="append")&&iB o then .app eo ea else
 if iB o then(match jw m with
  |some f=>.dm f eo (.cons ea .nil)
  |none=>.bad) else
 .bad
def mj(o:Expr)(m:Str)(eo ea eb:Ex):Ex:=
 if iB o then(match jw m with
  |some f=>.dm f eo (.cons ea (.cons eb .nil))
  |none=>.bad) else
 .bad
def xu(o:Expr)(m:Str)(eo:Ex):List Ex->Ex
 |[]=>md o m eo
 |[a]=>mf o m eo a
 |[a,b]=>mj o m eo a b
 |_=>.bad
def Cn.La(C:Cn)(o:Expr)(m:Str):Option Nat:=(yW o).bind λx=>if iL x&&C.gl x then(C.iU.lookup x).bind (·.lookup m) else none
def Cn.lz(C:Cn)(o:Expr)(m:Str)(apos pos:Pos)(es:List Expr)(eo:Ex)(cs:List Ex):Ex:=
 if es.all aT&&(apos.endLine==pos.line) then
  match C.La o m with
  |some i=>if !es.isEmpty&&decide (es.length<30) then .yo i (gW cs) else .bad
  |none=>match C.iZ.lookup m with
   |some dp=>if iB o&&decide (es.length<30) then .iK m dp eo (gW cs) else .bad
   |none=>xu o m eo cs
 else .bad
def yj(op:UnaryOp)(a:Ex):Ex:=match op with
 |.USub=>.neg a
 |.Not=>.not a
 |_=>.bad
def yc(f:Expr->Ex)(a:Expr)(os:List CmpOp)(bs:List Expr):Ex:=match os,bs with
 |[o],[b]=>if aT b then .cmp (jn o) (f a) (f b) else .bad
 |[o,o'],[b,c]=>if aT c then .chain (jn o) (jn o') (f a) (f b) (f c) else .bad
 |_,_=>.bad
def ya(op:BoolOp)(vs:List Ex):Ex:=match op with
 |.And=>rG .and vs
 |.Or=>rG .or vs
def yi(C:Cn)(f:Expr->Ex)(a s:Expr):Ex:=match s with
 |.Slice lo hi none _=>.slice (f a) (lo.elim .no f) (hi.elim .no f)
 |b=>if aT b then .op .ix (f a) (f b) else .bad
def yb(C:Cn)(f:Expr->Ex)(g:Expr)(es:List Expr)(ks:List Keyword)(pos:Pos):Ex:=match ks with
 |[]=>match g with
  |.Name x _=>C.jl x es (es.map f)
  |.Attribute o m apos=>C.lz o m apos pos es (f o) (es.map f)
  |_=>.bad
 |_=>.bad
def yg(C:Cn)(r:Cn->Expr->Ex)(elt:Expr)(gs:List Comprehension)(scope:Scope):Ex:=match gs with
 |[⟨t,it,cs,0⟩]=>if C.pO scope&&aT it then match cs with
   |[]=>C.dX it (r C it) (.fV (C.imp scope) (yM (C.comp scope) t) (cI C (r C) t it) (r (C.comp scope) elt))
   |[c]=>C.dX it (r C it) (.eL (C.imp scope) (yM (C.comp scope) t) (cI C (r C) t it) (r (C.comp scope) c) (r (C.comp scope) elt))
   |_=>.bad
  else .bad
 |_=>.bad
def xw(C:Cn)(o:Expr)(f:Str)(eo:Ex):Ex:=if iB o then match C.fW.lookup f with
  |some cs=>.fld cs f eo
  |none=>.bad
 else .bad
def yd(ks:List (Option Expr))(vs:List Expr):Ex:=match ks,vs with
 |[],[]=>.yQ
 |_,_=>.bad
def Oa(x:Str)(ks:List Keyword):Option Kc:=match ks with
 |[]=>if x="any" then some .any else
  if x="sorted" then some .sd else
  none
 |[⟨some nm,kc,_⟩]=>match kc with
  |.Constant (.bool b) _ _=>if x="sorted"/\nm="reverse" then some (.srt b) else none
  |.Constant .none _ _=>if x="min"/\nm="default" then some .dq else none
  |_=>none
 |_=>none
def yh(C:Cn)(x:Str)(ks:List Keyword)(b:Bool)(y:Ex):Option Ex:=match ks with
 |[⟨some nm,.Name z _,_⟩]=>if x="sorted"/\nm="key"/\(C.bl x&&b&&iL z&&C.gl z)=true then match C.fns.idxOf? z with
  |some i=>some (.sk i y)
  |none=>none
  else none
 |_=>none
def bz(C:Cn)(f:Expr->Ex)(g:Expr)(es:List Expr)(ks:List Keyword):Option Ex:=match g,es with
 |.Name x _,[a]=>match Oa x ks with
  |some k=>if C.bl x&&aT a then some (.kc k (f a)) else none
  |none=>yh C x ks (aT a) (f a)
 |_,_=>none
def cE:Cn->Nat->Expr->Ex
 |_,0,_=>.bad
 |C,n+1,e=>match e with
  |.Name x _=>C.name x
  |.Constant c _ _=>yt c
  |.BinOp a op b _=>xy op (cE C n a) (cE C n b)
  |.UnaryOp op a _=>yj op (cE C n a)
  |.Compare a os bs _=>yc (cE C n) a os bs
  |.BoolOp op vs _=>ya op (vs.map (cE C n))
  |.IfExp c a b _=>.ite (cE C n c) (cE C n a) (cE C n b)
  |.Tuple es _ _=>if es.all aT then .tup (gW (es.map (cE C n))) else .bad
  |.List es _=>if es.all aT then .lst (gW (es.map (cE C n))) else .bad
  |.Subscript a s _=>yi C (cE C n) a s
  |.Call g es ks pos=>match bz C (cE C n) g es ks with
   |some y=>y
   |none=>yb C (cE C n) g es ks pos
  |.Dict ks vs _=>yd ks vs
  |.Attribute o f _=>xw C o f (cE C n o)
  |.ListComp elt gs scope _=>yg C (λC' e'=>cE C' n e') elt gs scope
  |_=>.bad
structure Lk(X:Cx)(T:Tab)(E:XK)(C:Cn)(F:Run):Prop where
 K:X.K=T.K
 N:X.N=C.N
 sc:X.env.scope=C.sc
 nd:C.N.Nodup
 fn:C.top=true->∀x,X.fn x=true
 calm:X.calm=true
 po:PassesOwn (model X.prog X.w) X.A X.env X.xe
 gv:∀x v,C.de.lookup x=some v->∃u v',X.mg x=some u/\RelV v' u/\∀Z H,aG T Z H v v'
 fns:∀(i:Nat) x,C.fns[i]?=some x->Fn X T E x (F i)
 eD:∀x,C.eD.contains x=true->X.mg x=none
 tab:∀kvs a,T.G kvs a->Hw X.prog X.w X.K a kvs
 un:X.A.units+64<cLine
 fW:∀f cs,C.fW.lookup f=some cs->bg X.K T cs f
 iZ:∀m dp,C.iZ.lookup m=some dp->∀c D g,(dp.lookup c).map F=some g->T.C c=some D->bj X T E D m g
 iY:∀x n c i dv,C.iY.lookup (x,n)=some (c,i,dv)->xb X T E x c dv (F i)
 eV:∀y cs,C.eV.lookup y=some cs->∃D:Addr,X.mg y=some (.ref D)/\∀k b,cs.lookup k=some b->∃D':Addr,T.C k=some D'/\jd X.K D'/\W.kitOne X.K (.ref D') (.ref D)=some b
 iU:∀x m i,(C.iU.lookup x).bind (·.lookup m)=some i->Ht X T E x m (F i)
 jU:∀x c,C.jU.lookup x=some c->∃(D:Addr) (bmB:List Value) (newId initId Bn:String),X.mg x=some (.ref D)/\T.C c=some D/\W.excIn X.K D bmB newId=true/\ExcBaseFacts Bn newId initId bmB
 cat:∀x cs,C.cat.lookup x=some cs->∃D:Addr,X.mg x=some (.ref D)/\L2.clsIn X.K D=true/\∀c∈cs,∃D':Addr,T.C c=some D'/\L2.clsIn X.K D'=true/\(mroOf X.K D').contains (.ref D)=true
 dJ:∀y cs,C.dJ.lookup y=some cs->∃(v:V) (d:Value),(∀u,RelV v u->u=d)/\RelV v d/\(X.mg y=some d\/(X.mg y=none/\bootBuiltins y=some d)) /\
  ∀k b,cs.lookup k=some b->∃D:Addr,T.C k=some D/\W.yF X.K D=true/\W.kitOne X.K (.ref D) d=some b
 ra:jg X E
 gG:C.top=true->X.stack=X.env::X.outer
 fr:C.top=true->X.env.frame=some X.env.locals
theorem Lk.eS{X:Cx}{T:Tab}{E:XK}{C:Cn}{F:Run}(L:Lk X T E C F)(pn:List (Addr×Obj))(E1:Value->Shared->Prop):Lk (X.eS pn E1).tJ T E0 C F:=
 ⟨L.K,L.N,L.sc,L.nd,L.fn,L.calm,PassesOwn.never,L.gv,λi x h=>let ⟨k,f,fd,ps,F,hr,hm,hk,hb,_⟩:=(L.fns i x h).ex;⟨⟨k,f,fd,ps,F,hr,hm,hk,hb,λ_ _ _ _ _ _ _ ⟨_,_,_,_,_,_,_,_,_,_,_,_,z⟩=>z.elim⟩⟩,L.eD,L.tab,
 L.un,
 L.fW,λm dp h c D g h1 h2=>let ⟨k,f,fd,ps,F,hr,c,hm,hb,_⟩:=(L.iZ m dp h c D g h1 h2).ex;⟨⟨k,f,fd,ps,F,hr,c,hm,hb,λ_ _ _ _ _ _ _ ⟨_,_,_,_,_,_,_,_,_,_,_,_,z⟩=>z.elim⟩⟩,
 λx n c i dv h=>let ⟨k,C,f,fd,ps,ds,dvs,hc,K,F,hr,hm,hb,hv,hdv,_⟩:=(L.iY x n c i dv h).ex;⟨⟨k,C,f,fd,ps,ds,dvs,hc,K,F,hr,hm,hb,hv,hdv,λ_ _ _ _ _ _ _ ⟨_,_,_,_,_,_,_,_,_,_,_,_,z⟩=>z.elim⟩⟩,
 L.eV,λx m i h=>let ⟨k,C,f,fd,ps,hm,F,hr,kp,h1,h2,h3,h4,hb,_⟩:=(L.iU x m i h).ex;⟨⟨k,C,f,fd,ps,hm,F,hr,kp,h1,h2,h3,h4,hb,λ_ _ _ _ _ _ _ ⟨_,_,_,_,_,_,_,_,_,_,_,_,z⟩=>z.elim⟩⟩,
 L.jU,L.cat,L.dJ,λ_ _ _ _ _ _ _ _ _ _ z=>z.elim,L.gG,L.fr⟩
section
variable {X:Cx}{T:Tab}{E:XK}{C:Cn}{F:Run}(L:Lk X T E C F)
theorem jA{x:Str}(h:iL x=true):(x==("__debug__":Str))=false/\(x==("__classdict__":Str))=false/\x≠"__name__":=by simp only[iL,Bool.and_eq_true,Bool.not_eq_true',beq_eq_false_iff_ne]at h;exact⟨beq_eq_false_iff_ne.mpr h.1.1,beq_eq_false_iff_ne.mpr h.1.2,h.2⟩
theorem iV{x:Str}{l:List Str}{i:Nat}(h:l.idxOf? x=some i):l[i]?=some x:=by unfold List.idxOf? at h;obtain⟨h1,h2,_⟩:=List.findIdx?_eq_some_iff_getElem.mp h;rw[List.getElem?_eq_getElem h1];exact congrArg some (eq_of_beq h2)
include L in
theorem Lk.gl{x:Str}(h:C.gl x=true):Gl X x:=by have h':C.sc.names.lookup x=some .globalImplicit:=of_decide_eq_true h;rw[<- L.sc]at h';exact h'
def Q2(X:Cx)(T:Tab)(E:XK)(F:Run)(e:Expr)(x:Ex):Prop:=QE X T E e (aB F x)/\QT X T E e (bE F x)
theorem bR{e:Expr}:Q2 X T E F e .bad:=⟨er,Gm⟩
include L in
theorem Pu{e it:Expr}{d y:Ex}(pl:dy e=true)(h:Q2 X T E F e y):Q2 X T E F e (C.dX it d y):=by
 unfold Cn.dX;split
 .exact⟨Pz (aB F d) h.1,jS L.K (Pz (aB F d) h.1) pl⟩
 .exact h
include L in
theorem XJ(x:Str)(pos:Pos):Q2 X T E F (.Name x pos) (C.name x):=by
 unfold Cn.name;split
 case isFalse=>exact bR
 case isTrue ok=>
  obtain⟨h1,h2,h3⟩:=jA ok;split
  case isTrue hl=>
   split
   case h_1 i hi=>
    have hv:br X.env.scope x:=by
     rw[L.sc];simp only[Cn.loc,Bool.or_eq_true,decide_eq_true_eq]at hl;rcases hl with hl|hl
     .exact .inl hl
     .exact .inr (.inl hl)
    have q:QE X T E (.Name x pos) (qA i):=Qa (by rw[L.N];exact iV hi) hv h1 h2;exact⟨q,jS L.K q rfl⟩
   case h_2=>exact bR
  case isFalse=>
   split
   case isFalse=>exact bR
   case isTrue hg=>
    split
    case h_1 v hv=>obtain⟨u,v',e1,r,rp⟩:=L.gv x v hv;have q:QE X T E (.Name x pos) (λ_=>M.ret v):=jD (dw (L.gl hg) e1 r h1) rp;exact⟨q,jS L.K q rfl⟩
    case h_2=>exact bR
include L in
theorem XF(c:Const)(k:Nat)(pos:Pos):Q2 X T E F (.Constant c k pos) (yt c):=by
 cases c with
 |none=>exact⟨jD my λ_ _=>.aC,jS L.K (jD my λ_ _=>.aC) rfl⟩|bool b=>exact⟨jD mx λ_ _=>.bl b,jS L.K (jD mx λ_ _=>.bl b) rfl⟩|int i=>exact⟨jD Bl λ_ _=>.int i,jS L.K (jD Bl λ_ _=>.int i) rfl⟩|str x=>exact⟨jD Bm λ_ _=>.str x,jS L.K (jD Bm λ_ _=>.str x) rfl⟩|_=>exact bR
include L in
theorem JP{op:Operator}{o:Op}(h:Jv op=some o):bZ X T E (binaryOp op) o.g:=by
 cases op<;>cases h
 .exact JN L.K
 .exact KO
 .exact KC
 .exact KA
 .exact KJ
 .exact KL
 .exact KN
 .exact KI
 .exact KP
 .exact JO
 .exact JR
include L in
theorem yZ(op:CmpOp):bZ X T E (compareOp op) (jn op).g:=by
 cases op
 .exact JQ
 .exact KD
 .exact JZ
 .exact JY
 .exact JT
 .exact JS
 .exact JW
 .exact JX
 .exact JU L.K (by have:=L.un;omega)
 .exact KG L.K (by have:=L.un;omega)
theorem iF{es:List Expr}{f:Expr->Ex}(hs:es.all aT=true)(h:∀e,Q2 X T E F e (f e)):QA X T E es (bS F (gW (es.map f))):=by
 induction es with
 |nil=>exact NZ|cons e es ih=>rw[List.all_cons,Bool.and_eq_true]at hs;exact NY (h e).1 (ih hs.2) hs.1
include L in
theorem Ic{pos:Pos}{f:Expr->Ex}(h:∀e,Q2 X T E F e (f e)):∀(e:Expr) (es:List Expr),QE X T E (.BoolOp .And (e::es) pos) (aB F (rG .and ((e::es).map f)))/\QW X T E (.BoolOp .And (e::es) pos) (bE F (rG .and ((e::es).map f)))
 |e,[]=>⟨Py (h e).1,TX (h e).2⟩
 |e,b::rest=>by obtain⟨h1,h2⟩:=Ic h b rest;exact⟨OA L.K (h e).1 h1,TV (h e).2 h2⟩
include L in
theorem Pe{pos:Pos}{f:Expr->Ex}(h:∀e,Q2 X T E F e (f e)):∀(e:Expr) (es:List Expr),QE X T E (.BoolOp .Or (e::es) pos) (aB F (rG .or ((e::es).map f)))/\QW X T E (.BoolOp .Or (e::es) pos) (bE F (rG .or ((e::es).map f)))
 |e,[]=>⟨Py (h e).1,TZ (h e).2⟩
 |e,b::rest=>by obtain⟨h1,h2⟩:=Pe h b rest;exact⟨OX L.K (h e).1 h1,TY (h e).2 h2⟩
theorem Pj{o:Option Expr}{f:Expr->Ex}(h:∀e,Q2 X T E F e (f e))(hn:∀e,f e ≠ .no):QO X T E o (λU=>kH (o.elim .no f) (aB F (o.elim .no f) U)):=by
 cases o with
 |none=>exact SN|some e=>
  have q:QO X T E (some e) (λU=>(aB F (f e) U).bind dc):=SO (h e).1;have e1:∀m,kH (f e) m=m.bind dc:=λm=>by
   unfold kH;split
   .rename_i z;exact absurd z (hn e)
   .rfl
  simp only[Option.elim,e1];exact q
theorem Kl{k:Ex->Ex->Ex}(hk:∀a b,k a b ≠ .no):∀{l:List Ex},(∀x∈l,x ≠ .no)->rG k l ≠ .no
 |[],_=>by intro z;cases z
 |[a],h=>h a (by simp)
 |a::b::r,_=>hk _ _
theorem Yl{f:Expr->Ex}{g:Expr}{es:List Expr}{ks:List Keyword}{y:Ex}(h:bz C f g es ks=some y):y ≠ .no:=by
 unfold bz at h;split at h
 .split at h
  .split at h
   .cases h;intro z;cases z
   .cases h
  .unfold yh at h;split at h
   .split at h
    .split at h
     .cases h;intro z;cases z
     .cases h
    .cases h
   .cases h
 .cases h
theorem ye:∀(n:Nat) (e:Expr),cE C n e ≠ .no
 |0,e=>by intro z;cases z
 |n+1,e=>by
  have ih:=ye n;unfold cE;split
  .unfold Cn.name;(repeat' split)<;>(intro z;cases z;done)
  .rename_i c _ _;cases c<;>(intro z;cases z;done)
  .unfold xy;split<;>(intro z;cases z;done)
  .unfold yj;split<;>(intro z;cases z;done)
  .unfold yc;(repeat' split)<;>(intro z;cases z;done)
  .rename_i op vs _;have:∀x∈vs.map (cE C n),x ≠ .no:=λx hx=>by obtain⟨y,_,rfl⟩:=List.mem_map.mp hx;exact ih y
   unfold ya;split
   .exact Kl (λ_ _ z=>by cases z) this
   .exact Kl (λ_ _ z=>by cases z) this
  .intro z;cases z
  .split<;>(intro z;cases z;done)
  .split<;>(intro z;cases z;done)
  .unfold yi
   (repeat' split)<;>(intro z;cases z;done)
  .split
   .rename_i h;exact Yl h
   unfold yb;split
   .split
    .unfold Cn.jl;(repeat' split)<;>(intro z;cases z;done)
    .unfold Cn.lz xu md mf mj;(repeat' split)<;>(intro z;cases z;done)
    .intro z;cases z
   .intro z;cases z
  .unfold yd;split<;>(intro z;cases z;done)
  .unfold xw;(repeat' split)<;>(intro z;cases z;done)
  .unfold yg Cn.dX;(repeat' split)<;>(intro z;cases z;done)
  .intro z;cases z
include L in
theorem XH{f:Expr->Ex}(ih:∀e,Q2 X T E F e (f e)){g:Expr}{es:List Expr}{ks:List Keyword}{pos:Pos}{y:Ex}(h:bz C f g es ks=some y):Q2 X T E F (.Call g es ks pos) y:=by
 unfold bz at h;split at h
 case h_2=>cases h
 case h_1 x p a=>
  split at h
  case h_2 hk=>
   unfold yh at h;split at h
   case h_2=>cases h
   case h_1 nm z zp kp=>
    split at h
    case isFalse=>cases h
    case isTrue hb=>
     obtain⟨rfl,rfl,hb⟩:=hb;split at h
     case h_2=>cases h
     case h_1 i hi=>cases h;simp only[Bool.and_eq_true,Cn.bl]at hb;obtain⟨⟨⟨⟨⟨hg,hm⟩,_⟩,hs⟩,ho⟩,hz⟩:=hb;have q:QE X T E (.Call (.Name "sorted" p) [a] [⟨some "key",.Name z zp,kp⟩] pos) (aB F (.sk i (f a))):=OZ L.K (L.fns i z (iV hi)) (L.gl hz) (jA ho).1 (L.gl hg) (L.eD _ hm) (ih a).1 hs;exact⟨q,jS L.K q rfl⟩
  case h_1 k hk=>
   split at h
   case isFalse=>cases h
   case isTrue hb=>
    cases h;simp only[Bool.and_eq_true,Cn.bl]at hb;obtain⟨⟨⟨hg,hm⟩,_⟩,hs⟩:=hb;have mk:QE X T E (.Call (.Name x p) [a] ks pos) (aB F (.kc k (f a)))->Q2 X T E F (.Call (.Name x p) [a] ks pos) (.kc k (f a)):=λq=>⟨q,jS L.K q rfl⟩;refine mk ?_;unfold Oa at hk;split at hk
    case h_1=>
     split at hk
     case isFalse=>
      split at hk
      case isFalse=>cases hk
      case isTrue hx=>cases hk;subst hx;exact OY L.K L.calm (L.gl hg) (L.eD _ hm) (ih a).1 hs
     case isTrue hx=>cases hk;subst hx;exact OB L.K L.calm (L.gl hg) (L.eD _ hm) (ih a).1 hs
    case h_2 nm kc kp=>
     split at hk
     case h_1 b kk kq=>
      split at hk
      case isFalse=>cases hk
      case isTrue hx=>cases hk;obtain⟨rfl,rfl⟩:=hx;exact PC L.K (L.gl hg) (L.eD _ hm) (ih a).1 hs
     case h_2 kk kq=>
      split at hk
      case isFalse=>cases hk
      case isTrue hx=>cases hk;obtain⟨rfl,rfl⟩:=hx;exact OU L.K L.calm (L.gl hg) (L.eD _ hm) (ih a).1 hs
     case h_3=>cases hk
    case h_3=>cases hk
include L in
theorem XE{n:Nat}(ih:∀e,Q2 X T E F e (cE C n e))(x:Str)(p:Pos)(es:List Expr)(pos:Pos):Q2 X T E F (.Call (.Name x p) es [] pos) (C.jl x es (es.map (cE C n))):=by
  have mk:∀{y:Ex},QE X T E (.Call (.Name x p) es [] pos) (aB F y)->(∀U,bE F y U=(aB F y U).bind bK)->Q2 X T E F (.Call (.Name x p) es [] pos) y:=λ{y} q e=>by refine⟨q,?_⟩;have:=jS L.K q rfl;have e2:bE F y=λU=>(aB F y U).bind bK:=funext e;rw[e2];exact this
  unfold Cn.jl;split
  case isFalse=>exact bR
  case isTrue ok=>
    rw[Bool.and_eq_true]at ok;obtain⟨h1,h2,h3⟩:=jA ok.1;split
    case h_1 i hi=>
      split
      case isFalse=>exact bR
      case isTrue hg=>
        have FN:=L.fns i x (iV hi);refine mk ?_ λ_=>rfl;cases es with
        |nil=>exact OE FN (L.gl hg) h1|cons e es=>exact OD FN (L.gl hg) (iF ok.2 ih) ok.2 h1
    case h_2=>
     split
     case h_1 c i dv hk=>
      split
      case isFalse=>exact bR
      case isTrue hg=>
        have CN:=L.iY x _ c i dv hk;refine mk ?_ λ_=>rfl;cases es with
        |nil=>exact OR CN (L.gl hg) h1|cons e es=>exact OQ CN (L.gl hg) (iF ok.2 ih) ok.2 h1
     case h_2=>
      split
      case h_1 f hf=>
        split
        case isFalse=>exact bR
        case isTrue hb=>
          simp only[Cn.bl,Bool.and_eq_true]at hb;obtain⟨⟨⟨hg,hm⟩,_⟩,hne⟩:=hb;refine mk ?_ λ_=>rfl;cases es with
          |nil=>cases hne|cons e es=>
            have q:=iF ok.2 ih;have hm':=L.eD x hm;unfold Ju at hf;split at hf
            case isTrue hx=>cases hf;subst hx;exact ni (Zm L.K) (L.gl hg) hm' boot_len q ok.2 h3 h1
            split at hf
            case isTrue hx=>cases hf;subst hx;exact Br Zl (L.gl hg) hm' boot_int q ok.2 h3 h1
            split at hf
            case isTrue hx=>cases hf;subst hx;exact ni (Zp L.calm) (L.gl hg) hm' boot_min q ok.2 h3 h1
            split at hf
            case isTrue hx=>cases hf;subst hx;exact ni (Zo L.calm) (L.gl hg) hm' boot_max q ok.2 h3 h1
            split at hf
            case isTrue hx=>cases hf;subst hx;exact ni Zk (L.gl hg) hm' boot_divmod q ok.2 h3 h1
            split at hf
            case isTrue hx=>cases hf;subst hx;exact Br (Zq L.K) (L.gl hg) hm' boot_tuple q ok.2 h3 h1
            split at hf
            case isTrue hx=>cases hf;subst hx;exact Br (Zn L.K) (L.gl hg) hm' boot_list q ok.2 h3 h1
            cases hf
      case h_2=>
        split
        case isFalse=>exact bR
        case isTrue hi=>
          simp only[Bool.and_eq_true,decide_eq_true_eq,Cn.bl]at hi;obtain⟨hx,⟨hg,hm⟩,_⟩:=hi;subst hx;split
          case h_2=>exact bR
          case h_1 a t ca ct hk0 ec=>
            rw[List.map_cons,List.map_cons,List.map_nil]at ec;injection ec with ec1 ec2;subst ec1;cases t with
            |Name y p2=>
              simp only[yW,Option.bind_some];have sa':aT a=true:=by have:=ok.2;rw[List.all_cons,Bool.and_eq_true]at this;exact this.1
              have isc_snd:∀(y:Str) (p2:Pos),Q2 X T E F (.Call (.Name "isinstance" p) [a,.Name y p2] [] pos) (match (if(iL y&&C.gl y)=true then C.eV.lookup y else none) with
                  |some cs=>Ex.eV cs (cE C n a)
                  |none=>Ex.bad):=λy p2=>by
                split
                case h_2=>exact bR
                case h_1 cs hcs=>
                  split at hcs
                  case isFalse=>cases hcs
                  case isTrue hy=>rw[Bool.and_eq_true]at hy;obtain⟨k1,k2,k3⟩:=jA hy.1;obtain⟨D,hm2,hk⟩:=L.eV y cs hcs;have q:QE X T E (.Call (.Name "isinstance" p) [a,.Name y p2] [] pos) (aB F (.eV cs (cE C n a))):=OM (vd:=.ref D) (λu h=>h) (L.gl hg) (L.eD _ hm) (dw (L.gl hy.2) hm2 rfl k1) hk (ih a).1 sa';exact⟨q,jS L.K q rfl⟩
              split
              case h_2=>
                split
                case h_2=>exact isc_snd y p2
                case h_1 cs hcs=>
                  refine mk ?_ λ_=>rfl;split at hcs
                  case isFalse=>cases hcs
                  case isTrue hy=>
                    rw[Bool.and_eq_true]at hy;obtain⟨k1,k2,k3⟩:=jA hy.1;obtain⟨v,d,hv,hd,hm2,hk⟩:=L.dJ y cs hcs;refine ON L.K hv (L.gl hg) (L.eD _ hm) ?_ hk (ih a).1 sa';rcases hm2 with hm2|⟨hm2,hb2⟩
                    · exact dw (L.gl hy.2) hm2 hd k1
                    · exact Pk (L.gl hy.2) hm2 hb2 hd k3 k1
              case h_1 bt hbt=>
                refine mk ?_ λ_=>rfl;split at hbt
                case isFalse=>cases hbt
                case isTrue hy=>
                  simp only[Cn.bl,Bool.and_eq_true]at hy;obtain⟨⟨hg2,hm2⟩,oky⟩:=hy;obtain⟨k1,k2,k3⟩:=jA oky;have sa:aT a=true:=by have:=ok.2;rw[List.all_cons,Bool.and_eq_true]at this;exact this.1
                  have fin:∀bt,bootBuiltins y=some (.type bt.nm)->QE X T E (.Call (.Name "isinstance" p) [a,.Name y p2] [] pos) (aB F (.iW bt (cE C n a))):=λbt hv=>
                    OL L.K bt (L.gl hg) (L.eD _ hm) (L.gl hg2) (L.eD _ hm2) hv k3 k1 (ih a).1 sa
                  unfold Ki at hbt;split at hbt
                  case isTrue hz=>cases hbt;subst hz;exact fin .int boot_int
                  split at hbt
                  case isTrue hz=>cases hbt;subst hz;exact fin .bl boot_bool
                  split at hbt
                  case isTrue hz=>cases hbt;subst hz;exact fin .str boot_str
                  split at hbt
                  case isTrue hz=>cases hbt;subst hz;exact fin .tup boot_tuple
                  split at hbt
                  case isTrue hz=>cases hbt;subst hz;exact fin .lst boot_list
                  split at hbt
                  case isTrue hz=>cases hbt;subst hz;exact fin .aI (by decide +kernel)
                  cases hbt
            |_=>exact bR
include L in
theorem ic{f:Expr->Ex}(ih:∀e,Q2 X T E F e (f e))(tg e:Expr):QI X T E tg e (bG F (cI C f tg e)):=by
 unfold cI;split
 .rename_i x p es pos;split
  .rename_i h;simp only[Bool.and_eq_true,decide_eq_true_eq,Cn.bl]at h;obtain⟨hx,⟨hg,hm⟩,_⟩:=h;subst hx;split
   .split
    .rename_i a hs;exact PM (L.gl hg) (L.eD _ hm) (iF (f:=f) (by simp[hs]) ih) hs
    .exact tM
   .split
    .rename_i a b hs;rw[Bool.and_eq_true]at hs;exact PN (L.gl hg) (L.eD _ hm) (iF (f:=f) (by simp[hs.1,hs.2]) ih) hs.1 hs.2
    .exact tM
   .exact tM
  .split
   .rename_i h;simp only[Bool.and_eq_true,decide_eq_true_eq,Cn.bl]at h;obtain⟨hx,⟨hg,hm⟩,_⟩:=h;subst hx;split
    .split
     .rename_i hs;exact PL L.K (L.gl hg) (L.eD _ hm) (ih _).1 hs
     .exact tM
    .exact tM
   .split
    .rename_i h;simp only[Bool.and_eq_true,decide_eq_true_eq,Cn.bl]at h;obtain⟨hx,⟨hg,hm⟩,_⟩:=h;subst hx;split
     .split
      .rename_i hs;rw[Bool.and_eq_true]at hs;exact PQ L.K (L.gl hg) (L.eD _ hm) (iF (f:=f) (by simp[hs.1,hs.2]) ih) hs.1 hs.2
      .exact tM
     .exact tM
    .exact Qe L.K (ih _).1
 .split
  .split
   .exact PJ (ih _).1
   .exact Qe L.K (ih _).1
  .exact tM
include L in
theorem Vr:∀{es:List Expr} {l:List Nat},jq C es=some l->yJ X T E es (ji l)/\es.all nV=true/\l.length=es.length
 |[],l,h=>by cases h;exact⟨Qd,rfl,rfl⟩
 |e::es,l,h=>by
  cases e with
  |Name x p=>
   simp only[jq]at h;split at h
   .rename_i hx;split at h
    .rename_i i l' hi hl;cases h;obtain⟨h1,h2,h3⟩:=Vr hl;have hx':X.env.scope.names.lookup x=some .local:=by rw[L.sc];exact of_decide_eq_true hx
     exact⟨Qc (nj (by rw[L.N];exact L.nd) (by rw[L.N];exact iV hi) (.inl hx') (.inr hx')) h1 rfl,by rw[List.all_cons,h2];rfl,by simp[h3]⟩
    .cases h
   .cases h
  |_=>cases h
include L in
theorem vw(e:Expr):QG X T E e (iA (yM C e)):=by
 unfold yM;split
 .split
  .rename_i hx;split
   .rename_i i hi;have lc:∀{x:Str},C.sc.names.lookup x=some .local->X.env.scope.names.lookup x=some .local:=λ{x} h=>by rw[L.sc];exact h
    exact nj (by rw[L.N];exact L.nd) (by rw[L.N];exact iV hi) (.inl (lc (of_decide_eq_true hx))) (.inr (lc (of_decide_eq_true hx)))
   .exact qI
  .exact qI
 .split
  .rename_i l hl;obtain⟨h1,h2,h3⟩:=Vr L hl;show QG X T E _ (vZ l.length (ji l));rw[h3];exact Qb L.K L.calm h1 h2
  .exact qI
 .exact qI
end
theorem Ol{α:Type}{x:Str}{v:α}:∀{l:List (Str×α)},l.lookup x=some v->(x,v)∈l
 |[],h=>by cases h
 | (k,u)::r,h=>by
  rw[List.lookup_cons]at h;split at h
  .rename_i q;have:=eq_of_beq q;subst this;cases h;exact List.mem_cons_self
  .exact List.mem_cons_of_mem _ (Ol h)
section
variable {X:Cx}{T:Tab}{E:XK}{C:Cn}{F:Run}{scope:Scope}
theorem Lb(ok:C.pO scope=true):scope.kind = .function/\(∀y∈scope.names,y.2 ≠ .cell)/\(∀y∈scope.names,y.2 = .local->scope.names.lookup y.1=some .local)/\(∀y∈scope.names,y.2 = .free->C.sc.names.lookup y.1=some .cell)/\(vQ scope).Nodup:=by simp only[Cn.pO,Bool.and_eq_true,decide_eq_true_eq,List.all_eq_true]at ok;exact⟨ok.1.1.1.1,ok.1.1.1.2,ok.1.1.2,ok.1.2,ok.2⟩
theorem Lk.jo(L:Lk X T E C F)(ok:C.pO scope=true):jV X (vQ scope) scope:=by obtain⟨h1,h2,h3,h4,_⟩:=Lb ok;exact⟨h1,h2,h3,λy hy hk=>by rw[L.sc];exact h4 y hy hk⟩
theorem Lk.imp(L:Lk X T E C F){i j:Nat}{x:Str}(e1:(vQ scope)[i]?=some x)(e2:(C.imp scope)[i]?=some (some j)):scope.names.lookup x=some .free/\(x,NameKind.free)∈scope.names/\X.N[j]?=some x:=by
 unfold Cn.imp at e2;rw[List.getElem?_map,e1]at e2;have e3:(if decide (scope.names.lookup x=some .free) then C.N.idxOf? x else none)=some j:=Option.some.inj e2;split at e3
 .rename_i h;have h:=of_decide_eq_true h;exact⟨h,Ol h,by rw[L.N];exact iV e3⟩
 .cases e3
theorem Lk.comp(L:Lk X T E C F)(ok:C.pO scope=true)(s:Shared)(H:Hp)(a:Addr)(fp:List Addr):Lk (X.comp (vQ scope) scope s H a fp) T E0 (C.comp scope) F where
 K:=L.K
 N:=rfl
 sc:=by show relabel scope X.env=Va scope C.sc;rw[<- L.sc];rfl
 nd:=(Lb ok).2.2.2.2
 fn:=λz=>by cases z
 calm:=L.calm
 po:=PassesOwn.never
 gv:=L.gv
 fns:=λi x h=>let ⟨k,f,fd,ps,F,hr,hm,hk,hb,_⟩:=(L.fns i x h).ex;⟨⟨k,f,fd,ps,F,hr,hm,hk,hb,λ_ _ _ _ _ _ _ ⟨_,_,_,_,_,_,_,_,_,_,_,_,z⟩=>z.elim⟩⟩
 eD:=L.eD
 tab:=L.tab
 un:=L.un
 fW:=L.fW
 iZ:=λm dp h c D g h1 h2=>let ⟨k,f,fd,ps,F,hr,c,hm,hb,_⟩:=(L.iZ m dp h c D g h1 h2).ex;⟨⟨k,f,fd,ps,F,hr,c,hm,hb,λ_ _ _ _ _ _ _ ⟨_,_,_,_,_,_,_,_,_,_,_,_,z⟩=>z.elim⟩⟩
 iY:=λx n c i dv h=>let ⟨k,C,f,fd,ps,ds,dvs,hc,K,F,hr,hm,hb,hv,hdv,_⟩:=(L.iY x n c i dv h).ex;⟨⟨k,C,f,fd,ps,ds,dvs,hc,K,F,hr,hm,hb,hv,hdv,λ_ _ _ _ _ _ _ ⟨_,_,_,_,_,_,_,_,_,_,_,_,z⟩=>z.elim⟩⟩
 eV:=L.eV
 iU:=λx m i h=>let ⟨k,C,f,fd,ps,hm,F,hr,kp,h1,h2,h3,h4,hb,_⟩:=(L.iU x m i h).ex;⟨⟨k,C,f,fd,ps,hm,F,hr,kp,h1,h2,h3,h4,hb,λ_ _ _ _ _ _ _ ⟨_,_,_,_,_,_,_,_,_,_,_,_,z⟩=>z.elim⟩⟩
 jU:=L.jU
 cat:=L.cat
 dJ:=L.dJ
 ra:=λ_ _ _ _ _ _ _ _ _ _ z=>z.elim
 gG:=λz=>by cases z
 fr:=λz=>by cases z
end
theorem XI{X:Cx}{T:Tab}{E:XK}{C:Cn}{F:Run}(L:Lk X T E C F){n:Nat}(ih:∀e,Q2 X T E F e (cE C n e))(o:Expr)(m:Str)(apos pos:Pos)(es:List Expr):Q2 X T E F (.Call (.Attribute o m apos) es [] pos) (C.lz o m apos pos es (cE C n o) (es.map (cE C n))):=by
 have tr:∀{e:Expr} {y:Ex},QE X T E e (aB F y)->dy e=true->(∀U,bE F y U=(aB F y U).bind bK)->Q2 X T E F e y:=λ{e y} q pl e1=>by refine⟨q,?_⟩;have:=jS L.K q pl;have e2:bE F y=λU=>(aB F y U).bind bK:=funext e1;rw[e2];exact this
 unfold Cn.lz;split
 case isFalse=>exact bR
 case isTrue hb=>
  rw[Bool.and_eq_true]at hb;obtain⟨hs,hl⟩:=hb;have blt:Q2 X T E F (.Call (.Attribute o m apos) es [] pos) (xu o m (cE C n o) (es.map (cE C n))):=by
   cases es with
   |nil=>show Q2 X T E F _ (md o m (cE C n o));unfold md;exact bR
   |cons a es=>
    rw[List.all_cons,Bool.and_eq_true]at hs;cases es with
    |nil=>
     show Q2 X T E F _ (mf o m (cE C n o) (cE C n a));unfold mf;split
     case isTrue hm=>simp only[Bool.and_eq_true,decide_eq_true_eq]at hm;obtain⟨hm,ho⟩:=hm;subst hm;exact tr (OC L.K (ih _).1 (ih _).1 ho hs.1 hl) rfl λ_=>rfl
     split
     case isTrue ho=>
      split
      .rename_i f hf;exact tr (Px hf (by have:=L.un;omega) (ih _).1 (iF (f:=cE C n) (es:=[a]) (by simp[hs.1]) ih) ho (by simp[hs.1]) (by simp) hl) rfl λ_=>rfl
      .exact bR
     exact bR
    |cons b es=>
     obtain⟨hs1,hs2⟩:=hs;rw[List.all_cons,Bool.and_eq_true]at hs2;cases es with
     |nil=>
      show Q2 X T E F _ (mj o m (cE C n o) (cE C n a) (cE C n b));unfold mj;split
      case isTrue ho=>
       split
       .rename_i f hf;exact tr (Px hf (by have:=L.un;omega) (ih _).1 (iF (f:=cE C n) (es:=[a,b]) (by simp[hs1,hs2.1]) ih) ho (by simp[hs1,hs2.1]) (by simp) hl) rfl λ_=>rfl
       .exact bR
      exact bR
     |cons c es=>exact bR
  split
  case h_1 i hi=>
   split
   case isFalse=>exact bR
   case isTrue hz=>
    simp only[Bool.and_eq_true,Bool.not_eq_true',decide_eq_true_eq]at hz;unfold Cn.La at hi;cases o with
    |Name x p=>
     simp only[yW,Option.bind_some]at hi;split at hi
     case isFalse=>cases hi
     case isTrue hx=>
      rw[Bool.and_eq_true]at hx;cases es with
      |nil=>cases hz.1|cons e es=>exact tr (OG (L.iU _ _ _ hi) (L.gl hx.2) (jA hx.1).1 (iF hs ih) hs hz.2 hl) rfl λ_=>rfl
    |_=>cases hi
  case h_2=>
   split
   case h_2=>exact blt
   case h_1 dp hdp=>
    split
    case isFalse=>exact bR
    case isTrue hz=>
     rw[Bool.and_eq_true,decide_eq_true_eq]at hz;have hM:∀c D g,(λc=>(dp.lookup c).map F) c=some g->T.C c=some D->bj X T E D m g:=λc D g h1 h2=>L.iZ m dp hdp c D g h1 h2;cases es with
     |nil=>exact tr (OT hM (ih _).1 hz.1 hl) rfl λ_=>rfl|cons e es=>exact tr (OS hM (ih _).1 (iF hs ih) hz.1 hs hz.2 hl) rfl λ_=>rfl
theorem eR{T:Tab}{F:Run}:∀(n:Nat) {X:Cx} {E:XK} {C:Cn} (L:Lk X T E C F) (e:Expr),Q2 X T E F e (cE C n e)
 |0,X,E,C,L,e=>bR
 |n+1,X,E,C,L,e=>by
  have ih:∀e,Q2 X T E F e (cE C n e):=λe=>eR n L e;have tr:∀{e:Expr} {y:Ex},QE X T E e (aB F y)->dy e=true->(∀U,bE F y U=(aB F y U).bind bK)->Q2 X T E F e y:=λ{e y} q pl e1=>by refine⟨q,?_⟩;have:=jS L.K q pl;have e2:bE F y=λU=>(aB F y U).bind bK:=funext e1;rw[e2];exact this
  unfold cE;split
  .exact XJ L _ _
  .exact XF L _ _ _
  .unfold xy;split
   .rename_i o ho;exact tr (OW (JP L ho) (ih _).1 (ih _).1) rfl λ_=>rfl
   .exact bR
  .unfold yj;split
   .exact⟨PF ZZ (ih _).1,Gm⟩
   .exact⟨OV L.K (ih _).1,TU (ih _).2⟩
   .exact bR
  .unfold yc;split
   .split
    .rename_i hb;exact⟨OH (yZ L _) (ih _).1 (ih _).1 (vt hb),TR (yZ L _) (ih _).1 (ih _).1 (vt hb)⟩
    .exact bR
   .split
    .rename_i hc;exact⟨OF (yZ L _) (yZ L _) (ih _).1 (ih _).1 (ih _).1 (vt hc),TQ (yZ L _) (yZ L _) (ih _).1 (ih _).1 (ih _).1 (vt hc)⟩
    .exact bR
   .exact bR
  .rename_i op vs _;unfold ya;cases vs with
   |nil=>split<;>exact bR|cons v vs=>
    split
    .obtain⟨h1,h2⟩:=Ic L ih v vs;exact⟨h1,h2.qt⟩
    .obtain⟨h1,h2⟩:=Pe L ih v vs;exact⟨h1,h2.qt⟩
  .exact⟨OK (ih _).2 (ih _).1 (ih _).1,Gm⟩
  .split
   .rename_i hs;exact tr (PD (iF hs ih)) rfl λ_=>rfl
   .exact bR
  .split
   .rename_i hs;exact tr (OP (iF hs ih)) rfl λ_=>rfl
   .exact bR
  .unfold yi;split
   .exact tr (PB L.K (ih _).1 (Pj ih (ye n)) (Pj ih (ye n))) rfl λ_=>rfl
   .split
    .rename_i hb;exact tr (OO (GB L.K (by have:=L.un;omega)) (ih _).1 (ih _).1 (WV hb)) rfl λ_=>rfl
    .exact bR
  .split
   .rename_i h;exact XH L ih h
   unfold yb;split
   .split
    .exact XE L ih _ _ _ _
    .exact XI L ih _ _ _ _ _
    .exact bR
   .exact bR
  .unfold yd;split
   .exact tr OI rfl λ_=>rfl
   .exact bR
  .unfold xw;split
   .rename_i hb;split
    .rename_i cs hc;exact tr (OJ (L.fW _ _ hc) (ih _).1 hb) rfl λ_=>rfl
    .exact bR
   .exact bR
  .unfold yg;split
   .split
    .rename_i hb;rw[Bool.and_eq_true]at hb;have LY:=λs H a fp=>L.comp hb.1 s H a fp;split
     .refine Pu L rfl ?_;exact tr (Pw (ct:=none) (L.jo hb.1) L.calm (ic L ih _ _) (λs H a fp=>vw (LY s H a fp) _) (λc z=>by cases z) (λ_=>rfl) (λs H a fp=>(eR n (LY s H a fp) _).1) (by simp[Cn.imp]) (λi j x e1 e2=>L.imp e1 e2) hb.2) rfl λ_=>rfl
     .refine Pu L rfl ?_;exact tr (Pw (ct:=some _) (L.jo hb.1) L.calm (ic L ih _ _) (λs H a fp=>vw (LY s H a fp) _) (λc z s H a fp=>by cases z;exact(eR n (LY s H a fp) _).2) (λz=>by cases z) (λs H a fp=>(eR n (LY s H a fp) _).1) (by simp[Cn.imp]) (λi j x e1 e2=>L.imp e1 e2) hb.2) rfl λ_=>rfl
     .exact bR
    .exact bR
   .exact bR
  .exact bR
def Out.drop(i:Nat):Out->Out
 |.nx U=>.nx (U.set i none)
 |.brk U=>.brk (U.set i none)
 |.cnt U=>.cnt (U.set i none)
 |.ret v=>.ret v
def lU(i:Option Nat)(ms:aA->M Out)(U:aA)(c:Nat):M Out:=λh1=>match i with
 |some i=>((cO (ms (U.set i (some (.ref h1.nx))))).bind λo=>M.ret (o.drop i)) (h1.new (.xo c))
 |none=>cO (ms U) (h1.new (.xo c))
def wL(k:Option (Option Nat))(U:aA)(v:AV):Out:=match k with
 |none=>.ret v
 |some none=>.nx U
 |some (some j)=>.nx (U.set j (some v))
def xY(mr:M (List AV))(g:List AV->M AV)(cs:List Nat)(ok:AV->Out)(hd:Nat->M Out):M Out:=(cO mr).bind λxs h=>match g xs h with
 |.ok v h1=>.ok (ok v) h1
 |.exc c _ h1=>if cs.contains c=true then hd c h1 else .bad
 |.bad=>.bad
def Ux(mr:M (List AV))(c:Nat):M Out:=mr.bind λxs=>M.guard (xs.length<=sizeLine) λh=>.exc c .aC h
section
variable {X:Cx}{T:Tab}{E:XK}
theorem W.cO{α β:Type}{Rp:Rl α β}{m:M α}{h:AH}{Z:List Addr}{H:Hp}{Q:β->Hp->Prop}{E E':XK}(w:W T Rp (AM.cO m h) Z H Q E):W T Rp (m h) Z H Q E':=by
 unfold AM.cO at w;cases e:m h with
 |ok a h1=>rw[e]at w;exact w|exc c x h1=>rw[e]at w;exact w.elim|bad=>rw[e]at w;exact w.elim
theorem bA.drop{Z:List Addr}{H:Hp}{U:aA}{U':L2.St}(S:bA T Z H U U')(i:Nat):bA T Z H (U.set i none) (U'.set i none):=by
 refine⟨by simp[S.1],λj u q=>?_⟩;by_cases hj:i=j
 .subst hj;by_cases hl:i<U.length
  .rw[List.getElem?_set_self hl]at q;cases q
  .rw[List.getElem?_eq_none (by simpa using hl)]at q;cases q
 .rw[List.getElem?_set_ne hj]at q ⊢;exact S.2 j u q
def Bj(k:Option (Option Nat))(U:L2.St)(v:V):dY:=match k with
 |none=>.ret v
 |some none=>.nx U
 |some (some j)=>.nx (U.set j (some v))
theorem IF{Z:List Addr}{H:Hp}{U:aA}{U':L2.St}{v:AV}{v':V}(S:bA T Z H U U')(r:aG T Z H v v'):∀k,RO T Z H (wL k U v) (Bj k U' v')
 |none=>r
 |some none=>S
 |some (some j)=>S.set r j
theorem Ww{mr:M (List AV)}{g:List AV->M AV}{cs:List Nat}{k:Option (Option Nat)}{hd:Nat->M Out}{Z:List Addr}{U:aA}{U':L2.St}{h:AH}{H:Hp}{D:Ends}{Dc:Addr}{R:L2.St->Addr->Hp->Prop}
  (w:W T (RO T) (xY mr g cs (wL k U) hd h) Z H (eB D) E) (S:bA T Z H U U')
  (hc:∀c∈cs,∃C,T.C c=some C/\L2.clsIn X.K C=true/\(mroOf X.K C).contains (.ref Dc)=true)
  (hh:∀c h1 Z1 H1 C a,W T (RO T) (hd c h1) Z1 H1 (eB D) E->aQ T Z1 h1 H1->bA T Z1 H1 U U'->T.C c=some C->H1 a=none->R U' a (aJ H1 a (.ext (lI a (.ref C))))) :
  W T (aO T) (mr h) Z H (λvs H1=>hJ T g vs H1 (λv H2=>eB D (Bj k U' v) H2) (ax X.K Dc R U')) E0:=by
 unfold xY at w;refine W.cO (E:=E) (W.bind w λZ1 xs ys h1 H1 e1 R1 q1 w1=>?_);refine⟨Z1,h1,xs,R1,q1,?_⟩;cases e:g xs h1 with
 |ok v h2=>simp only[e]at w1;exact λZ2 b H2 e2 R2 r2=>w1 Z2 _ H2 e2 R2 (IF (S.ext (e1.trans e2)) r2 k)
 |bad=>simp only[e]at w1;exact w1.elim|exc c x h2=>
  simp only[e]at w1;by_cases hm:cs.contains c=true
  .rw[if_pos hm]at w1;obtain⟨C,h1',h2',h3'⟩:=hc c (List.contains_iff_mem.mp hm);exact λZ2 H2 e2 R2=>⟨C,h1',C,rfl,h2',h3',λa ha=>hh c h2 Z2 H2 C a (w1.ext e2) R2 (S.ext (e1.trans e2)) h1' ha⟩
  .rw[if_neg hm]at w1;exact w1.elim
inductive nX(X:Cx)(call:Expr):Option (Option Nat)->Stmt->Prop
 |ret (p:Pos):nX X call none (.Return (some call) p)
 |expr (p:Pos):nX X call (some none) (.Expr call p)
 |asg (j:Nat) (y:Str) (p p':Pos) (hN:X.N.Nodup) (hj:X.N[j]?=some y) (hl:pK X.env.scope y) (hf:X.fn y=true):nX X call (some (some j)) (.Assign [.Name y p'] call p)
theorem nX.eS{call:Expr}{k:Option (Option Nat)}{st:Stmt}{pn:List (Addr×Obj)}{E1:Value->Shared->Prop}(h:nX X call k st):nX (X.eS pn E1) call k st:=by
 cases h with
 |ret p=>exact .ret p|expr p=>exact .expr p|asg j y p p' hN hj hl hf=>exact .asg j y p p' hN hj hl hf
def wg(k:Option (Option Nat))(te:TE):TS:=match k with
 |none=>we (Wi te) ip
 |some none=>we (Wb te) ip
 |some (some j)=>we (vz te (kh j)) ip
theorem Wm{k:Option (Option Nat)}{te:TE}{D:Ends}{U:L2.St}{H:Hp}(h:te U H λv H1=>eB D (Bj k U v) H1):wg k te D U H:=by
 match k with
 |none=>exact h|some none=>exact h|some (some j)=>exact h
theorem Kf{call:Expr}{te:TE}{k:Option (Option Nat)}{st:Stmt}(hp:PE X call te)(hs:aT call=true)(hlc:oH call=false)(h:nX X call k st):hZ X [st] (wg k te):=by
 cases h with
 |ret p=>exact nc (Pp hp) nh|expr p=>exact nc (Po hp (vv hs hlc)) nh|asg j y p p' hN hj hl hf=>exact nc (NI hN hj hl hp (vv hs hlc) (.inl hf)) nh
section
variable {x n fn:Str}{Dc:Addr}{i:Nat}{st b₀:Stmt}{suite:List Stmt}{np fp cp hpos pos:Pos}{e:Expr}{es:List Expr}{mr:aA->M (List AV)}{g:List AV->M AV}{cs:List Nat}{k:Option (Option Nat)}{ms:aA->M Out}
theorem Kr(Fx:Fn X T E fn g) (hgf:Gl X fn) (hdf:(fn==("__debug__":Str))=false) (hss:(e::es).all aT=true) {pn:List (Addr×Obj)} {E1:Value->Shared->Prop} {EE:L2.St->XK} {ta:TA} (pa:PA (X.eS pn E1).tJ (e::es) ta)
  (ps:bq (cW X.prog X.w) (X.eS pn E1) EE):PE (X.eS pn E1) (.Call (.Name fn fp) (e::es) [] cp) (wa (hJ T g) EE ta):=by
 obtain⟨kk,f,fd,pl,F,hr,hm,hk,hb,_⟩:=Fx.ex;rw[List.all_cons,Bool.and_eq_true]at hss;exact KW (X:=X.eS pn E1) F (hr.mono (Nat.le_succ _)) hgf hm hk hb ps pa.tJ hdf (cQ hss.1) (lG hss.2)
theorem TK(hs:X.stack=X.env::X.outer) (hf:X.env.frame=some X.env.locals) (hN:X.N.Nodup) (hi:X.N[i]?=some n) (hk:X.env.kindOf n=some .local) (hg:Gl X x) (hm:X.mg x=some (.ref Dc)) (hD:L2.clsIn X.K Dc=true) (hdx:(x==("__debug__":Str))=false)
  (Fx:Fn X T E fn g) (hgf:Gl X fn) (hdf:(fn==("__debug__":Str))=false) (hss:(e::es).all aT=true) (ha:∀pn E1,QA (X.eS pn E1).tJ T E0 (e::es) mr) (hb:nX X (.Call (.Name fn fp) (e::es) [] cp) k st)
  (hc:∀c∈cs,∃C,T.C c=some C/\L2.clsIn X.K C=true/\(mroOf X.K C).contains (.ref Dc)=true) (hsu:∀a,oA (X.held a) T E0 (b₀::suite) ms) :
  QS X T E (.Try [st] [.ExceptHandler (some (.Name x np)) (some n) (b₀::suite) hpos] [] [] pos) (λU=>xY (mr U) g cs (wL k U) (lU (some i) ms U)):=by
 refine⟨Wl X.K Dc i (λpn E1 EE=>wg k (wa (hJ T g) EE (ha pn E1).choose)) λa=>(hsu a).choose,NM hs hf hN hi hk hg hm hD (λpn E1 EE ps=>?_) (λa=>(hsu a).choose_spec.1) hdx,λZ U U' h H D R S w=>?_⟩
 .exact Kf (X:=X.eS pn E1) (Kr Fx hgf hdf hss (ha pn E1).choose_spec.1 ps) rfl rfl hb.eS
 .intro pn E1;refine Wm ?_;refine(ha pn E1).choose_spec.2 Z U U' h H _ R S (Ww (X:=X) w S hc λc h1 Z1 H1 C a w2 R1 S1 hC hn=>?_);obtain⟨R2,ex⟩:=R1.alloc (o:=.xo c) hn ⟨C,hC,dN⟩;unfold lU at w2;refine(hsu a).choose_spec.2 (Z1++[a]) _ _ (h1.new (.xo c)) _ _ R2 ((S1.ext ex).set (.ref (by rw[<- R1.len];simp)) i) (W.cO (E:=E) (W.bind (w2.ext ex) λZ3 o o' h3 H3 e3 R3 q3 w3=>?_));cases o with
  |nx U2=>cases o' with
   |nx U2'=>exact(W.here (Q:=eB D) (b:=dY.nx (U2'.set i none)) w3 R3 (bA.drop q3 i):D.nx (U2'.set i none) H3)|_=>exact q3.elim
  |brk U2=>cases o' with
   |brk U2'=>exact(W.here (Q:=eB D) (b:=dY.brk (U2'.set i none)) w3 R3 (bA.drop q3 i):D.bk (U2'.set i none) H3)|_=>exact q3.elim
  |cnt U2=>cases o' with
   |cnt U2'=>exact(W.here (Q:=eB D) (b:=dY.cnt (U2'.set i none)) w3 R3 (bA.drop q3 i):D.ct (U2'.set i none) H3)|_=>exact q3.elim
  |ret v=>cases o' with
   |ret v'=>exact(W.here (Q:=eB D) (b:=dY.ret v') w3 R3 q3:D.rt v' H3)|_=>exact q3.elim
theorem TJ(hs:X.stack=X.env::X.outer) (hf:X.env.frame=some X.env.locals) (hg:Gl X x) (hm:X.mg x=some (.ref Dc)) (hD:L2.clsIn X.K Dc=true) (hdx:(x==("__debug__":Str))=false)
  (Fx:Fn X T E fn g) (hgf:Gl X fn) (hdf:(fn==("__debug__":Str))=false) (hss:(e::es).all aT=true) (ha:∀pn E1,QA (X.eS pn E1).tJ T E0 (e::es) mr) (hb:nX X (.Call (.Name fn fp) (e::es) [] cp) k st)
  (hc:∀c∈cs,∃C,T.C c=some C/\L2.clsIn X.K C=true/\(mroOf X.K C).contains (.ref Dc)=true) (hsu:∀a,oA (X.held a) T E0 (b₀::suite) ms) :
  QS X T E (.Try [st] [.ExceptHandler (some (.Name x np)) none (b₀::suite) hpos] [] [] pos) (λU=>xY (mr U) g cs (wL k U) (lU none ms U)):=by
 refine⟨Wk X.K Dc (λpn E1 EE=>wg k (wa (hJ T g) EE (ha pn E1).choose)) λa=>(hsu a).choose,NL hs hf hg hm hD (λpn E1 EE ps=>?_) (λa=>(hsu a).choose_spec.1) hdx,λZ U U' h H D R S w=>?_⟩
 .exact Kf (X:=X.eS pn E1) (Kr Fx hgf hdf hss (ha pn E1).choose_spec.1 ps) rfl rfl hb.eS
 .intro pn E1;refine Wm ?_;refine(ha pn E1).choose_spec.2 Z U U' h H _ R S (Ww (X:=X) w S hc λc h1 Z1 H1 C a w2 R1 S1 hC hn=>?_);obtain⟨R2,ex⟩:=R1.alloc (o:=.xo c) hn ⟨C,hC,dN⟩;unfold lU at w2;exact(hsu a).choose_spec.2 (Z1++[a]) _ _ (h1.new (.xo c)) _ _ R2 (S1.ext ex) (W.cO (E:=E) (w2.ext ex))
theorem TF{C:Addr}{c:Nat}{bmB:List Value}{Bn newId initId:String}(hc:X.calm=true)(hg:Gl X x)(hm:X.mg x=some (.ref C))(hT:T.C c=some C)(q:W.excIn X.K C bmB newId=true)(FB:ExcBaseFacts Bn newId initId bmB)(hX:jg X E)
  (ha:QA X T E (e::es) mr) (hss:(e::es).all aT=true) (hd:(x==("__debug__":Str))=false):QS X T E (.Raise (some (.Call (.Name x np) (e::es) [] cp)) none pos) (λU=>Ux (mr U) c):=by
 obtain⟨tr,pr,rr⟩:=ha;rw[List.all_cons,Bool.and_eq_true]at hss;refine⟨_,NG hc hg hm q FB hX pr hd (cQ hss.1) (lG hss.2),λZ U U' h H D R S w=>rr Z U U' h H _ R S (W.bind w λZ1 xs bC h1 H1 e1 R1 q1 w1=>?_)⟩;obtain⟨hz,w1⟩:=wA w1;obtain⟨C',hC',z⟩:=w1 Z1 H1 .refl R1;rw[hT]at hC';cases hC';exact⟨by rw[<- q1.length];exact hz,z⟩
end
end
mutual
inductive Tg where
 |bad
 |nm (i:Nat)
 |tup (n:Nat) (ts:yK)
 |sub (o i:Ex)
inductive yK where
 |nil
 |cons (t:Tg) (ts:yK)
end
mutual
inductive Sx where
 |bad|pass|brk|cnt|Gs
 |expr (e:Ex)
 |ret (e:Ex)
 |asg (t:Tg) (e:Ex)
 |ite (c:Ex) (a b:bB)
 |gJ (t:Tg) (it:Ir) (b:bB)
 |dX (d:Ex) (s:Sx)
 |cu (cs:List Nat) (f:Str) (o e:Ex)
 |Md (cs:List Nat) (f:Str) (o e:Ex)
 |raise (c:Nat) (es:dH)
 |iw (k:Option (Option Nat)) (f:Nat) (es:dH) (cs:List Nat) (i:Option Nat) (hd:bB)
inductive bB where
 |nil
 |cons (s:Sx) (ss:bB)
end
mutual
noncomputable def fT(F:Run):Tg->AV->aA->M aA
 |.bad,_,_=>M.bad
 |.nm i,v,U=>M.ret (U.set i (some v))
 |.tup n ts,v,U=>vZ n (rE F ts) v U
 |.sub o i,v,U=>(aB F o U).bind λx=>(aB F i U).bind λy=>(pZ x y v).bind λ_=>M.ret U
noncomputable def rE(F:Run):yK->List AV->aA->M aA
 |.nil,vs,U=>Af vs U
 |.cons t ts,vs,U=>Ae (fT F t) (rE F ts) vs U
end
mutual
noncomputable def dZ(F:Run):Sx->aA->M Out
 |.bad,_=>M.bad
 |.pass,U=>M.ret (.nx U)
 |.brk,U=>M.ret (.brk U)
 |.cnt,U=>M.ret (.cnt U)
 |.Gs,_=>M.ret (.ret .aC)
 |.expr e,U=>(aB F e U).bind λ_=>M.ret (.nx U)
 |.ret e,U=>(aB F e U).bind λv=>M.ret (.ret v)
 |.asg t e,U=>(aB F e U).bind λv=>(fT F t v U).bind λU1=>M.ret (.nx U1)
 |.ite c a b,U=>lq (bE F c U) (aW F a U) (aW F b U)
 |.gJ t it b,U=>(bG F it U).bind λi=>fG i (fT F t) (aW F b) FU 0 U
 |.dX d s,U=>gR (aB F d) (dZ F s) U
 |.cu cs f o e,U=>Me cs f (aB F o U) (aB F e U) U
 |.Md cs f o e,U=>Ii cs f (aB F o U) (aB F e U) U
 |.raise c es,U=>Ux (bS F es U) c
 |.iw k f es cs i hd,U=>xY (bS F es U) (F f) cs (wL k U) (lU i (aW F hd) U)
noncomputable def aW(F:Run):bB->aA->M Out
 |.nil,U=>M.ret (.nx U)
 |.cons s ss,U=>Vk (dZ F s U) (aW F ss)
end
def iq:List Tg->yK
 |[]=>.nil
 |t::ts=>.cons t (iq ts)
def cG(C:Cn):Nat->Expr->Tg
 |0,_=>.bad
 |n+1,e=>match e with
  |.Name x _=>match C.slot x with
   |some i=>.nm i
   |none=>.bad
  |.Tuple es _ _=>if es.all nV then .tup es.length (iq (es.map (cG C n))) else .bad
  |.Subscript a b _=>if aT b then .sub (cE C EF a) (cE C EF b) else .bad
  |_=>.bad
def Np:Expr->Bool
 |.Tuple ..=>true
 |_=>false
def vI:List Sx->bB
 |[]=>.nil
 |s::ss=>.cons s (vI ss)
def cA(C:Cn):Expr->Ex
 |.Name x _=>if iL x&&C.loc x then match C.N.idxOf? x with
   |some i=>.var i
   |none=>.bad
  else .bad
 |.Constant c _ _=>yt c
 |_=>.bad
def cH(C:Cn):Stmt->Sx
 |.Pass _=>.pass
 |.Return none _=>.Gs
 |.Return (some e) _=>.ret (cA C e)
 |.Assign [.Name y _] e _=>if aT e && !oH e then match C.slot y with
   |some j=>.asg (.nm j) (cA C e)
   |none=>.bad
  else .bad
 |_=>.bad
def Hf(C:Cn):Stmt->Option (Option (Option Nat)×Str×List Expr)
 |.Return (some (.Call (.Name f _) es [] _)) _=>some (none,f,es)
 |.Expr (.Call (.Name f _) es [] _) _=>some (some none,f,es)
 |.Assign [.Name y _] (.Call (.Name f _) es [] _) _=>(C.slot y).map λj=>(some (some j),f,es)
 |_=>none
def IB(C:Cn):Option Str->Option (Option Nat)
 |none=>some none
 |some n=>if decide (C.sc.names.lookup n=some .local) then(C.N.idxOf? n).map some else none
def cT(C:Cn)(st:Stmt)(x:Str)(nm:Option Str)(suite:List Stmt):Sx:=match Hf C st with
 |some (k,f,es)=>match C.fns.idxOf? f,C.cat.lookup x,IB C nm with
  |some j,some cs,some i=>if iL x&&C.gl x&&iL f&&C.gl f&&es.all aT && !es.isEmpty then .iw k j (gW (es.map (cE C EF))) cs i (vI (suite.map (cH C))) else .bad
  |_,_,_=>.bad
 |none=>.bad
def cR(C:Cn)(x:Str)(es:List Expr):Sx:=match C.jU.lookup x with
 |some c=>if iL x&&C.gl x&&es.all aT && !es.isEmpty then .raise c (gW (es.map (cE C EF))) else .bad
 |none=>.bad
def Vy(C:Cn)(y:Str)(yl:Nat)(e:Expr):Bool:=match e with
 |.ListComp _ _ scope pos=>decide (C.sc.kind = .function)&&decide (C.sc.names.lookup y=some .local)&&(yl==pos.line) && !(scope.names.any λx=>x.1==y&&(x.2 == .local||x.2 == .cell))|_=>false
def GU(e:Expr):Bool:=match e with
 |.ListComp _ [⟨_,_,[],0⟩] _ _=>true
 |.ListComp _ [⟨_,_,[_],0⟩] _ _=>true
 |_=>false
def cL(C:Cn)(t e:Expr):Sx:=match t with
 |.Name y py=>match C.slot y with
  |some i=>if Vy C y py.line e&&GU e then .asg (.nm i) (cE C EF e) else .bad
  |none=>.bad
 |_=>.bad
def FR:Expr->Bool
 |.Attribute ..=>true
 |_=>false
def yf(C:Cn)(t e:Expr):Sx:=match t with
 |.Attribute o f _=>match C.fW.lookup f with
  |some cs=>if aT e then .cu cs f (cE C EF o) (cE C EF e) else .bad
  |none=>.bad
 |_=>.bad
def xx(C:Cn)(t:Expr)(op:Operator)(e:Expr):Sx:=match t with
 |.Attribute o f _=>match C.fW.lookup f with
  |some cs=>match op with
   |.Add=>.Md cs f (cE C EF o) (cE C EF e)
   |_=>.bad
  |none=>.bad
 |_=>.bad
def Kn(C:Cn)(o:Option Expr):Sx:=match o with
 |none=>.Gs
 |some e=>.ret (cE C EF e)
def Kj(C:Cn)(t e:Expr):Sx:=
 if oH e then cL C t e else
 if Np t&&Np e then .bad else
 if FR t then yf C t e else
 if aT e&&nV t then .asg (cG C 4 t) (cE C EF e) else .bad
def Kk(C:Cn)(ts:List Expr)(e:Expr):Sx:=match ts with
 |[t]=>Kj C t e
 |_=>.bad
def Km(C:Cn)(o c:Option Expr):Sx:=match c with
 |none=>match o with
  |some (.Call (.Name x _) es [] _)=>cR C x es
  |_=>.bad
 |_=>.bad
def Ko(C:Cn)(bs:List Stmt)(hs:List ExceptHandler)(os fs:List Stmt):Sx:=match os,fs with
 |[],[]=>match bs with
  |[st]=>match hs with
   |[.ExceptHandler (some (.Name x _)) nm (b₀::suite) _]=>cT C st x nm (b₀::suite)
   |_=>.bad
  |_=>.bad
 |_,_=>.bad
def Cn.He(C:Cn)(it:Expr)(d:Ex)(s:Sx):Sx:=if C.An it then .dX d s else s
def cS(C:Cn):Nat->Stmt->Sx
 |0,_=>.bad
 |n+1,s=>match s with
  |.Pass _=>.pass
  |.Break _=>.brk
  |.Continue _=>.cnt
  |.Return o _=>Kn C o
  |.Expr e _=>if aT e && !oH e then .expr (cE C EF e) else .bad
  |.Assign ts e _=>Kk C ts e
  |.AugAssign t op e _=>xx C t op e
  |.If c a b _=>.ite (cE C EF c) (vI (a.map (cS C n))) (vI (b.map (cS C n)))
  |.For t it b els _=>if els.isEmpty&&aT it then C.He it (cE C EF it) (.gJ (cG C 4 t) (cI C (cE C EF) t it) (vI (b.map (cS C n)))) else .bad
  |.Raise o c _=>Km C o c
  |.Try bs hs os fs _=>Ko C bs hs os fs
  |_=>.bad
section
variable {X:Cx}{T:Tab}{E:XK}{C:Cn}{F:Run}(L:Lk X T E C F)(ht:C.top=true)
theorem ZF{m0 ma:aA->M AV}{k:aA->AV->aA}(U:aA):gR m0 (λU=>(ma U).bind λv=>(M.ret (k U v)).bind λU1=>M.ret (Out.nx U1)) U=(gR m0 ma U).bind λv=>(M.ret (k U v)).bind λU1=>M.ret (Out.nx U1):=by
 funext h
 simp only[M.bind,M.ret,gR];cases jr (m0 U h) with
 |none=>rfl|some n=>
  dsimp only;cases h.ob n with
  |none=>rfl|some u=>
   cases u with
   |aI kvs=>
    dsimp only;cases ma U h with
    |ok a h1=>
     dsimp only[iu];cases h1.ob n with
     |none=>rfl|some w=>cases w<;>rfl
    |exc c x h1=>rfl|bad=>rfl
   |_=>rfl
theorem Uj{st:Stmt}{it:Expr}{d y:Ex}{i:Nat}(h:QS X T E st (λU=>(aB F y U).bind λv=>(M.ret (U.set i (some v))).bind λU1=>M.ret (.nx U1))) :
  QS X T E st (λU=>(aB F (C.dX it d y) U).bind λv=>(M.ret (U.set i (some v))).bind λU1=>M.ret (.nx U1)):=by
 unfold Cn.dX;split
 .have q:=Ui (aB F d) h;have e:gR (aB F d) (λU=>(aB F y U).bind λv=>(M.ret (U.set i (some v))).bind λU1=>M.ret (Out.nx U1))=λU=>(aB F (.dX d y) U).bind λv=>(M.ret (U.set i (some v))).bind λU1=>M.ret (Out.nx U1):=funext λU=>ZF (k:=λU v=>U.set i (some v)) U;rw[e]at q;exact q
 .exact h
theorem TH{st:Stmt}{it:Expr}{d:Ex}{s:Sx}(h:QS X T E st (dZ F s)):QS X T E st (dZ F (C.He it d s)):=by
 unfold Cn.He;split
 .exact Ui (aB F d) h
 .exact h
theorem ZE{es:List Expr}{f:Expr->Tg}(hs:es.all nV=true)(h:∀e,QG X T E e (fT F (f e))):yJ X T E es (rE F (iq (es.map f))):=by
 induction es with
 |nil=>exact Qd|cons e es ih=>rw[List.all_cons,Bool.and_eq_true]at hs;exact Qc (h e) (ih hs.2) hs.1
include L ht in
theorem Gx:∀(n:Nat) (e:Expr),QG X T E e (fT F (cG C n e))
 |0,e=>qI
 |n+1,e=>by
  have ih:=Gx n;unfold cG;split
  .split
   .rename_i i hi;unfold Cn.slot at hi;split at hi
    .rename_i hl;have hv:∀{x:Str},C.loc x=true->pK X.env.scope x:=λ{x} hl=>by rw[L.sc];simp only[Cn.loc,Bool.or_eq_true,decide_eq_true_eq]at hl;exact hl
     exact nj (by rw[L.N];exact L.nd) (by rw[L.N];exact iV hi) (hv hl) (.inl (L.fn ht _))
    .cases hi
   .exact qI
  .split
   .rename_i hs;exact Qb L.K L.calm (ZE hs ih) hs
   .exact qI
  .split
   .rename_i hs;exact PH (by have:=L.un;omega) (eR EF L _).1 (eR EF L _).1 hs
   .exact qI
  .exact qI
theorem ik{ss:List Stmt}{f:Stmt->Sx}(h:∀s,QS X T E s (dZ F (f s))):oA X T E ss (aW F (vI (ss.map f))):=by
 induction ss with
 |nil=>exact TN|cons s ss ih=>exact TM (h s) ih
include L in
theorem Vq(a:Addr)(e:Expr):QE (X.held a) T E0 e (aB F (cA C e)):=by
 unfold cA;split
 .rename_i x pos;split
  .rename_i h;rw[Bool.and_eq_true]at h;obtain⟨h1,h2,_⟩:=jA h.1;split
   .rename_i i hi;have hv:br X.env.scope x:=by
     have hl:=h.2;rw[L.sc];simp only[Cn.loc,Bool.or_eq_true,decide_eq_true_eq]at hl;rcases hl with hl|hl
     .exact .inl hl
     .exact .inr (.inl hl)
    exact Qa (X:=X.held a) (by show X.N[i]?=_;rw[L.N];exact iV hi) hv h1 h2
   .exact er
  .exact er
 .rename_i c _ _;cases c with
  |none=>exact jD my λ_ _=>.aC|bool b=>exact jD mx λ_ _=>.bl b|int i=>exact jD Bl λ_ _=>.int i|str x=>exact jD Bm λ_ _=>.str x|_=>exact er
 .exact er
include L ht in
theorem XG(a:Addr)(s:Stmt):QS (X.held a) T E0 s (dZ F (cH C s)):=by
 unfold cH;split
 .exact Ud
 .exact Ug
 .exact Ue (Vq L a _)
 .split
  .rename_i y _ e _ hs;rw[Bool.and_eq_true,Bool.not_eq_true']at hs;split
   .rename_i j hj;unfold Cn.slot at hj;split at hj
    .rename_i hl;have hv:pK X.env.scope y:=by rw[L.sc];simp only[Cn.loc,Bool.or_eq_true,decide_eq_true_eq]at hl;exact hl
     exact Uc (Vq L a e) (nj (X:=X.held a) (by show X.N.Nodup;rw[L.N];exact L.nd) (by show X.N[j]?=_;rw[L.N];exact iV hj) hv (.inl (L.fn ht _))) hs.1 hs.2 rfl λes k p e1=>by cases e1
    .cases hj
   .exact dB
  .exact dB
 .exact dB
include L in
theorem XM(x:Str)(es:List Expr)(np cp pos:Pos):QS X T E (.Raise (some (.Call (.Name x np) es [] cp)) none pos) (dZ F (cR C x es)):=by
 unfold cR;split
 .rename_i c hc;split
  .rename_i h;simp only[Bool.and_eq_true,Bool.not_eq_true']at h;obtain⟨⟨⟨ho,hg⟩,hs⟩,hn⟩:=h;obtain⟨D,bmB,newId,initId,Bn,hm,hT,q,FB⟩:=L.jU x c hc;cases es with
   |nil=>cases hn|cons e es=>exact TF L.calm (L.gl hg) hm hT q FB L.ra (iF (f:=cE C EF) hs (eR EF L)) hs (jA ho).1
  .exact dB
 .exact dB
theorem ZN{C:Cn}{st:Stmt}{k:Option (Option Nat)}{f:Str}{es:List Expr}(L:Lk X T E C F)(ht:C.top=true)(h:Hf C st=some (k,f,es)):∃fp cp,nX X (.Call (.Name f fp) es [] cp) k st:=by
 unfold Hf at h;split at h
 .cases h;exact⟨_,_,.ret _⟩
 .cases h;exact⟨_,_,.expr _⟩
 .rename_i y _ f' _ es' _ _;obtain⟨j,hj,e⟩:=Option.map_eq_some_iff.mp h;cases e;unfold Cn.slot at hj;split at hj
  .rename_i hl;have hv:pK X.env.scope y:=by rw[L.sc];simp only[Cn.loc,Bool.or_eq_true,decide_eq_true_eq]at hl;exact hl
   exact⟨_,_,.asg j y _ _ (by rw[L.N];exact L.nd) (by rw[L.N];exact iV hj) hv (L.fn ht _)⟩
  .cases hj
 .cases h
include L ht in
theorem XN(st b₀:Stmt)(suite:List Stmt)(x:Str)(nm:Option Str)(np hpos pos:Pos):QS X T E (.Try [st] [.ExceptHandler (some (.Name x np)) nm (b₀::suite) hpos] [] [] pos) (dZ F (cT C st x nm (b₀::suite))):=by
 unfold cT;split
 .rename_i k f es hb;obtain⟨fp,cp,hb⟩:=ZN L ht hb;split
  .rename_i j cs i hj hc hi;split
   .rename_i h;simp only[Bool.and_eq_true,Bool.not_eq_true']at h;obtain⟨⟨⟨⟨⟨ho,hg⟩,hof⟩,hgf⟩,hs⟩,hn⟩:=h;obtain⟨Dc,hm,hD,hcs⟩:=L.cat x cs hc;have hsu:∀a,oA (X.held a) T E0 (b₀::suite) (aW F (vI ((b₀::suite).map (cH C)))):=λa=>ik (XG L ht a);have Fx:=L.fns j f (iV hj);cases es with
    |nil=>cases hn|cons e es=>
     have ha:∀pn E1,QA (X.eS pn E1).tJ T E0 (e::es) (bS F (gW ((e::es).map (cE C EF)))):=λpn E1=>iF (f:=cE C EF) hs (eR EF (L.eS pn E1));cases nm with
     |none=>cases hi;exact TJ (L.gG ht) (L.fr ht) (L.gl hg) hm hD (jA ho).1 Fx (L.gl hgf) (jA hof).1 hs ha hb hcs hsu
     |some n=>
      have hi:(if decide (C.sc.names.lookup n=some .local) then(C.N.idxOf? n).map some else none)=some i:=hi;split at hi
      .rename_i hk;obtain⟨i',hi',e'⟩:=Option.map_eq_some_iff.mp hi;cases e';have hk':X.env.kindOf n=some .local:=by have:=of_decide_eq_true hk;rw[<- L.sc]at this;exact this
       exact TK (L.gG ht) (L.fr ht) (by rw[L.N];exact L.nd) (by rw[L.N];exact iV hi') hk' (L.gl hg) hm hD (jA ho).1 Fx (L.gl hgf) (jA hof).1 hs ha hb hcs hsu
      .cases hi
   .exact dB
  .exact dB
 .exact dB
include L ht in
theorem XD(t e:Expr)(spos:Pos)(hlc:oH e=true):QS X T E (.Assign [t] e spos) (dZ F (cL C t e)):=by
 unfold cL;split
 .rename_i y py;split
  .rename_i i hi;split
   .rename_i hsw;rw[Bool.and_eq_true]at hsw;obtain⟨hsw,aE⟩:=hsw;cases e with
    |ListComp elt gens scope pos=>
     simp only[Vy,Bool.and_eq_true,Bool.not_eq_true',decide_eq_true_eq,beq_iff_eq]at hsw;obtain⟨⟨⟨hk,hy⟩,hln⟩,hnm⟩:=hsw;unfold Cn.slot at hi;split at hi
     .have hy':X.env.scope.names.lookup y=some .local:=by rw[L.sc];exact hy
      have hb:X.env.blockKind = .function:=by
       have:X.env.scope.kind = .function:=by rw[L.sc];exact hk
       unfold Env.blockKind;rw[this];rfl
      have hs2:swapsWith (.ListComp elt gens scope pos) (some (.Name y py)) spos.line X.env=pure true:=by show(pure (X.env.blockKind == .function&&X.env.kindOf y==some .local&&py.line==pos.line && !(scope.names.any λ(n,k)=>n==y&&(k == .local||k == .cell))):Sem Bool)=pure true;rw[hb,show X.env.kindOf y=some .local from hy',hln];have:(scope.names.any λ(n,k)=>n==y&&(k==NameKind.local||k==NameKind.cell))=false:=hnm;rw[this];simp
      have hN:X.N.Nodup:=by rw[L.N];exact L.nd
      have hi':X.N[i]?=some y:=by rw[L.N];exact iV hi
      match gens,aE,hs2 with
      |[⟨t,it,[],0⟩],_,hs2=>
       show QS X T E _ (λU=>(aB F (if C.pO scope&&aT it then C.dX it (cE C 39 it) (.fV (C.imp scope) (yM (C.comp scope) t) (cI C (cE C 39) t it) (cE (C.comp scope) 39 elt)) else .bad) U).bind λv=>(M.ret (U.set i (some v))).bind λU1=>M.ret (.nx U1));split
       .rename_i hb;rw[Bool.and_eq_true]at hb;have LY:=λs H a fp=>L.comp hb.1 s H a fp;refine Uj ?_;exact Uh (ct:=none) hN hi' hy' hs2 (L.jo hb.1) L.calm (ic L (eR 39 L) _ _) (λs H a fp=>vw (LY s H a fp) _) (λc z=>by cases z) (λ_=>rfl) (λs H a fp=>(eR 39 (LY s H a fp) _).1) (by simp[Cn.imp]) (λi j x e1 e2=>L.imp e1 e2) hb.2
       .exact dB
      |[⟨t,it,[c],0⟩],_,hs2=>
       show QS X T E _ (λU=>(aB F (if C.pO scope&&aT it then C.dX it (cE C 39 it) (.eL (C.imp scope) (yM (C.comp scope) t) (cI C (cE C 39) t it) (cE (C.comp scope) 39 c) (cE (C.comp scope) 39 elt)) else .bad) U).bind λv=>(M.ret (U.set i (some v))).bind λU1=>M.ret (.nx U1));split
       .rename_i hb;rw[Bool.and_eq_true]at hb;have LY:=λs H a fp=>L.comp hb.1 s H a fp;refine Uj ?_;exact Uh (ct:=some c) hN hi' hy' hs2 (L.jo hb.1) L.calm (ic L (eR 39 L) _ _) (λs H a fp=>vw (LY s H a fp) _) (λc z s H a fp=>by cases z;exact(eR 39 (LY s H a fp) _).2) (λz=>by cases z) (λs H a fp=>(eR 39 (LY s H a fp) _).1) (by simp[Cn.imp]) (λi j x e1 e2=>L.imp e1 e2) hb.2
       .exact dB
     .cases hi
    |_=>cases hlc
   .exact dB
  .exact dB
 .exact dB
theorem YA{v o:Expr}{f:Str}{p:Pos}{l:Nat}{env:Env}(h:aT v=true)(hn:oH v=false):swapsWith v (some (.Attribute o f p)) l env=pure false:=by cases v<;>first|rfl|cases h|cases hn
include L in
theorem XC(t e:Expr)(spos:Pos)(hlc:oH e=false):QS X T E (.Assign [t] e spos) (dZ F (yf C t e)):=by
 unfold yf;split
 .split
  .rename_i cs hc;split
   .rename_i hs;exact SX (L.fW _ _ hc) (eR EF L _).1 (eR EF L _).1 (YA hs hlc)
   .exact dB
  .exact dB
 .exact dB
include L ht in
theorem XB(t:Expr)(op:Operator)(e:Expr)(pos:Pos):QS X T E (.AugAssign t op e pos) (dZ F (xx C t op e)):=by
 unfold xx;split
 .split
  .rename_i cs hc;split
   .exact SY (L.fW _ _ hc) (eR EF L _).1 (eR EF L _).1
   .exact dB
  .exact dB
 .exact dB
include L ht in
theorem Vs:∀(n:Nat) (s:Stmt),QS X T E s (dZ F (cS C n s))
 |0,s=>dB
 |n+1,s=>by
  have ih:=Vs n;unfold cS;split
  .exact Ud
  .exact SU
  .exact SV
  .unfold Kn;split
   .exact Ug
   .exact Ue (eR EF L _).1
  .split
   .rename_i hs;rw[Bool.and_eq_true,Bool.not_eq_true']at hs;exact SW (eR EF L _).1 hs.1 hs.2
   .exact dB
  .rename_i ts e spos;unfold Kk;split
   case h_2=>exact dB
   case h_1 t=>
    unfold Kj;split
    .rename_i hlc;exact XD L ht t e spos hlc
    .rename_i hlc;split
     .exact dB
     .rename_i htt;split
      .rename_i hat;exact XC L t e spos (by simpa using hlc)
      split
      .rename_i hs;rw[Bool.and_eq_true]at hs;refine Uc (eR EF L _).1 (Gx L ht 4 _) hs.1 (by simpa using hlc) hs.2 λes k p e1 vs k2 p2 e2=>?_;subst e1;subst e2;exact htt rfl
      .exact dB
  .exact XB L ht _ _ _ _
  .exact TC (eR EF L _).2 (ik ih) (ik ih)
  .rename_i els _;split
   .rename_i hs;rw[Bool.and_eq_true]at hs;cases els with
    |nil=>exact TH (TB L.po L.calm (ic L (eR EF L) _ _) (Gx L ht 4 _) (ik ih) hs.2)|cons _ _=>cases hs.1
   .exact dB
  .unfold Km;split
   .split
    .exact XM L _ _ _ _ _
    .exact dB
   .exact dB
  .unfold Ko;split
   .split
    .split
     .exact XN L ht _ _ _ _ _ _ _ _
     .exact dB
    .exact dB
   .exact dB
  .exact dB
end
abbrev Pg:=Nat->Option (Nat×Nat×bB)
def Ph:Out->M AV
 |.nx _=>M.ret .aC
 |.ret v=>M.ret v
 |_=>M.bad
def run(P:Pg):Nat->Run
 |0,_,_=>M.bad
 |k+1,f,args=>match P f with
  |none=>M.bad
  |some (np,nn,b)=>M.guard (args.length=np) ((aW (run P k) b (args.map some++List.replicate (nn-np) none)).bind Ph)
def lP:Stmt->List Stmt
 |.ClassDef _ _ _ body ..=>body
 |_=>[]
structure Df where
 name:Str
 qual:Str
 st:Stmt
 N:List Str
 ps:List Str
structure Pr where
 defs:List Df
 jz:Nat
 de:List (Str×AV)
 eD:List Str
 jU:List (Str×Nat):=[]
 cat:List (Str×List Nat):=[]
 dJ:List (Str×List (Nat×Bool)):=[]
 fW:List (Str×List Nat):=[]
 iZ:List (Str×List (Nat×Nat)):=[]
 iY:List ((Str×Nat)×(Nat×Nat×List AV)):=[]
 eV:List (Str×List (Nat×Bool)):=[]
 iU:List (Str×List (Str×Nat)):=[]
 zc:List Str:=[]
def SF:Nat:=30
def Pr.cn(p:Pr)(d:Df):Cn:=⟨d.N,aF d.st,(p.defs.take p.jz).map (·.name),p.de,p.eD,p.jU,p.cat,p.dJ,true
 ,p.fW,p.iZ,p.iY,p.eV,p.iU
 ,p.zc
 ⟩
def Pr.bodyOf(p:Pr)(d:Df):Nat×Nat×bB:=(d.ps.length,d.N.length,vI ((aL d.st).map (cS (p.cn d) SF)))
def Pr.ir(p:Pr):Pg:=λi=>(p.defs[i]?).map p.bodyOf
structure cK(K:W.Frag)(x qual:Str)(st:Stmt)(f:Addr)(fd:FuncData):Prop where
 ex:∃(oc:Value) (od:Option Addr) (dV kV doc pm:Value) (an:Option Addr) (cdv ct:Value) (osl:Array (Option Value)),
  fd=W.fnOf x qual (aM st) (aL st) (aF st) dV kV doc pm an cdv ct/\K.lookup f=some ⟨oc,od,.func fd,osl⟩/\W.codeIn K cdv qual=true
 kp:W.keepIn K (.ref f)=true
structure xf(K:W.Frag)(d:Df)(f:Addr)(fd:FuncData):Prop where
 fn:cK K d.name d.qual d.st f fd
 bd:Binds K fd d.ps []
 sc:bX d.N d.ps (aF d.st)
inductive yG(K:W.Frag):List Df->List Addr->List FuncData->Prop
 |nil:yG K [] [] []
 |cons {d:Df} {a:Addr} {f:FuncData} {ds:List Df} {as:List Addr} {fs:List FuncData} (h:xf K d a f) (t:yG K ds as fs):yG K (d::ds) (a::as) (f::fs)
theorem yG.get{K:W.Frag}{ds:List Df}{as:List Addr}{fs:List FuncData}(h:yG K ds as fs){f0:FuncData}:∀(i:Nat) d,ds[i]?=some d->xf K d (as.getD i 0) (fs.getD i f0):=by
 induction h with
 |nil=>intro i d e;simp at e|cons h t ih=>
  intro i d e;cases i with
  |zero=>cases(show some _=some d from e);exact h|succ i=>exact ih i d e
inductive yH(mg:Str->Option Value):List Df->List Addr->Prop
 |nil {as:List Addr}:yH mg [] as
 |cons {d:Df} {a:Addr} {ds:List Df} {as:List Addr} (h:mg d.name=some (.ref a)) (t:yH mg ds as):yH mg (d::ds) (a::as)
theorem yH.get{mg:Str->Option Value}{ds:List Df}{as:List Addr}(h:yH mg ds as):∀(i:Nat) d,ds[i]?=some d->mg d.name=some (.ref (as.getD i 0)):=by
 induction h with
 |nil=>intro i d e;simp at e|cons h t ih=>
  intro i d e;cases i with
  |zero=>cases(show some _=some d from e);exact h|succ i=>exact ih i d e
theorem a9{α:Type}{us:List α}(h:us.length=0):us=[]:=List.eq_nil_of_length_eq_zero h
theorem yB{α:Type}{us:List α}(h:us.length=1):∃a0,us=[a0]:=by obtain⟨a,r,rfl⟩:=List.exists_cons_of_length_eq_add_one h;obtain rfl:=a9 (us:=r) (by simpa using h);exact⟨a,rfl⟩
theorem nW{α:Type}{us:List α}(h:us.length=2):∃a0 a1,us=[a0,a1]:=by obtain⟨a,r,rfl⟩:=List.exists_cons_of_length_eq_add_one h;obtain⟨b0,rfl⟩:=yB (us:=r) (by simpa using h);exact⟨a,b0,rfl⟩
theorem yC{α:Type}{us:List α}(h:us.length=3):∃a0 a1 a2,us=[a0,a1,a2]:=by obtain⟨a,r,rfl⟩:=List.exists_cons_of_length_eq_add_one h;obtain⟨b0,b1,rfl⟩:=nW (us:=r) (by simpa using h);exact⟨a,b0,b1,rfl⟩
theorem yD{α:Type}{us:List α}(h:us.length=4):∃a0 a1 a2 a3,us=[a0,a1,a2,a3]:=by obtain⟨a,r,rfl⟩:=List.exists_cons_of_length_eq_add_one h;obtain⟨b0,b1,b2,rfl⟩:=yC (us:=r) (by simpa using h);exact⟨a,b0,b1,b2,rfl⟩
theorem wu{α:Type}{us:List α}(h:us.length=5):∃a0 a1 a2 a3 a4,us=[a0,a1,a2,a3,a4]:=by obtain⟨a,r,rfl⟩:=List.exists_cons_of_length_eq_add_one h;obtain⟨b0,b1,b2,b3,rfl⟩:=yD (us:=r) (by simpa using h);exact⟨a,b0,b1,b2,b3,rfl⟩
structure xm(P:Program)(w:World)(p:Pr)(T:Tab)(mg:Str->Option Value)(ad:Nat->Addr)(fds:Nat->FuncData):Prop where
 df:∀(i:Nat) d,p.defs[i]?=some d->xf T.K d (ad i) (fds i)
 gn:∀(i:Nat) d,(p.defs.take p.jz)[i]?=some d->mg d.name=some (.ref (ad i))
 gv:∀x v,p.de.lookup x=some v->∃u v',mg x=some u/\RelV v' u/\∀Z H,aG T Z H v v'
 bl:∀x,p.eD.contains x=true->mg x=none
 tab:∀(kvs:List (Str×Int)) a,T.G kvs a->Hw P w T.K a kvs
 jU:∀x c,p.jU.lookup x=some c->∃(D:Addr) (bmB:List Value) (newId initId Bn:String),mg x=some (.ref D)/\T.C c=some D/\W.excIn T.K D bmB newId=true/\ExcBaseFacts Bn newId initId bmB
 cat:∀x cs,p.cat.lookup x=some cs->∃D:Addr,mg x=some (.ref D)/\L2.clsIn T.K D=true/\∀c∈cs,∃D':Addr,T.C c=some D'/\L2.clsIn T.K D'=true/\(mroOf T.K D').contains (.ref D)=true
 dJ:∀y cs,p.dJ.lookup y=some cs->∃(v:V) (d:Value),(∀u,RelV v u->u=d)/\RelV v d/\(mg y=some d\/(mg y=none/\bootBuiltins y=some d)) /\
  ∀k b,cs.lookup k=some b->∃D:Addr,T.C k=some D/\W.yF T.K D=true/\W.kitOne T.K (.ref D) d=some b
 fW:∀f cs,p.fW.lookup f=some cs->bg T.K T cs f
 iZ:∀m dp,p.iZ.lookup m=some dp->∀c i,dp.lookup c=some i->∃d D,p.defs[i]?=some d/\T.C c=some D/\iR T.K D/\Meth T.K D m (ad i)
 iY:∀x n c i dv,p.iY.lookup (x,n)=some (c,i,dv)->∃d D ds dvs,p.defs[i]?=some d/\T.C c=some D/\Mk T.K D (ad i)/\mg x=some (.ref D)/\Binds T.K (fds i) d.ps ds/\Vals dvs ds/\∀Z H,aO T Z H dv dvs
 eV:∀y cs,p.eV.lookup y=some cs->∃D:Addr,mg y=some (.ref D)/\∀k b,cs.lookup k=some b->∃D':Addr,T.C k=some D'/\jd T.K D'/\W.kitOne T.K (.ref D') (.ref D)=some b
 iU:∀x m i,(p.iU.lookup x).bind (·.lookup m)=some i->∃d D,p.defs[i]?=some d/\mg x=some (.ref D)/\W.keepIn T.K (.ref (ad i))=true /\
  W.specialIn T.K (.ref D) "__getattribute__"=some (some (.builtin "type.__getattribute__"))/\W.readsIn T.K D (.type "type")=true/\W.findCls T.K (.ref D) (.type "type") m=some (.val (.ref (ad i)))/\W.handedIn (.ref (ad i))=true
section
variable {P:Program}{w:World}{T:Tab}{mg:Str->Option Value}{base:Heap}{p:Pr}{ad:Nat->Addr}{fds:Nat->FuncData}
theorem XT{Z:List Addr}{H:Hp}{args:List AV}{vs:List V}{N:List Str}{n:Nat}(r:aO T Z H args vs)(hn:N.length=n):bA T Z H (args.map some++List.replicate (n-args.length) none) (L2.start N vs):=by
 subst hn;unfold L2.start;have hl:=r.length;refine⟨by simp[hl],λi v e=>?_⟩;by_cases hi:i<args.length
 .rw[List.getElem?_append_left (by simpa using hi),List.getElem?_map]at e;cases q:args[i]? with
  |none=>rw[q]at e;cases e|some a=>rw[q]at e;cases e;obtain⟨y,h1,h2⟩:=r.get q;exact⟨y,by rw[List.getElem?_append_left (by rw[List.length_map,<- hl];exact hi),List.getElem?_map,h1];rfl,h2⟩
 .rw[List.getElem?_append_right (by simpa using hi),List.getElem?_replicate]at e;split at e<;>cases e
theorem DZ{K:W.Frag}{x qual:Str}{st:Stmt}{f:Addr}{fd:FuncData}{N ps:List Str}{k:Nat}{sp:Sp}(F:cK K x qual st f fd)(S:bX N ps (aF st))(len:∀vs H Q E,sp vs H Q E->vs.length=ps.length)
  (hbody:∀(cdv:Value) (A:Around) (outer:List Env) (s:Shared) (H:Hp) (vs:List V) (Q:VK) (E:XK),cD k (A.deeper (envOfC qual (aF st) s.heap.objs.size f cdv))->sp vs H Q E ->
   ∃t,hZ (pP (cW P w) P w K mg base N qual (aF st) f cdv A outer s H E) (aL st) t/\t { nx:=λ_ H'=>Q .aC H',rt:=Q } (L2.start N vs) H):dU P w K mg base (cW P w) (k+1) f fd ps sp:=by
 obtain⟨oc,od,dV,kV,doc,pm,an,cdv,ct,osl,rfl,lk,hcd⟩:=F.ex;exact DU lk hcd S len λA outer s H vs Q E hr hsp=>hbody cdv A outer s H vs Q E hr hsp
theorem Vj(O:xm P w p T mg ad fds):∀(k i:Nat) (d:Df),p.defs[i]?=some d->dU P w T.K mg base (cW P w) (2*k) (ad i) (fds i) d.ps (hJ T (run p.ir k i))
 |0,i,d,hd=>⟨λvs H Q E ⟨Z,h,args,_,_,w⟩=>w.elim,λA outer s H args us vs Q E _ _ _ _ ⟨Z,h,ar,_,_,w⟩=>w.elim⟩
 |k+1,i,d,hd=>by
  have ih:=Vj O k;have D:=O.df i d hd;have hir:p.ir i=some (p.bodyOf d):=by unfold Pr.ir;rw[hd];rfl
  refine DZ (k:=2*k+1) D.fn D.sc (λvs H Q E h=>?_) (λcdv A outer s H vs Q E hr h=>?_)
  .obtain⟨Z,h,args,R,r,w⟩:=h;simp only[run,hir,Pr.bodyOf]at w;obtain⟨hl,_⟩:=wA w;rw[<- r.length,hl]
  .obtain⟨Z,h,args,R,r,wq⟩:=h;simp only[run,hir,Pr.bodyOf]at wq;obtain⟨hl,wq⟩:=wA wq;have L:Lk (pP (cW P w) P w T.K mg base d.N d.qual (aF d.st) (ad i) cdv A outer s H E) T E (p.cn d) (run p.ir k):={
    K:=rfl
    N:=rfl
    sc:=rfl
    nd:=D.sc.nd
    fn:=λ_ _=>rfl
    calm:=rfl
    po:=PassesOwn.leaving
    gv:=O.gv
    fns:=λj x hx=>by
     have hx':((p.defs.take p.jz).map (·.name))[j]?=some x:=hx;rw[List.getElem?_map]at hx';cases q:(p.defs.take p.jz)[j]? with
     |none=>rw[q]at hx';cases hx'|some d'=>
      rw[q]at hx';cases hx';have q':p.defs[j]?=some d':=by
       rw[List.getElem?_take]at q;split at q
       .exact q
       .cases q
      have D':=O.df j d' q';exact⟨2*k,ad j,fds j,d'.ps,ih j d' q',hr,O.gn j d' q,D'.fn.kp,D'.bd,mw⟩
    eD:=O.bl
    tab:=O.tab
    un:=hr.units
    fW:=O.fW
    iZ:=λm dp h c D g h1 h2=>by obtain⟨j,hj,e⟩:=Option.map_eq_some_iff.mp h1;subst e;obtain⟨d',D',q',hc,c1,c2⟩:=O.iZ m dp h c j hj;rw[h2]at hc;cases hc;exact⟨2*k,ad j,fds j,d'.ps,ih j d' q',hr.mono (Nat.le_succ _),c1,c2,(O.df j d' q').bd,mw⟩
    iY:=λx n c j dv h=>by obtain⟨d',D',ds,dvs,q',hc,c1,c2,c3,c4,c5⟩:=O.iY x n c j dv h;exact⟨2*k,D',ad j,fds j,d'.ps,ds,dvs,hc,c1,ih j d' q',hr,c2,c3,c4,c5,mw⟩
    eV:=O.eV
    iU:=λx m j h=>by obtain⟨d',D',q',hm,kp,h1,h2,h3,h4⟩:=O.iU x m j h;exact⟨2*k,D',ad j,fds j,d'.ps,hm,ih j d' q',hr.mono (Nat.le_succ _),kp,h1,h2,h3,h4,(O.df j d' q').bd,mw⟩
    jU:=O.jU
    cat:=O.cat
    dJ:=O.dJ
    ra:=UN
    gG:=λ_=>rfl
    fr:=λ_=>rfl }
   obtain⟨t,ps,rs⟩:=ik (ss:=aL d.st) (f:=cS (p.cn d) SF) (Vs L rfl SF);refine⟨t,ps,rs Z _ (L2.start d.N vs) h H _ R ?_ (W.bind wq λZ1 o o' h1 H1 e1 R1 q1 w1=>?_)⟩
   .rw[<- hl];exact XT r rfl
   .cases o with
    |nx U=>cases o' with
     |nx U'=>exact(W.here (Q:=Q) (Rp:=aG T) (a:=AV.aC) (b:=V.aC) w1 R1 aG.aC:Q V.aC H1)|_=>exact q1.elim
    |ret v=>cases o' with
     |ret v'=>exact(W.here (Q:=Q) (Rp:=aG T) (a:=v) (b:=v') w1 R1 q1:Q v' H1)|_=>exact q1.elim
    |brk U=>exact w1.elim|cnt U=>exact w1.elim
def vx(K:W.Frag):Sp:=λvs H Q _=>∃(a:Addr) (ns:List Int),vs=[.ref a]/\lJ K H a (ns.map V.int)/\ns.length<=63/\∀H',Q (.bl true) H'
def h0(ns:List Int):AH:=⟨1,λm=>if m=0 then some (.lst false (ns.map AV.int)) else none⟩
def Keeps(P:Pg)(k i:Nat):Prop:=∀ns:List Int,ns.length<=63->∃h',run P k i [.ref 0] (h0 ns) = .ok (.bl true) h'
theorem EK{H:Hp}{a:Addr}{ns:List Int}(h:lJ T.K H a (ns.map V.int)):aQ T [a] (h0 ns) H:=by
 have z:∀{n:Nat} {o:dO},(h0 ns).ob n=some o->n=0/\o = .lst false (ns.map AV.int):=λ{n o} e=>by
  have e':(if n=0 then some (dO.lst false (ns.map AV.int)) else none)=some o:=e;by_cases hn:n=0
  .rw[if_pos hn]at e';exact⟨hn,(Option.some.inj e').symm⟩
  .rw[if_neg hn]at e';cases e'
 refine⟨rfl,λn o e=>?_,λn o b e q=>?_,λn m b o u e1 e2 m1 m2 _ _=>?_⟩
 .rw[(z e).1];exact Nat.zero_lt_one
 .obtain⟨rfl,rfl⟩:=z e;cases q;exact⟨_,h,aO.ints ns⟩
 .rw[(z e1).1,(z e2).1]
theorem GS(O:xm P w p T mg ad fds){k i:Nat}{d:Df}(hd:p.defs[i]?=some d)(h:Keeps p.ir k i):dU P w T.K mg base (cW P w) (2*k) (ad i) (fds i) d.ps (vx T.K):=by refine(Vj O k i d hd).imp λvs H Q E ⟨a,ns,e,hf,hl,q⟩=>?_;subst e;obtain⟨h',e⟩:=h ns hl;refine⟨[a],h0 ns,[.ref 0],EK hf,.cons (.ref rfl) .nil,?_⟩;rw[e];intro Z' b H' _ _ r;cases r;exact q H'
theorem EB{K:W.Frag}{H:Hp}{a:Addr}{xs:List V}(ho:jf H)(h:bO K H a xs):lJ K H a xs:=by
 rcases h with(h|h)|h
 .rcases ho a with z|⟨o,ys,z⟩
  .rw[h]at z;cases z
  .rw[h]at z;cases z
 .exact .inl h
 .exact .inr h
end
theorem walk{l:W.OpenLaw}{q:Program}{loose:List Str}{XP:(Str->Option Value)->Heap->Prop}{YP:World->Heap->Prop}{d:DefRec}{K:Params->W.Frag}{k:Nat}{x:Str}(hn:l.most=some 63)(hdf:d.params.defaults=[])(hr:cD k callerA)
  (hY:∀(w:World) (h:Heap),YP w h->(K w.params).In h)
  (F:∀(w:World) (mg:Str->Option Value) (fa:Addr) (h:Heap),(K w.params).In h->h.Ns mainGlobals mg->mg d.name=some (.ref fa) ->
   ∃fd:FuncData,(∀(s:Shared) (u:Value),BindsTo s fd ⟨[u],[]⟩ [(x,u)])/\∀base:Heap,(K w.params).In base->base.Ns mainGlobals mg->dU l.prog w (K w.params) mg base (cW l.prog w) k fa fd [x] (vx (K w.params))) :
  W.WalkO q loose XP YP l.row.toRowW d [] (λf vs=>PySem.call f vs):=
 L2.c7 (n:=63) (k:=k) (x:=x) (CX:=λw=>cW l.prog w) (sp:=λw=>vx (K w.params)) hn (by decide) hdf hr hY F (λ_ _ a ns hl ho hS=>⟨a,ns,rfl,EB ho hS,hl,λ_=>rfl⟩) λ_ _ _ _ _ ⟨_,_,_,_,_,_,_,_,_,_,_,_,z⟩=>z
def We{α:Type}(Xc:Nat->AH->Prop)(m:M α)(h:AH)(Q:α->AH->Prop):Prop:=match m h with
 |.ok a h'=>Q a h'
 |.exc c _ h'=>Xc c h'
 |.bad=>False
abbrev Wp{α:Type}(m:M α)(h:AH)(Q:α->AH->Prop):Prop:=We (λ_ _=>False) m h Q
variable {Xc:Nat->AH->Prop}
section
variable {α β:Type}{m:M α}{k:α->M β}{h h':AH}{Q:α->AH->Prop}{Q2:β->AH->Prop}{F:Run}{U:aA}
theorem aS(w:We Xc m h λa h1=>We Xc (k a) h1 Q2):We Xc (M.bind m k) h Q2:=by
 unfold We at w ⊢;unfold M.bind;cases e:m h with
 |ok a h1=>rw[e]at w;exact w|exc c x h1=>rw[e]at w;exact w|bad=>rw[e]at w;exact w.elim
theorem We.mono{Q':α->AH->Prop}(w:We Xc m h Q)(f:∀a h1,Q a h1->Q' a h1):We Xc m h Q':=by
 unfold We at w ⊢;cases e:m h with
 |ok a h1=>rw[e]at w;exact f a h1 w|exc c x h1=>rw[e]at w;exact w|bad=>rw[e]at w;exact w.elim
theorem We.eq{a:α}(e:m h = .ok a h')(q:Q a h'):We Xc m h Q:=by unfold We;rw[e];exact q
theorem We.ex(w:We (λ_ _=>False) m h Q):∃a h',m h = .ok a h'/\Q a h':=by
 unfold We at w;cases e:m h with
 |ok a h1=>rw[e]at w;exact⟨a,h1,rfl,w⟩|exc c x h1=>rw[e]at w;exact w.elim|bad=>rw[e]at w;exact w.elim
theorem bc{p:Prop} [Decidable p] (hp:p)(w:We Xc m h Q):We Xc (M.guard p m) h Q:=by unfold We at w ⊢;unfold M.guard;rw[if_pos hp];exact w
variable {V1:AV->AH->Prop}{B1:Bool->AH->Prop}{L1:List AV->AH->Prop}
theorem yE{v:AV}(q:V1 v h):We Xc (aB F (.val v) U) h V1:=q
theorem p8{i:Nat}{v:AV}(e:U[i]?=some (some v))(q:V1 v h):We Xc (aB F (.var i) U) h V1:=by show We Xc (qA i U) h V1;unfold We qA;rw[e];exact q
theorem xa{o:Op}{a b:Ex}(w:We Xc (aB F a U) h λx h1=>We Xc (aB F b U) h1 λy h2=>We Xc (o.g x y) h2 V1):We Xc (aB F (.op o a b) U) h V1:=aS (w.mono λ_ _ z=>aS z)
theorem l7{o:Cp}{a b:Ex}(w:We Xc (aB F a U) h λx h1=>We Xc (aB F b U) h1 λy h2=>We Xc (o.g x y) h2 V1):We Xc (aB F (.cmp o a b) U) h V1:=aS (w.mono λ_ _ z=>aS z)
theorem o5{a:Ex}(w:We Xc (aB F a U) h λx h1=>We Xc (ki x) h1 V1):We Xc (aB F (.neg a) U) h V1:=aS w
theorem o7{a:Ex}(w:We Xc (aB F a U) h λx h1=>We Xc (bK x) h1 λb h2=>V1 (.bl (!b)) h2):We Xc (aB F (.not a) U) h V1:=aS (w.mono λ_ _ z=>aS z)
theorem k8{a b:Ex}(w:We Xc (aB F a U) h λx h1=>We Xc (bK x) h1 λt h2=>if t=true then We Xc (aB F b U) h2 V1 else V1 x h2):We Xc (aB F (.and a b) U) h V1:=
 aS (w.mono λx _ z=>aS (z.mono λt _ y=>by
  cases t with
  |true=>exact y|false=>exact y))
theorem o8{a b:Ex}(w:We Xc (aB F a U) h λx h1=>We Xc (bK x) h1 λt h2=>if t=true then V1 x h2 else We Xc (aB F b U) h2 V1):We Xc (aB F (.or a b) U) h V1:=
 aS (w.mono λx _ z=>aS (z.mono λt _ y=>by
  cases t with
  |true=>exact y|false=>exact y))
theorem m9{c a b:Ex}(w:We Xc (bE F c U) h λt h1=>if t=true then We Xc (aB F a U) h1 V1 else We Xc (aB F b U) h1 V1):We Xc (aB F (.ite c a b) U) h V1:=aS (w.mono λt _ y=>by
 cases t with
 |true=>exact y|false=>exact y)
theorem p7{es:dH}(w:We Xc (bS F es U) h λxs h1=>xs.length<=sizeLine/\V1 (.tup xs) h1):We Xc (aB F (.tup es) U) h V1:=aS (w.mono λxs _ z=>bc z.1 z.2)
theorem n6{es:dH}(w:We Xc (bS F es U) h λxs h1=>xs.length<=sizeLine/\V1 (.ref h1.nx) (h1.new (.lst true xs))):We Xc (aB F (.lst es) U) h V1:=aS (w.mono λxs _ z=>bc z.1 z.2)
theorem p5{a lo hi:Ex}(w:We Xc (aB F a U) h λx h1=>We Xc (kH lo (aB F lo U)) h1 λl h2=>We Xc (kH hi (aB F hi U)) h2 λu h3=>We Xc (sZ x l u) h3 V1):We Xc (aB F (.slice a lo hi) U) h V1:=
 aS (w.mono λ_ _ z=>aS (z.mono λ_ _ z=>aS z))
theorem l6{f:Nat}{es:dH}(w:We Xc (bS F es U) h λxs h1=>We Xc (F f xs) h1 V1):We Xc (aB F (.call f es) U) h V1:=aS w
theorem l5{f:Bi}{es:dH}(w:We Xc (bS F es U) h λxs h1=>We Xc (f.g xs) h1 V1):We Xc (aB F (.bi f es) U) h V1:=aS w
theorem m7{t:BT}{a:Ex}(w:We Xc (aB F a U) h λx h1=>We Xc (vX t x) h1 V1):We Xc (aB F (.iW t a) U) h V1:=aS w
theorem k9{o a:Ex}(w:We Xc (aB F o U) h λx h1=>wF h1 x=true/\We Xc (aB F a U) h1 λy h2=>We Xc (vW x y) h2 V1):We Xc (aB F (.app o a) U) h V1:=aS (w.mono λx h1 ⟨z1,z2⟩=>by unfold We;simp only[if_pos z1];exact aS z2)
theorem q9(q:L1 [] h):We Xc (bS F .nil U) h L1:=q
theorem p9{e:Ex}{es:dH}(w:We Xc (aB F e U) h λx h1=>We Xc (bS F es U) h1 λxs h2=>L1 (x::xs) h2):We Xc (bS F (.cons e es) U) h L1:=aS (w.mono λ_ _ z=>aS z)
theorem y6{o:Cp}{a b:Ex}(w:We Xc (aB F a U) h λx h1=>We Xc (aB F b U) h1 λy h2=>We Xc (o.g x y) h2 λz h3=>∃t,z = .bl t/\B1 t h3):We Xc (bE F (.cmp o a b) U) h B1:=
 aS (aS (w.mono λ_ _ z=>aS (z.mono λ_ _ z=>z.mono λu h3 ⟨t,e,q⟩=>by subst e;exact q)))
theorem z5{a:Ex}(w:We Xc (bE F a U) h λt h1=>B1 (!t) h1):We Xc (bE F (.not a) U) h B1:=aS w
theorem y3{a b:Ex}(w:We Xc (bE F a U) h λt h1=>if t=true then We Xc (bE F b U) h1 B1 else B1 false h1):We Xc (bE F (.and a b) U) h B1:=aS (w.mono λt _ y=>by
 cases t with
 |true=>exact y|false=>exact y)
theorem z6{a b:Ex}(w:We Xc (bE F a U) h λt h1=>if t=true then B1 true h1 else We Xc (bE F b U) h1 B1):We Xc (bE F (.or a b) U) h B1:=aS (w.mono λt _ y=>by
 cases t with
 |true=>exact y|false=>exact y)
theorem z7{i:Nat}(w:We Xc (aB F (.var i) U) h λx h1=>We Xc (bK x) h1 B1):We Xc (bE F (.var i) U) h B1:=aS w
theorem y4{f:Nat}{es:dH}(w:We Xc (aB F (.call f es) U) h λx h1=>We Xc (bK x) h1 B1):We Xc (bE F (.call f es) U) h B1:=aS w
theorem m8{cs:List (Nat×Bool)}{a:Ex}(w:We Xc (aB F a U) h λx h1=>We Xc (vY cs x) h1 V1):We Xc (aB F (.dJ cs a) U) h V1:=aS w
theorem y8{cs:List (Nat×Bool)}{a:Ex}(w:We Xc (aB F (.dJ cs a) U) h λx h1=>We Xc (bK x) h1 B1):We Xc (bE F (.dJ cs a) U) h B1:=aS w
theorem y7{t:BT}{a:Ex}(w:We Xc (aB F (.iW t a) U) h λx h1=>We Xc (bK x) h1 B1):We Xc (bE F (.iW t a) U) h B1:=aS w
theorem d4{i j:Int}(q:V1 (.int (i+j)) h):We Xc (Op.g .add (.int i) (.int j)) h V1:=q
theorem j7{i j:Int}(q:V1 (.int (i-j)) h):We Xc (Op.g .sub (.int i) (.int j)) h V1:=q
theorem wx{p:Int->Int->Bool}{f:Int->Int->Int}{i j:Int}(hp:p i j=true)(q:V1 (.int (f i j)) h):We Xc (iG p f (.int i) (.int j)) h V1:=by unfold We iG;simp only[if_pos hp];exact q
theorem i5{i j:Int}(hp:yV i j=true)(q:V1 (.int (i*j)) h):We Xc (Op.g .mul (.int i) (.int j)) h V1:=wx hp q
theorem d8{i j:Int}(hp:sU j=true)(q:V1 (.int (i / j)) h):We Xc (Op.g .fdiv (.int i) (.int j)) h V1:=wx (p:=λ_ j=>sU j) hp q
theorem i4{i j:Int}(hp:0<j)(q:V1 (.int (i%j)) h):We Xc (Op.g .mod (.int i) (.int j)) h V1:=wx (p:=λ_ j=>decide (0<j)) (decide_eq_true hp) q
theorem wz{i j:Int}(hp:dz i j=true)(q:V1 (.int (i ^ j.toNat)) h):We Xc (Op.g .pow (.int i) (.int j)) h V1:=wx (f:=λi j=>i ^ j.toNat) hp q
theorem g9{i j:Int}(q:V1 (.bl (decide (i<j))) h):We Xc (Cp.g .lt (.int i) (.int j)) h V1:=q
theorem e8{i j:Int}(q:V1 (.bl (decide (j<i))) h):We Xc (Cp.g .gt (.int i) (.int j)) h V1:=q
theorem d9{i j:Int}(q:V1 (.bl (decide (j<=i))) h):We Xc (Cp.g .ge (.int i) (.int j)) h V1:=q
theorem d6{i j:Int}(q:V1 (.bl (decide (i=j))) h):We Xc (Cp.g .eq (.int i) (.int j)) h V1:=q
theorem i7{i j:Int}(q:V1 (.bl (!decide (i=j))) h):We Xc (Cp.g .ne (.int i) (.int j)) h V1:=q
theorem d7{i j:Str}(q:V1 (.bl (decide (i=j))) h):We Xc (Cp.g .eq (.str i) (.str j)) h V1:=q
theorem i8{i j:Str}(q:V1 (.bl (!decide (i=j))) h):We Xc (Cp.g .ne (.str i) (.str j)) h V1:=q
theorem qY{x y:AV}{b:Bool}(e:sW x y=some b)(q:V1 (.bl b) h):We Xc (Cp.g .eq x y) h V1:=by show We Xc (cy x y) h V1;unfold We cy;rw[e];exact q
theorem f7{x:AV}(q:V1 (.bl (iH x)) h):We Xc (Cp.g .eP x .aC) h V1:=q
theorem f9{x:AV}(q:V1 (.bl (!iH x)) h):We Xc (Cp.g .isn x .aC) h V1:=q
theorem vq{x:AV}{xs:List AV}(e:dD h x=some xs):dG h x=none:=by
 cases x with
 |ref n=>
  simp only[dD]at e;simp only[dG];cases o:h.ob n with
  |none=>rfl|some u=>
   rw[o]at e;cases u with
   |lst m ys=>rfl|_=>cases e
 |_=>rfl
theorem WQ{x:AV}{xs:List AV}(e:dD h x=some xs):vS h x=none:=by
 cases x with
 |ref n=>
  simp only[dD]at e;simp only[vS];cases o:h.ob n with
  |none=>rfl|some u=>
   rw[o]at e;cases u with
   |lst m ys=>rfl|_=>cases e
 |_=>rfl
theorem Hr{x y:AV}{xs:List AV}(e:dD h y=some xs)(f:(fF x&&xs.all fF)=true)(q:V1 (.bl (tB x xs)) h):We Xc (Cp.g .oG x y) h V1:=by show We Xc (jZ false x y) h V1;have ed:dG h y=none:=vq e;unfold We jZ;simp only[ed];unfold pX;rw[e];simp only[if_pos f];exact q
theorem Xm{x y:AV}{xs:List AV}(e:dD h y=some xs)(f:(fF x&&xs.all fF)=true)(q:V1 (.bl (!tB x xs)) h):We Xc (Cp.g .nin x y) h V1:=by show We Xc (jZ true x y) h V1;have ed:dG h y=none:=vq e;unfold We jZ;simp only[ed];unfold pX;rw[e];simp only[if_pos f];exact q
theorem i6{i:Int}(q:V1 (.int (-i)) h):We Xc (ki (.int i)) h V1:=q
theorem gS{x v:AV}{i:Int}{xs:List AV}(e:dD h x=some xs)(e2:dF xs i=some v)(q:V1 v h):We Xc (Op.g .ix x (.int i)) h V1:=by
 show We Xc (pY x (.int i)) h V1;have ed:dG h x=none:=vq e;unfold We pY;simp only[ed];unfold kg;simp only[WQ e];unfold yS;cases x with
 |str z=>cases e|aC=>cases e|bl _=>cases e|int _=>cases e|kC _=>cases e|tup ys=>simp only[e,Option.bind_some,e2];exact q|ref n=>simp only[e,Option.bind_some,e2];exact q
theorem j8{b:Bool}(q:B1 b h):We Xc (bK (.bl b)) h B1:=q
theorem g0{cs:List (Nat×Bool)}{n c:Nat}{b:Bool}(e:h.ob n=some (.xo c))(l:cs.lookup c=some b)(q:V1 (.bl b) h):We Xc (vY cs (.ref n)) h V1:=by unfold We vY;simp only[e,l];exact q
theorem wy{t s:BT}{x:AV}(e:pM h x=some s)(q:V1 (.bl (s.sub t)) h):We Xc (vX t x) h V1:=by unfold We vX;rw[e];exact q
theorem g7{x:AV}{xs:List AV}(e:dD h x=some xs)(q:V1 (.int xs.length) h):We Xc (Bi.g .len [x]) h V1:=by
 show We Xc (cz [x]) h V1;unfold We cz;cases x with
 |str z=>cases e|aC=>cases e|bl _=>cases e|int _=>cases e|kC _=>cases e|tup ys=>simp only[e];exact q|ref n=>simp only[e];exact q
theorem f6{b:Bool}(q:V1 (.int (if b then 1 else 0)) h):We Xc (Bi.g .int [.bl b]) h V1:=q
theorem h9{i j:Int}(q:V1 (.int (if j > i then j else i)) h):We Xc (Bi.g .max [.int i,.int j]) h V1:=q
theorem Xh{n:Nat}{v:AV}{xs:List AV}(e:h.ob n=some (.lst true xs))(hz:xs.length<sizeLine)(q:V1 .aC (h.put n (.lst true (xs++[v])))):We Xc (vW (.ref n) v) h V1:=by unfold We vW;simp only[e,if_pos hz];exact q
theorem iz{n k:Nat}{xs ys:List AV}(e:h.ob n=some (.lst true xs))(e2:h.ob k=some (.lst true ys))(hz:xs.length+ys.length<=sizeLine)(q:V1 (.ref h.nx) (h.new (.lst true (xs++ys)))):We Xc (Op.g .add (.ref n) (.ref k)) h V1:=by show We Xc (fZ (.ref n) (.ref k)) h V1;unfold We fZ;simp only[e,e2,if_pos hz];exact q
theorem j4{n:Nat}{b:Bool}{lo hi:Option Int}{xs:List AV}(e:h.ob n=some (.lst b xs))(q:V1 (.ref h.nx) (h.new (.lst true (vR xs lo hi)))):We Xc (sZ (.ref n) lo hi) h V1:=by unfold We sZ;simp only[e];exact q
variable {P1:Option Int->AH->Prop}
theorem o6(q:P1 none h){m:M AV}:We Xc (kH .no m) h P1:=q
theorem o9{e:Ex}(he:∀m,kH e m=m.bind dc)(w:We Xc (aB F e U) h λx h1=>∃i,x = .int i/\P1 (some i) h1):We Xc (kH e (aB F e U)) h P1:=by rw[he];exact aS (w.mono λx h1 ⟨i,e,q⟩=>by subst e;exact q)
end
def Wt(Xc:Nat->AH->Prop)(m:M Out)(h:AH)(N:aA->AH->Prop)(R:AV->AH->Prop)(B C:aA->AH->Prop):Prop:=We Xc m h λo h1=>match o with
 |.nx U=>N U h1
 |.ret v=>R v h1
 |.brk U=>B U h1
 |.cnt U=>C U h1
abbrev Ws(m:M Out)(h:AH)(N:aA->AH->Prop)(R:AV->AH->Prop)(B C:aA->AH->Prop):Prop:=Wt (λ_ _=>False) m h N R B C
section
variable {F:Run}{U:aA}{h:AH}{N B C:aA->AH->Prop}{R:AV->AH->Prop}
theorem u3(q:N U h):Wt Xc (aW F .nil U) h N R B C:=q
theorem t4{s:Sx}{ss:bB}(w:Wt Xc (dZ F s U) h (λU1 h1=>Wt Xc (aW F ss U1) h1 N R B C) R B C):Wt Xc (aW F (.cons s ss) U) h N R B C:=
 aS (We.mono w λo h1 z=>by
  cases o with
  |nx U1=>exact z|ret v=>exact z|brk U1=>exact z|cnt U1=>exact z)
theorem x6{e:Ex}(w:We Xc (aB F e U) h R):Wt Xc (dZ F (.ret e) U) h N R B C:=aS w
theorem t5{e:Ex}(w:We Xc (aB F e U) h λ_ h1=>N U h1):Wt Xc (dZ F (.expr e) U) h N R B C:=aS w
theorem u5{i:Nat}{e:Ex}(w:We Xc (aB F e U) h λv h1=>N (U.set i (some v)) h1):Wt Xc (dZ F (.asg (.nm i) e) U) h N R B C:=aS w
theorem r9{t:Tg}{e:Ex}(w:We Xc (aB F e U) h λv h1=>We Xc (fT F t v U) h1 N):Wt Xc (dZ F (.asg t e) U) h N R B C:=aS (w.mono λ_ _ z=>aS z)
theorem b9{i:Nat}{v:AV}{Q:aA->AH->Prop}(q:Q (U.set i (some v)) h):We Xc (fT F (.nm i) v U) h Q:=q
theorem c6{n:Nat}{ts:yK}{v:AV}{xs:List AV}{Q:aA->AH->Prop}(e:dD h v=some xs)(hl:xs.length=n)(w:We Xc (rE F ts xs U) h Q):We Xc (fT F (.tup n ts) v U) h Q:=by show We Xc (vZ n (rE F ts) v U) h Q;unfold We vZ;simp only[e,if_pos hl];exact w
theorem b8{Q:aA->AH->Prop}(q:Q U h):We Xc (rE F .nil [] U) h Q:=q
theorem b7{t:Tg}{ts:yK}{v:AV}{vs:List AV}{Q:aA->AH->Prop}(w:We Xc (fT F t v U) h λU1 h1=>We Xc (rE F ts vs U1) h1 Q):We Xc (rE F (.cons t ts) (v::vs) U) h Q:=aS w
theorem Hn{o i:Ex}{v:AV}{Q:aA->AH->Prop}(w:We Xc (aB F o U) h λx h1=>We Xc (aB F i U) h1 λy h2=>∃n xs k j,x = .ref n/\y = .int k/\h2.ob n=some (.lst true xs)/\iI xs.length k=some j/\Q U (h2.put n (.lst true (xs.set j v)))):We Xc (fT F (.sub o i) v U) h Q:=
 aS (w.mono λx _ z=>aS (z.mono λy h2 ⟨n,xs,k,j,e1,e2,e3,e4,q⟩=>aS (by
  subst e1;subst e2;have ed:dG h2 (.ref n)=none:=vq (xs:=xs) (by simp only[dD,e3]);unfold We pZ;simp only[ed];unfold kB;simp only[e3,e4];exact q)))
theorem u0{c:Ex}{a b:bB}(w:We Xc (bE F c U) h λt h1=>if t=true then Wt Xc (aW F a U) h1 N R B C else Wt Xc (aW F b U) h1 N R B C):Wt Xc (dZ F (.ite c a b) U) h N R B C:=aS (w.mono λt _ y=>by
 cases t with
 |true=>exact y|false=>exact y)
theorem yR{it:dS}{g:AV->aA->M aA}{body:aA->M Out}(I:Nat->aA->AH->Prop)(n:Nat)
  (turn:∀i U h,i<n->I i U h->∃v,it i h=some (some v)/\We Xc (g v U) h λU1 h1=>Wt Xc (body U1) h1 (I (i+1)) R N (I (i+1)))
  (done:∀U h,I n U h->it n h=some none/\N U h):∀(f i:Nat) (U:aA) (h:AH),i<=n->n-i<f->I i U h->Wt Xc (fG it g body f i U) h N R B C
 |0,i,U,h,hi,hf,_=>by omega
 |f+1,i,U,h,hi,hf,hI=>by
  have ih:=yR I n turn done f;by_cases hn:i<n
  .obtain⟨v,e,w⟩:=turn i U h hn hI;unfold Wt We fG;simp only[e];refine aS (w.mono λU1 h1 w1=>aS (We.mono w1 λo h2 z=>?_));cases o with
   |nx U2=>exact ih (i+1) U2 h2 hn (by omega) z|cnt U2=>exact ih (i+1) U2 h2 hn (by omega) z|brk U2=>exact z|ret v=>exact z
  .have e0:i=n:=by omega
   subst e0;obtain⟨e,q⟩:=done U h hI;unfold Wt We fG;simp only[e];exact q
theorem u6{c:Nat}{es:dH}(w:We Xc (bS F es U) h λxs h1=>xs.length<=sizeLine/\Xc c h1):Wt Xc (dZ F (.raise c es) U) h N R B C:=aS (w.mono λxs h1 z=>bc z.1 (show Xc c h1 from z.2))
theorem x9{k:Option (Option Nat)}{f:Nat}{es:dH}{cs:List Nat}{i:Option Nat}{hd:bB}
  (w:Wp (bS F es U) h λxs h1=>We (λc h2=>cs.contains c=true/\Wt Xc (lU i (aW F hd) U c) h2 N R B C) (F f xs) h1 λv h2=>match wL k U v with
   |.nx U=>N U h2
   |.ret v=>R v h2
   |.brk U=>B U h2
   |.cnt U=>C U h2):Wt Xc (dZ F (.iw k f es cs i hd) U) h N R B C:=by
 show We Xc (xY (bS F es U) (F f) cs (wL k U) (lU i (aW F hd) U)) h _;unfold xY;refine aS ?_;obtain⟨xs,h1,e,w⟩:=We.ex w;have e':cO (bS F es U) h = .ok xs h1:=by unfold cO;rw[e]
 refine We.eq e' ?_;unfold We at w ⊢;dsimp only at w ⊢;cases g:F f xs h1 with
 |ok v h2=>rw[g]at w;exact w|bad=>rw[g]at w;exact w.elim|exc c x h2=>rw[g]at w;dsimp only at w ⊢;rw[if_pos w.1];exact w.2
theorem t8{i c:Nat}{ms:bB}(w:Ws (aW F ms (U.set i (some (.ref h.nx)))) (h.new (.xo c)) (λU h=>N (U.set i none) h) R (λU h=>B (U.set i none) h) (λU h=>C (U.set i none) h)):Wt Xc (lU (some i) (aW F ms) U c) h N R B C:=by
 unfold Wt lU;obtain⟨o,h1,e,q⟩:=We.ex w;show We Xc ((cO (aW F ms (U.set i (some (.ref h.nx))))).bind λo=>M.ret (o.drop i)) (h.new (.xo c)) _;refine aS (We.eq (show cO _ _ = .ok o h1 by unfold cO;rw[e]) ?_);cases o with
 |nx U1=>exact q|ret v=>exact q|brk U1=>exact q|cnt U1=>exact q
theorem t9{c:Nat}{ms:bB}(w:Ws (aW F ms U) (h.new (.xo c)) N R B C):Wt Xc (lU none (aW F ms) U c) h N R B C:=by unfold Wt lU;obtain⟨o,h1,e,q⟩:=We.ex w;show We Xc (cO (aW F ms U)) (h.new (.xo c)) _;exact We.eq (show cO _ _ = .ok o h1 by unfold cO;rw[e]) q
theorem t6{t:Tg}{it:Ir}{b:bB}(w:We Xc (bG F it U) h λi h1=>Wt Xc (fG i (fT F t) (aW F b) FU 0 U) h1 N R B C):Wt Xc (dZ F (.gJ t it b) U) h N R B C:=aS w
variable {Q:dS->AH->Prop}
theorem k4{e:Ex}(w:We Xc (aB F e U) h λx h1=>We Xc (gL x) h1 Q):We Xc (bG F (.seq e) U) h Q:=aS w
theorem j9{e:Ex}(w:We Xc (aB F e U) h λx h1=>∃n b xs,x = .ref n/\h1.ob n=some (.lst b xs)/\Q (pS (eG n)) h1):We Xc (bG F (.enum e) U) h Q:=aS (w.mono λx h1 ⟨n,b,xs,e,r,q⟩=>by subst e;unfold We ke;simp only[r];exact q)
theorem k6{es:dH}(w:We Xc (bS F es U) h λxs h1=>∃x y it jt,xs=[x,y]/\gL x h1 = .ok it h1/\gL y h1 = .ok jt h1/\Q (rA it jt) h1):We Xc (bG F (.zip es) U) h Q:=aS (w.mono λxs h1 ⟨x,y,it,jt,e,e1,e2,q⟩=>by subst e;unfold We kl;simp only[e1,e2];exact q)
theorem eC{n:Nat}{b:Bool}{xs:List AV}(e:h.ob n=some (.lst b xs))(q:Q (eG n) h):We Xc (gL (.ref n)) h Q:=by unfold We gL;simp only[e];exact q
theorem cJ{P:Pg}{k f np nn:Nat}{b:bB}{args:List AV}(e:P f=some (np,nn,b))(hl:args.length=np)(w:Wt Xc (aW (run P k) b (args.map some++List.replicate (nn-np) none)) h (λ_ h1=>R .aC h1) R (λ_ _=>False) (λ_ _=>False)):We Xc (run P (k+1) f args) h R:=by
 show We Xc (match P f with
  |none=>M.bad
  |some (np,nn,b)=>M.guard (args.length=np) ((aW (run P k) b (args.map some++List.replicate (nn-np) none)).bind Ph)) h R
 rw[e];refine bc hl (aS (We.mono w λo h1 z=>?_));cases o with
 |nx U=>exact z|ret v=>exact z|brk U=>exact z.elim|cnt U=>exact z.elim
end
theorem Keeps.of{P:Pg}{k i:Nat}(h:∀ns:List Int,ns.length<=63->Wp (run P k i [.ref 0]) (h0 ns) λv _=>v = .bl true):Keeps P k i:=λns hl=>by obtain⟨a,h',e,q⟩:=(h ns hl).ex;subst q;exact⟨h',e⟩
end AM
namespace AM
theorem EW{c:Prop} [Decidable c] {A B:Prop}(h1:c->A)(h2:¬c->B):if decide c=true then A else B:=by
 by_cases h:c
 .rw[decide_eq_true h,if_pos rfl];exact h1 h
 .rw[decide_eq_false h,if_neg Bool.false_ne_true];exact h2 h
theorem EZ{c:Prop} [Decidable c] {A B:Prop}(h1:¬c->A)(h2:c->B):if(!decide c)=true then A else B:=by
 by_cases h:c
 .rw[decide_eq_true h,Bool.not_true,if_neg Bool.false_ne_true];exact h2 h
 .rw[decide_eq_false h,Bool.not_false,if_pos rfl];exact h1 h
theorem Ah{b:Bool}{A B:Prop}(e:b=true)(h:A):if b=true then A else B:=by rw[if_pos e];exact h
theorem Ag{b:Bool}{A B:Prop}(e:b=false)(h:B):if b=true then A else B:=by rw[if_neg (by rw[e];exact Bool.false_ne_true)];exact h
theorem EY{c:Prop} [Decidable c] {A B:Prop}(e:c)(h:A):if decide c=true then A else B:=Ah (decide_eq_true e) h
theorem EX{c:Prop} [Decidable c] {A B:Prop}(e:¬c)(h:B):if decide c=true then A else B:=Ag (decide_eq_false e) h
theorem FC{c:Prop} [Decidable c] {A B:Prop}(e:c)(h:B):if(!decide c)=true then A else B:=Ag (by rw[decide_eq_true e];rfl) h
theorem FA{c:Prop} [Decidable c] {A B:Prop}(e:¬c)(h:A):if(!decide c)=true then A else B:=Ah (by rw[decide_eq_false e];rfl) h
end AM
namespace AM
open PySem PySem.Spec PyProof.Rows L2
section
variable {F:Run}{U:aA}{h:AH}{V1:AV->AH->Prop}
theorem d3(q:V1 (.int 18446744073709551616) h):We Xc (aB F (.op .pow (.val (.int 2)) (.val (.int 64))) U) h V1:=by refine xa (yE (yE (wz (by decide) ?_)));rw[show((2:Int) ^ Int.toNat 64)=18446744073709551616 from by decide +kernel];exact q
theorem c9(q:V1 (.int 100000000000000000000) h):We Xc (aB F (.op .pow (.val (.int 10)) (.val (.int 20))) U) h V1:=by refine xa (yE (yE (wz (by decide) ?_)));rw[show((10:Int) ^ Int.toNat 20)=100000000000000000000 from by decide +kernel];exact q
theorem c8(q:V1 (.int 100000000000000000) h):We Xc (aB F (.op .pow (.val (.int 10)) (.val (.int 17))) U) h V1:=by refine xa (yE (yE (wz (by decide) ?_)));rw[show((10:Int) ^ Int.toNat 17)=100000000000000000 from by decide +kernel];exact q
end
theorem HZ{i j:Int}(h1:-18446744073709551616<j)(h2:j<18446744073709551616):yV i j=true:=by
 have e:(18446744073709551616:Nat)=2 ^ 64:=by decide
 simp only[yV,Bool.or_eq_true,Bool.and_eq_true,decide_eq_true_eq];exact .inl (.inr (by omega))
theorem eU{h:AH}{n:Nat}{b:Bool}{xs:List AV}(e:h.ob n=some (.lst b xs)):dD h (.ref n)=some xs:=by simp only[dD,e]
def cell(ns:List Int)(i:Int):Int:=ns.getD i.toNat 0
theorem Yd{ns:List Int}{i:Int}(h0:0<=i)(h1:i<(ns.map AV.int).length):dF (ns.map AV.int) i=some (.int (cell ns i)):=by
 have hl:i.toNat<ns.length:=by rw[List.length_map]at h1;omega
 unfold dF iI;rw[if_pos h0,if_pos h1];simp only[Option.bind_some,List.getElem?_map,cell,List.getD,List.getElem?_eq_getElem hl,Option.map_some,Option.getD_some]
def cg{α:Type}(xs:List α)(lo hi:Option Int):List α:=(xs.drop (HT.aY xs.length 0 lo)).take (HT.aY xs.length xs.length hi-HT.aY xs.length 0 lo)
theorem Zs{α:Type}(xs:List α)(f:α->AV)(lo hi:Option Int):vR (xs.map f) lo hi=(cg xs lo hi).map f:=by unfold vR cg;rw[List.length_map,<- List.map_drop,<- List.map_take]
theorem Zr{α:Type}(xs:List α)(lo hi:Option Int):(cg xs lo hi).length<=xs.length:=by unfold cg;rw[List.length_take,List.length_drop];omega
theorem aX{h:AH}{o:dO}:(h.new o).ob h.nx=some o:=by simp only[AH.new,if_pos]
theorem eA{h:AH}{o:dO}{n:Nat}(hn:n≠h.nx):(h.new o).ob n=h.ob n:=by simp only[AH.new,if_neg hn]
theorem jC{h:AH}{o:dO}{n:Nat}:(h.put n o).ob n=some o:=by simp only[AH.put,if_pos]
theorem bW{h:AH}{o:dO}{n k:Nat}(hn:k≠n):(h.put n o).ob k=h.ob k:=by simp only[AH.put,if_neg hn]
theorem kE{h:AH}{n i:Nat}{b:Bool}{xs:List AV}(e:h.ob n=some (.lst b xs)):eG n i h=some xs[i]?:=by simp only[eG,e]
theorem CF{h:AH}{n i:Nat}{b:Bool}{xs:List AV}{v:AV}(e:h.ob n=some (.lst b xs))(hv:xs[i]?=some v):pS (eG n) i h=some (some (.tup [.int i,v])):=by simp only[pS,kE e,hv]
theorem CD{h:AH}{n i:Nat}{b:Bool}{xs:List AV}(e:h.ob n=some (.lst b xs))(hv:xs[i]?=none):pS (eG n) i h=some none:=by simp only[pS,kE e,hv]
theorem DX{n:Nat}{bb:Bool}{xs:List AV}{g:AV->aA->M aA}{body:aA->M Out}{N B C:aA->AH->Prop}{R:AV->AH->Prop}{U:aA}{h:AH}(I:Nat->aA->AH->Prop)(hn:xs.length<FU)(i0:I 0 U h)(il:∀i U h,I i U h->h.ob n=some (.lst bb xs))
  (turn:∀(i:Nat) x U h,xs[i]?=some x->I i U h->We Xc (g (.tup [.int i,x]) U) h λU1 h1=>Wt Xc (body U1) h1 (I (i+1)) R N (I (i+1)))
  (done:∀U h,I xs.length U h->N U h):Wt Xc (fG (pS (eG n)) g body FU 0 U) h N R B C:=by
 refine yR I xs.length (λi U h hi hI=>?_) (λU h hI=>⟨CD (il _ _ _ hI) (by simp),done U h hI⟩) FU 0 U h (Nat.zero_le _) (by omega) i0;exact⟨_,CF (il _ _ _ hI) (List.getElem?_eq_getElem hi),turn i _ U h (List.getElem?_eq_getElem hi) hI⟩
theorem cm{n:Nat}{bb:Bool}{xs:List AV}{g:AV->aA->M aA}{body:aA->M Out}{N B C:aA->AH->Prop}{R:AV->AH->Prop}{U:aA}{h:AH}(I:Nat->aA->AH->Prop)(hn:xs.length<FU)(i0:I 0 U h)(il:∀i U h,I i U h->h.ob n=some (.lst bb xs))
  (turn:∀(i:Nat) x U h,xs[i]?=some x->I i U h->We Xc (g x U) h λU1 h1=>Wt Xc (body U1) h1 (I (i+1)) R N (I (i+1)))
  (done:∀U h,I xs.length U h->N U h):Wt Xc (fG (eG n) g body FU 0 U) h N R B C:=by
 refine yR I xs.length (λi U h hi hI=>?_) (λU h hI=>⟨by rw[kE (il _ _ _ hI)];simp,done U h hI⟩) FU 0 U h (Nat.zero_le _) (by omega) i0;exact⟨_,by rw[kE (il _ _ _ hI),List.getElem?_eq_getElem hi],turn i _ U h (List.getElem?_eq_getElem hi) hI⟩
theorem fJ:FU=1000000:=rfl
theorem CI{t:Bool}{P:Bool->Prop}(q:P t):∃t',AV.bl t = .bl t'/\P t':=⟨t,rfl,q⟩
theorem CK{i:Int}{P:Int->Prop}(q:P i):∃i',AV.int i = .int i'/\P i':=⟨i,rfl,q⟩
theorem CJ{n:Nat}{P:Prop}(hn:n<=sizeLine)(q:P):n<=sizeLine/\P:=⟨hn,q⟩
end AM
namespace AM
structure Kp(h h':AH):Prop where
 nx:h.nx<=h'.nx
 ob:∀n,n<h.nx->h'.ob n=h.ob n
theorem Kp.refl{h:AH}:Kp h h:=⟨Nat.le_refl _,λ_ _=>rfl⟩
theorem Kp.trans{a b c:AH}(x:Kp a b)(y:Kp b c):Kp a c:=⟨Nat.le_trans x.nx y.nx,λn hn=>(y.ob n (Nat.lt_of_lt_of_le hn x.nx)).trans (x.ob n hn)⟩
theorem Kp.new{a b:AH}{o:dO}(x:Kp a b):Kp a (b.new o):=⟨Nat.le_succ_of_le x.nx,λn hn=>(eA (Nat.ne_of_lt (Nat.lt_of_lt_of_le hn x.nx))).trans (x.ob n hn)⟩
theorem Mg{xs ys:List AV}{g:AV->aA->M aA}{body:aA->M Out}{N B C:aA->AH->Prop}{R:AV->AH->Prop}{U:aA}{h:AH}(I:Nat->aA->AH->Prop)(hl:xs.length=ys.length)(hn:xs.length<FU)(i0:I 0 U h)
  (turn:∀(i:Nat) x y U h,xs[i]?=some x->ys[i]?=some y->I i U h->We Xc (g (.tup [x,y]) U) h λU1 h1=>Wt Xc (body U1) h1 (I (i+1)) R N (I (i+1)))
  (done:∀U h,I xs.length U h->N U h):Wt Xc (fG (rA (yA xs) (yA ys)) g body FU 0 U) h N R B C:=by
 refine yR I xs.length (λi U h hi hI=>?_) (λU h hI=>⟨by simp[rA,yA],done U h hI⟩) FU 0 U h (Nat.zero_le _) (by omega) i0;have e1:=List.getElem?_eq_getElem hi;have e2:=List.getElem?_eq_getElem (show i<ys.length by omega);exact⟨_,by simp only[rA,yA,e1,e2],turn i _ _ U h e1 e2 hI⟩
end AM
namespace AM
open PySem PySem.Spec PyProof.Rows L2
def B4(ws:List Int):Prop:=∀w∈ws,0<=w/\w<18446744073709551616
section
variable {Xc:Nat->AH->Prop}{α:Type}{m:M α}{h:AH}{Q:α->AH->Prop}{F:Run}{U:aA}{V1:AV->AH->Prop}{L1:List AV->AH->Prop}
theorem Ho(w:Wp m h Q):We Xc (cO m) h Q:=by obtain⟨a,h1,e,q⟩:=w.ex;exact We.eq (show cO m h = .ok a h1 by unfold cO;rw[e]) q
theorem l8{imp:List (Option Nat)}{t:CT}{it:Ir}{e:Ex}(w:We Xc (bG F it U) h λi h1=>We Xc (cM i (iA t) (λ_=>M.ret true) (aB F e) FU 0 [] (gM imp U)) h1 λys h2=>V1 (.ref h2.nx) (h2.new (.lst true ys))):We Xc (aB F (.fV imp t it e) U) h V1:=
 aS (w.mono λ_ _ z=>aS (z.mono λ_ _ y=>y))
theorem l9{imp:List (Option Nat)}{t:CT}{it:Ir}{c e:Ex}(w:We Xc (bG F it U) h λi h1=>We Xc (cM i (iA t) (bE F c) (aB F e) FU 0 [] (gM imp U)) h1 λys h2=>V1 (.ref h2.nx) (h2.new (.lst true ys))):We Xc (aB F (.eL imp t it c e) U) h V1:=
 aS (w.mono λ_ _ z=>aS (z.mono λ_ _ y=>y))
theorem b6{i:Nat}{v:AV}{Q:aA->AH->Prop}(q:Q (U.set i (some v)) h):We Xc (iA (.nm i) v U) h Q:=q
theorem cb{it:dS}{g:AV->aA->M aA}{mt:aA->M Bool}{me:aA->M AV}(I:Nat->List AV->aA->AH->Prop)(n:Nat)
  (turn:∀i ys U h,i<n->I i ys U h->∃v,it i h=some (some v)/\Wp (g v U) h λU1 h1=>Wp (mt U1) h1 λb h2=>if b=true then Wp (me U1) h2 λy h3=>ys.length<sizeLine/\I (i+1) (ys++[y]) U1 h3 else I (i+1) ys U1 h2)
  (done:∀ys U h,I n ys U h->it n h=some none/\L1 ys h):∀(f i:Nat) (ys:List AV) (U:aA) (h:AH),i<=n->n-i<f->I i ys U h->We Xc (cM it g mt me f i ys U) h L1
 |0,i,ys,U,h,_,hf,_=>absurd hf (Nat.not_lt_zero _)
 |f+1,i,ys,U,h,hi,hf,hI=>by
  by_cases hx:i<n
  .obtain⟨v,e,w⟩:=turn i ys U h hx hI;have e1:cM it g mt me (f+1) i ys U h=((cO (g v U)).bind λU1=>(cO (mt U1)).bind λb=>if b=true then(cO (me U1)).bind λy=>M.guard (ys.length<sizeLine) (cM it g mt me f (i+1) (ys++[y]) U1) else cM it g mt me f (i+1) ys U1) h:=by simp only[cM,e]
   unfold We;rw[e1];refine aS (Ho (w.mono λU1 h1 w1=>aS (Ho (w1.mono λb h2 w2=>?_))));cases b with
   |true=>rw[if_pos rfl]at w2 ⊢;exact aS (Ho (w2.mono λy h3 w3=>bc w3.1 (cb I n turn done f (i+1) _ U1 h3 hx (by omega) w3.2)))
   |false=>rw[if_neg Bool.false_ne_true]at w2 ⊢;exact cb I n turn done f (i+1) ys U1 h2 hx (by omega) w2
  .have:i=n:=by omega
   subst this;obtain⟨e,q⟩:=done ys U h hI;unfold We;have e1:cM it g mt me (f+1) i ys U h = .ok ys h:=by simp only[cM,e]
   rw[e1];exact q
variable {g:AV->aA->M aA}{mt:aA->M Bool}{me:aA->M AV}
theorem Wx{h:AH}{A B:AH->Prop}(q:A h):Wp (M.ret true) h λb h2=>if b=true then A h2 else B h2:=by
 show if true=true then A h else B h
 rw[if_pos rfl];exact q
theorem yq{n:Nat}{bb:Bool}{xs:List AV}(I:Nat->List AV->aA->AH->Prop)(hn:xs.length<FU)(i0:I 0 [] U h)(il:∀i ys U h,I i ys U h->h.ob n=some (.lst bb xs))
  (turn:∀(i:Nat) x ys U h,xs[i]?=some x->I i ys U h->Wp (g x U) h λU1 h1=>Wp (me U1) h1 λy h3=>ys.length<sizeLine/\I (i+1) (ys++[y]) U1 h3)
  (done:∀ys U h,I xs.length ys U h->L1 ys h):We Xc (cM (eG n) g (λ_=>M.ret true) me FU 0 [] U) h L1:=by
 refine cb I xs.length (λi ys U h hi hI=>?_) (λys U h hI=>⟨by rw[kE (il _ _ _ _ hI)];simp,done ys U h hI⟩) FU 0 [] U h (Nat.zero_le _) (by omega) i0;exact⟨_,by rw[kE (il _ _ _ _ hI),List.getElem?_eq_getElem hi],(turn i _ ys U h (List.getElem?_eq_getElem hi) hI).mono λU1 h1 w=>Wx w⟩
variable {N:aA->AH->Prop}{R:AV->AH->Prop}{B C:aA->AH->Prop}
end
theorem DY{Xc:Nat->AH->Prop}{n1 n2:Nat}{b1 b2:Bool}{xs ys:List AV}{g:AV->aA->M aA}{body:aA->M Out}{N B C:aA->AH->Prop}{R:AV->AH->Prop}{U:aA}{h:AH}(I:Nat->aA->AH->Prop)(hl:xs.length=ys.length)(hn:xs.length<FU)(i0:I 0 U h)
  (il:∀i U h,I i U h->h.ob n1=some (.lst b1 xs)/\h.ob n2=some (.lst b2 ys))
  (turn:∀(i:Nat) x y U h,xs[i]?=some x->ys[i]?=some y->I i U h->We Xc (g (.tup [x,y]) U) h λU1 h1=>Wt Xc (body U1) h1 (I (i+1)) R N (I (i+1)))
  (done:∀U h,I xs.length U h->N U h):Wt Xc (fG (rA (eG n1) (eG n2)) g body FU 0 U) h N R B C:=by
 refine yR I xs.length (λi U h hi hI=>?_) (λU h hI=>⟨?_,done U h hI⟩) FU 0 U h (Nat.zero_le _) (by omega) i0
 .obtain⟨g1,g2⟩:=il _ _ _ hI;have e1:=List.getElem?_eq_getElem hi;have e2:=List.getElem?_eq_getElem (show i<ys.length by omega);exact⟨_,by simp only[rA,kE g1,kE g2,e1,e2],turn i _ _ U h e1 e2 hI⟩
 .obtain⟨g1,g2⟩:=il _ _ _ hI;simp[rA,kE g1,kE g2]
theorem Mp{h:AH}{n:Nat}{b:Bool}{xs:List AV}(e:h.ob n=some (.lst b xs)):gL (.ref n) h = .ok (eG n) h:=by simp only[gL,e]
theorem Xi{Xc:Nat->AH->Prop}{xs ys:List AV}{h:AH}{V1:AV->AH->Prop}(hz:xs.length+ys.length<=sizeLine)(q:V1 (.tup (xs++ys)) h):We Xc (Op.g .add (.tup xs) (.tup ys)) h V1:=bc hz q
section
variable {Xc:Nat->AH->Prop}{h:AH}{F:Run}{U:aA}{V1:AV->AH->Prop}{B1:Bool->AH->Prop}{N B C:aA->AH->Prop}{R:AV->AH->Prop}
theorem m6{cs:List Nat}{f:Str}{o:Ex}(w:We Xc (aB F o U) h λx h1=>We Xc (pW cs f x) h1 V1):We Xc (aB F (.fld cs f o) U) h V1:=aS w
theorem Xk{cs:List Nat}{f:Str}{n c:Nat}{fs:List (Str×AV)}{v:AV}(e:h.ob n=some (.ins c fs))(hc:cs.contains c=true)(l:fs.lookup f=some v)(q:V1 v h):We Xc (pW cs f (.ref n)) h V1:=by unfold We pW;simp only[e,if_pos hc,l];exact q
theorem n9{m:Str}{dp:List (Nat×Nat)}{o:Ex}{es:dH}(w:We Xc (aB F o U) h λx h1=>∃(n c:Nat) (fs:List (Str×AV)) (i:Nat),x = .ref n/\h1.ob n=some (.ins c fs)/\dp.lookup c=some i/\fs.lookup m=none/\We Xc (bS F es U) h1 λxs h2=>We Xc (F i (.ref n::xs)) h2 V1) :
  We Xc (aB F (.iK m dp o es) U) h V1:=aS (w.mono λx h1 ⟨n,c,fs,i,e1,e2,e3,e4,q⟩=>by
 subst e1;show We Xc (λh=>match h.ob n with
  |some (.ins c fs)=>match (dp.lookup c).map F,fs.lookup m with
   |some g,none=>((bS F es U).bind λxs=>g (.ref n::xs)) h
   |_,_=>.bad
  |_=>.bad) h1 V1
 unfold We;simp only[e2,e3,e4,Option.map_some];exact aS q)
theorem n8{c i:Nat}{dv:List AV}{es:dH}(w:We Xc (bS F es U) h λxs h1=>We Xc (F i (.ref h1.nx::(xs++dv))) (h1.new (.ins c [])) λv h2=>v = .aC/\V1 (.ref h1.nx) h2):We Xc (aB F (.make c i dv es) U) h V1:=
 aS (w.mono λxs h1 z=>by show We Xc ((F i (.ref h1.nx::(xs++dv))).bind λv=>if Ao v=true then M.ret (.ref h1.nx) else M.bad) (h1.new (.ins c [])) V1;exact aS (z.mono λv h2 ⟨e,q⟩=>by subst e;exact q))
theorem t7{cs:List Nat}{f:Str}{o e:Ex}(w:We Xc (aB F e U) h λv h1=>We Xc (aB F o U) h1 λx h2=>∃(n c:Nat) (fs:List (Str×AV)),x = .ref n/\h2.ob n=some (.ins c fs)/\cs.contains c=true/\fs.length<1000/\N U (h2.put n (.ins c (fQ f v fs)))) :
  Wt Xc (dZ F (.cu cs f o e) U) h N R B C:=aS (w.mono λv h1 z=>aS (z.mono λx h2 ⟨n,c,fs,e1,e2,e3,e4,q⟩=>by
 subst e1;have e5:ib cs f (.ref n) v h2=some (h2.put n (.ins c (fQ f v fs))):=by simp only[ib,e2];rw[if_pos ⟨e3,e4⟩]
 unfold We;simp only[e5];exact q))
theorem m5(q:V1 (.ref h.nx) (h.new (.aI []))):We Xc (aB F .yQ U) h V1:=q
theorem m4{f:Dm}{o:Ex}{es:dH}(w:We Xc (aB F o U) h λx h1=>(dG h1 x).isSome=true/\We Xc (bS F es U) h1 λxs h2=>We Xc (f.g x xs) h2 V1):We Xc (aB F (.dm f o es) U) h V1:=aS (w.mono λx h1 ⟨z1,z2⟩=>by unfold We;simp only[if_pos z1];exact aS z2)
theorem yP{n:Nat}{kvs:List (aD×AV)}(e:h.ob n=some (.aI kvs)):dG h (.ref n)=some kvs:=by simp only[dG,e]
theorem cj{n:Nat}{kvs:List (aD×AV)}(e:h.ob n=some (.aI kvs)):(dG h (.ref n)).isSome=true:=by rw[yP e];rfl
theorem Xj{n:Nat}{kvs:List (aD×AV)}{y:AV}{k:aD}(e:h.ob n=some (.aI kvs))(hk:dP y=some k)(q:V1 ((bU kvs k).getD .aC) h):We Xc (Dm.g .get (.ref n) [y]) h V1:=by show We Xc (cw (.ref n) [y]) h V1;unfold We cw;simp only[yP e,hk];exact q
theorem Hq{n:Nat}{kvs:List (aD×AV)}{y v:AV}{k:aD}(e:h.ob n=some (.aI kvs))(hk:dP y=some k)(l:bU kvs k=some v)(q:V1 v (h.put n (.aI (pR kvs k)))):We Xc (Dm.g .pop (.ref n) [y]) h V1:=by show We Xc (cx (.ref n) [y]) h V1;unfold We cx;simp only[yP e,hk,l];exact q
theorem Xl{n:Nat}{kvs:List (aD×AV)}{y v:AV}{k:aD}(e:h.ob n=some (.aI kvs))(hk:dP y=some k)(l:bU kvs k=some v)(q:V1 v h):We Xc (Op.g .ix (.ref n) y) h V1:=by show We Xc (pY (.ref n) y) h V1;unfold We pY;simp only[yP e,hk,Option.bind_some,l];exact q
theorem g6{n:Nat}{kvs:List (aD×AV)}{y v:AV}{k:aD}(e:h.ob n=some (.bM kvs))(hk:dP y=some k)(l:bU kvs k=some v)(q:V1 v h):We Xc (Op.g .ix (.ref n) y) h V1:=by show We Xc (pY (.ref n) y) h V1;unfold We pY;simp only[dG,e];unfold kg;simp only[vS,e,hk,Option.bind_some,l];exact q
theorem e9{n:Nat}{kvs:List (aD×AV)}{y:AV}{k:aD}(e:h.ob n=some (.aI kvs))(hk:dP y=some k)(q:V1 (.bl (bU kvs k).isSome) h):We Xc (Cp.g .oG y (.ref n)) h V1:=by show We Xc (jZ false y (.ref n)) h V1;unfold We jZ;simp only[yP e,hk];exact q
theorem c0{o i:Ex}{v:AV}{Q:aA->AH->Prop}(w:We Xc (aB F o U) h λx h1=>We Xc (aB F i U) h1 λy h2=>∃(n:Nat) (kvs:List (aD×AV)) (k:aD),x = .ref n/\dP y=some k/\h2.ob n=some (.aI kvs)/\kvs.length<sizeLine/\Q U (h2.put n (.aI (jB kvs k v)))):We Xc (fT F (.sub o i) v U) h Q:=
 aS (w.mono λx _ z=>aS (z.mono λy h2 ⟨n,kvs,k,e1,e2,e3,e4,q⟩=>aS (by
  subst e1;unfold We pZ;simp only[yP e3,e2,if_pos e4];exact q)))
end
theorem Kp.get{h h':AH}(g:Kp h h'){n:Nat}{o:Option dO}(hn:n<h.nx)(e:h.ob n=o):h'.ob n=o:=(g.ob n hn).trans e
theorem NT{h:AH}{n:Nat}{o:dO}:(h.put n o).nx=h.nx:=rfl
theorem fP{h:AH}{o:dO}:(h.new o).nx=h.nx+1:=rfl
theorem Ld{Xc:Nat->AH->Prop}{n:Nat}{bb:Bool}{xs:List AV}{U:aA}{h:AH}{L1:List AV->AH->Prop}{g:AV->aA->M aA}{mt:aA->M Bool}{me:aA->M AV}(I:Nat->List AV->aA->AH->Prop)(hn:xs.length<FU)(i0:I 0 [] U h)(il:∀i ys U h,I i ys U h->h.ob n=some (.lst bb xs))
  (turn:∀(i:Nat) x ys U h,xs[i]?=some x->I i ys U h->Wp (g x U) h λU1 h1=>Wp (mt U1) h1 λb h2=>if b=true then Wp (me U1) h2 λy h3=>ys.length<sizeLine/\I (i+1) (ys++[y]) U1 h3 else I (i+1) ys U1 h2)
  (done:∀ys U h,I xs.length ys U h->L1 ys h):We Xc (cM (eG n) g mt me FU 0 [] U) h L1:=by
 refine cb I xs.length (λi ys U h hi hI=>?_) (λys U h hI=>⟨by rw[kE (il _ _ _ _ hI)];simp,done ys U h hI⟩) FU 0 [] U h (Nat.zero_le _) (by omega) i0;exact⟨_,by rw[kE (il _ _ _ _ hI),List.getElem?_eq_getElem hi],turn i _ ys U h (List.getElem?_eq_getElem hi) hI⟩
theorem gP:(1000:Nat)<sizeLine:=by decide
theorem kF{α:Type}{f:α->AV}{ws:List α}{i:Nat}{x:AV}(h:(ws.map f)[i]?=some x):∃w,ws[i]?=some w/\x=f w:=by rw[List.getElem?_map]at h;obtain⟨w,h1,h2⟩:=Option.map_eq_some_iff.mp h;exact⟨w,h1,h2.symm⟩
theorem DV{α β:Type}{f:β->α->β}{b:β}{xs:List α}{i:Nat}{x:α}(h:xs[i]?=some x):(xs.take (i+1)).foldl f b=f ((xs.take i).foldl f b) x:=by obtain⟨hi,e⟩:=List.getElem?_eq_some_iff.mp h;subst e;rw[List.take_succ_eq_append_getElem hi,List.foldl_append];rfl
theorem Yc{xs:List AV}{n:Nat}(h0:0<n)(h1:n<=xs.length):dF xs (-(n:Int))=xs[xs.length-n]?:=by
 unfold dF iI;rw[if_neg (by omega)];first
  |rw[if_pos (by omega)]|skip
 have:(-(n:Int)+(xs.length:Int)).toNat=xs.length-n:=by omega
 simp[this]
section
variable {Xc:Nat->AH->Prop}{h:AH}{F:Run}{U:aA}{V1:AV->AH->Prop}{B1:Bool->AH->Prop}{N B C:aA->AH->Prop}{R:AV->AH->Prop}
theorem Lp{ks:List aD}{i:Nat}{k:aD}(e:ks[i]?=some k):gI ks i h=some (some (oI k)):=by simp only[gI,e]
theorem Lo{ks:List aD}:gI ks ks.length h=some none:=by simp[gI]
theorem yp{ks:List aD}{L1:List AV->AH->Prop}{g:AV->aA->M aA}{mt:aA->M Bool}{me:aA->M AV}(I:Nat->List AV->aA->AH->Prop)(hn:ks.length<FU)(i0:I 0 [] U h)
  (turn:∀(i:Nat) k ys U h,ks[i]?=some k->I i ys U h->Wp (g (oI k) U) h λU1 h1=>Wp (mt U1) h1 λb h2=>if b=true then Wp (me U1) h2 λy h3=>ys.length<sizeLine/\I (i+1) (ys++[y]) U1 h3 else I (i+1) ys U1 h2)
  (done:∀ys U h,I ks.length ys U h->L1 ys h):We Xc (cM (gI ks) g mt me FU 0 [] U) h L1:=by
 refine cb I ks.length (λi ys U h hi hI=>?_) (λys U h hI=>⟨Lo,done ys U h hI⟩) FU 0 [] U h (Nat.zero_le _) (by omega) i0;exact⟨_,Lp (List.getElem?_eq_getElem hi),turn i _ ys U h (List.getElem?_eq_getElem hi) hI⟩
theorem Zj{ks:List aD}{L1:List AV->AH->Prop}{g:AV->aA->M aA}{me:aA->M AV}(I:Nat->List AV->aA->AH->Prop)(hn:ks.length<FU)(i0:I 0 [] U h)
  (turn:∀(i:Nat) k ys U h,ks[i]?=some k->I i ys U h->Wp (g (oI k) U) h λU1 h1=>Wp (me U1) h1 λy h3=>ys.length<sizeLine/\I (i+1) (ys++[y]) U1 h3)
  (done:∀ys U h,I ks.length ys U h->L1 ys h):We Xc (cM (gI ks) g (λ_=>M.ret true) me FU 0 [] U) h L1:=
 yp I hn i0 (λi k ys U h e hI=>(turn i k ys U h e hI).mono λU1 h1 w=>Wx w) done
theorem Wq{n:Nat}{kvs:List (aD×AV)}{L:dO}(ho:h.ob n=some (.aI kvs))(hn:n<h.nx):((h.put n (.bM kvs)).new L).put n (.aI kvs)=h.new L:=by
 unfold AH.put AH.new;congr 1
 funext m
 dsimp only;by_cases e:m=n
 .subst e;rw[if_pos rfl,if_neg (Nat.ne_of_lt hn),ho]
 .rw[if_neg e,if_neg e]
theorem Hd{α:Type}{m0:aA->M AV}{ma:aA->M α}{n:Nat}{kvs kv':List (aD×AV)}{a:α}{h':AH}(hd:m0 U h = .ok (.ref n) h)(ho:h.ob n=some (.aI kvs))(hm:ma U h = .ok a h')(h2:h'.ob n=some (.bM kv')):gR m0 ma U h = .ok a (h'.put n (.aI kv')):=by unfold gR;simp only[hd,jr,ho,hm,iu,h2]
theorem zw{d:Ex}{n:Nat}{kvs:List (aD×AV)}(hd:aB F d U h = .ok (.ref n) h)(ho:h.ob n=some (.aI kvs)):bG F (.aI d) U h = .ok (gI (kvs.map (·.1))) (h.put n (.bM kvs)):=by show M.bind (aB F d U) cq h=_;simp only[M.bind,hd,cq,ho]
theorem Xp{d c e:Ex}{imp:List (Option Nat)}{t:CT}{n:Nat}{kvs:List (aD×AV)}(hd:aB F d U h = .ok (.ref n) h)(ho:h.ob n=some (.aI kvs))(hn:n<h.nx)
  (w:Wp (cM (gI (kvs.map (·.1))) (iA t) (bE F c) (aB F e) FU 0 [] (gM imp U)) (h.put n (.bM kvs)) λys h2=>h2=h.put n (.bM kvs)/\V1 (.ref h.nx) (h.new (.lst true ys))):We Xc (aB F (.dX d (.eL imp t (.aI d) c e)) U) h V1:=by
 obtain⟨ys,h2,e1,rfl,q⟩:=w.ex;have e2:aB F (.eL imp t (.aI d) c e) U h = .ok (.ref h.nx) ((h.put n (.bM kvs)).new (.lst true ys)):=by show M.bind (bG F (.aI d) U) _ h=_;simp only[M.bind,zw hd ho,e1,eW];rfl
 have e3:=Hd (kv':=kvs) hd ho e2 (by simp[AH.new,AH.put,Nat.ne_of_lt hn]);show We Xc (gR (aB F d) (aB F (.eL imp t (.aI d) c e)) U) h V1;unfold We;rw[e3,Wq ho hn];exact q
theorem p6{d e:Ex}{imp:List (Option Nat)}{t:CT}{n:Nat}{kvs:List (aD×AV)}(hd:aB F d U h = .ok (.ref n) h)(ho:h.ob n=some (.aI kvs))(hn:n<h.nx)
  (w:Wp (cM (gI (kvs.map (·.1))) (iA t) (λ_=>M.ret true) (aB F e) FU 0 [] (gM imp U)) (h.put n (.bM kvs)) λys h2=>h2=h.put n (.bM kvs)/\V1 (.ref h.nx) (h.new (.lst true ys))):We Xc (aB F (.dX d (.fV imp t (.aI d) e)) U) h V1:=by
 obtain⟨ys,h2,e1,rfl,q⟩:=w.ex;have e2:aB F (.fV imp t (.aI d) e) U h = .ok (.ref h.nx) ((h.put n (.bM kvs)).new (.lst true ys)):=by show M.bind (bG F (.aI d) U) _ h=_;simp only[M.bind,zw hd ho,e1,eW];rfl
 have e3:=Hd (kv':=kvs) hd ho e2 (by simp[AH.new,AH.put,Nat.ne_of_lt hn]);show We Xc (gR (aB F d) (aB F (.fV imp t (.aI d) e)) U) h V1;unfold We;rw[e3,Wq ho hn];exact q
theorem DW{ks:List aD}{g:AV->aA->M aA}{body:aA->M Out}(I:Nat->aA->AH->Prop)(hn:ks.length<FU)(i0:I 0 U h)
  (turn:∀(i:Nat) k U h,ks[i]?=some k->I i U h->We Xc (g (oI k) U) h λU1 h1=>Wt Xc (body U1) h1 (I (i+1)) R N (I (i+1)))
  (done:∀U h,I ks.length U h->N U h):Wt Xc (fG (gI ks) g body FU 0 U) h N R B C:=by
 refine yR I ks.length (λi U h hi hI=>?_) (λU h hI=>⟨Lo,done U h hI⟩) FU 0 U h (Nat.zero_le _) (by omega) i0;exact⟨_,Lp (List.getElem?_eq_getElem hi),turn i _ U h (List.getElem?_eq_getElem hi) hI⟩
theorem x8{d:Ex}{t:Tg}{b:bB}{n:Nat}{kvs:List (aD×AV)}(hd:aB F d U h = .ok (.ref n) h)(ho:h.ob n=some (.aI kvs))
  (w:Wt (λ_ _=>False) (fG (gI (kvs.map (·.1))) (fT F t) (aW F b) FU 0 U) (h.put n (.bM kvs)) (λU' h'=>h'.ob n=some (.bM kvs)/\N U' (h'.put n (.aI kvs))) (λ_ _=>False) (λ_ _=>False) (λ_ _=>False)):Wt Xc (dZ F (.dX d (.gJ t (.aI d) b)) U) h N R B C:=by
 have w':Wp (fG (gI (kvs.map (·.1))) (fT F t) (aW F b) FU 0 U) (h.put n (.bM kvs)) _:=w;obtain⟨o,h',e,q⟩:=w'.ex;cases o with
 |nx U'=>
  obtain⟨q1,q2⟩:=(q:h'.ob n=some (.bM kvs)/\N U' (h'.put n (.aI kvs)));have e2:dZ F (.gJ t (.aI d) b) U h = .ok (.nx U') h':=by show M.bind (bG F (.aI d) U) _ h=_;simp only[M.bind,zw hd ho];exact e
  have e3:=Hd (kv':=kvs) hd ho e2 q1;show Wt Xc (gR (aB F d) (dZ F (.gJ t (.aI d) b)) U) h N R B C;unfold Wt We;rw[e3];exact q2
 |_=>exact(show False from q).elim
theorem zq{cs:List Nat}{f:Str}{o:Ex}{n c:Nat}{fs:List (Str×AV)}{v:AV}(ho:aB F o U h = .ok (.ref n) h)(e:h.ob n=some (.ins c fs))(hc:cs.contains c=true)(l:fs.lookup f=some v):aB F (.fld cs f o) U h = .ok v h:=by show M.bind (aB F o U) (pW cs f) h=_;simp only[M.bind,ho,pW,e,hc,l,if_true]
theorem Hm{i:Nat}{v:AV}(e:U[i]?=some (some v)):aB F (.var i) U h = .ok v h:=by show qA i U h=_;simp only[qA,e,M.ret]
theorem n5{k:Kc}{a:Ex}(w:We Xc (aB F a U) h λx h1=>We Xc (k.g x) h1 V1):We Xc (aB F (.kc k a) U) h V1:=aS w
theorem y9{k:Kc}{a:Ex}(w:We Xc (aB F (.kc k a) U) h λx h1=>We Xc (bK x) h1 B1):We Xc (bE F (.kc k a) U) h B1:=aS w
theorem d5{n:Nat}{b:Bool}{bs:List Bool}(e:h.ob n=some (.lst b (bs.map AV.bl)))(q:V1 (.bl (bs.any id)) h):We Xc (Kc.any.g (.ref n)) h V1:=by unfold We Kc.g;simp only[e,Kc.gl,Ke];exact q
theorem j6{n:Nat}{b r:Bool}{ns:List Int}(e:h.ob n=some (.lst b (ns.map AV.int)))(hn:ns.length<64)(q:V1 (.ref h.nx) (h.new (.lst true ((gF r ns).map AV.int)))):We Xc ((Kc.srt r).g (.ref n)) h V1:=by unfold We Kc.g;simp only[e,Kc.gl,Am,if_pos hn];exact q
theorem XO{ns:List Int}(hi:ns.Pairwise (·<·)):gF true ns=ns.reverse:=by refine(ie (List.reverse_perm ns) ?_).symm;show List.Pairwise (λx1 x2=>x1 ≥ x2) ns.reverse;rw[List.pairwise_reverse];exact hi.imp λh=>by omega
theorem p4{f:Nat}{a:Ex}(w:We Xc (aB F a U) h λx h1=>We Xc (sY (F f) x) h1 V1):We Xc (aB F (.sk f a) U) h V1:=aS w
theorem i3{n:Nat}{b:Bool}{ns:List Int}(e:h.ob n=some (.lst b (ns.map AV.int)))(q:V1 (if ns.isEmpty then .aC else .int (lW ns)) h):We Xc (Kc.dq.g (.ref n)) h V1:=by unfold We Kc.g;simp only[e,Kc.gl,Am];exact q
theorem Xn{n:Nat}{kvs:List (aD×AV)}{ns:List Int}(e:h.ob n=some (.aI kvs))(hk:kvs.map (·.1)=ns.map Sum.inl)(hn:ns.length<64)(q:V1 (.ref h.nx) (h.new (.lst true ((gF false ns).map AV.int)))):We Xc (Kc.sd.g (.ref n)) h V1:=by unfold We Kc.g;simp only[e,Kc.gd,hk,Nl,if_pos hn];exact q
theorem Oc{g:List AV->M AV}:∀{xs:List AV} {ks:List Int},xs.length=ks.length->(∀(i:Nat) x k,xs[i]?=some x->ks[i]?=some k->g [x] h = .ok (.int k) h)->yT g xs h = .ok ks h
 |[],[],_,_=>rfl|x::xs,k::ks,hl,hg=>by have e1:=hg 0 x k rfl rfl;have e2:=Oc (xs:=xs) (ks:=ks) (by simpa using hl) λi y z a b=>hg (i+1) y z (by simpa using a) (by simpa using b);simp only[yT,e1,e2]
 |[],_::_,hl,_=>by simp at hl
 |_::_,[],hl,_=>by simp at hl
theorem i9{g:List AV->M AV}{n:Nat}{b:Bool}{xs:List AV}{ks:List Int}(e:h.ob n=some (.lst b xs))(hn:xs.length<64)(hl:xs.length=ks.length)(hg:∀(i:Nat) x k,xs[i]?=some x->ks[i]?=some k->g [x] h = .ok (.int k) h)(hd:ks.Nodup)
  (q:V1 (.ref h.nx) (h.new (.lst true (iO ks xs)))):We Xc (sY g (.ref n)) h V1:=by
 unfold We sY;simp only[e,if_pos hn,Oc hl hg,if_pos hd];exact q
theorem XQ{α:Type}{f:α->AV}{t:α->Int}{xs ys:List α}(hp:ys.Perm xs)(hi:(ys.map t).Pairwise (·<·)):iO (xs.map t) (xs.map f)=ys.map f:=by
 have hnd:(xs.map t).Nodup:=(hp.map t).nodup_iff.mp (hi.imp λh=>by omega);have e1:(ys.map λy=>(t y,f y)).map (·.2)=ys.map f:=by rw[List.map_map];rfl
 rw[<- e1];refine(Vt hnd ?_ ?_).symm
 .have:∀l:List α,(l.map t).zip (l.map f)=l.map λy=>(t y,f y):=λl=>by
   induction l with
   |nil=>rfl|cons x l ih=>rw[List.map_cons,List.map_cons,List.map_cons,List.zip_cons_cons,ih]
  rw[this];exact hp.map _
 .rw[List.pairwise_map];exact(List.pairwise_map.mp hi).imp λh=>by omega
end
end AM
namespace AMx
open PySem PySem.Spec PyProof.Rows L2 AM
def _root_.qMB:List Stmt:=PySem.Challenge.pw_aheadmill_k33_shelf_left_and_thrown.main.body
def top(i:Nat):Stmt:=qMB.getD i (.Pass ⟨0,0,0,0⟩)
noncomputable abbrev DF:Nat:=0
noncomputable abbrev iN:Stmt:=top 13
def rK:Df:=⟨"_law_cell_at","_law_cell_at",iN,["_law_script","_law_k"],["_law_script","_law_k"]⟩
noncomputable abbrev DL:Nat:=1
noncomputable abbrev mP:Stmt:=top 14
def rL:Df:=⟨"_law_mixed","_law_mixed",mP,["_law_cell","_law_k","_law_by","_law_prime"],["_law_cell","_law_k","_law_by","_law_prime"]⟩
noncomputable abbrev ck:Nat:=2
noncomputable abbrev nA:Stmt:=top 15
def rY:Df:=⟨"_law_alike","_law_alike",nA,["_law_found","_law_due_here","_law_one","_law_other"],["_law_found","_law_due_here"]⟩
noncomputable abbrev DI:Nat:=3
noncomputable abbrev nM:Stmt:=top 16
def sJ:Df:=⟨"_law_do","_law_do",nM,["_law_shelf","_law_deed_here","_law_good"],["_law_shelf","_law_deed_here"]⟩
noncomputable abbrev DG:Nat:=4
noncomputable abbrev nP:Stmt:=top 17
def sN:Df:=⟨"_law_class","_law_class",nP,["_law_caught"],["_law_caught"]⟩
noncomputable abbrev DM:Nat:=5
noncomputable abbrev nQ:Stmt:=top 18
def sO:Df:=⟨"_law_refused","_law_refused",nQ,["_law_shelf","_law_deed_here","_law_caught","error"],["_law_shelf","_law_deed_here"]⟩
noncomputable abbrev DN:Nat:=6
noncomputable abbrev nR:Stmt:=top 19
def sP:Df:=⟨"_law_refused_by_any","_law_refused_by_any",nR,["_law_shelf","_law_deed_here"],["_law_shelf","_law_deed_here"]⟩
noncomputable abbrev DQ:Nat:=7
noncomputable abbrev nS:Stmt:=top 20
def sQ:Df:=⟨"_law_ticket_by","_law_ticket_by",nS,["_law_kind","_law_stores","_law_loads","_law_base","_law_number","_law_some","_law_one"],["_law_kind","_law_stores","_law_loads","_law_base","_law_number"]⟩
noncomputable abbrev DH:Nat:=8
noncomputable abbrev nT:Stmt:=top 21
def sR:Df:=⟨"_law_deed","_law_deed",nT,["_law_numbers","_law_stores","_law_loads","_law_base","_law_far","_law_kind","_law_part","_law_ticket_here","_law_place"],["_law_numbers","_law_stores","_law_loads","_law_base","_law_far"]⟩
noncomputable abbrev DC:Nat:=9
noncomputable abbrev nU:Stmt:=top 22
def sS:Df:=⟨"_law_allowed","_law_allowed",nU,["_law_stores","_law_loads","_law_deed_here","_law_mine","_law_above","_law_lies"],["_law_stores","_law_loads","_law_deed_here"]⟩
noncomputable abbrev Mc:Nat:=10
noncomputable abbrev mQ:Stmt:=top 23
def rM:Df:=⟨"_law_ticket","_law_ticket",mQ,["_law_one"],["_law_one"]⟩
noncomputable abbrev DE:Nat:=11
noncomputable abbrev mR:Stmt:=top 24
def rN:Df:=⟨"_law_behind","_law_behind",mR,["_law_stores","_law_loads","_law_deed_here","_law_others","_law_mine"],["_law_stores","_law_loads","_law_deed_here"]⟩
noncomputable abbrev DD:Nat:=12
noncomputable abbrev mS:Stmt:=top 25
def rO:Df:=⟨"_law_answer","_law_answer",mS,["_law_loads","_law_deed_here","_law_load","_law_there","_law_giver"],["_law_loads","_law_deed_here"]⟩
noncomputable abbrev zj:Nat:=13
noncomputable abbrev mT:Stmt:=top 26
def rP:Df:=⟨"_law_done","_law_done",mT,["_law_shelf","_law_stores","_law_loads","_law_deed_here"],["_law_shelf","_law_stores","_law_loads","_law_deed_here"]⟩
noncomputable abbrev Mb:Nat:=14
noncomputable abbrev mU:Stmt:=top 27
def rQ:Df:=⟨"_law_thrown","_law_thrown",mU,["_law_shelf","_law_stores","_law_loads","_law_ticket_here","_law_some","_law_others","_law_many"],["_law_shelf","_law_stores","_law_loads","_law_ticket_here"]⟩
noncomputable abbrev DP:Nat:=15
noncomputable abbrev mV:Stmt:=top 28
def rR:Df:=⟨"_law_stepped","_law_stepped",mV,["_law_shelf","_law_stores","_law_loads","_law_numbers","_law_deed_here","_law_found"],["_law_shelf","_law_stores","_law_loads","_law_numbers","_law_deed_here"]⟩
noncomputable abbrev DO:Nat:=16
noncomputable abbrev mW:Stmt:=top 29
def rS:Df:=⟨"_law_spot","_law_spot",mW,["_law_stores","_law_deed_here","_law_base","_law_far","_law_number","_law_some"],["_law_stores","_law_deed_here","_law_base","_law_far","_law_number"]⟩
noncomputable abbrev DJ:Nat:=17
noncomputable abbrev mX:Stmt:=top 30
def rT:Df:=⟨"_law_due","_law_due",mX,["_law_stores","_law_spot_here","_law_dares","_law_found","_law_store","_law_there","_law_word"],["_law_stores","_law_spot_here","_law_dares"]⟩
noncomputable abbrev DK:Nat:=18
noncomputable abbrev mY:Stmt:=top 31
def rW:Df:=⟨"_law_looks","_law_looks",mY,["_law_shelf","_law_stores","_law_spot_here","_law_first","_law_dares"],["_law_shelf","_law_stores","_law_spot_here","_law_first"]⟩
noncomputable abbrev DR:Nat:=19
noncomputable abbrev mZ:Stmt:=top 32
def rX:Df:=⟨"_law_told","_law_told",mZ,["_law_shelf","_law_pair"],["_law_shelf","_law_pair"]⟩
noncomputable abbrev DB:Nat:=20
noncomputable abbrev nB:Stmt:=top 33
def pQ:Df:=⟨"law","law",nB,["_law_script","_law_base","_law_far","_law_shelves","_law_pairs","_law_k","_law_cell","_law_numbers","_law_which","_law_deed_here","_law_spot_here","_law_found"],["_law_script"]⟩
noncomputable abbrev CM:Nat:=21
noncomputable abbrev nC:Stmt:=(lP (top 11)).getD 0 (.Pass ⟨0,0,0,0⟩)
def rZ:Df:=⟨"__init__","Shelf.__init__",nC,["self"],["self"]⟩
noncomputable abbrev CW:Nat:=22
noncomputable abbrev nE:Stmt:=(lP (top 11)).getD 1 (.Pass ⟨0,0,0,0⟩)
def sA:Df:=⟨"store","Shelf.store",nE,["self","ticket"],["self","ticket"]⟩
noncomputable abbrev CV:Nat:=23
noncomputable abbrev nF:Stmt:=(lP (top 11)).getD 2 (.Pass ⟨0,0,0,0⟩)
def sC:Df:=⟨"placed","Shelf.placed",nF,["self","ticket","place","known"],["self","ticket","place"]⟩
noncomputable abbrev CO:Nat:=24
noncomputable abbrev nG:Stmt:=(lP (top 11)).getD 3 (.Pass ⟨0,0,0,0⟩)
def sD:Df:=⟨"bitten","Shelf.bitten",nG,["self","ticket","place","told","other","giver"],["self","ticket","place"]⟩
noncomputable abbrev DA:Nat:=25
noncomputable abbrev nH:Stmt:=(lP (top 11)).getD 4 (.Pass ⟨0,0,0,0⟩)
def sE:Df:=⟨"worded","Shelf.worded",nH,["self","ticket","word","known"],["self","ticket","word"]⟩
noncomputable abbrev CU:Nat:=26
noncomputable abbrev nI:Stmt:=(lP (top 11)).getD 5 (.Pass ⟨0,0,0,0⟩)
def sF:Df:=⟨"look","Shelf.look",nI,["self","ticket","place","dares","elder","other","spot","word"],["self","ticket","place","dares"]⟩
noncomputable abbrev CQ:Nat:=27
noncomputable abbrev nJ:Stmt:=(lP (top 11)).getD 6 (.Pass ⟨0,0,0,0⟩)
def sG:Df:=⟨"loaded","Shelf.loaded",nJ,["self","ticket","place","giver"],["self","ticket","place","giver"]⟩
noncomputable abbrev CP:Nat:=28
noncomputable abbrev nK:Stmt:=(lP (top 11)).getD 7 (.Pass ⟨0,0,0,0⟩)
def sH:Df:=⟨"leave","Shelf.leave",nK,["self","ticket"],["self","ticket"]⟩
noncomputable abbrev CZ:Nat:=29
noncomputable abbrev nL:Stmt:=(lP (top 11)).getD 8 (.Pass ⟨0,0,0,0⟩)
def sI:Df:=⟨"throw","Shelf.throw",nL,["self","ticket","stores","loads","other"],["self","ticket"]⟩
noncomputable abbrev CY:Nat:=30
noncomputable abbrev nN:Stmt:=(lP (top 11)).getD 9 (.Pass ⟨0,0,0,0⟩)
def sL:Df:=⟨"stores","Shelf.stores",nN,["self"],["self"]⟩
noncomputable abbrev CS:Nat:=31
noncomputable abbrev nO:Stmt:=(lP (top 11)).getD 10 (.Pass ⟨0,0,0,0⟩)
def sM:Df:=⟨"loads","Shelf.loads",nO,["self"],["self"]⟩
def Je:bB:=(.cons (.ite (.cmp .lt (.var 1) (.bi .len (.cons (.var 0) .nil)))
 (.cons (.ret (.op .ix (.var 0) (.var 1))) .nil)
 .nil) (.cons (.ret (.val (.int 0))) .nil))
def Jl:bB:=(.cons (.ret (.op .mod (.op .mul (.op .add (.op .add (.op .mod (.var 0) (.op .pow (.val (.int 10)) (.val (.int 20)))) (.op .mul (.var 1) (.var 1))) (.val (.int 1))) (.var 2)) (.var 3))) .nil)
def bx:bB:=(.cons (.ite (.cmp .eP (.var 1) (.val .aC))
 (.cons (.ret (.cmp .eP (.var 0) (.val .aC))) .nil)
 .nil) (.cons (.ite (.iW .int (.var 1))
 (.cons (.ret (.and (.iW .int (.var 0)) (.and (.not (.iW .bl (.var 0))) (.cmp .eq (.var 0) (.var 1))))) .nil)
 .nil) (.cons (.ite (.iW .tup (.var 1))
 (.cons (.ite (.not (.iW .tup (.var 0)))
 (.cons (.ret (.val (.bl false))) .nil)
 .nil) .nil)
 (.cons (.ite (.not (.iW .lst (.var 0)))
 (.cons (.ret (.val (.bl false))) .nil)
 .nil) .nil)) (.cons (.ite (.cmp .ne (.bi .len (.cons (.var 0) .nil)) (.bi .len (.cons (.var 1) .nil)))
 (.cons (.ret (.val (.bl false))) .nil)
 .nil) (.cons (.gJ (.tup 2 (.cons (.nm 2) (.cons (.nm 3) .nil))) (.zip (.cons (.var 0) (.cons (.var 1) .nil)))
 (.cons (.ite (.not (.call 2 (.cons (.var 2) (.cons (.var 3) .nil))))
 (.cons (.ret (.val (.bl false))) .nil)
 .nil) .nil)) (.cons (.ret (.val (.bl true))) .nil))))))
def Jh:bB:=(.cons (.ite (.cmp .eq (.op .ix (.var 1) (.val (.int 0))) (.val (.str "place")))
 (.cons (.ret (.iK "placed" [(9,23)] (.var 0) (.cons (.op .ix (.var 1) (.val (.int 1))) (.cons (.op .ix (.var 1) (.val (.int 2))) .nil)))) .nil)
 .nil) (.cons (.asg (.nm 2) (.val (.bl true))) (.cons (.ite (.cmp .eq (.op .ix (.var 1) (.val (.int 0))) (.val (.str "store")))
 (.cons (.asg (.nm 2) (.cmp .eP (.iK "store" [(9,22)] (.var 0) (.cons (.op .ix (.var 1) (.val (.int 1))) .nil)) (.val .aC))) .nil)
 (.cons (.ite (.cmp .eq (.op .ix (.var 1) (.val (.int 0))) (.val (.str "word")))
 (.cons (.asg (.nm 2) (.cmp .eP (.iK "worded" [(9,25)] (.var 0) (.cons (.op .ix (.var 1) (.val (.int 1))) (.cons (.op .ix (.var 1) (.val (.int 2))) .nil))) (.val .aC))) .nil)
 (.cons (.ite (.cmp .eq (.op .ix (.var 1) (.val (.int 0))) (.val (.str "load")))
 (.cons (.asg (.nm 2) (.cmp .eP (.iK "loaded" [(9,27)] (.var 0) (.cons (.op .ix (.var 1) (.val (.int 1))) (.cons (.op .ix (.var 1) (.val (.int 2))) (.cons (.op .ix (.var 1) (.val (.int 3))) .nil)))) (.val .aC))) .nil)
 (.cons (.asg (.nm 2) (.cmp .eP (.iK "leave" [(9,28)] (.var 0) (.cons (.op .ix (.var 1) (.val (.int 1))) .nil)) (.val .aC))) .nil)) .nil)) .nil)) (.cons (.ret (.op .ix (.lst (.cons (.neg (.val (.int 1))) (.cons (.val .aC) .nil))) (.bi .int (.cons (.var 2) .nil)))) .nil))))
def Jf:bB:=(.cons (.ite (.or (.cmp .eP (.var 0) (.val .aC)) (.or (.not (.dJ [(3,true)] (.var 0))) (.dJ [(3,false)] (.var 0))))
 (.cons (.ret (.val (.bl false))) .nil)
 .nil) (.cons (.ite (.or (.dJ [(3,false)] (.var 0)) (.or (.dJ [(3,false)] (.var 0)) (.dJ [(3,false)] (.var 0))))
 (.cons (.ret (.val (.bl false))) .nil)
 .nil) (.cons (.ret (.and (.not (.dJ [(3,false)] (.var 0))) (.and (.not (.dJ [(3,false)] (.var 0))) (.not (.dJ [(3,false)] (.var 0)))))) .nil)))
def Jm:bB:=(.cons (.asg (.nm 2) (.val .aC)) (.cons (.iw (some none) 3 (.cons (.var 0) (.cons (.var 1) .nil)) [3] (some 3)
 (.cons (.asg (.nm 2) (.var 3)) .nil)) (.cons (.ret (.call 4 (.cons (.var 2) .nil))) .nil)))
def Jn:bB:=(.cons (.iw (some none) 3 (.cons (.var 0) (.cons (.var 1) .nil)) [3] none
 (.cons (.ret (.val (.bl true))) .nil)) (.cons (.ret (.val (.bl false))) .nil))
def Js:bB:=(.cons (.asg (.nm 5) (.fV [none] (.nm 0) (.seq (.var 1)) (.op .ix (.var 0) (.val (.int 0))))) (.cons (.ite (.cmp .eq (.var 0) (.val (.str "leave")))
 (.cons (.asg (.nm 5) (.op .add (.var 5) (.fV [none] (.nm 0) (.seq (.var 2)) (.op .ix (.var 0) (.val (.int 0)))))) .nil)
 .nil) (.cons (.ite (.or (.cmp .eq (.op .mod (.var 4) (.val (.int 4))) (.val (.int 0))) (.cmp .eq (.bi .len (.cons (.var 5) .nil)) (.val (.int 0))))
 (.cons (.ret (.op .add (.op .add (.var 3) (.val (.int 1))) (.op .mod (.op .fdiv (.var 4) (.val (.int 4))) (.val (.int 24))))) .nil)
 .nil) (.cons (.ite (.cmp .eq (.var 0) (.val (.str "store")))
 (.cons (.ret (.op .add (.op .ix (.var 5) (.neg (.val (.int 1)))) (.op .mod (.op .fdiv (.var 4) (.val (.int 4))) (.val (.int 4))))) .nil)
 .nil) (.cons (.asg (.nm 6) (.op .ix (.var 5) (.op .mod (.op .fdiv (.var 4) (.val (.int 4))) (.bi .len (.cons (.var 5) .nil))))) (.cons (.ite (.cmp .eq (.var 0) (.val (.str "load")))
 (.cons (.ret (.op .add (.var 6) (.op .mod (.op .fdiv (.var 4) (.val (.int 256))) (.val (.int 3))))) .nil)
 .nil) (.cons (.ret (.var 6)) .nil)))))))
def Jg:bB:=(.cons (.asg (.nm 5) (.op .ix (.lst (.cons (.val (.str "store")) (.cons (.val (.str "store")) (.cons (.val (.str "place")) (.cons (.val (.str "word")) (.cons (.val (.str "word")) (.cons (.val (.str "load")) (.cons (.val (.str "load")) (.cons (.val (.str "leave")) .nil))))))))) (.op .mod (.op .fdiv (.op .ix (.var 0) (.val (.int 0))) (.val (.int 2))) (.val (.int 8))))) (.cons (.asg (.nm 6) (.op .ix (.var 0) (.val (.int 1)))) (.cons (.asg (.nm 7) (.call 7 (.cons (.var 5) (.cons (.var 1) (.cons (.var 2) (.cons (.var 3) (.cons (.op .fdiv (.var 6) (.val (.int 32))) .nil))))))) (.cons (.asg (.nm 8) (.op .add (.var 4) (.op .mod (.var 6) (.val (.int 4))))) (.cons (.ite (.cmp .eq (.var 5) (.val (.str "place")))
 (.cons (.ret (.tup (.cons (.var 5) (.cons (.var 7) (.cons (.var 8) .nil))))) .nil)
 .nil) (.cons (.ite (.cmp .eq (.var 5) (.val (.str "word")))
 (.cons (.ret (.tup (.cons (.var 5) (.cons (.var 7) (.cons (.op .mod (.op .mul (.var 6) (.val (.int 6364136223846793005))) (.op .pow (.val (.int 2)) (.val (.int 64)))) .nil))))) .nil)
 .nil) (.cons (.ite (.cmp .eq (.var 5) (.val (.str "load")))
 (.cons (.ret (.tup (.cons (.var 5) (.cons (.var 7) (.cons (.var 8) (.cons (.op .ix (.lst (.cons (.val .aC) (.cons (.bi .max (.cons (.val (.int 0)) (.cons (.op .sub (.op .sub (.var 7) (.val (.int 1))) (.op .mod (.op .fdiv (.var 6) (.val (.int 8))) (.val (.int 4)))) .nil))) .nil))) (.op .mod (.op .fdiv (.var 6) (.val (.int 4))) (.val (.int 2)))) .nil)))))) .nil)
 .nil) (.cons (.ret (.tup (.cons (.var 5) (.cons (.var 7) .nil)))) .nil))))))))
def Jb:bB:=(.cons (.asg (.nm 3) (.eL [none,some 2] (.nm 0) (.seq (.var 0)) (.cmp .eq (.op .ix (.var 0) (.val (.int 0))) (.op .ix (.var 1) (.val (.int 1)))) (.var 0))) (.cons (.ite (.cmp .eq (.op .ix (.var 2) (.val (.int 0))) (.val (.str "store")))
 (.cons (.asg (.nm 4) (.eL [none,some 2] (.nm 0) (.seq (.var 0)) (.cmp .ge (.op .ix (.var 0) (.val (.int 0))) (.op .ix (.var 1) (.val (.int 1)))) (.var 0))) (.cons (.ret (.and (.cmp .eq (.bi .len (.cons (.var 4) .nil)) (.val (.int 0))) (.cmp .nin (.op .ix (.var 2) (.val (.int 1))) (.fV [none] (.nm 0) (.seq (.var 1)) (.op .ix (.var 0) (.val (.int 0))))))) .nil))
 .nil) (.cons (.ite (.cmp .eq (.op .ix (.var 2) (.val (.int 0))) (.val (.str "place")))
 (.cons (.ret (.and (.cmp .eq (.bi .len (.cons (.var 3) .nil)) (.val (.int 1))) (.cmp .eP (.op .ix (.op .ix (.var 3) (.val (.int 0))) (.val (.int 1))) (.val .aC)))) .nil)
 .nil) (.cons (.ite (.cmp .eq (.op .ix (.var 2) (.val (.int 0))) (.val (.str "word")))
 (.cons (.ret (.and (.cmp .eq (.bi .len (.cons (.var 3) .nil)) (.val (.int 1))) (.cmp .eP (.op .ix (.op .ix (.var 3) (.val (.int 0))) (.val (.int 2))) (.val .aC)))) .nil)
 .nil) (.cons (.asg (.nm 5) (.or (.cmp .eq (.bi .len (.cons (.var 3) .nil)) (.val (.int 1))) (.cmp .oG (.op .ix (.var 2) (.val (.int 1))) (.fV [none] (.nm 0) (.seq (.var 1)) (.op .ix (.var 0) (.val (.int 0))))))) (.cons (.ret (.cmp .eq (.var 5) (.cmp .eq (.op .ix (.var 2) (.val (.int 0))) (.val (.str "leave"))))) .nil))))))
def Jr:bB:=(.cons (.ret (.op .ix (.var 0) (.val (.int 0)))) .nil)
def Jd:bB:=(.cons (.ite (.cmp .eq (.op .ix (.var 2) (.val (.int 0))) (.val (.str "store")))
 (.cons (.ret (.tup (.cons (.op .add (.var 0) (.lst (.cons (.tup (.cons (.op .ix (.var 2) (.val (.int 1))) (.cons (.val .aC) (.cons (.val .aC) .nil)))) .nil))) (.cons (.var 1) .nil)))) .nil)
 .nil) (.cons (.ite (.cmp .eq (.op .ix (.var 2) (.val (.int 0))) (.val (.str "load")))
 (.cons (.ret (.tup (.cons (.var 0) (.cons (.sk 10 (.op .add (.var 1) (.lst (.cons (.tup (.cons (.op .ix (.var 2) (.val (.int 1))) (.cons (.op .ix (.var 2) (.val (.int 2))) (.cons (.op .ix (.var 2) (.val (.int 3))) .nil)))) .nil)))) .nil)))) .nil)
 .nil) (.cons (.asg (.nm 3) (.eL [none,some 2] (.nm 0) (.seq (.var 0)) (.cmp .ne (.op .ix (.var 0) (.val (.int 0))) (.op .ix (.var 1) (.val (.int 1)))) (.var 0))) (.cons (.ite (.cmp .eq (.op .ix (.var 2) (.val (.int 0))) (.val (.str "leave")))
 (.cons (.ret (.tup (.cons (.var 3) (.cons (.eL [none,some 2] (.nm 0) (.seq (.var 1)) (.cmp .ne (.op .ix (.var 0) (.val (.int 0))) (.op .ix (.var 1) (.val (.int 1)))) (.var 0)) .nil)))) .nil)
 .nil) (.cons (.asg (.nm 4) (.op .ix (.eL [none,some 2] (.nm 0) (.seq (.var 0)) (.cmp .eq (.op .ix (.var 0) (.val (.int 0))) (.op .ix (.var 1) (.val (.int 1)))) (.var 0)) (.val (.int 0)))) (.cons (.ite (.cmp .eq (.op .ix (.var 2) (.val (.int 0))) (.val (.str "place")))
 (.cons (.ret (.tup (.cons (.sk 10 (.op .add (.var 3) (.lst (.cons (.tup (.cons (.op .ix (.var 2) (.val (.int 1))) (.cons (.op .ix (.var 2) (.val (.int 2))) (.cons (.op .ix (.var 4) (.val (.int 2))) .nil)))) .nil)))) (.cons (.var 1) .nil)))) .nil)
 .nil) (.cons (.ret (.tup (.cons (.sk 10 (.op .add (.var 3) (.lst (.cons (.tup (.cons (.op .ix (.var 2) (.val (.int 1))) (.cons (.op .ix (.var 4) (.val (.int 1))) (.cons (.op .ix (.var 2) (.val (.int 2))) .nil)))) .nil)))) (.cons (.var 1) .nil)))) .nil)))))))
def Jc:bB:=(.cons (.ite (.cmp .ne (.op .ix (.var 1) (.val (.int 0))) (.val (.str "place")))
 (.cons (.ret (.val .aC)) .nil)
 .nil) (.cons (.gJ (.tup 3 (.cons (.nm 2) (.cons (.nm 3) (.cons (.nm 4) .nil)))) (.seq (.var 0))
 (.cons (.ite (.and (.cmp .gt (.var 2) (.op .ix (.var 1) (.val (.int 1)))) (.and (.cmp .eq (.var 3) (.op .ix (.var 1) (.val (.int 2)))) (.or (.cmp .eP (.var 4) (.val .aC)) (.cmp .lt (.var 4) (.op .ix (.var 1) (.val (.int 1)))))))
 (.cons (.ret (.var 2)) .nil)
 .nil) .nil)) (.cons (.ret (.val .aC)) .nil)))
def Ji:bB:=(.cons (.ite (.not (.call 2 (.cons (.call 3 (.cons (.var 0) (.cons (.var 3) .nil))) (.cons (.call 12 (.cons (.var 2) (.cons (.var 3) .nil))) .nil))))
 (.cons (.ret (.val .aC)) .nil)
 .nil) (.cons (.ret (.call 11 (.cons (.var 1) (.cons (.var 2) (.cons (.var 3) .nil))))) .nil))
def Jq:bB:=(.cons (.asg (.nm 4) (.eL [none,some 3] (.nm 0) (.seq (.var 1)) (.cmp .lt (.op .ix (.var 0) (.val (.int 0))) (.var 1)) (.var 0))) (.cons (.asg (.nm 5) (.eL [none,some 3] (.nm 0) (.seq (.var 2)) (.cmp .lt (.op .ix (.var 0) (.val (.int 0))) (.var 1)) (.var 0))) (.cons (.asg (.nm 6) (.op .sub (.op .sub (.op .add (.bi .len (.cons (.var 1) .nil)) (.bi .len (.cons (.var 2) .nil))) (.bi .len (.cons (.var 4) .nil))) (.bi .len (.cons (.var 5) .nil)))) (.cons (.ite (.not (.call 2 (.cons (.iK "throw" [(9,29)] (.var 0) (.cons (.var 3) .nil)) (.cons (.var 6) .nil))))
 (.cons (.ret (.val .aC)) .nil)
 .nil) (.cons (.ret (.tup (.cons (.var 4) (.cons (.var 5) .nil)))) .nil)))))
def Jp:bB:=(.cons (.ite (.cmp .eq (.op .mod (.op .fdiv (.op .ix (.var 3) (.val (.int 0))) (.val (.int 16))) (.val (.int 12))) (.val (.int 7)))
 (.cons (.ret (.call 14 (.cons (.var 0) (.cons (.var 1) (.cons (.var 2) (.cons (.op .ix (.var 4) (.val (.int 1))) .nil)))))) .nil)
 .nil) (.cons (.ite (.call 9 (.cons (.var 1) (.cons (.var 2) (.cons (.var 4) .nil))))
 (.cons (.ret (.call 13 (.cons (.var 0) (.cons (.var 1) (.cons (.var 2) (.cons (.var 4) .nil)))))) .nil)
 .nil) (.cons (.ite (.or (.not (.call 5 (.cons (.var 0) (.cons (.var 4) .nil)))) (.not (.call 6 (.cons (.var 0) (.cons (.var 4) .nil)))))
 (.cons (.ret (.val .aC)) .nil)
 .nil) (.cons (.ite (.or (.cmp .gt (.op .mod (.op .fdiv (.op .ix (.var 3) (.val (.int 0))) (.val (.int 192))) (.val (.int 4))) (.val (.int 0))) (.and (.cmp .ne (.op .ix (.var 4) (.val (.int 0))) (.val (.str "store"))) (.cmp .ne (.op .ix (.var 4) (.val (.int 0))) (.val (.str "load")))))
 (.cons (.ret (.tup (.cons (.var 1) (.cons (.var 2) .nil)))) .nil)
 .nil) (.cons (.asg (.nm 5) (.call 14 (.cons (.var 0) (.cons (.var 1) (.cons (.var 2) (.cons (.op .ix (.var 4) (.val (.int 1))) .nil)))))) (.cons (.ite (.cmp .eP (.var 5) (.val .aC))
 (.cons (.ret (.val .aC)) .nil)
 .nil) (.cons (.ret (.call 13 (.cons (.var 0) (.cons (.op .ix (.var 5) (.val (.int 0))) (.cons (.op .ix (.var 5) (.val (.int 1))) (.cons (.var 4) .nil)))))) .nil)))))))
def Jo:bB:=(.cons (.asg (.nm 5) (.eL [none,some 1] (.nm 0) (.seq (.var 0)) (.and (.cmp .ge (.op .ix (.var 0) (.val (.int 0))) (.op .ix (.var 1) (.val (.int 1)))) (.cmp .isn (.op .ix (.var 0) (.val (.int 1))) (.val .aC))) (.var 0))) (.cons (.ite (.cmp .eq (.bi .len (.cons (.var 5) .nil)) (.val (.int 0)))
 (.cons (.asg (.nm 5) (.eL [none] (.nm 0) (.seq (.var 0)) (.cmp .isn (.op .ix (.var 0) (.val (.int 1))) (.val .aC)) (.var 0))) .nil)
 .nil) (.cons (.ite (.or (.cmp .eq (.bi .len (.cons (.var 5) .nil)) (.val (.int 0))) (.cmp .eq (.op .mod (.var 4) (.val (.int 5))) (.val (.int 0))))
 (.cons (.ret (.tup (.cons (.op .add (.var 2) (.op .mod (.op .fdiv (.var 4) (.val (.int 5))) (.val (.int 40)))) (.cons (.op .add (.var 3) (.op .mod (.op .fdiv (.var 4) (.val (.int 200))) (.val (.int 4)))) .nil)))) .nil)
 .nil) (.cons (.ret (.tup (.cons (.op .add (.op .add (.op .ix (.op .ix (.var 5) (.val (.int 0))) (.val (.int 0))) (.val (.int 1))) (.op .mod (.op .fdiv (.var 4) (.val (.int 5))) (.val (.int 3)))) (.cons (.op .ix (.op .ix (.var 5) (.val (.int 0))) (.val (.int 1))) .nil)))) .nil))))
def Jj:bB:=(.cons (.asg (.nm 3) (.tup (.cons (.val .aC) (.cons (.val .aC) .nil)))) (.cons (.gJ (.tup 3 (.cons (.nm 4) (.cons (.nm 5) (.cons (.nm 6) .nil)))) (.seq (.var 0))
 (.cons (.ite (.and (.cmp .lt (.var 4) (.op .ix (.var 1) (.val (.int 0)))) (.or (.cmp .eq (.var 5) (.op .ix (.var 1) (.val (.int 1)))) (.and (.cmp .eP (.var 5) (.val .aC)) (.not (.var 2)))))
 (.cons (.asg (.nm 3) (.val .aC)) (.cons (.ite (.and (.cmp .isn (.var 5) (.val .aC)) (.cmp .isn (.var 6) (.val .aC)))
 (.cons (.asg (.nm 3) (.tup (.cons (.var 4) (.cons (.var 6) .nil)))) .nil)
 .nil) .nil))
 .nil) .nil)) (.cons (.ret (.var 3)) .nil)))
def Jk:bB:=(.cons (.gJ (.nm 4) (.seq (.lst (.cons (.var 3) (.cons (.not (.var 3)) .nil))))
 (.cons (.ite (.not (.call 2 (.cons (.iK "look" [(9,26)] (.var 0) (.cons (.op .ix (.var 2) (.val (.int 0))) (.cons (.op .ix (.var 2) (.val (.int 1))) (.cons (.var 4) .nil)))) (.cons (.call 17 (.cons (.var 1) (.cons (.var 2) (.cons (.var 4) .nil)))) .nil))))
 (.cons (.ret (.val (.bl false))) .nil)
 .nil) .nil)) (.cons (.ret (.val (.bl true))) .nil))
def Jt:bB:=(.cons (.ret (.and (.call 2 (.cons (.iK "stores" [(9,30)] (.var 0) .nil) (.cons (.op .ix (.var 1) (.val (.int 0))) .nil))) (.call 2 (.cons (.iK "loads" [(9,31)] (.var 0) .nil) (.cons (.op .ix (.var 1) (.val (.int 1))) .nil))))) .nil)
def Ja:bB:=(.cons (.asg (.nm 1) (.val (.int 0))) (.cons (.asg (.nm 2) (.neg (.val (.int 2)))) (.cons (.ite (.cmp .eq (.op .mod (.call 0 (.cons (.var 0) (.cons (.val (.int 0)) .nil))) (.val (.int 3))) (.val (.int 1)))
 (.cons (.asg (.nm 1) (.op .mod (.op .fdiv (.call 0 (.cons (.var 0) (.cons (.val (.int 0)) .nil))) (.val (.int 3))) (.op .pow (.val (.int 10)) (.val (.int 17))))) (.cons (.asg (.nm 2) (.op .sub (.op .mod (.call 0 (.cons (.var 0) (.cons (.val (.int 1)) .nil))) (.op .mul (.val (.int 2)) (.op .pow (.val (.int 10)) (.val (.int 50))))) (.op .pow (.val (.int 10)) (.val (.int 50))))) .nil))
 .nil) (.cons (.asg (.nm 3) (.lst (.cons (.make 9 21 [] .nil) (.cons (.make 9 21 [] .nil) .nil)))) (.cons (.asg (.nm 4) (.lst (.cons (.tup (.cons (.lst .nil) (.cons (.lst .nil) .nil))) (.cons (.tup (.cons (.lst .nil) (.cons (.lst .nil) .nil))) .nil)))) (.cons (.gJ (.tup 2 (.cons (.nm 5) (.cons (.nm 6) .nil))) (.enum (.slice (.var 0) .no (.val (.int 63))))
 (.cons (.asg (.nm 7) (.lst (.cons (.call 1 (.cons (.var 6) (.cons (.var 5) (.cons (.val (.int 48271)) (.cons (.val (.int 2147483647)) .nil))))) (.cons (.call 1 (.cons (.var 6) (.cons (.var 5) (.cons (.val (.int 69621)) (.cons (.val (.int 2147483629)) .nil))))) .nil)))) (.cons (.asg (.nm 8) (.op .mod (.op .ix (.var 7) (.val (.int 0))) (.val (.int 2)))) (.cons (.asg (.nm 9) (.call 8 (.cons (.var 7) (.cons (.op .ix (.op .ix (.var 4) (.var 8)) (.val (.int 0))) (.cons (.op .ix (.op .ix (.var 4) (.var 8)) (.val (.int 1))) (.cons (.var 1) (.cons (.var 2) .nil))))))) (.cons (.asg (.nm 10) (.call 16 (.cons (.op .ix (.op .ix (.var 4) (.var 8)) (.val (.int 0))) (.cons (.var 9) (.cons (.var 1) (.cons (.var 2) (.cons (.op .fdiv (.op .ix (.var 7) (.val (.int 1))) (.val (.int 7))) .nil))))))) (.cons (.ite (.not (.call 18 (.cons (.op .ix (.var 3) (.var 8)) (.cons (.op .ix (.op .ix (.var 4) (.var 8)) (.val (.int 0))) (.cons (.var 10) (.cons (.cmp .eq (.op .mod (.var 5) (.val (.int 2))) (.val (.int 0))) .nil))))))
 (.cons (.ret (.val (.bl false))) .nil)
 .nil) (.cons (.asg (.nm 11) (.call 15 (.cons (.op .ix (.var 3) (.var 8)) (.cons (.op .ix (.op .ix (.var 4) (.var 8)) (.val (.int 0))) (.cons (.op .ix (.op .ix (.var 4) (.var 8)) (.val (.int 1))) (.cons (.var 7) (.cons (.var 9) .nil))))))) (.cons (.ite (.or (.cmp .eP (.var 11) (.val .aC)) (.not (.call 19 (.cons (.op .ix (.var 3) (.var 8)) (.cons (.var 11) .nil)))))
 (.cons (.ret (.val (.bl false))) .nil)
 .nil) (.cons (.ite (.not (.call 18 (.cons (.op .ix (.var 3) (.var 8)) (.cons (.op .ix (.var 11) (.val (.int 0))) (.cons (.var 10) (.cons (.cmp .eq (.op .mod (.var 5) (.val (.int 3))) (.val (.int 0))) .nil))))))
 (.cons (.ret (.val (.bl false))) .nil)
 .nil) (.cons (.asg (.sub (.var 4) (.var 8)) (.var 11)) (.cons (.ite (.not (.call 19 (.cons (.op .ix (.var 3) (.op .sub (.val (.int 1)) (.var 8))) (.cons (.op .ix (.var 4) (.op .sub (.val (.int 1)) (.var 8))) .nil))))
 (.cons (.ret (.val (.bl false))) .nil)
 .nil) .nil))))))))))) (.cons (.ret (.val (.bl true))) .nil)))))))
def Ij:bB:=(.cons (.cu [9] "kept" (.var 0) .yQ) (.cons (.cu [9] "begun" (.var 0) .yQ) .nil))
def Iu:bB:=(.cons (.ite (.or (.cmp .oG (.var 1) (.fld [9] "begun" (.var 0))) (.kc .any (.dX (.fld [9] "kept" (.var 0)) (.fV [none,some 1] (.nm 0) (.aI (.fld [9] "kept" (.var 0))) (.cmp .ge (.var 0) (.var 1))))))
 (.cons (.raise 3 (.cons (.val (.str "the ticket isn't greater than those of the stores, or a load has it")) .nil)) .nil)
 .nil) (.cons (.asg (.sub (.fld [9] "kept" (.var 0)) (.var 1)) (.tup (.cons (.val .aC) (.cons (.val .aC) .nil)))) .nil))
def Iq:bB:=(.cons (.asg (.nm 3) (.dm .get (.fld [9] "kept" (.var 0)) (.cons (.var 1) .nil))) (.cons (.ite (.or (.cmp .eP (.var 3) (.val .aC)) (.cmp .isn (.op .ix (.var 3) (.val (.int 0))) (.val .aC)))
 (.cons (.raise 3 (.cons (.val (.str "no store with this ticket waits for its place")) .nil)) .nil)
 .nil) (.cons (.asg (.sub (.fld [9] "kept" (.var 0)) (.var 1)) (.tup (.cons (.var 2) (.cons (.op .ix (.var 3) (.val (.int 1))) .nil)))) (.cons (.ret (.kc .dq (.iK "bitten" [(9,24)] (.var 0) (.cons (.var 1) (.cons (.var 2) .nil))))) .nil))))
def Ik:bB:=(.cons (.asg (.nm 3) (.lst .nil)) (.cons (.dX (.fld [9] "begun" (.var 0)) (.gJ (.nm 4) (.aI (.fld [9] "begun" (.var 0)))
 (.cons (.asg (.nm 5) (.op .ix (.op .ix (.fld [9] "begun" (.var 0)) (.var 4)) (.val (.int 1)))) (.cons (.ite (.and (.cmp .gt (.var 4) (.var 1)) (.and (.cmp .eq (.op .ix (.op .ix (.fld [9] "begun" (.var 0)) (.var 4)) (.val (.int 0))) (.var 2)) (.or (.cmp .eP (.var 5) (.val .aC)) (.cmp .lt (.var 5) (.var 1)))))
 (.cons (.expr (.app (.var 3) (.var 4))) .nil)
 .nil) .nil)))) (.cons (.ret (.var 3)) .nil)))
def Iz:bB:=(.cons (.asg (.nm 3) (.dm .get (.fld [9] "kept" (.var 0)) (.cons (.var 1) .nil))) (.cons (.ite (.or (.cmp .eP (.var 3) (.val .aC)) (.cmp .isn (.op .ix (.var 3) (.val (.int 1))) (.val .aC)))
 (.cons (.raise 3 (.cons (.val (.str "no store with this ticket waits for its word")) .nil)) .nil)
 .nil) (.cons (.asg (.sub (.fld [9] "kept" (.var 0)) (.var 1)) (.tup (.cons (.op .ix (.var 3) (.val (.int 0))) (.cons (.var 2) .nil)))) .nil)))
def Ip:bB:=(.cons (.asg (.nm 4) (.dX (.fld [9] "kept" (.var 0)) (.eL [none,some 1] (.nm 0) (.aI (.fld [9] "kept" (.var 0))) (.cmp .lt (.var 0) (.var 1)) (.var 0)))) (.cons (.gJ (.nm 5) (.seq (.kc (.srt true) (.var 4)))
 (.cons (.asg (.nm 6) (.op .ix (.op .ix (.fld [9] "kept" (.var 0)) (.var 5)) (.val (.int 0)))) (.cons (.asg (.nm 7) (.op .ix (.op .ix (.fld [9] "kept" (.var 0)) (.var 5)) (.val (.int 1)))) (.cons (.ite (.and (.cmp .eP (.var 6) (.val .aC)) (.not (.var 3)))
 (.cons (.ret (.val .aC)) .nil)
 .nil) (.cons (.ite (.cmp .eq (.var 6) (.var 2))
 (.cons (.ret (.ite (.cmp .eP (.var 7) (.val .aC)) (.val .aC) (.tup (.cons (.var 5) (.cons (.var 7) .nil))))) .nil)
 .nil) .nil))))) (.cons (.ret (.tup (.cons (.val .aC) (.cons (.val .aC) .nil)))) .nil)))
def Im:bB:=(.cons (.ite (.or (.cmp .oG (.var 1) (.fld [9] "begun" (.var 0))) (.cmp .oG (.var 1) (.fld [9] "kept" (.var 0))))
 (.cons (.raise 3 (.cons (.val (.str "the ticket lies on the shelf already")) .nil)) .nil)
 .nil) (.cons (.asg (.sub (.fld [9] "begun" (.var 0)) (.var 1)) (.tup (.cons (.var 2) (.cons (.var 3) .nil)))) .nil))
def Il:bB:=(.cons (.ite (.cmp .oG (.var 1) (.fld [9] "kept" (.var 0)))
 (.cons (.expr (.dm .pop (.fld [9] "kept" (.var 0)) (.cons (.var 1) .nil))) .nil)
 (.cons (.ite (.cmp .oG (.var 1) (.fld [9] "begun" (.var 0)))
 (.cons (.expr (.dm .pop (.fld [9] "begun" (.var 0)) (.cons (.var 1) .nil))) .nil)
 (.cons (.raise 3 (.cons (.val (.str "neither a store nor a load has this ticket")) .nil)) .nil)) .nil)) .nil)
def Iy:bB:=(.cons (.asg (.nm 2) (.dX (.fld [9] "kept" (.var 0)) (.eL [none,some 1] (.nm 0) (.aI (.fld [9] "kept" (.var 0))) (.cmp .ge (.var 0) (.var 1)) (.var 0)))) (.cons (.asg (.nm 3) (.dX (.fld [9] "begun" (.var 0)) (.eL [none,some 1] (.nm 0) (.aI (.fld [9] "begun" (.var 0))) (.cmp .ge (.var 0) (.var 1)) (.var 0)))) (.cons (.gJ (.nm 4) (.seq (.var 2))
 (.cons (.expr (.dm .pop (.fld [9] "kept" (.var 0)) (.cons (.var 4) .nil))) .nil)) (.cons (.gJ (.nm 4) (.seq (.var 3))
 (.cons (.expr (.dm .pop (.fld [9] "begun" (.var 0)) (.cons (.var 4) .nil))) .nil)) (.cons (.ret (.op .add (.bi .len (.cons (.var 2) .nil)) (.bi .len (.cons (.var 3) .nil)))) .nil)))))
def Iw:bB:=(.cons (.ret (.fV [none,some 0] (.nm 0) (.seq (.kc .sd (.fld [9] "kept" (.var 0)))) (.op .add (.tup (.cons (.var 0) .nil)) (.op .ix (.fld [9] "kept" (.var 1)) (.var 0))))) .nil)
def Io:bB:=(.cons (.ret (.fV [none,some 0] (.nm 0) (.seq (.kc .sd (.fld [9] "begun" (.var 0)))) (.op .add (.tup (.cons (.var 0) .nil)) (.op .ix (.fld [9] "begun" (.var 1)) (.var 0))))) .nil)
def cB:List (Nat×Nat×bB):=[(2,2,Je),(4,4,Jl),(2,4,bx),(2,3,Jh),(1,1,Jf),(2,4,Jm),(2,2,Jn),(5,7,Js),(5,9,Jg),(3,6,Jb),(1,1,Jr),(3,5,Jd),(2,5,Jc),(4,4,Ji),(4,7,Jq),(5,6,Jp),(5,6,Jo),(3,7,Jj),(4,5,Jk),(2,2,Jt),(1,12,Ja),(1,1,Ij),(2,2,Iu),(3,4,Iq),(3,6,Ik),(3,4,Iz),(4,8,Ip),(4,4,Im),(2,2,Il),(2,5,Iy),(1,1,Iw),(1,1,Io)]
noncomputable abbrev pg:Pg:=λi=>cB[i]?
end AMx
open AM
local macro_rules | `(tactic| walk_at "am1")=>`(tactic| with_reducible first
 |refine d3 ?_|refine c9 ?_|refine wc_10_30 ?_|refine wc_10_39 ?_|refine wc_10_40 ?_|refine wc_10_59 ?_|refine wc_10_60 ?_|refine wc_10_18 ?_|refine wc_10_15 ?_|refine c8 ?_|refine t4 ?_|refine u3 ?_|refine x6 ?_|refine u5 ?_|refine u0 ?_|refine t5 ?_|refine r9 ?_|refine ws_pass ?_|refine ws_retN ?_|refine yE ?_|refine xa ?_|refine l7 ?_|refine y6 ?_|refine p9 ?_|refine q9 ?_|refine l6 ?_|refine l5 ?_|refine m7 ?_|refine m8 ?_|refine k8 ?_|refine o8 ?_|refine o7 ?_|refine o5 ?_|refine m9 ?_|refine wp_chain ?_|refine p7 ?_|refine n6 ?_|refine p5 ?_|refine k9 ?_|refine wp_get ?_|refine wt_chain ?_|refine z5 ?_|refine y3 ?_|refine z6 ?_|refine z7 ?_|refine y4 ?_|refine wt_bi ?_|refine y7 ?_|refine y8 ?_|refine u6 ?_|refine x9 ?_|refine t8 ?_|refine t9 ?_|refine wt_op ?_|refine d4 ?_|refine j7 ?_|refine g9 ?_|refine wg_le ?_|refine e8 ?_|refine d9 ?_|refine d6 ?_|refine i7 ?_|refine d7 ?_|refine i8 ?_|refine f7 ?_|refine f9 ?_|refine i6 ?_|refine j8 ?_|refine wg_tri ?_|refine wg_band ?_|refine wg_bor ?_|refine wg_bxor ?_|refine wg_inti ?_|refine f6 ?_|refine wg_min ?_|refine h9 ?_|refine o6 ?_|refine b9 ?_|refine b8 ?_|refine Hn ?_|refine b7 ?_|refine t6 ?_|refine k4 ?_|refine wi_rng1 ?_|refine wi_rng2 ?_|refine j9 ?_|refine k6 ?_|refine wi_tup ?_|refine l8 ?_|refine l9 ?_|refine b6 ?_|refine wa_ct2 ?_|refine ws_par ?_|refine m6 ?_|refine m5 ?_|refine m4 ?_|refine n9 ?_|refine n8 ?_|refine wp_isc ?_|refine wp_cmeth ?_|refine wt_fld ?_|refine wt_meth ?_|refine wt_isc ?_|refine t7 ?_|refine ws_fadd ?_|refine wp_clear ?_|refine wp_popL ?_|refine wp_zf ?_|refine wp_join ?_|refine ws_while ?_|refine n5 ?_|refine p4 ?_|refine y9 ?_|refine ws_brk ?_|refine ws_cnt ?_)
local macro_rules | `(tactic| walk_at "am")=>`(tactic| first
 |walk_at "am1"
 | ((with_reducible refine' p8 ?k1 ?_);(case k1=>exact rfl))
 | ((with_reducible refine' i4 ?k1 ?_);(case k1=>first|decide|omega|(simp only[List.length_map];omega)))
 | ((with_reducible refine' d8 ?k1 ?_);(case k1=>first|decide|rfl))
 | ((with_reducible refine' wz ?k1 ?_);(case k1=>first|decide|rfl))
 | ((with_reducible refine' i5 ?k1 ?_);(case k1=>first|decide|rfl|(apply HZ<;>omega)|(apply mulOk_l<;>omega)|(apply mulOk_big<;>omega)))
 | ((with_reducible refine' o9 ?k1 ?_);(case k1=>intro _;rfl))
 | ((with_reducible refine' wy ?k1 ?_);(case k1=>exact rfl))
 | ((with_reducible refine' g0 ?k1 ?k2 ?_);(case k1=>first|assumption|exact aX);(case k2=>exact rfl))
 | ((with_reducible refine' Xk ?k1 ?k2 ?k3 ?_);(case k1=>assumption);(case k2=>rfl);(case k3=>rfl))
 | ((with_reducible refine' wg_isc ?k1 ?k2 ?_);(case k1=>assumption);(case k2=>rfl))
 | ((with_reducible refine' ws_aug ?k1 ?_);(case k1=>exact rfl))
 | ((with_reducible refine' gS ?k1 ?k2 ?_);(case k1=>first|exact rfl|exact eU (by assumption));(case k2=>exact rfl))
 | ((with_reducible refine' Hr ?k1 ?k2 ?_);(case k1=>first|exact rfl|exact eU (by assumption));(case k2=>first|decide +kernel|rfl))
 | ((with_reducible refine' Xm ?k1 ?k2 ?_);(case k1=>first|exact rfl|exact eU (by assumption));(case k2=>first|decide +kernel|rfl))
 | ((with_reducible refine' g7 ?k1 ?_);(case k1=>first|exact rfl|exact eU (by assumption)))
 | ((with_reducible refine' wg_tuple ?k1 ?_);(case k1=>first|exact rfl|exact eU (by assumption)))
 | ((with_reducible refine' c6 ?k1 ?k2 ?_);(case k1=>exact rfl);(case k2=>exact rfl))
 | ((with_reducible refine' qY ?k1 ?_);(case k1=>exact rfl))
 | ((with_reducible refine' wg_ne ?k1 ?_);(case k1=>exact rfl)))
local macro_rules | `(tactic| walk_at "user0")=>`(tactic| fail)
local macro_rules | `(tactic| walk_at "w")=>`(tactic| repeat' walk_at "amb")
local macro_rules | `(tactic| walk_at "amb")=>`(tactic| first
 |walk_at "am"
 |with_reducible refine CI ?_
 |with_reducible refine CK ?_
 |with_reducible refine ex_zip ?_
 |with_reducible refine ex_glb ?_
 |with_reducible refine ex_si ?_
 | ((with_reducible refine' ex_rng1 ?k1 ?_);(case k1=>first|decide|(apply rng_ok<;>omega)))
 | ((with_reducible refine' CJ ?k1 ?_);(case k1=>first|decide|(simp only[List.length_cons,List.length_nil];decide)))
 | ((with_reducible refine' EY ?k1 ?_);(case k1=>first|decide|omega))
 | ((with_reducible refine' EX ?k1 ?_);(case k1=>first|decide|omega))
 | ((with_reducible refine' FC ?k1 ?_);(case k1=>first|decide|omega))
 | ((with_reducible refine' FA ?k1 ?_);(case k1=>first|decide|omega))
 |walk_at "user0"
 |with_reducible refine EW (λhc=>?_) (λhc=>?_)
 |with_reducible refine EZ (λhc=>?_) (λhc=>?_)
 |with_reducible refine if_nndec (λhc=>?_) (λhc=>?_)
 |with_reducible refine if_bne (λhc=>?_) (λhc=>?_)
 | ((with_reducible refine' Ah ?k1 ?_);(case k1=>first|decide +kernel|exact rfl))
 | ((with_reducible refine' Ag ?k1 ?_);(case k1=>first|decide +kernel|exact rfl))
 |walk_at "user"
 |fail)
namespace AMx
open PySem PySem.Spec PyProof.Rows L2 AM
structure Row where
 t:Int
 p:Option Int
 w:Option Int
def oV:Option Int->AV
 |none=>.aC
 |some i=>.int i
def rV(r:Row):AV:=.tup [.int r.t,oV r.p,oV r.w]
def dV(r:Row):aD×AV:=(.inl r.t,.tup [oV r.p,oV r.w])
def dI(rs:List Row):Prop:=(rs.map (·.t)).Pairwise (·<·)
def Nd(rs:List Row):Prop:=(rs.map (·.t)).Nodup
theorem dI.nd{rs:List Row}(h:dI rs):Nd rs:=List.Pairwise.imp (λh=>by omega) h
theorem sX{p:Option Int}{x:Int}:sW (oV p) (.int x)=some (decide (p=some x)):=by
 cases p with
 |none=>rfl|some i=>show some (decide (i=x))=_;congr 1;simp
theorem lH{rs:List Row}(hi:Nd rs){r:Row}(hr:r∈rs):bU (rs.map dV) (.inl r.t)=some (.tup [oV r.p,oV r.w]):=by
 induction rs with
 |nil=>cases hr|cons q rs ih=>
  unfold Nd at hi;rw[List.map_cons,List.nodup_cons]at hi;unfold bU;rw[List.map_cons,List.find?_cons];rcases List.mem_cons.mp hr with e|hr'
  .subst e;simp[dV]
  .have hne:decide ((dV q).1=Sum.inl r.t)=false:=by apply decide_eq_false;intro z;have e:q.t=r.t:=Sum.inl.inj z;exact hi.1 (by rw[e];exact List.mem_map.mpr ⟨r,hr',rfl⟩)
   rw[hne];exact ih hi.2 hr'
theorem a7{rs:List Row}{x:Int}(h:∀r∈rs,r.t≠x):bU (rs.map dV) (.inl x)=none:=by unfold bU;rw[Option.map_eq_none_iff,List.find?_eq_none];intro kv hk;obtain⟨r,hr,rfl⟩:=List.mem_map.mp hk;simp only[decide_eq_true_eq];intro z;exact h r hr (Sum.inl.inj z)
theorem Pt{rs:List Row}{x:Int}{p w:Option Int}(h:∀r∈rs,r.t≠x):jB (rs.map dV) (.inl x) (.tup [oV p,oV w])=(rs++[(⟨x,p,w⟩:Row)]).map dV:=by
 unfold jB;rw[if_neg]
 .rw[List.map_append];rfl
 .intro z;rw[List.any_eq_true]at z;obtain⟨kv,hk,e⟩:=z;obtain⟨r,hr,rfl⟩:=List.mem_map.mp hk;exact h r hr (Sum.inl.inj (of_decide_eq_true e))
def cP(r':Row)(rs:List Row):List Row:=rs.map λr=>if r.t=r'.t then r' else r
theorem Vm{r':Row}{rs:List Row}:(cP r' rs).map (·.t)=rs.map (·.t):=by unfold cP;rw[List.map_map];refine List.map_congr_left λr _=>?_;show(if r.t=r'.t then r' else r).t=r.t;split<;>simp_all
theorem Pq{rs:List Row}{r:Row}(hr:r∈rs){p w:Option Int}:jB (rs.map dV) (.inl r.t) (.tup [oV p,oV w])=(cP ⟨r.t,p,w⟩ rs).map dV:=by
 unfold jB cP;rw[if_pos (List.any_eq_true.mpr ⟨dV r,List.mem_map.mpr ⟨r,hr,rfl⟩,decide_eq_true rfl⟩),List.map_map,List.map_map];refine List.map_congr_left λs _=>?_;show(if(dV s).1=Sum.inl r.t then((dV s).1,_) else dV s)=dV (if s.t=r.t then _ else s);by_cases e:s.t=r.t
 .rw[if_pos (show(dV s).1=Sum.inl r.t from congrArg Sum.inl e),if_pos e];show(Sum.inl s.t,_)=_;rw[e];rfl
 .rw[if_neg (show¬(dV s).1=Sum.inl r.t from λz=>e (Sum.inl.inj z)),if_neg e]
theorem lg{r':Row}{rs:List Row}(hi:dI rs):dI (cP r' rs):=by unfold dI;rw[Vm];exact hi
theorem lr{r':Row}{rs:List Row}:(cP r' rs).length=rs.length:=List.length_map ..
theorem kx{f:Row->Bool}{rs:List Row}(hi:dI rs):dI (rs.filter f):=List.Pairwise.sublist (List.filter_sublist.map _) hi
theorem dt{f:Row->Bool}{rs:List Row}(hi:Nd rs):Nd (rs.filter f):=List.Pairwise.sublist (List.filter_sublist.map _) hi
def cC(t:Int)(r:Row):Bool:=decide (r.t≠t)
theorem yz{rs:List Row}{t:Int}:pR (rs.map dV) (.inl t)=(rs.filter (cC t)).map dV:=by
 unfold pR;rw[List.filter_map];congr 1
 refine List.filter_congr λr _=>?_;show decide ((Sum.inl r.t:aD)≠Sum.inl t)=decide (r.t≠t);refine decide_eq_decide.mpr ⟨λh z=>h (congrArg _ z),λh z=>h (Sum.inl.inj z)⟩
theorem FH{rs:List Row}(hi:dI rs){x:Int}(h:∀r∈rs,r.t<x){p w:Option Int}:dI (rs++[(⟨x,p,w⟩:Row)]):=by
 unfold dI at *;rw[List.map_append,List.pairwise_append];refine⟨hi,by simp,λa ha b hb=>?_⟩;obtain⟨r,hr,rfl⟩:=List.mem_map.mp ha;have:b=x:=by simpa using hb
 subst this;exact h r hr
def fU(t pl:Int)(r:Row):Bool:=decide (t<r.t)&&(decide (r.p=some pl)&&(match r.w with
 |none=>true
 |some g=>decide (g<t)))
def vO(t pl:Int)(ls:List Row):Option Int:=(ls.find? (fU t pl)).map (·.t)
theorem HM{lb ls:List Row}(pm:lb.Perm ls)(hi:dI ls){b:Row->Bool}:(if((lb.filter b).map (·.t)).isEmpty then AV.aC else .int (lW ((lb.filter b).map (·.t))))=oV ((ls.find? b).map (·.t)):=by
 cases e:ls.find? b with
 |none=>
  have:lb.filter b=[]:=by rw[List.filter_eq_nil_iff];intro x hx;have:=List.find?_eq_none.mp e x (pm.mem_iff.mp hx);simpa using this
  rw[this];rfl
 |some r=>
  obtain⟨hb,as,bs,e1,h1⟩:=List.find?_eq_some_iff_append.mp e;have hr:r∈lb.filter b:=List.mem_filter.mpr ⟨pm.mem_iff.mpr (by rw[e1];simp),hb⟩;have hne:((lb.filter b).map (·.t)).isEmpty=false:=by
   cases q:lb.filter b with
   |nil=>rw[q]at hr;cases hr|cons _ _=>rfl
  rw[hne];have:r.t=lW ((lb.filter b).map (·.t)):=by
   refine Ou (List.mem_map.mpr ⟨r,hr,rfl⟩) λx hx=>?_;obtain⟨y,hy,rfl⟩:=List.mem_map.mp hx;obtain⟨hy1,hy2⟩:=List.mem_filter.mp hy;have hy3:=pm.mem_iff.mp hy1;rw[e1]at hy3;unfold dI at hi;rw[e1,List.map_append,List.map_cons,List.pairwise_append,List.pairwise_cons]at hi;rcases List.mem_append.mp hy3 with z|z
   .have:=h1 y z;rw[hy2]at this;cases this
   .rcases List.mem_cons.mp z with z|z
    .rw[z];exact Int.le_refl _
    .have:=hi.2.1.1 y.t (List.mem_map.mpr ⟨y,z,rfl⟩);omega
  show AV.int _=AV.int _;rw[<- this]
structure Sh(h:AH)(a:Nat)(rs lb:List Row):Prop where
 oa:h.ob a=some (.ins 9 [("kept",.ref (a+1)),("begun",.ref (a+2))])
 ok:h.ob (a+1)=some (.aI (rs.map dV))
 ob:h.ob (a+2)=some (.aI (lb.map dV))
 lt:a+2<h.nx
 inc:dI rs
 nd:Nd lb
 cV:rs.length+lb.length<64
theorem Sh.kp{h h':AH}{a:Nat}{rs lb:List Row}(s:Sh h a rs lb)(k:Kp h h'):Sh h' a rs lb:=
 ⟨k.get (by have:=s.lt;omega) s.oa,k.get (by have:=s.lt;omega) s.ok,k.get (by have:=s.lt;omega) s.ob,by have:=k.nx;have:=s.lt;omega,s.inc,s.nd,s.cV⟩
structure Ka(a:Nat)(h h':AH):Prop where
 nx:h.nx<=h'.nx
 ob:∀n,n<h.nx->n≠a+1->n≠a+2->h'.ob n=h.ob n
theorem oN{a:Nat}{h h':AH}(k:Kp h h'):Ka a h h':=⟨k.nx,λn hn _ _=>k.ob n hn⟩
theorem Ka.trans{a:Nat}{h h' h'':AH}(x:Ka a h h')(y:Ka a h' h''):Ka a h h'':=⟨Nat.le_trans x.nx y.nx,λn hn a1 a2=>(y.ob n (Nat.lt_of_lt_of_le hn x.nx) a1 a2).trans (x.ob n hn a1 a2)⟩
theorem Ow{k:Nat}{c i b p:Int}{h:AH}{R:AV->AH->Prop}(h0:0<=i)(h1:i<1000)(hb:0<b/\b<100000)(hp:0<p)(q:∀z,0<=z->z<p->R (.int z) h):Wp (run pg (k+1) DL [.int c,.int i,.int b,.int p]) h R:=by
 refine cJ rfl rfl ?_;unfold Jl;walk_at "w"
 exact q _ (Int.emod_nonneg _ (by omega)) (Int.emod_lt_of_pos _ hp)
theorem ym{k:Nat}{ns:List Int}{i:Int}{bb:Bool}{n:Nat}{h:AH}{R:AV->AH->Prop}(hn:h.ob n=some (.lst bb (ns.map AV.int)))(h0:0<=i)(q:∀z,R (.int z) h):Wp (run pg (k+1) DF [.ref n,.int i]) h R:=by
 refine cJ rfl rfl ?_;unfold Je;walk_at "w"
 .rename_i hc;refine gS (eU hn) (Yd h0 hc) ?_;exact q _
 .exact q _
theorem qD{p:Option Int}{A B:Prop}(h1:p=none->A)(h2:∀i,p=some i->B):if iH (oV p)=true then A else B:=by
 cases p with
 |none=>exact h1 rfl|some i=>exact h2 i rfl
theorem qC{p:Option Int}{A B:Prop}(h1:∀i,p=some i->A)(h2:p=none->B):if(!iH (oV p))=true then A else B:=by
 cases p with
 |none=>exact h2 rfl|some i=>exact h1 i rfl
theorem bu{k:Nat}{o:Option Int}{h:AH}{R:AV->AH->Prop}(q:R (.bl true) h):Wp (run pg (k+1) ck [oV o,oV o]) h R:=by
 refine cJ rfl rfl ?_;unfold bx;cases o with
 |none=>
  show Wt _ (aW _ _ [some .aC,some .aC,none,none]) _ _ _ _ _;walk_at "w"
  exact q
 |some i=>
  show Wt _ (aW _ _ [some (.int i),some (.int i),none,none]) _ _ _ _ _;walk_at "w"
  rw[decide_eq_true rfl];exact q
theorem Xx{k:Nat}{r:Row}{h:AH}{R:AV->AH->Prop}(q:R (.bl true) h):Wp (run pg (k+2) ck [rV r,rV r]) h R:=by
 obtain⟨t,p,w⟩:=r;refine cJ rfl rfl ?_;unfold bx;show Wt _ (aW _ _ [some (.tup [oV (some t),oV p,oV w]),some (.tup [oV (some t),oV p,oV w]),none,none]) _ _ _ _ _;walk_at "w"
 refine⟨_,_,_,_,rfl,rfl,rfl,?_⟩;refine Mg (xs:=[oV (some t),oV p,oV w]) (ys:=[oV (some t),oV p,oV w]) (λi U h'=>h'=h/\∃a b,U=[some (.tup [oV (some t),oV p,oV w]),some (.tup [oV (some t),oV p,oV w]),a,b]) rfl (by rw[fJ];show 3<1000000;decide) ⟨rfl,_,_,rfl⟩ ?_ ?_
 .rintro i x y U h' e1 e2 ⟨rfl,a,b,rfl⟩
  rw[e1]at e2;cases e2;obtain⟨o,rfl⟩:∃o,x=oV o:=by have:=List.mem_of_getElem? e1;simp only[List.mem_cons,List.not_mem_nil,or_false]at this;rcases this with rfl|rfl|rfl<;>exact⟨_,rfl⟩
  walk_at "w"
  refine bu (k:=k) ?_;walk_at "w"
  exact⟨rfl,_,_,rfl⟩
 .rintro U h' ⟨rfl,a,b,rfl⟩
  walk_at "w"
  exact q
theorem Hz{k n1 n2:Nat}{rs:List Row}{h:AH}{R:AV->AH->Prop}(h1:h.ob n1=some (.lst true (rs.map rV)))(h2:h.ob n2=some (.lst true (rs.map rV)))(hl:rs.length<64)(q:R (.bl true) h):Wp (run pg (k+3) ck [.ref n1,.ref n2]) h R:=by
 refine cJ rfl rfl ?_;unfold bx;have t1:pM h (.ref n1)=some .lst:=by simp only[pM,h1]
 have t2:pM h (.ref n2)=some .lst:=by simp only[pM,h2]
 walk_at "w"
 refine wy t2 ?_;walk_at "w"
 refine wy t2 ?_;walk_at "w"
 refine wy t1 ?_;walk_at "w"
 refine⟨_,_,_,_,rfl,Mp h1,Mp h2,?_⟩;refine DY (xs:=rs.map rV) (ys:=rs.map rV) (λi U h'=>h'=h/\∃a b,U=[some (.ref n1),some (.ref n2),a,b]) rfl (by rw[List.length_map,fJ];omega) ⟨rfl,_,_,rfl⟩ (λi U h' z=>by rw[z.1];exact⟨h1,h2⟩) ?_ ?_
 .rintro i x y U h' e1 e2 ⟨rfl,a,b,rfl⟩
  rw[e1]at e2;cases e2;obtain⟨r,_,rfl⟩:=kF e1;walk_at "w"
  refine Xx (k:=k) ?_;walk_at "w"
  exact⟨rfl,_,_,rfl⟩
 .rintro U h' ⟨rfl,a,b,rfl⟩
  walk_at "w"
  exact q
def Fm(v:AV):Prop:=v = .aC\/v = .tup [.aC,.aC]\/∃t w:Int,v = .tup [.int t,.int w]
theorem Xy{k:Nat}{v:AV}{h:AH}{R:AV->AH->Prop}(hv:Fm v)(q:R (.bl true) h):Wp (run pg (k+2) ck [v,v]) h R:=by
 have qW:∀{x y:Option Int},v = .tup [oV x,oV y]->Wp (run pg (k+2) ck [v,v]) h R:=λ{x y} e=>by
  subst e;refine cJ rfl rfl ?_;unfold bx;show Wt _ (aW _ _ [some (.tup [oV x,oV y]),some (.tup [oV x,oV y]),none,none]) _ _ _ _ _;walk_at "w"
  refine⟨_,_,_,_,rfl,rfl,rfl,?_⟩;refine Mg (xs:=[oV x,oV y]) (ys:=[oV x,oV y]) (λi U h'=>h'=h/\∃a b,U=[some (.tup [oV x,oV y]),some (.tup [oV x,oV y]),a,b]) rfl (by rw[fJ];show 2<1000000;decide) ⟨rfl,_,_,rfl⟩ ?_ ?_
  .rintro i u y U h' e1 e2 ⟨rfl,a,b,rfl⟩
   rw[e1]at e2;cases e2;obtain⟨o,rfl⟩:∃o,u=oV o:=by have:=List.mem_of_getElem? e1;simp only[List.mem_cons,List.not_mem_nil,or_false]at this;rcases this with rfl|rfl<;>exact⟨_,rfl⟩
   walk_at "w"
   refine bu (k:=k) ?_;walk_at "w"
   exact⟨rfl,_,_,rfl⟩
  .rintro U h' ⟨rfl,a,b,rfl⟩
   walk_at "w"
   exact q
 rcases hv with rfl|rfl|⟨t,w,rfl⟩
 .exact bu (k:=k+1) (o:=none) q
 .exact qW (x:=none) (y:=none) rfl
 .exact qW (x:=some t) (y:=some w) rfl
local macro_rules | `(tactic| walk_at "am1")=>`(tactic| with_reducible refine c0 ?_)
local macro_rules | `(tactic| walk_at "user0")=>`(tactic| first
 | ((with_reducible refine qD (λhn=>?_) (λi hn=>?_))<;>subst hn)
 | ((with_reducible refine qC (λi hn=>?_) (λhn=>?_))<;>subst hn))
local macro_rules | `(tactic| walk_at "user")=>`(tactic| first
 | (with_reducible refine qY sX ?_)
 | ((with_reducible refine' g6 ?k1 ?k2 ?k3 ?_);(case k1=>assumption);(case k2=>rfl);(case k3=>assumption))
 | ((with_reducible refine' e9 ?k1 ?k2 ?_);(case k1=>assumption);(case k2=>rfl)))
theorem CL{α:Type}{Xc:Nat->AH->Prop}{m:M α}{h:AH}{Q:α->AH->Prop}(w:Wp m h Q):We Xc m h Q:=by obtain⟨v,h',e,q⟩:=AM.We.ex w;unfold We;rw[e];exact q
theorem Aq{F:AM.Run}{h:AH}{a:Nat}{rs lb:List Row}{U:aA}(s:Sh h a rs lb)(e:U[0]?=some (some (.ref a))):aB F (.fld [9] "kept" (.var 0)) U h = .ok (.ref (a+1)) h:=zq (Hm e) s.oa rfl rfl
theorem Yh{F:AM.Run}{h:AH}{a:Nat}{rs lb:List Row}{U:aA}(s:Sh h a rs lb)(e:U[0]?=some (some (.ref a))):aB F (.fld [9] "begun" (.var 0)) U h = .ok (.ref (a+2)) h:=zq (Hm e) s.oa rfl rfl
theorem iy{rs:List Row}{x:Int}(hd:Nd rs)(h:∃r∈rs,r.t=x):(bU (rs.map dV) (.inl x)).isSome=true:=by obtain⟨r,hr,rfl⟩:=h;rw[lH hd hr];rfl
theorem xZ{rs:List Row}{x:Int}(h:¬ ∃r∈rs,r.t=x):bU (rs.map dV) (.inl x)=none:=a7 λr hr e=>h ⟨r,hr,e⟩
theorem Ig{x:Int}{rs:List Row}:((rs.map λr=>decide (r.t ≥ x)).any id=true)↔∃r∈rs,x<=r.t:=by rw[List.any_map,List.any_eq_true];simp
theorem XX{Xc:Nat->AH->Prop}{k a:Nat}{rs lb:List Row}{x:Int}{h:AH}{R:AV->AH->Prop}(s:Sh h a rs lb)(hl:rs.length+lb.length<63)(q1:(¬ ∃r∈rs,x<=r.t)->(¬ ∃r∈lb,r.t=x)->∀h',Ka a h h'->Sh h' a (rs++[⟨x,none,none⟩]) lb->R .aC h')
  (q2:((∃r∈rs,x<=r.t)\/∃r∈lb,r.t=x)->∀h',Kp h h'->Xc 3 h'):We Xc (run pg (k+1) CW [.ref a,.int x]) h R:=by
 have lt:=s.lt;have oa:=s.oa;have ok:=s.ok;have ob:=s.ob;have big:=gP;refine cJ rfl rfl ?_;unfold Iu;walk_at "w"
 by_cases hb:∃r∈lb,r.t=x
 .rw[iy s.nd hb];walk_at "w"
  exact q2 (.inr hb) _ .refl
 rw[xZ hb];walk_at "w"
 refine p6 (Aq s rfl) ok (by omega) ?_;refine Zj (λj ys U h'=>(∃v0,U=[v0,some (.int x)])/\ys=((rs.take j).map λr=>decide (r.t ≥ x)).map AV.bl/\j<=rs.length/\h'=h.put (a+1) (.bM (rs.map dV))) (by rw[List.length_map,List.length_map,fJ];omega) ⟨⟨_,rfl⟩,rfl,by omega,rfl⟩ (λj y ys U h' hy ⟨⟨v0,e1⟩,e2,e3,e4⟩=>?_) (λys U h' ⟨⟨v0,e1⟩,e2,e3,e4⟩=>?_)
 .subst e1 e4;rw[List.getElem?_map,List.getElem?_map]at hy;cases hr:rs[j]? with
  |none=>rw[hr]at hy;cases hy|some r=>
   rw[hr]at hy;have hy':(dV r).1=y:=Option.some.inj hy;subst hy';have hj:=(List.getElem?_eq_some_iff.mp hr).1;have hlt:(rs.take j).length<=rs.length:=by rw[List.length_take];omega
   rw[show oI (dV r).1 = .int r.t from rfl];walk_at "w"
   refine⟨by rw[e2,List.length_map,List.length_map];omega,⟨_,rfl⟩,?_,by omega,rfl⟩;rw[e2,List.take_add_one,hr,List.map_append,List.map_append];rfl
 .subst e1 e4;refine⟨rfl,?_⟩;have et:rs.take (List.map (λx=>x.1) (List.map dV rs)).length=rs:=by simp
  rw[et]at e2;subst e2;walk_at "w"
  refine d5 aX ?_;generalize eh:h.new _=h1;have kp:Kp h h1:=by rw[<- eh];exact Kp.refl.new
  have s1:=s.kp kp;clear oa ok ob eh;have oa:=s1.oa;by_cases hs:∃r∈rs,x<=r.t
  .rw[Ig.mpr hs];walk_at "w"
   exact q2 (.inl hs) _ kp
  .rw[Bool.eq_false_iff.mpr λz=>hs (Ig.mp z)];walk_at "w"
   refine⟨_,_,_,rfl,rfl,s1.ok,by rw[List.length_map];omega,?_⟩;walk_at "w"
   have hx:∀r∈rs,r.t<x:=λr hr=>Int.lt_of_not_ge λz=>hs ⟨r,hr,z⟩;rw[show(AV.tup [.aC,.aC])=AV.tup [oV none,oV none] from rfl,Pt (λr hr=>by have:=hx r hr;omega)];have ka:Ka a h (h1.put (a+1) (.aI ((rs++[(⟨x,none,none⟩:Row)]).map dV))):=⟨kp.nx,λn hn ne _=>(bW ne).trans (kp.ob n hn)⟩;exact q1 hs hb _ ka ⟨(bW (by omega)).trans s1.oa,jC,(bW (by omega)).trans s1.ob,s1.lt,FH s.inc hx,s.nd,by rw[List.length_append,List.length_singleton];omega⟩
theorem Yj{k a:Nat}{rs lb:List Row}{x pl:Int}{h:AH}{R:AV->AH->Prop}(s:Sh h a rs lb)(q:∀h',Kp h h'->h'.ob h.nx=some (.lst true (((lb.filter (fU x pl)).map (·.t)).map AV.int))->R (.ref h.nx) h'):Wp (run pg (k+1) CO [.ref a,.int x,.int pl]) h R:=by
 have lt:=s.lt;have cV:=s.cV;have big:=gP;refine cJ rfl rfl ?_;unfold Ik;walk_at "w"
 have s1:=s.kp (Kp.refl.new (o:=.lst true []));refine x8 (n:=a+2) (zq (Hm rfl) s1.oa rfl rfl) s1.ob ?_;refine DW (λj U h'=>(∃v4 v5,U=[some (.ref a),some (.int x),some (.int pl),some (.ref h.nx),v4,v5])/\h'.ob h.nx=some (.lst true ((((lb.take j).filter (fU x pl)).map (·.t)).map AV.int))/\h'.ob (a+2)=some (.bM (lb.map dV))/\h'.nx=h.nx+1/\∀i,i<h.nx->i≠a+2->h'.ob i=h.ob i)
  (by rw[List.length_map,List.length_map,fJ];omega) ⟨⟨_,_,rfl⟩,(bW (by omega)).trans aX,jC,rfl,λi hi ne=>(bW ne).trans (eA (by omega))⟩ (λj ky U h' hk ⟨⟨v4,v5,e1⟩,e2,e3,e4,e5⟩=>?_) (λU h' ⟨⟨v4,v5,e1⟩,e2,e3,e4,e5⟩=>?_)
 .subst e1;rw[List.getElem?_map,List.getElem?_map]at hk;cases hr:lb[j]? with
  |none=>rw[hr]at hk;cases hk|some r=>
   rw[hr]at hk;have hk':(dV r).1=ky:=Option.some.inj hk;subst hk';have et:lb.take (j+1)=lb.take j++[r]:=by rw[List.take_add_one,hr];rfl
   have hv:=lH s.nd (List.mem_of_getElem? hr);have oa:=(e5 a (by omega) (by omega)).trans s.oa;have hlen:((((lb.take j).filter (fU x pl)).map (·.t)).map AV.int).length<sizeLine:=by
    have h1:=List.length_filter_le (fU x pl) (lb.take j);have h2:(lb.take j).length<=lb.length:=by rw[List.length_take];omega
    rw[List.length_map,List.length_map];omega
   rw[show oI (dV r).1 = .int r.t from rfl];have pos:fU x pl r=true->(((lb.take (j+1)).filter (fU x pl)).map (·.t)).map AV.int=(((lb.take j).filter (fU x pl)).map (·.t)).map AV.int++[AV.int r.t]:=λz=>by rw[et,List.filter_append,List.filter_cons,if_pos z];simp
   have neg:fU x pl r=false->(((lb.take (j+1)).filter (fU x pl)).map (·.t)).map AV.int=(((lb.take j).filter (fU x pl)).map (·.t)).map AV.int:=λz=>by rw[et,List.filter_append,List.filter_cons,if_neg (by rw[z];decide)];simp
   clear et hk hr;generalize (((lb.take (j+1)).filter (fU x pl)).map (·.t)).map AV.int=l1 at *;generalize (((lb.take j).filter (fU x pl)).map (·.t)).map AV.int=l0 at *;obtain⟨t,p,w⟩:=r;unfold fU at pos neg;dsimp only at hv pos neg ⊢;have yes:l1=l0++[AV.int t]->∀(b4 b5:Option AV),(∃v4 v5,[some (AV.ref a),some (.int x),some (.int pl),some (.ref h.nx),b4,b5]=[some (.ref a),some (.int x),some (.int pl),some (.ref h.nx),v4,v5])/\(h'.put h.nx (.lst true (l0++[AV.int t]))).ob h.nx=some (.lst true l1)/\(h'.put h.nx (.lst true (l0++[AV.int t]))).ob (a+2)=some (.bM (lb.map dV))/\(h'.put h.nx (.lst true (l0++[AV.int t]))).nx=h.nx+1/\∀i,i<h.nx->i≠a+2->(h'.put h.nx (.lst true (l0++[AV.int t]))).ob i=h.ob i:=λz b4 b5=>
    ⟨⟨_,_,rfl⟩,by rw[z];exact jC,(bW (by omega)).trans e3,e4,λi hi ne=>(bW (by omega)).trans (e5 i hi ne)⟩
   have no:l1=l0->∀(b4 b5:Option AV),(∃v4 v5,[some (AV.ref a),some (.int x),some (.int pl),some (.ref h.nx),b4,b5]=[some (.ref a),some (.int x),some (.int pl),some (.ref h.nx),v4,v5])/\h'.ob h.nx=some (.lst true l1)/\h'.ob (a+2)=some (.bM (lb.map dV))/\h'.nx=h.nx+1/\∀i,i<h.nx->i≠a+2->h'.ob i=h.ob i:=λz b4 b5=>⟨⟨_,_,rfl⟩,by rw[z];exact e2,e3,e4,e5⟩;walk_at "w"
   .rename_i h1 h2;refine⟨by simp only[wF,e2],?_⟩;walk_at "w"
    refine Xh e2 hlen ?_;walk_at "w"
    exact yes (pos (by simp[h1,h2])) _ _
   .rename_i h1 h2 g;show We _ (Cp.lt.g (.int g) (.int x)) _ _;walk_at "w"
    .rename_i h3;refine⟨by simp only[wF,e2],?_⟩;walk_at "w"
     refine Xh e2 hlen ?_;walk_at "w"
     exact yes (pos (by simp[h1,h2,h3])) _ _
    .rename_i h3;exact no (neg (by simp[h3])) _ _
   .rename_i h1 h2;exact no (neg (by simp[h2])) _ _
   .rename_i h1;exact no (neg (by simp[h1])) _ _
 .subst e1;refine⟨e3,?_⟩;have et:lb.take (List.map (λx=>x.1) (List.map dV lb)).length=lb:=by simp
  rw[et]at e2;walk_at "w"
  refine q _ ⟨by rw[NT];omega,λi hi=>?_⟩ ((bW (by omega)).trans e2);by_cases e:i=a+2
  .subst e;exact jC.trans s.ob.symm
  .exact(bW e).trans (e5 i hi e)
theorem MO{Xc:Nat->AH->Prop}{k a:Nat}{rs lb ls:List Row}{t pl:Int}{h:AH}{R:AV->AH->Prop}(s:Sh h a rs lb)(pm:lb.Perm ls)(il:dI ls)(q1:∀r∈rs,r.t=t->r.p=none->∀h',Ka a h h'->Sh h' a (cP ⟨t,some pl,r.w⟩ rs) lb->R (oV (vO t pl ls)) h')
  (q2:(∀r∈rs,r.t=t->r.p≠none)->Xc 3 h):We Xc (run pg (k+2) CV [.ref a,.int t,.int pl]) h R:=by
 have lt:=s.lt;have oa:=s.oa;have ok:=s.ok;have cV:=s.cV;have big:=gP;refine cJ rfl rfl ?_;unfold Iq;walk_at "w"
 refine⟨cj ok,?_⟩;walk_at "w"
 refine Xj ok rfl ?_;by_cases hx:∃r∈rs,r.t=t
 .obtain⟨⟨t',p,w⟩,hr,e⟩:=hx;dsimp only at e;subst e;have hv:=lH s.inc.nd hr;dsimp only at hv;rw[hv];show Wt _ (aW _ _ [some (.ref a),some (.int t'),some (.int pl),some (.tup [oV p,oV w])]) _ _ _ _ _;walk_at "w"
  .refine q2 λr hr' e z=>?_;have:=lH s.inc.nd hr';rw[e,hv,z]at this;exact absurd (Option.some.inj this) (by simp[oV])
  .refine⟨_,_,_,rfl,rfl,ok,by rw[List.length_map];omega,?_⟩;have hp:=Pq hr (p:=some pl) (w:=w);rw[show jB (rs.map dV) (Sum.inl t') (.tup [.int pl,oV w])=(cP ⟨t',some pl,w⟩ rs).map dV from hp];have ka:Ka a h (h.put (a+1) (.aI ((cP ⟨t',some pl,w⟩ rs).map dV))):=⟨Nat.le_refl _,λn hn ne _=>bW ne⟩;have s2:Sh (h.put (a+1) (.aI ((cP ⟨t',some pl,w⟩ rs).map dV))) a (cP ⟨t',some pl,w⟩ rs) lb:=⟨(bW (by omega)).trans s.oa,jC,(bW (by omega)).trans s.ob,lt,lg s.inc,s.nd,by rw[lr];omega⟩;generalize h.put (a+1) (.aI ((cP ⟨t',some pl,w⟩ rs).map dV))=h2 at *;have oa2:=s2.oa;walk_at "w"
   refine⟨a,9,_,24,rfl,oa2,rfl,rfl,?_⟩;walk_at "w"
   refine CL (Yj s2 λh3 kp o3=>?_);refine i3 o3 ?_;rw[HM pm il];exact q1 _ hr rfl rfl _ (ka.trans (oN kp)) (s2.kp kp)
 .rw[xZ hx];show Wt _ (aW _ _ [some (.ref a),some (.int t),some (.int pl),some .aC]) _ _ _ _ _;walk_at "w"
  exact q2 λr hr e=>absurd ⟨r,hr,e⟩ hx
theorem k7{Xc:Nat->AH->Prop}{k a:Nat}{rs lb:List Row}{t wd:Int}{h:AH}{R:AV->AH->Prop}(s:Sh h a rs lb)(q1:∀r∈rs,r.t=t->r.w=none->∀h',Ka a h h'->Sh h' a (cP ⟨t,r.p,some wd⟩ rs) lb->R .aC h')
  (q2:(∀r∈rs,r.t=t->r.w≠none)->Xc 3 h):We Xc (run pg (k+1) DA [.ref a,.int t,.int wd]) h R:=by
 have lt:=s.lt;have oa:=s.oa;have ok:=s.ok;have cV:=s.cV;have big:=gP;refine cJ rfl rfl ?_;unfold Iz;walk_at "w"
 refine⟨cj ok,?_⟩;walk_at "w"
 refine Xj ok rfl ?_;by_cases hx:∃r∈rs,r.t=t
 .obtain⟨⟨t',p,w⟩,hr,e⟩:=hx;dsimp only at e;subst e;have hv:=lH s.inc.nd hr;dsimp only at hv;rw[hv];show Wt _ (aW _ _ [some (.ref a),some (.int t'),some (.int wd),some (.tup [oV p,oV w])]) _ _ _ _ _;walk_at "w"
  .refine q2 λr hr' e z=>?_;have:=lH s.inc.nd hr';rw[e,hv,z]at this;exact absurd (Option.some.inj this) (by simp[oV])
  .refine⟨_,_,_,rfl,rfl,ok,by rw[List.length_map];omega,?_⟩;have hp:=Pq hr (p:=p) (w:=some wd);rw[show jB (rs.map dV) (Sum.inl t') (.tup [oV p,.int wd])=(cP ⟨t',p,some wd⟩ rs).map dV from hp];walk_at "w"
   exact q1 _ hr rfl rfl _ ⟨Nat.le_refl _,λn hn ne _=>bW ne⟩ ⟨(bW (by omega)).trans s.oa,jC,(bW (by omega)).trans s.ob,lt,lg s.inc,s.nd,by rw[lr];omega⟩
 .rw[xZ hx];show Wt _ (aW _ _ [some (.ref a),some (.int t),some (.int wd),some .aC]) _ _ _ _ _;walk_at "w"
  exact q2 λr hr e=>absurd ⟨r,hr,e⟩ hx
theorem GZ{Xc:Nat->AH->Prop}{k a:Nat}{rs lb:List Row}{x pl:Int}{g:Option Int}{h:AH}{R:AV->AH->Prop}(s:Sh h a rs lb)(hl:rs.length+lb.length<63)(q1:(¬ ∃r∈rs,r.t=x)->(¬ ∃r∈lb,r.t=x)->∀h',Ka a h h'->Sh h' a rs (lb++[⟨x,some pl,g⟩])->R .aC h')
  (q2:((∃r∈rs,r.t=x)\/∃r∈lb,r.t=x)->Xc 3 h):We Xc (run pg (k+1) CQ [.ref a,.int x,.int pl,oV g]) h R:=by
 have lt:=s.lt;have oa:=s.oa;have ok:=s.ok;have ob:=s.ob;have big:=gP;refine cJ rfl rfl ?_;unfold Im;walk_at "w"
 by_cases hb:∃r∈lb,r.t=x
 .rw[iy s.nd hb];walk_at "w"
  exact q2 (.inr hb)
 rw[xZ hb];walk_at "w"
 by_cases hs:∃r∈rs,r.t=x
 .rw[iy s.inc.nd hs];walk_at "w"
  exact q2 (.inl hs)
 rw[xZ hs];walk_at "w"
 refine⟨_,_,_,rfl,rfl,ob,by rw[List.length_map];omega,?_⟩;walk_at "w"
 have hy:∀r∈lb,r.t≠x:=λr hr e=>hb ⟨r,hr,e⟩;rw[show(AV.tup [.int pl,oV g])=AV.tup [oV (some pl),oV g] from rfl,Pt hy];refine q1 hs hb _ ⟨Nat.le_refl _,λn hn _ ne=>bW ne⟩ ⟨(bW (by omega)).trans s.oa,(bW (by omega)).trans s.ok,jC,lt,s.inc,?_,by rw[List.length_append,List.length_singleton];omega⟩;unfold Nd;rw[List.map_append,List.nodup_append];refine⟨s.nd,by simp,λu hu v hv=>?_⟩;have:v=x:=by simpa using hv
 subst this;obtain⟨r,hr,rfl⟩:=List.mem_map.mp hu;exact hy r hr
theorem lV{f:Row->Bool}{rs:List Row}:(rs.filter f).length<=rs.length:=List.length_filter_le _ _
theorem GV{Xc:Nat->AH->Prop}{k a:Nat}{rs lb:List Row}{x:Int}{h:AH}{R:AV->AH->Prop}(s:Sh h a rs lb)(q1:(∃r∈rs,r.t=x)->∀h',Ka a h h'->Sh h' a (rs.filter (cC x)) lb->R .aC h')(q2:(¬ ∃r∈rs,r.t=x)->(∃r∈lb,r.t=x)->∀h',Ka a h h'->Sh h' a rs (lb.filter (cC x))->R .aC h')
  (q3:(¬ ∃r∈rs,r.t=x)->(¬ ∃r∈lb,r.t=x)->Xc 3 h):We Xc (run pg (k+1) CP [.ref a,.int x]) h R:=by
 have lt:=s.lt;have oa:=s.oa;have ok:=s.ok;have ob:=s.ob;have cV:=s.cV;have big:=gP;have l1:(rs.filter (cC x)).length<=rs.length:=lV;have l2:(lb.filter (cC x)).length<=lb.length:=lV;refine cJ rfl rfl ?_;unfold Il;walk_at "w"
 by_cases hs:∃r∈rs,r.t=x
 .rw[iy s.inc.nd hs];walk_at "w"
  refine⟨cj ok,?_⟩;walk_at "w"
  obtain⟨r,hr,rfl⟩:=hs;refine Hq ok rfl (lH s.inc.nd hr) ?_;rw[yz];walk_at "w"
  exact q1 ⟨r,hr,rfl⟩ _ ⟨Nat.le_refl _,λn hn ne _=>bW ne⟩ ⟨(bW (by omega)).trans s.oa,jC,(bW (by omega)).trans s.ob,lt,kx s.inc,s.nd,by omega⟩
 rw[xZ hs];walk_at "w"
 by_cases hb:∃r∈lb,r.t=x
 .rw[iy s.nd hb];walk_at "w"
  refine⟨cj ob,?_⟩;walk_at "w"
  obtain⟨r,hr,rfl⟩:=hb;refine Hq ob rfl (lH s.nd hr) ?_;rw[yz];walk_at "w"
  exact q2 hs ⟨r,hr,rfl⟩ _ ⟨Nat.le_refl _,λn hn _ ne=>bW ne⟩ ⟨(bW (by omega)).trans s.oa,(bW (by omega)).trans s.ok,jC,lt,s.inc,dt s.nd,by omega⟩
 rw[xZ hb];walk_at "w"
 exact q3 hs hb
local macro_rules | `(tactic| walk_at "user")=>`(tactic| first
 | (with_reducible refine qY sX ?_)
 | ((with_reducible refine' Xl ?k1 ?k2 ?k3 ?_);(case k1=>assumption);(case k2=>rfl);(case k3=>assumption)))
theorem Oe{rs:List Row}:(rs.map dV).map (·.1)=(rs.map (·.t)).map Sum.inl:=by rw[List.map_map,List.map_map];rfl
theorem Vv{lb ls:List Row}(pm:lb.Perm ls)(hi:dI ls):(gF false (lb.map (·.t))).map AV.int=ls.map λr=>AV.int r.t:=by
 have:gF false (lb.map (·.t))=ls.map (·.t):=by refine(ie (pm.symm.map _) ?_).symm;unfold Ordered;simpa using List.Pairwise.imp (λh=>by omega) hi
 rw[this,List.map_map];rfl
theorem XY{k a:Nat}{rs lb:List Row}{h:AH}{R:AV->AH->Prop}(s:Sh h a rs lb)(q:∀m h',Kp h h'->h'.ob m=some (.lst true (rs.map rV))->h.nx<=m->m<h'.nx->R (.ref m) h'):Wp (run pg (k+1) CY [.ref a]) h R:=by
 have oa:=s.oa;have cV:=s.cV;have big:=gP;refine cJ rfl rfl ?_;unfold Iw;walk_at "w"
 refine Xn s.ok Oe (by rw[List.length_map];omega) ?_;rw[Vv (.refl _) s.inc];generalize eh:h.new _=h1;have kp:Kp h h1:=by rw[<- eh];exact Kp.refl.new
 have o1:h1.ob h.nx=some (.lst true (rs.map λr=>AV.int r.t)):=by rw[<- eh];exact aX
 have nx1:h1.nx=h.nx+1:=by rw[<- eh];rfl
 clear eh;have s1:=s.kp kp;refine eC o1 ?_;refine yq (bb:=true) (xs:=rs.map λr=>AV.int r.t) (λj ys U h'=>(∃v0,U=[v0,some (.ref a)])/\ys=(rs.take j).map rV/\h'=h1) (by rw[List.length_map,fJ];omega) ⟨⟨_,rfl⟩,rfl,rfl⟩ (λj ys U h' ⟨_,_,e'⟩=>by rw[e'];exact o1) (λj x ys U h' hx ⟨⟨v0,e1⟩,e2,e3⟩=>?_) (λys U h' ⟨⟨v0,e1⟩,e2,e3⟩=>?_)
 .subst e1 e3;obtain⟨r,hr,rfl⟩:=kF hx;have hv:=lH s.inc.nd (List.mem_of_getElem? hr);have oa1:=s1.oa;have ok1:=s1.ok;have et:(rs.take (j+1)).map rV=(rs.take j).map rV++[rV r]:=by rw[List.take_add_one,hr,List.map_append];rfl
  have hlt:(rs.take j).length<=rs.length:=by rw[List.length_take];omega
  walk_at "w"
  refine Xi (by simp only[List.length_cons,List.length_nil];omega) ?_;walk_at "w"
  exact⟨by rw[e2,List.length_map];omega,⟨_,rfl⟩,by rw[et,e2];rfl,rfl⟩
 .subst e1 e3;rw[List.length_map,List.take_length]at e2;subst e2;walk_at "w"
  exact q _ _ (kp.trans Kp.refl.new) aX (by omega) (Nat.lt_succ_self _)
theorem HA{k a:Nat}{rs lb ls:List Row}{h:AH}{R:AV->AH->Prop}(s:Sh h a rs lb)(pm:lb.Perm ls)(il:dI ls)(q:∀m h',Kp h h'->h'.ob m=some (.lst true (ls.map rV))->h.nx<=m->m<h'.nx->R (.ref m) h'):Wp (run pg (k+1) CS [.ref a]) h R:=by
 have oa:=s.oa;have cV:=s.cV;have big:=gP;have hpl:=pm.length_eq;refine cJ rfl rfl ?_;unfold Io;walk_at "w"
 refine Xn s.ob Oe (by rw[List.length_map];omega) ?_;rw[Vv pm il];generalize eh:h.new _=h1;have kp:Kp h h1:=by rw[<- eh];exact Kp.refl.new
 have o1:h1.ob h.nx=some (.lst true (ls.map λr=>AV.int r.t)):=by rw[<- eh];exact aX
 have nx1:h1.nx=h.nx+1:=by rw[<- eh];rfl
 clear eh;have s1:=s.kp kp;refine eC o1 ?_;refine yq (bb:=true) (xs:=ls.map λr=>AV.int r.t) (λj ys U h'=>(∃v0,U=[v0,some (.ref a)])/\ys=(ls.take j).map rV/\h'=h1) (by rw[List.length_map,fJ];omega) ⟨⟨_,rfl⟩,rfl,rfl⟩ (λj ys U h' ⟨_,_,e'⟩=>by rw[e'];exact o1) (λj x ys U h' hx ⟨⟨v0,e1⟩,e2,e3⟩=>?_) (λys U h' ⟨⟨v0,e1⟩,e2,e3⟩=>?_)
 .subst e1 e3;obtain⟨r,hr,rfl⟩:=kF hx;have hv:=lH s.nd (pm.mem_iff.mpr (List.mem_of_getElem? hr));have oa1:=s1.oa;have ok1:=s1.ob;have et:(ls.take (j+1)).map rV=(ls.take j).map rV++[rV r]:=by rw[List.take_add_one,hr,List.map_append];rfl
  have hlt:(ls.take j).length<=ls.length:=by rw[List.length_take];omega
  walk_at "w"
  refine Xi (by simp only[List.length_cons,List.length_nil];omega) ?_;walk_at "w"
  exact⟨by rw[e2,List.length_map];omega,⟨_,rfl⟩,by rw[et,e2];rfl,rfl⟩
 .subst e1 e3;rw[List.length_map,List.take_length]at e2;subst e2;walk_at "w"
  exact q _ _ (kp.trans Kp.refl.new) aX (by omega) (Nat.lt_succ_self _)
theorem Nj{k a:Nat}{h:AH}{R:AV->AH->Prop}(e:h.ob a=some (.ins 9 []))(ha:h.nx=a+1)(q:∀h',h'.nx=a+3->(∀n,n<a->h'.ob n=h.ob n)->Sh h' a [] []->R .aC h'):Wp (run pg (k+1) CM [.ref a]) h R:=by
 refine cJ rfl rfl ?_;unfold Ij;walk_at "w"
 refine⟨a,9,[],rfl,(eA (by omega)).trans e,rfl,by decide,?_⟩;generalize eh:(h.new (.aI [])).put a (.ins 9 (fQ "kept" (.ref h.nx) []))=h1;have o1:h1.ob a=some (.ins 9 [("kept",.ref (a+1))]):=by rw[<- eh,ha];exact jC
 have o2:h1.ob (a+1)=some (.aI []):=by rw[<- eh,<- ha];exact(bW (by omega)).trans aX
 have o3:∀n,n<a->h1.ob n=h.ob n:=λn hn=>by rw[<- eh];exact(bW (by omega)).trans (eA (by omega))
 have nx1:h1.nx=a+2:=by rw[<- eh];show h.nx+1=a+2;omega
 clear eh;walk_at "w"
 refine⟨a,9,_,rfl,(eA (by omega)).trans o1,rfl,by show 1<1000;decide,?_⟩;walk_at "w"
 refine q _ (by show h1.nx+1=a+3;omega) (λn hn=>(bW (by omega)).trans ((eA (by omega)).trans (o3 n hn))) ⟨?_,(bW (by omega)).trans ((eA (by omega)).trans o2),?_,?_,List.Pairwise.nil,List.Pairwise.nil,by decide⟩
 .rw[nx1];exact jC
 .rw[<- nx1];exact(bW (by omega)).trans aX
 .show a+2<h1.nx+1;omega
def wV(t:Int):Option Int->AV
 |none=>.aC
 |some w=>.tup [.int t,.int w]
def wC(r:Row):AV:=match r.p with
 |some _=>wV r.t r.w
 |none=>.aC
def hit(tk pl:Int)(da:Bool)(r:Row):Prop:=r.t<tk/\(r.p=some pl\/(r.p=none/\da=false))
instance {tk pl:Int} {da:Bool} {r:Row}:Decidable (hit tk pl da r):=by unfold hit;infer_instance
def Bd:AV:=.tup [.aC,.aC]
def iE(tk pl:Int)(da:Bool)(rs:List Row):AV:=rs.foldl (λacc r=>if hit tk pl da r then wC r else acc) Bd
def tH(pl:Int)(da:Bool):List Row->AV
 |[]=>Bd
 |r::l=>if r.p=none/\da=false then .aC else if r.p=some pl then wV r.t r.w else tH pl da l
theorem Lu{tk pl:Int}{da:Bool}:∀l:List Row,iE tk pl da l.reverse=tH pl da (l.filter λr=>decide (r.t<tk))
 |[]=>rfl|r::l=>by
  have ih:=Lu (tk:=tk) (pl:=pl) (da:=da) l;unfold iE at ih ⊢;rw[List.reverse_cons,List.foldl_append,List.foldl_cons,List.foldl_nil,ih,List.filter_cons];by_cases ht:r.t<tk
  .rw[if_pos (decide_eq_true ht)];show _=if r.p=none/\da=false then AV.aC else if r.p=some pl then wV r.t r.w else tH pl da _
   by_cases h1:r.p=none/\da=false
   .rw[if_pos h1,if_pos (show hit tk pl da r from⟨ht,.inr h1⟩)];unfold wC;rw[h1.1]
   .rw[if_neg h1];by_cases h2:r.p=some pl
    .rw[if_pos h2,if_pos (show hit tk pl da r from⟨ht,.inl h2⟩)];unfold wC;rw[h2]
    .rw[if_neg h2,if_neg (show¬hit tk pl da r from λz=>z.2.elim h2 h1)]
  .rw[if_neg (show¬hit tk pl da r from λz=>ht z.1),if_neg (show¬decide (r.t<tk)=true by simpa using ht)]
theorem AR{k n:Nat}{rs:List Row}{tk pl:Int}{da:Bool}{h:AH}{R:AV->AH->Prop}(en:h.ob n=some (.lst true (rs.map rV)))(hl:rs.length<64)(q:R (iE tk pl da rs) h):Wp (run pg (k+1) DJ [.ref n,.tup [.int tk,.int pl],.bl da]) h R:=by
 refine cJ rfl rfl ?_;unfold Jj;walk_at "w"
 refine eC en ?_;refine cm (bb:=true) (xs:=rs.map rV) (λj U h'=>(∃v5 v6 v7,U=[some (.ref n),some (.tup [.int tk,.int pl]),some (.bl da),some (iE tk pl da (rs.take j)),v5,v6,v7])/\h'=h) (by rw[List.length_map,fJ];omega) ⟨⟨_,_,_,rfl⟩,rfl⟩ (λj U h' ⟨_,e'⟩=>by subst e';exact en) (λj x U h' hx ⟨⟨v5,v6,v7,e1⟩,e2⟩=>?_) (λU h' ⟨⟨v5,v6,v7,e1⟩,e2⟩=>?_)
 .subst e1 e2;obtain⟨⟨t,p,w⟩,hr,rfl⟩:=kF hx;have st:iE tk pl da (rs.take (j+1))=if hit tk pl da ⟨t,p,w⟩ then wC ⟨t,p,w⟩ else iE tk pl da (rs.take j):=DV hr
  have pos:(t<tk/\(p=some pl\/(p=none/\da=false)))->iE tk pl da (rs.take (j+1))=wC ⟨t,p,w⟩:=λz=>by rw[st,if_pos (show hit tk pl da ⟨t,p,w⟩ from z)]
  have neg:¬(t<tk/\(p=some pl\/(p=none/\da=false)))->iE tk pl da (rs.take (j+1))=iE tk pl da (rs.take j):=λz=>by rw[st,if_neg (show¬hit tk pl da ⟨t,p,w⟩ from z)]
  clear st hr hx;generalize iE tk pl da (rs.take (j+1))=d1 at *;generalize iE tk pl da (rs.take j)=d0 at *;show We _ (fT _ _ (.tup [.int t,oV p,oV w]) _) _ _;cases da
  ·(walk_at "w")<;>first
    |exact⟨⟨_,_,_,by rw[pos ⟨by assumption,.inl (by assumption)⟩];rfl⟩,rfl⟩|exact⟨⟨_,_,_,by rw[pos ⟨by assumption,.inr ⟨rfl,rfl⟩⟩];rfl⟩,rfl⟩|exact⟨⟨_,_,_,by rw[neg (λz=>absurd z.1 (by assumption))];rfl⟩,rfl⟩|exact⟨⟨_,_,_,by rw[neg (λz=>z.2.elim (by assumption) (λy=>nomatch y.1))];rfl⟩,rfl⟩
    | (exfalso;rename_i hc;cases hc;done)
    |fail
  ·(walk_at "w")<;>first
    |exact⟨⟨_,_,_,by rw[pos ⟨by assumption,.inl (by assumption)⟩];rfl⟩,rfl⟩|exact⟨⟨_,_,_,by rw[neg (λz=>absurd z.1 (by assumption))];rfl⟩,rfl⟩|exact⟨⟨_,_,_,by rw[neg (λz=>z.2.elim (by assumption) (λy=>nomatch y.2))];rfl⟩,rfl⟩
    | (exfalso;rename_i hc;cases hc;done)
    |fail
 .subst e1 e2;rw[List.length_map,List.take_length];walk_at "w"
  exact q
theorem AQ{tk pl:Int}{da:Bool}{rs:List Row}:Fm (iE tk pl da rs):=by
 have:∀(l:List Row) (v:AV),Fm v->Fm (l.foldl (λacc r=>if hit tk pl da r then wC r else acc) v):=by
  intro l;induction l with
  |nil=>exact λv h=>h|cons r l ih=>
   intro v h;refine ih _ ?_;dsimp only;split
   .unfold wC;cases r.p with
    |none=>exact .inl rfl|some i=>
     cases r.w with
     |none=>exact .inl rfl|some w=>exact .inr (.inr ⟨_,_,rfl⟩)
   .exact h
 exact this rs Bd (.inr (.inl rfl))
def bT(t:Int)(r:Row):Bool:=decide (r.t ≥ t)
def dC(t:Int)(r:Row):Bool:=decide (r.t<t)
def lR(ts:List Int)(rs:List Row):List Row:=rs.filter λr=>!ts.contains r.t
theorem AE{ts:List Int}{x:Int}{rs:List Row}:lR (ts++[x]) rs=(lR ts rs).filter (cC x):=by
 unfold lR;rw[List.filter_filter];refine List.filter_congr λr _=>?_;unfold cC;by_cases e:r.t=x
 .subst e;simp
 .have e':x≠r.t:=λz=>e z.symm;simp[e]
theorem AD{t:Int}{rs:List Row}:lR ((rs.filter (bT t)).map (·.t)) rs=rs.filter (dC t):=by
 unfold lR;refine List.filter_congr λr hr=>?_;unfold dC;rw[Bool.eq_iff_iff,Bool.not_eq_true',Bool.eq_false_iff,decide_eq_true_eq];rw[Ne,List.contains_iff_mem];constructor
 .intro z;refine Int.lt_of_not_ge λy=>z (List.mem_map.mpr ⟨r,List.mem_filter.mpr ⟨hr,decide_eq_true y⟩,rfl⟩)
 .intro z y;obtain⟨q,hq,e⟩:=List.mem_map.mp y;have:=of_decide_eq_true (List.mem_filter.mp hq).2;omega
theorem Nf{Xc:Nat->AH->Prop}{F:AM.Run}{d:Ex}{n:Nat}{rs:List Row}{U:aA}{t:Int}{h:AH}{V1:AV->AH->Prop}(hd:aB F d U h = .ok (.ref n) h)(ho:h.ob n=some (.aI (rs.map dV)))(hn:n<h.nx)(hl:rs.length<64)(ht:U[1]?=some (some (.int t)))
  (q:V1 (.ref h.nx) (h.new (.lst true ((rs.filter (bT t)).map λr=>AV.int r.t)))):We Xc (aB F (.dX d (.eL [none,some 1] (.nm 0) (.aI d) (.cmp .ge (.var 0) (.var 1)) (.var 0))) U) h V1:=by
 have big:=gP;refine Xp hd ho hn ?_;refine yp (λj ys U h'=>(∃v0,U=[v0,some (.int t)])/\ys=(((rs.take j).filter (bT t)).map λr=>AV.int r.t)/\h'=h.put n (.bM (rs.map dV))) (by rw[List.length_map,List.length_map,fJ];omega) ⟨⟨none,by simp[gM,ht]⟩,rfl,rfl⟩ (λj x ys U h' hx ⟨⟨v0,e1⟩,e2,e3⟩=>?_) (λys U h' ⟨⟨v0,e1⟩,e2,e3⟩=>?_)
 .subst e1 e3;rw[List.getElem?_map,List.getElem?_map]at hx;cases hr:rs[j]? with
  |none=>rw[hr]at hx;cases hx|some r=>
   rw[hr]at hx;have hx':(dV r).1=x:=Option.some.inj hx;subst hx';have et:rs.take (j+1)=rs.take j++[r]:=by rw[List.take_add_one,hr];rfl
   have h1:((rs.take j).filter (bT t)).length<=(rs.take j).length:=List.length_filter_le _ _;have h2:(rs.take j).length<=rs.length:=by rw[List.length_take];omega
   rw[show oI (dV r).1 = .int r.t from rfl];walk_at "w"
   .rename_i hc;refine⟨by rw[e2,List.length_map];omega,⟨_,rfl⟩,?_,rfl⟩;rw[et,e2,List.filter_append,List.map_append,List.filter_cons,if_pos (show bT t r=true from decide_eq_true hc)];rfl
   .rename_i hc;refine⟨⟨_,rfl⟩,?_,rfl⟩;rw[et,e2,List.filter_append,List.map_append,List.filter_cons,if_neg (show¬bT t r=true by simpa[bT]using hc)];simp
 .subst e1 e3;have e4:(rs.take (List.map (λx=>x.1) (List.map dV rs)).length)=rs:=by simp
  rw[e4]at e2;subst e2;exact⟨rfl,q⟩
theorem Pm{Xc:Nat->AH->Prop}{k:Nat}{f:PySem.Str}{fs:List (PySem.Str×AV)}{a d n:Nat}{t:Int}{rs:List Row}{v2 v3:Option AV}{h:AH}{R:AV->AH->Prop}{N B C:aA->AH->Prop}{w1 w4:Option AV}(oa:h.ob a=some (.ins 9 fs))(lf:fs.lookup f=some (.ref d))(od:h.ob d=some (.aI (rs.map dV)))(nd:Nd rs)(on:h.ob n=some (.lst true ((rs.filter (bT t)).map λr=>AV.int r.t)))(ne:a≠d/\n≠d)(hl:rs.length<64)
  (q:∀h' u4,h'.nx=h.nx->(∀i,i≠d->h'.ob i=h.ob i)->h'.ob d=some (.aI ((rs.filter (dC t)).map dV))->N [some (.ref a),w1,v2,v3,u4] h') :
  Wt Xc (fG (eG n) (fT (run pg k) (.nm 4)) (aW (run pg k) (.cons (.expr (.dm .pop (.fld [9] f (.var 0)) (.cons (.var 4) .nil))) .nil)) FU 0 [some (.ref a),w1,v2,v3,w4]) h N R B C:=by
 have ng:((rs.filter (bT t)).map (·.t)).Nodup:=dt nd;have h1:(rs.filter (bT t)).length<=rs.length:=List.length_filter_le _ _;refine cm (bb:=true) (xs:=(rs.filter (bT t)).map λr=>AV.int r.t) (λj U h'=>(∃u4,U=[some (.ref a),w1,v2,v3,u4])/\h'.nx=h.nx/\(∀i,i≠d->h'.ob i=h.ob i)/\h'.ob d=some (.aI ((lR (((rs.filter (bT t)).map (·.t)).take j) rs).map dV))) (by rw[List.length_map,fJ];omega)
  ⟨⟨_,rfl⟩,rfl,λ_ _=>rfl,by rw[List.take_zero,show lR [] rs=rs by unfold lR;simp];exact od⟩ (λj U h' ⟨_,_,e',_⟩=>(e' n ne.2).trans on) (λj x U h' hx ⟨⟨u4,e1⟩,e2,e3,e4⟩=>?_) (λU h' ⟨⟨u4,e1⟩,e2,e3,e4⟩=>?_)
 .subst e1;obtain⟨r,hr,rfl⟩:=kF hx;have hm:=List.mem_filter.mp (List.mem_of_getElem? hr);have oa':=(e3 a ne.1).trans oa;have et:((rs.filter (bT t)).map (·.t)).take (j+1)=((rs.filter (bT t)).map (·.t)).take j++[r.t]:=by rw[List.take_add_one,List.getElem?_map,hr];rfl
  have hni:r.t∉((rs.filter (bT t)).map (·.t)).take j:=by have h2:(((rs.filter (bT t)).map (·.t)).take (j+1)).Nodup:=ng.sublist (List.take_sublist _ _);rw[et,List.nodup_append]at h2;intro z;exact h2.2.2 _ z _ (List.mem_singleton.mpr rfl) rfl
  have hmd:r∈lR (((rs.filter (bT t)).map (·.t)).take j) rs:=List.mem_filter.mpr ⟨hm.1,by simpa using hni⟩;walk_at "w"
  refine Xk oa' rfl lf ?_;refine⟨cj e4,?_⟩;walk_at "w"
  refine Hq e4 rfl (lH (dt nd) hmd) ?_;rw[yz,<- AE,<- et];walk_at "w"
  exact⟨⟨_,rfl⟩,e2,λi hi=>(bW hi).trans (e3 i hi),jC⟩
 .subst e1;rw[List.length_map]at e4;rw[show((rs.filter (bT t)).map (·.t)).take (rs.filter (bT t)).length=(rs.filter (bT t)).map (·.t) from List.take_of_length_le (by rw[List.length_map];exact Nat.le_refl _),AD]at e4;exact q _ _ e2 e3 e4
theorem HC{k a:Nat}{rs lb:List Row}{tk pl:Int}{da:Bool}{h:AH}{R:AV->AH->Prop}(s:Sh h a rs lb)(q:∀h',Kp h h'->R (iE tk pl da rs) h'):Wp (run pg (k+1) CU [.ref a,.int tk,.int pl,.bl da]) h R:=by
 have lt:=s.lt;have cV:=s.cV;refine cJ rfl rfl ?_;unfold Ip;walk_at "w"
 refine Xp (Aq s rfl) s.ok (by omega) ?_;refine yp (λj ys U h'=>(∃v0,U=[v0,some (.int tk)])/\ys=(((rs.take j).filter λr=>decide (r.t<tk)).map λr=>AV.int r.t)/\h'=h.put (a+1) (.bM (rs.map dV))) (by rw[List.length_map,List.length_map,fJ];omega) ⟨⟨_,rfl⟩,rfl,rfl⟩ (λj x ys U h' hx ⟨⟨v0,e1⟩,e2,e3⟩=>?_) (λys U h' ⟨⟨v0,e1⟩,e2,e3⟩=>?_)
 .subst e1 e3;rw[List.getElem?_map,List.getElem?_map]at hx;cases hr:rs[j]? with
  |none=>rw[hr]at hx;cases hx|some r=>
   rw[hr]at hx;have hx':(dV r).1=x:=Option.some.inj hx;subst hx';have et:rs.take (j+1)=rs.take j++[r]:=by rw[List.take_add_one,hr];rfl
   rw[show oI (dV r).1 = .int r.t from rfl];walk_at "w"
   .rename_i hc;refine⟨?_,⟨_,rfl⟩,?_,rfl⟩
    .have:=List.length_filter_le (λr=>decide (r.t<tk)) (rs.take j);have h2:(rs.take j).length<=rs.length:=by rw[List.length_take];omega
     have:=gP;rw[e2,List.length_map];omega
    .rw[et,e2,List.filter_append,List.map_append,List.filter_cons,if_pos (decide_eq_true hc)];rfl
   .rename_i hc;refine⟨⟨_,rfl⟩,?_,rfl⟩;rw[et,e2,List.filter_append,List.map_append,List.filter_cons,if_neg (show¬decide (r.t<tk)=true by simpa using hc)];simp
 .subst e1 e3;refine⟨rfl,?_⟩;have e4:(rs.take (List.map (λx=>x.1) (List.map dV rs)).length)=rs:=by simp
  rw[e4]at e2;clear e4;subst e2;generalize hel:(rs.filter λr=>decide (r.t<tk))=el;have hint:List.map (λr:Row=>AV.int r.t) el=(el.map (·.t)).map AV.int:=by rw[List.map_map];rfl
  rw[hint];have hinc:(el.map (·.t)).Pairwise (·<·):=by
   have h1:List.Sublist el rs:=by rw[<- hel];exact List.filter_sublist
   exact List.Pairwise.sublist (h1.map _) s.inc
  have hlen:el.length<64:=by have:=List.length_filter_le (λr=>decide (r.t<tk)) rs;rw[hel]at this;omega
  walk_at "w"
  refine j6 aX (by rw[List.length_map];exact hlen) ?_;rw[XO hinc];have due:iE tk pl da rs=tH pl da el.reverse:=by have:=Lu (tk:=tk) (pl:=pl) (da:=da) rs.reverse;rw[List.reverse_reverse,List.filter_reverse,hel]at this;exact this
  rw[due]at q;clear due;have e3:(el.map (·.t)).reverse.map AV.int=el.reverse.map λr=>AV.int r.t:=by rw[<- List.map_reverse,List.map_map];rfl
  rw[e3,fP];generalize eh:((h.new (.lst true ((el.map (·.t)).map AV.int))).new (.lst true (el.reverse.map λr=>AV.int r.t)))=h2;have kp:Kp h h2:=by rw[<- eh];exact Kp.refl.new.new
  have o2:h2.ob (h.nx+1)=some (.lst true (el.reverse.map λr=>AV.int r.t)):=by rw[<- eh];exact aX
  clear eh e3 hint;have mem:∀r∈el,r∈rs:=λr hr=>by rw[<- hel]at hr;exact(List.mem_filter.mp hr).1
  refine eC o2 ?_;refine cm (bb:=true) (xs:=el.reverse.map λr=>AV.int r.t) (λj U h'=>(∃v5 v6 v7,U=[some (.ref a),some (.int tk),some (.int pl),some (.bl da),some (.ref h.nx),v5,v6,v7])/\h'.ob (h.nx+1)=some (.lst true (el.reverse.map λr=>AV.int r.t))/\Kp h h'/\R (tH pl da (el.reverse.drop j)) h') (by rw[List.length_map,List.length_reverse,fJ];omega) ⟨⟨_,_,_,rfl⟩,o2,kp,q _ kp⟩ (λj U h' ⟨_,e',_⟩=>e') (λj x U h' hx ⟨⟨v5,v6,v7,e1⟩,e2,e3,e4⟩=>?_) (λU h' ⟨⟨v5,v6,v7,e1⟩,e2,e3,e4⟩=>?_)
  .subst e1;obtain⟨⟨t,p,w⟩,hr,rfl⟩:=kF hx;have s2:=s.kp e3;have oa:=s2.oa;have ok:=s2.ok;have hv:=lH s.inc.nd (mem _ (List.mem_reverse.mp (List.mem_of_getElem? hr)));have hdr:el.reverse.drop j=⟨t,p,w⟩::el.reverse.drop (j+1):=by have hj:=(List.getElem?_eq_some_iff.mp hr).1;rw[List.drop_eq_getElem_cons hj,(List.getElem?_eq_some_iff.mp hr).2]
   rw[hdr]at e4;have e5:R (if p=none/\da=false then AV.aC else if p=some pl then wV t w else tH pl da (el.reverse.drop (j+1))) h':=e4;have f1:p=none->da=false->R .aC h':=λz1 z2=>by rw[if_pos ⟨z1,z2⟩]at e5;exact e5
   have f2:p=some pl->R (wV t w) h':=λz=>by rw[if_neg (λy=>by rw[z]at y;cases y.1),if_pos z]at e5;exact e5
   have f3:¬(p=none/\da=false)->p≠some pl->R (tH pl da (el.reverse.drop (j+1))) h':=λz1 z2=>by rw[if_neg z1,if_neg z2]at e5;exact e5
   clear e4 e5 hdr hx hr;dsimp only at hv ⊢;generalize tH pl da (el.reverse.drop (j+1))=d1 at *;cases da<;>(walk_at "w")<;>first
    |exact f1 rfl rfl|exact f2 (congrArg some (by assumption))|exact⟨⟨_,_,_,rfl⟩,e2,e3,f3 (λz=>nomatch z.1) (λz=>absurd (Option.some.inj z) (by assumption))⟩|exact⟨⟨_,_,_,rfl⟩,e2,e3,f3 (λz=>nomatch z.2) (λz=>nomatch z)⟩|fail
  .subst e1;rw[List.length_map,List.drop_length]at e4;walk_at "w"
   exact e4
theorem ZH{k a:Nat}{rs lb:List Row}{t:Int}{h:AH}{R:AV->AH->Prop}(s:Sh h a rs lb)(q:∀h',Ka a h h'->Sh h' a (rs.filter (dC t)) (lb.filter (dC t))->R (.int (((rs.filter (bT t)).length:Int)+((lb.filter (bT t)).length:Int))) h'):Wp (run pg (k+1) CZ [.ref a,.int t]) h R:=by
 have lt:=s.lt;have cV:=s.cV;have big:=gP;have l1:(rs.filter (dC t)).length<=rs.length:=lV;have l2:(lb.filter (dC t)).length<=lb.length:=lV;refine cJ rfl rfl ?_;unfold Iy;walk_at "w"
 refine Nf (Aq s rfl) s.ok (by omega) (by omega) rfl ?_;generalize eh:h.new _=h1;have kp1:Kp h h1:=by rw[<- eh];exact Kp.refl.new
 have o1:h1.ob h.nx=some (.lst true ((rs.filter (bT t)).map λr=>AV.int r.t)):=by rw[<- eh];exact aX
 have nx1:h1.nx=h.nx+1:=by rw[<- eh];rfl
 have s1:=s.kp kp1;clear eh;walk_at "w"
 refine Nf (Yh s1 rfl) s1.ob (by omega) (by omega) rfl ?_;rw[nx1];generalize eh:h1.new _=h2;have kp2:Kp h1 h2:=by rw[<- eh];exact Kp.refl.new
 have o2:h2.ob (h.nx+1)=some (.lst true ((lb.filter (bT t)).map λr=>AV.int r.t)):=by rw[<- eh,<- nx1];exact aX
 have nx2:h2.nx=h.nx+2:=by rw[<- eh];show h1.nx+1=_;omega
 have o1':=kp2.get (by omega) o1;have s2:=s1.kp kp2;clear eh;walk_at "w"
 refine eC o1' ?_;refine Pm (f:="kept") (d:=a+1) (t:=t) s2.oa rfl s2.ok s2.inc.nd o1' (by omega) (by omega) λh3 u4 nx3 e3 o3=>?_;walk_at "w"
 have o2':=(e3 (h.nx+1) (by omega)).trans o2;refine eC o2' ?_;refine Pm (f:="begun") (d:=a+2) (t:=t) ((e3 a (by omega)).trans s2.oa) rfl ((e3 (a+2) (by omega)).trans s2.ob) s2.nd o2' (by omega) (by omega) λh4 u4 nx4 e4 o4=>?_;have p1:=(e4 h.nx (by omega)).trans ((e3 h.nx (by omega)).trans o1');have p2:=(e4 (h.nx+1) (by omega)).trans o2';walk_at "w"
 rw[List.length_map,List.length_map];refine q _ ⟨by omega,λn hn n1 n2=>?_⟩ ⟨?_,?_,o4,by omega,kx s.inc,dt s.nd,by omega⟩
 .rw[e4 n n2,e3 n n1,kp2.ob n (by omega),kp1.ob n hn]
 .rw[e4 a (by omega),e3 a (by omega)];exact s2.oa
 .rw[e4 (a+1) (by omega)];exact o3
local macro_rules | `(tactic| walk_at "user")=>`(tactic| first
 | (with_reducible refine qY sX ?_))
inductive Dd where
 |st (t:Int)
 |pl (t p:Int)
 |wd (t w:Int)
 |ld (t p:Int) (g:Option Int)
 |lv (t:Int)
def dA:Dd->AV
 |.st t=>.tup [.str "store",.int t]
 |.pl t p=>.tup [.str "place",.int t,.int p]
 |.wd t w=>.tup [.str "word",.int t,.int w]
 |.ld t p g=>.tup [.str "load",.int t,.int p,oV g]
 |.lv t=>.tup [.str "leave",.int t]
def Dd.t:Dd->Int
 |.st t=>t
 |.pl t _=>t
 |.wd t _=>t
 |.ld t _ _=>t
 |.lv t=>t
def eO(t:Int)(rs:List Row):Prop:=∃r∈rs,r.t=t
def Al(rs ls:List Row):Dd->Prop
 |.st t=>(¬ ∃r∈rs,t<=r.t)/\¬eO t ls
 |.pl t _=>∃r∈rs,r.t=t/\r.p=none
 |.wd t _=>∃r∈rs,r.t=t/\r.w=none
 |.ld t _ _=>¬eO t rs/\¬eO t ls
 |.lv t=>eO t rs\/eO t ls
def Hs(rs lb:List Row):Dd->List Row->List Row->Prop
 |.st t,bP,lb'=>bP=rs++[⟨t,none,none⟩]/\lb'=lb
 |.pl t p,bP,lb'=>∃r∈rs,r.t=t/\bP=cP ⟨t,some p,r.w⟩ rs/\lb'=lb
 |.wd t w,bP,lb'=>∃r∈rs,r.t=t/\bP=cP ⟨t,r.p,some w⟩ rs/\lb'=lb
 |.ld t p g,bP,lb'=>bP=rs/\lb'=lb++[⟨t,some p,g⟩]
 |.lv t,bP,lb'=>bP=rs.filter (cC t)/\lb'=lb.filter (cC t)
def Ie(ls:List Row):Dd->Option Int
 |.pl t p=>vO t p ls
 |_=>none
def Dj(rs ls:List Row):Prop:=∀r∈rs,∀l∈ls,r.t≠l.t
theorem zk{t:Int}{rs:List Row}(h:¬eO t rs):rs.filter (cC t)=rs:=by rw[List.filter_eq_self];intro r hr;exact decide_eq_true λe=>h ⟨r,hr,e⟩
theorem wB{t:Int}{lb ls:List Row}(pm:lb.Perm ls):eO t lb↔eO t ls:=⟨λ⟨r,h,e⟩=>⟨r,pm.mem_iff.mp h,e⟩,λ⟨r,h,e⟩=>⟨r,pm.mem_iff.mpr h,e⟩⟩
theorem yy{Xc:Nat->AH->Prop}{k a:Nat}{rs lb ls:List Row}{d:Dd}{h:AH}{R:AV->AH->Prop}(s:Sh h a rs lb)(pm:lb.Perm ls)(il:dI ls)(dj:Dj rs ls)(hl:rs.length+lb.length<63)(q1:Al rs ls d->∀bP lb' h',Ka a h h'->Sh h' a bP lb'->Hs rs lb d bP lb'->R (oV (Ie ls d)) h')
  (q2:¬Al rs ls d->∀h',Kp h h'->Xc 3 h'):We Xc (run pg (k+3) DI [.ref a,dA d]) h R:=by
 have oa:=s.oa;refine cJ rfl rfl ?_;unfold Jh;cases d with
 |pl t p=>
  show Wt _ (aW _ _ [some (.ref a),some (.tup [.str "place",.int t,.int p]),none]) _ _ _ _ _;walk_at "w"
  refine⟨a,9,_,23,rfl,oa,rfl,rfl,?_⟩;walk_at "w"
  exact MO s pm il (λr hr e z h' ka s'=>q1 ⟨r,hr,e,z⟩ _ _ h' ka s' ⟨r,hr,e,rfl,rfl⟩) λz=>q2 (λ⟨r,hr,e,y⟩=>z r hr e y) _ .refl
 |st t=>
  show Wt _ (aW _ _ [some (.ref a),some (.tup [.str "store",.int t]),none]) _ _ _ _ _;walk_at "w"
  refine⟨a,9,_,22,rfl,oa,rfl,rfl,?_⟩;walk_at "w"
  refine XX s hl (λz1 z2 h' ka s'=>?_) λz h' kp=>q2 (λ⟨y1,y2⟩=>z.elim y1 λy=>y2 ((wB pm).mp y)) h' kp;walk_at "w"
  refine gS (eU aX) rfl ?_;exact q1 ⟨z1,λy=>z2 ((wB pm).mpr y)⟩ _ _ _ (ka.trans (oN Kp.refl.new)) (s'.kp Kp.refl.new) ⟨rfl,rfl⟩
 |wd t w=>
  show Wt _ (aW _ _ [some (.ref a),some (.tup [.str "word",.int t,.int w]),none]) _ _ _ _ _;walk_at "w"
  refine⟨a,9,_,25,rfl,oa,rfl,rfl,?_⟩;walk_at "w"
  refine k7 s (λr hr e z h' ka s'=>?_) λz=>q2 (λ⟨r,hr,e,y⟩=>z r hr e y) _ .refl;walk_at "w"
  refine gS (eU aX) rfl ?_;exact q1 ⟨r,hr,e,z⟩ _ _ _ (ka.trans (oN Kp.refl.new)) (s'.kp Kp.refl.new) ⟨r,hr,e,rfl,rfl⟩
 |ld t p g=>
  show Wt _ (aW _ _ [some (.ref a),some (.tup [.str "load",.int t,.int p,oV g]),none]) _ _ _ _ _;walk_at "w"
  refine⟨a,9,_,27,rfl,oa,rfl,rfl,?_⟩;walk_at "w"
  refine GZ s hl (λz1 z2 h' ka s'=>?_) λz=>q2 (λ⟨y1,y2⟩=>z.elim y1 λy=>y2 ((wB pm).mp y)) _ .refl;walk_at "w"
  refine gS (eU aX) rfl ?_;exact q1 ⟨z1,λy=>z2 ((wB pm).mpr y)⟩ _ _ _ (ka.trans (oN Kp.refl.new)) (s'.kp Kp.refl.new) ⟨rfl,rfl⟩
 |lv t=>
  show Wt _ (aW _ _ [some (.ref a),some (.tup [.str "leave",.int t]),none]) _ _ _ _ _;walk_at "w"
  refine⟨a,9,_,28,rfl,oa,rfl,rfl,?_⟩;walk_at "w"
  refine GV s (λz h' ka s'=>?_) (λz1 z2 h' ka s'=>?_) λz1 z2=>q2 (λy=>y.elim z1 λy=>z2 ((wB pm).mpr y)) _ .refl
  .walk_at "w"
   refine gS (eU aX) rfl ?_;have nl:¬eO t lb:=λy=>by obtain⟨r,hr,e⟩:=z;obtain⟨l,hl,e'⟩:=(wB pm).mp y;exact dj r hr l hl (e.trans e'.symm)
   exact q1 (.inl z) _ _ _ (ka.trans (oN Kp.refl.new)) (s'.kp Kp.refl.new) ⟨rfl,(zk nl).symm⟩
  .walk_at "w"
   refine gS (eU aX) rfl ?_;exact q1 (.inr ((wB pm).mp z2)) _ _ _ (ka.trans (oN Kp.refl.new)) (s'.kp Kp.refl.new) ⟨(zk z1).symm,rfl⟩
theorem Zh{k n:Nat}{h:AH}{R:AV->AH->Prop}(e:h.ob n=some (.xo 3))(q:R (.bl true) h):Wp (run pg (k+1) DG [.ref n]) h R:=by
 refine cJ rfl rfl ?_;unfold Jf;walk_at "w"
 exact q
theorem UQ{k a:Nat}{rs lb ls:List Row}{d:Dd}{h:AH}{R:AV->AH->Prop}(s:Sh h a rs lb)(pm:lb.Perm ls)(il:dI ls)(dj:Dj rs ls)(hl:rs.length+lb.length<63)(na:¬Al rs ls d)(q:∀h',Kp h h'->R (.bl true) h'):Wp (run pg (k+4) DM [.ref a,dA d]) h R:=by
 refine cJ rfl rfl ?_;unfold Jm;walk_at "w"
 refine yy (k:=k) s pm il dj hl (λz=>absurd z na) λ_ h' kp=>?_;refine⟨rfl,?_⟩;walk_at "w"
 refine Zh (k:=k+2) aX ?_;exact q _ (kp.trans Kp.refl.new)
theorem UP{k a:Nat}{rs lb ls:List Row}{d:Dd}{h:AH}{R:AV->AH->Prop}(s:Sh h a rs lb)(pm:lb.Perm ls)(il:dI ls)(dj:Dj rs ls)(hl:rs.length+lb.length<63)(na:¬Al rs ls d)(q:∀h',Kp h h'->R (.bl true) h'):Wp (run pg (k+4) DN [.ref a,dA d]) h R:=by
 refine cJ rfl rfl ?_;unfold Jn;walk_at "w"
 refine yy (k:=k) s pm il dj hl (λz=>absurd z na) λ_ h' kp=>?_;refine⟨rfl,?_⟩;walk_at "w"
 exact q _ (kp.trans Kp.refl.new)
theorem Ya{k m:Nat}{ls:List Row}{d:Dd}{h:AH}{R:AV->AH->Prop}(em:h.ob m=some (.lst true (ls.map rV)))(hl:ls.length<64)(q:R (oV (Ie ls d)) h):Wp (run pg (k+1) DD [.ref m,dA d]) h R:=by
 refine cJ rfl rfl ?_;unfold Jc;cases d with
 |pl t pl=>
  show Wt _ (aW _ _ [some (.ref m),some (.tup [.str "place",.int t,.int pl]),none,none,none]) _ _ _ _ _;have q:R (oV (vO t pl ls)) h:=q;walk_at "w"
  refine eC em ?_;refine cm (bb:=true) (xs:=ls.map rV) (λj U h'=>(∃v3 v4 v5,U=[some (.ref m),some (.tup [.str "place",.int t,.int pl]),v3,v4,v5])/\h'=h/\R (oV (vO t pl (ls.drop j))) h) (by rw[List.length_map,fJ];omega) ⟨⟨_,_,_,rfl⟩,rfl,q⟩ (λj U h' ⟨_,e',_⟩=>by rw[e'];exact em) (λj x U h' hx ⟨⟨v3,v4,v5,e1⟩,e2,e3⟩=>?_) (λU h' ⟨⟨v3,v4,v5,e1⟩,e2,e3⟩=>?_)
  .subst e1 e2;obtain⟨⟨t',p,w⟩,hr,rfl⟩:=kF hx;have hdr:ls.drop j=⟨t',p,w⟩::ls.drop (j+1):=by have hj:=(List.getElem?_eq_some_iff.mp hr).1;rw[List.drop_eq_getElem_cons hj,(List.getElem?_eq_some_iff.mp hr).2]
   rw[hdr]at e3;have pos:fU t pl ⟨t',p,w⟩=true->R (.int t') h':=λz=>by unfold vO at e3;rw[List.find?_cons,z]at e3;exact e3
   have neg:fU t pl ⟨t',p,w⟩=false->R (oV (vO t pl (ls.drop (j+1)))) h':=λz=>by unfold vO at e3;rw[List.find?_cons,z]at e3;exact e3
   clear e3 hdr hx hr;unfold fU at pos neg;dsimp only at pos neg;show We _ (fT _ _ (.tup [.int t',oV p,oV w]) _) _ _;walk_at "w"
   .rename_i h1 h2;exact pos (by simp[h1,h2])
   .rename_i h1 h2 g;show We _ (Cp.lt.g (.int g) (.int t)) _ _;walk_at "w"
    .rename_i h3;exact pos (by simp[h1,h2,h3])
    .rename_i h3;exact⟨⟨_,_,_,rfl⟩,rfl,neg (by simp[h3])⟩
   .rename_i h1 h2;exact⟨⟨_,_,_,rfl⟩,rfl,neg (by simp[h2])⟩
   .rename_i h1;exact⟨⟨_,_,_,rfl⟩,rfl,neg (by simp[h1])⟩
  .subst e1 e2;rw[List.length_map,List.drop_length]at e3;walk_at "w"
   exact e3
 |st t=>
  show Wt _ (aW _ _ [some (.ref m),some (.tup [.str "store",.int t]),none,none,none]) _ _ _ _ _;walk_at "w"
  exact q
 |wd t w=>
  show Wt _ (aW _ _ [some (.ref m),some (.tup [.str "word",.int t,.int w]),none,none,none]) _ _ _ _ _;walk_at "w"
  exact q
 |ld t p g=>
  show Wt _ (aW _ _ [some (.ref m),some (.tup [.str "load",.int t,.int p,oV g]),none,none,none]) _ _ _ _ _;walk_at "w"
  exact q
 |lv t=>
  show Wt _ (aW _ _ [some (.ref m),some (.tup [.str "leave",.int t]),none,none,none]) _ _ _ _ _;walk_at "w"
  exact q
def pT(t:Int)(r:Row):Bool:=decide (r.t=t)
theorem lN{Xc:Nat->AH->Prop}{F:AM.Run}{c:Ex}{n:Nat}{rs:List Row}{v0:Option AV}{v1:AV}{f:Row->Bool}{h:AH}{L1:List AV->AH->Prop}(en:h.ob n=some (.lst true (rs.map rV)))(hl:rs.length<64)(hc:∀r,Wp (bE F c [some (rV r),some v1]) h λb h'=>b=f r/\h'=h)
  (q:L1 ((rs.filter f).map rV) h):We Xc (cM (eG n) (iA (.nm 0)) (bE F c) (aB F (.var 0)) FU 0 [] [v0,some v1]) h L1:=by
 have big:=gP;refine Ld (bb:=true) (xs:=rs.map rV) (λj ys U h'=>(∃v0,U=[v0,some v1])/\ys=((rs.take j).filter f).map rV/\h'=h) (by rw[List.length_map,fJ];omega) ⟨⟨_,rfl⟩,rfl,rfl⟩ (λj ys U h' ⟨_,_,e'⟩=>by rw[e'];exact en) (λj x ys U h' hx ⟨⟨v0,e1⟩,e2,e3⟩=>?_) (λys U h' ⟨⟨v0,e1⟩,e2,e3⟩=>?_)
 .subst e1 e3;obtain⟨r,hr,rfl⟩:=kF hx;have et:rs.take (j+1)=rs.take j++[r]:=by rw[List.take_add_one,hr];rfl
  have h1:((rs.take j).filter f).length<=(rs.take j).length:=List.length_filter_le _ _;have h2:(rs.take j).length<=rs.length:=by rw[List.length_take];omega
  walk_at "w"
  refine(hc r).mono λb h3 ⟨e4,e5⟩=>?_;subst e4 e5;split
  .rename_i hb;walk_at "w"
   refine⟨by rw[e2,List.length_map];omega,⟨_,rfl⟩,?_,rfl⟩;rw[et,e2,List.filter_append,List.map_append,List.filter_cons,if_pos hb];rfl
  .rename_i hb;refine⟨⟨_,rfl⟩,?_,rfl⟩;rw[et,e2,List.filter_append,List.map_append,List.filter_cons,if_neg hb];simp
 .subst e1 e3;rw[List.length_map,List.take_length]at e2;subst e2;exact q
theorem cf{Xc:Nat->AH->Prop}{F:AM.Run}{n:Nat}{rs:List Row}{v0:Option AV}{h:AH}{L1:List AV->AH->Prop}(en:h.ob n=some (.lst true (rs.map rV)))(hl:rs.length<64)
  (q:L1 ((rs.map (·.t)).map AV.int) h):We Xc (cM (eG n) (iA (.nm 0)) (λ_=>M.ret true) (aB F (.op .ix (.var 0) (.val (.int 0)))) FU 0 [] [v0]) h L1:=by
 have big:=gP;refine yq (bb:=true) (xs:=rs.map rV) (λj ys U h'=>(∃v0,U=[v0])/\ys=((rs.take j).map (·.t)).map AV.int/\h'=h) (by rw[List.length_map,fJ];omega) ⟨⟨_,rfl⟩,rfl,rfl⟩ (λj ys U h' ⟨_,_,e'⟩=>by rw[e'];exact en) (λj x ys U h' hx ⟨⟨v0,e1⟩,e2,e3⟩=>?_) (λys U h' ⟨⟨v0,e1⟩,e2,e3⟩=>?_)
 .subst e1 e3;obtain⟨⟨t,p,w⟩,hr,rfl⟩:=kF hx;have h2:(rs.take j).length<=rs.length:=by rw[List.length_take];omega
  show Wp (iA (.nm 0) (.tup [.int t,oV p,oV w]) _) _ _;walk_at "w"
  exact⟨by rw[e2,List.length_map,List.length_map];omega,⟨_,rfl⟩,by rw[List.take_add_one,hr,e2,List.map_append,List.map_append];rfl,rfl⟩
 .subst e1 e3;rw[List.length_map,List.take_length]at e2;subst e2;exact q
theorem Ak{x:Int}{l:List Int}:tB (.int x) (l.map AV.int)=decide (x∈l):=by
 induction l with
 |nil=>rfl|cons y l ih=>
  unfold tB at *;rw[List.map_cons,List.any_cons,ih];have:zi (.int y) (.int x)=decide (y=x):=rfl;rw[this];by_cases e:y=x
  .subst e;simp
  .rw[decide_eq_false e,Bool.false_or];have:x∈y::l↔x∈l:=by rw[List.mem_cons];exact⟨λz=>z.elim (λw=>absurd w.symm e) id,.inr⟩
   simp only[this]
theorem yU{x:Int}{rs:List Row}:x∈rs.map (·.t)↔eO x rs:=List.mem_map
theorem Ba{t:Int}{rs:List Row}(hi:dI rs):(rs.filter (pT t)=[]/\¬eO t rs)\/∃r,rs.filter (pT t)=[r]/\r∈rs/\r.t=t/\∀r'∈rs,r'.t=t->r'=r:=by
 have nd:Nd (rs.filter (pT t)):=dt hi.nd;have mem:∀r,r∈rs.filter (pT t)↔r∈rs/\r.t=t:=λr=>by rw[List.mem_filter];unfold pT;rw[decide_eq_true_eq]
 cases e:rs.filter (pT t) with
 |nil=>exact .inl ⟨rfl,λ⟨r,hr,z⟩=>by have:=(mem r).mpr ⟨hr,z⟩;rw[e]at this;cases this⟩|cons r l=>
  have hr:=(mem r).mp (by rw[e];exact List.mem_cons_self ..);have hl:l=[]:=by
   cases l with
   |nil=>rfl|cons r2 l=>have h2:=(mem r2).mp (by rw[e];simp);unfold Nd at nd;rw[e,List.map_cons,List.map_cons,List.nodup_cons]at nd;exact absurd (List.mem_cons.mpr (.inl (hr.2.trans h2.2.symm))) nd.1
  subst hl;exact .inr ⟨r,rfl,hr.1,hr.2,λr' h' z=>by have:=(mem r').mpr ⟨h',z⟩;rw[e]at this;simpa using this⟩
structure St(a n m:Nat)(h:AH)(rs lb ls:List Row):Prop where
 sh:Sh h a rs lb
 pm:lb.Perm ls
 il:dI ls
 dj:Dj rs ls
 on:h.ob n=some (.lst true (rs.map rV))
 om:h.ob m=some (.lst true (ls.map rV))
 hn:a+2<n/\n<h.nx
 hm:a+2<m/\m<h.nx
theorem St.kp{a n m:Nat}{h h':AH}{rs lb ls:List Row}(s:St a n m h rs lb ls)(k:Kp h h'):St a n m h' rs lb ls:=
 ⟨s.sh.kp k,s.pm,s.il,s.dj,k.get s.hn.2 s.on,k.get s.hm.2 s.om,⟨s.hn.1,Nat.lt_of_lt_of_le s.hn.2 k.nx⟩,⟨s.hm.1,Nat.lt_of_lt_of_le s.hm.2 k.nx⟩⟩
theorem Xz{k n m:Nat}{rs ls:List Row}{d:Dd}{h:AH}{R:AV->AH->Prop}(on:h.ob n=some (.lst true (rs.map rV)))(om:h.ob m=some (.lst true (ls.map rV)))(hm:m<h.nx)(hn:n<h.nx)(hi:dI rs)(hl:rs.length+ls.length<64)
  (q:∀b h',Kp h h'->(b=true↔Al rs ls d)->R (.bl b) h'):Wp (run pg (k+1) DC [.ref n,.ref m,dA d]) h R:=by
 have key:∀(c:Ex) (t:Int) (h1:AH),c = .cmp .eq (.op .ix (.var 0) (.val (.int 0))) (.op .ix (.var 1) (.val (.int 1)))->d.t=t->∀r:Row,Wp (bE (run pg k) c [some (rV r),some (dA d)]) h1 λb h'=>b=pT t r/\h'=h1:=by intro c t h1 ec et r;subst ec et;obtain⟨t',p,w⟩:=r;show Wp (bE _ _ [some (.tup [.int t',oV p,oV w]),some (dA d)]) _ _;cases d<;>(simp only[dA];walk_at "w")<;>exact⟨rfl,rfl⟩
 refine cJ rfl rfl ?_;unfold Jb;show Wt _ (aW _ _ [some (.ref n),some (.ref m),some (dA d),none,none,none]) _ _ _ _ _;walk_at "w"
 refine eC on ?_;refine lN on (by omega) (key _ d.t h rfl rfl) ?_;generalize eh:h.new _=h1;have kp:Kp h h1:=by rw[<- eh];exact Kp.refl.new
 have o1:h1.ob h.nx=some (.lst true ((rs.filter (pT d.t)).map rV)):=by rw[<- eh];exact aX
 have nx1:h1.nx=h.nx+1:=by rw[<- eh];rfl
 have on1:=kp.get hn on;have om1:=kp.get hm om;clear eh;have hmi:=Ba (t:=d.t) hi;cases d with
 |st t=>
  show Wt _ (aW _ _ [some (.ref n),some (.ref m),some (.tup [.str "store",.int t]),some (.ref h.nx),none,none]) _ _ _ _ _;walk_at "w"
  refine eC on1 ?_;refine lN (f:=bT t) on1 (by omega) (λr=>?_) ?_
  .obtain⟨t',p,w⟩:=r;show Wp (bE _ _ [some (.tup [.int t',oV p,oV w]),_]) _ _;walk_at "w"
   exact⟨rfl,rfl⟩
  generalize eh:h1.new _=h2;have kp2:Kp h1 h2:=by rw[<- eh];exact Kp.refl.new
  have o2:h2.ob h1.nx=some (.lst true ((rs.filter (bT t)).map rV)):=by rw[<- eh];exact aX
  have om2:=kp2.get (by omega) om1;clear eh;have ab:(rs.filter (bT t)).length=0↔¬ ∃r∈rs,t<=r.t:=by rw[List.length_eq_zero_iff,List.filter_eq_nil_iff];unfold bT;exact⟨λz ⟨r,hr,y⟩=>z r hr (decide_eq_true y),λz r hr y=>z ⟨r,hr,of_decide_eq_true y⟩⟩
  walk_at "w"
  .rename_i hc;rw[List.length_map]at hc;have hz:(rs.filter (bT t)).length=0:=by omega
   refine eC om2 ?_;refine cf om2 (by omega) ?_;refine Xm (eU aX) (by simp[fF]) ?_;rw[Ak];refine q _ _ ((kp.trans kp2).trans Kp.refl.new) ?_;rw[Bool.not_eq_true',decide_eq_false_iff_not,yU];exact⟨λz=>⟨ab.mp hz,z⟩,λz=>z.2⟩
  .rename_i hc;rw[List.length_map]at hc;refine q _ _ (kp.trans kp2) ?_;rw[List.length_map,decide_eq_true_eq];exact⟨λz=>absurd z hc,λz=>absurd (ab.mpr z.1) (by omega)⟩
 |pl t p=>
  show Wt _ (aW _ _ [some (.ref n),some (.ref m),some (.tup [.str "place",.int t,.int p]),some (.ref h.nx),none,none]) _ _ _ _ _;rcases hmi with⟨e,hno⟩|⟨r,e,hr,ht,hu⟩
  .rw[show Dd.t (.pl t p)=t from rfl]at e hno o1;rw[e]at o1;walk_at "w"
   exact q _ _ kp ⟨λz=>(nomatch z),λ⟨r,hr,z,_⟩=>absurd ⟨r,hr,z⟩ hno⟩
  .rw[show Dd.t (.pl t p)=t from rfl]at e ht hu o1;rw[e]at o1;obtain⟨t',p',w'⟩:=r;have o1:h1.ob h.nx=some (.lst true [.tup [.int t',oV p',oV w']]):=o1;walk_at "w"
   .refine q _ _ kp ?_;cases p' with
    |none=>exact⟨λ_=>⟨_,hr,ht,rfl⟩,λ_=>rfl⟩|some i=>exact⟨λz=>(nomatch z),λ⟨r',hr',z1,z2⟩=>by rw[hu r' hr' z1]at z2;cases z2⟩
   .rename_i hc;exact absurd rfl hc
 |wd t p=>
  show Wt _ (aW _ _ [some (.ref n),some (.ref m),some (.tup [.str "word",.int t,.int p]),some (.ref h.nx),none,none]) _ _ _ _ _;rcases hmi with⟨e,hno⟩|⟨r,e,hr,ht,hu⟩
  .rw[show Dd.t (.wd t p)=t from rfl]at e hno o1;rw[e]at o1;walk_at "w"
   exact q _ _ kp ⟨λz=>(nomatch z),λ⟨r,hr,z,_⟩=>absurd ⟨r,hr,z⟩ hno⟩
  .rw[show Dd.t (.wd t p)=t from rfl]at e ht hu o1;rw[e]at o1;obtain⟨t',p',w'⟩:=r;have o1:h1.ob h.nx=some (.lst true [.tup [.int t',oV p',oV w']]):=o1;walk_at "w"
   .refine q _ _ kp ?_;cases w' with
    |none=>exact⟨λ_=>⟨_,hr,ht,rfl⟩,λ_=>rfl⟩|some i=>exact⟨λz=>(nomatch z),λ⟨r',hr',z1,z2⟩=>by rw[hu r' hr' z1]at z2;cases z2⟩
   .rename_i hc;exact absurd rfl hc
 |ld t p g=>
  show Wt _ (aW _ _ [some (.ref n),some (.ref m),some (.tup [.str "load",.int t,.int p,oV g]),some (.ref h.nx),none,none]) _ _ _ _ _;rcases hmi with⟨e,hno⟩|⟨r,e,hr,ht,hu⟩
  .rw[show Dd.t (.ld t p g)=t from rfl]at e hno o1;rw[e]at o1;walk_at "w"
   refine eC om1 ?_;refine cf om1 (by omega) ?_;refine Hr (eU aX) (by simp[fF]) ?_;rw[Ak];walk_at "w"
   refine q _ _ (kp.trans Kp.refl.new) ?_;rw[decide_eq_true_eq,show decide (Str.ofString "load"=Str.ofString "leave")=false from by decide,decide_eq_false_iff_not,yU];exact⟨λz=>⟨hno,z⟩,λz=>z.2⟩
  .rw[show Dd.t (.ld t p g)=t from rfl]at e ht hu o1;rw[e]at o1;have o1:h1.ob h.nx=some (.lst true [rV r]):=o1;walk_at "w"
   .refine q _ _ kp ?_;rw[decide_eq_true_eq,show decide (Str.ofString "load"=Str.ofString "leave")=false from by decide,decide_eq_false_iff_not];exact⟨λz=>absurd rfl z,λz=>absurd ⟨r,hr,ht⟩ z.1⟩
   .rename_i hc;exact absurd rfl hc
 |lv t=>
  show Wt _ (aW _ _ [some (.ref n),some (.ref m),some (.tup [.str "leave",.int t]),some (.ref h.nx),none,none]) _ _ _ _ _;rcases hmi with⟨e,hno⟩|⟨r,e,hr,ht,hu⟩
  .rw[show Dd.t (.lv t)=t from rfl]at e hno o1;rw[e]at o1;walk_at "w"
   refine eC om1 ?_;refine cf om1 (by omega) ?_;refine Hr (eU aX) (by simp[fF]) ?_;rw[Ak];walk_at "w"
   refine q _ _ (kp.trans Kp.refl.new) ?_;rw[decide_eq_true_eq,show decide (Str.ofString "leave"=Str.ofString "leave")=true from by decide,decide_eq_true_eq,yU];exact⟨.inr,λz=>z.elim (λy=>absurd y hno) id⟩
  .rw[show Dd.t (.lv t)=t from rfl]at e ht hu o1;rw[e]at o1;have o1:h1.ob h.nx=some (.lst true [rV r]):=o1;walk_at "w"
   .refine q _ _ kp ?_;rw[decide_eq_true_eq,show decide (Str.ofString "leave"=Str.ofString "leave")=true from by decide,decide_eq_true_eq];exact⟨λ_=>.inl ⟨r,hr,ht⟩,λ_=>rfl⟩
   .rename_i hc;exact absurd rfl hc
theorem ZL{k:Nat}{r:Row}{h:AH}:run pg (k+1) Mc [rV r] h = .ok (.int r.t) h:=by
 have w:Wp (run pg (k+1) Mc [rV r]) h λv h'=>v = .int r.t/\h'=h:=by
  refine cJ rfl rfl ?_;unfold Jr;show Wt _ (aW _ _ [some (.tup [.int r.t,oV r.p,oV r.w])]) _ _ _ _ _;walk_at "w"
  exact⟨rfl,rfl⟩
 obtain⟨v,h',e,rfl,rfl⟩:=w.ex;exact e
theorem FI{al:List Row}(hd:Nd al):∃bQ,bQ.Perm al/\dI bQ:=by refine⟨al.mergeSort (λa b=>decide (a.t<=b.t)),List.mergeSort_perm _ _,?_⟩;have h1:List.Pairwise (λa b:Row=>decide (a.t<=b.t)=true) (al.mergeSort (λa b=>decide (a.t<=b.t))):=List.pairwise_mergeSort (by intro a b c;simp only[decide_eq_true_eq];omega) (by intro a b;simp only[Bool.or_eq_true,decide_eq_true_eq];omega) _;have h2:Nd (al.mergeSort (λa b=>decide (a.t<=b.t))):=((List.mergeSort_perm _ _).map _).nodup_iff.mpr hd;unfold dI;unfold Nd List.Nodup at h2;rw[List.pairwise_map]at h2 ⊢;exact(h1.and h2).imp λ⟨a,b⟩=>by simp only[decide_eq_true_eq]at a;omega
theorem WS{r':Row}{rs:List Row}(h:¬eO r'.t rs):cP r' rs=rs:=by exact(List.map_congr_left (g:=id) λr hr=>if_neg λe=>h ⟨r,hr,e⟩).trans (List.map_id _)
theorem Vl{r':Row}{rs:List Row}(hd:Nd rs)(h:eO r'.t rs):(cP r' rs).Perm (rs.filter (cC r'.t)++[r']):=by
 induction rs with
 |nil=>obtain⟨r,hr,_⟩:=h;cases hr|cons x xs ih=>
  unfold Nd at hd;rw[List.map_cons,List.nodup_cons]at hd;by_cases e:x.t=r'.t
  .have hno:¬eO r'.t xs:=λ⟨r,hr,z⟩=>hd.1 (List.mem_map.mpr ⟨r,hr,z.trans e.symm⟩);have e1:cP r' (x::xs)=r'::xs:=by have:=WS hno;unfold cP at this ⊢;rw[List.map_cons,if_pos e,this]
   have e2:(x::xs).filter (cC r'.t)=xs:=by rw[List.filter_cons,if_neg (by unfold cC;simpa using e),zk hno]
   rw[e1,e2];exact(List.perm_append_comm (l₁:=[r']) (l₂:=xs))
  .have hy:eO r'.t xs:=by
    obtain⟨r,hr,z⟩:=h;rcases List.mem_cons.mp hr with rfl|hr
    .exact absurd z e
    .exact⟨r,hr,z⟩
   have e1:cP r' (x::xs)=x::cP r' xs:=by unfold cP;rw[List.map_cons,if_neg e]
   have e2:(x::xs).filter (cC r'.t)=x::xs.filter (cC r'.t):=by rw[List.filter_cons,if_pos (show cC r'.t x=true from decide_eq_true e)]
   rw[e1,e2];exact(ih hd.2 hy).cons x
theorem Ni{r':Row}{rs:List Row}{t:Int}:eO t (cP r' rs)↔eO t rs:=by rw[<- yU,<- yU,Vm]
theorem sV{rs ls:List Row}:Dj rs ls↔∀t,eO t rs->¬eO t ls:=⟨λh t ⟨r,hr,e⟩ ⟨l,hl,e'⟩=>h r hr l hl (e.trans e'.symm),λh r hr l hl e=>h r.t ⟨r,hr,rfl⟩ ⟨l,hl,e.symm⟩⟩
theorem kn{f:Row->Bool}{rs:List Row}{t:Int}(h:eO t (rs.filter f)):eO t rs:=let ⟨r,hr,e⟩:=h;⟨r,(List.mem_filter.mp hr).1,e⟩
theorem Gy{Xc:Nat->AH->Prop}{k n:Nat}{xs ys:List Row}{h:AH}{V1:AV->AH->Prop}(on:h.ob n=some (.lst true (xs.map rV)))(hl:xs.length<64)(pm:ys.Perm xs)(hi:dI ys)(q:V1 (.ref h.nx) (h.new (.lst true (ys.map rV)))):We Xc (sY (run pg (k+1) 10) (.ref n)) h V1:=by
 refine i9 (ks:=xs.map λr:Row=>r.t) on (by rw[List.length_map];exact hl) (by rw[List.length_map,List.length_map]) (λi u v e1 e2=>?_) ((pm.map _).nodup_iff.mp hi.nd) ?_
 .obtain⟨r,hr,rfl⟩:=kF e1;rw[List.getElem?_map,hr]at e2;have e3:r.t=v:=Option.some.inj e2;subst e3;exact ZL
 .rw[XQ pm hi];exact q
theorem mn{k:Nat}{d:Dd}{h1:AH}(r:Row):Wp (bE (run pg k) (.cmp .ne (.op .ix (.var 0) (.val (.int 0))) (.op .ix (.var 1) (.val (.int 1)))) [some (rV r),some (dA d)]) h1 λb h'=>b=cC d.t r/\h'=h1:=by obtain⟨t',p,w⟩:=r;show Wp (bE _ _ [some (.tup [.int t',oV p,oV w]),some (dA d)]) _ _;cases d<;>(simp only[dA];walk_at "w")<;>refine⟨?_,rfl⟩<;>(unfold cC Dd.t;simp)
theorem Ly{k:Nat}{d:Dd}{h1:AH}(r:Row):Wp (bE (run pg k) (.cmp .eq (.op .ix (.var 0) (.val (.int 0))) (.op .ix (.var 1) (.val (.int 1)))) [some (rV r),some (dA d)]) h1 λb h'=>b=pT d.t r/\h'=h1:=by obtain⟨t',p,w⟩:=r;show Wp (bE _ _ [some (.tup [.int t',oV p,oV w]),some (dA d)]) _ _;cases d<;>(simp only[dA];walk_at "w")<;>exact⟨rfl,rfl⟩
theorem Yi{k n m:Nat}{rs lb ls bP lb':List Row}{d:Dd}{h:AH}{R:AV->AH->Prop}(on:h.ob n=some (.lst true (rs.map rV)))(om:h.ob m=some (.lst true (ls.map rV)))(hm:m<h.nx)(hn:n<h.nx)(hi:dI rs)(il:dI ls)(pm:lb.Perm ls)(dj:Dj rs ls)(hl:rs.length+ls.length<63)(al:Al rs ls d)(af:Hs rs lb d bP lb')
  (q:∀n' m' bQ h',Kp h h'->h'.ob n'=some (.lst true (bP.map rV))->h'.ob m'=some (.lst true (bQ.map rV))->dI bQ->lb'.Perm bQ->Dj bP bQ->(n'=n\/h.nx<=n')->n'<h'.nx->(m'=m\/h.nx<=m')->m'<h'.nx->bP.length+bQ.length<=rs.length+ls.length+1->R (.tup [.ref n',.ref m']) h'):Wp (run pg (k+2) DE [.ref n,.ref m,dA d]) h R:=by
 have big:=gP;refine cJ rfl rfl ?_;unfold Jd;cases d with
 |st t=>
  obtain⟨rfl,rfl⟩:=af;show Wt _ (aW _ _ [some (.ref n),some (.ref m),some (.tup [.str "store",.int t]),none,none]) _ _ _ _ _;walk_at "w"
  refine iz (n:=n) ((eA (by omega)).trans on) aX (by rw[List.length_map];simp;omega) ?_;rw[show rs.map rV++[AV.tup [.int t,.aC,.aC]]=(rs++[(⟨t,none,none⟩:Row)]).map rV by rw[List.map_append];rfl];generalize eh:AH.new (AH.new h _) _=h2;have kp:Kp h h2:=by rw[<- eh];exact Kp.refl.new.new
  have o2:h2.ob (h.nx+1)=some (.lst true ((rs++[(⟨t,none,none⟩:Row)]).map rV)):=by rw[<- eh];exact aX
  have nx2:h2.nx=h.nx+2:=by rw[<- eh];rfl
  clear eh;rw[fP];walk_at "w"
  refine q _ _ ls _ kp o2 (kp.get hm om) il pm (λr hr l hl=>?_) (.inr (by omega)) (by omega) (.inl rfl) (by omega) (by rw[List.length_append,List.length_singleton];omega);rcases List.mem_append.mp hr with hr|hr
  .exact dj r hr l hl
  .have:r=⟨t,none,none⟩:=by simpa using hr
   subst this;exact λe=>al.2 ⟨l,hl,e.symm⟩
 |ld t p g=>
  obtain⟨rfl,rfl⟩:=af;show Wt _ (aW _ _ [some (.ref n),some (.ref m),some (.tup [.str "load",.int t,.int p,oV g]),none,none]) _ _ _ _ _;walk_at "w"
  refine iz (n:=m) ((eA (by omega)).trans om) aX (by rw[List.length_map];simp;omega) ?_;rw[show ls.map rV++[AV.tup [.int t,.int p,oV g]]=(ls++[(⟨t,some p,g⟩:Row)]).map rV by rw[List.map_append];rfl];generalize eh:AH.new (AH.new h _) _=h2;have kp:Kp h h2:=by rw[<- eh];exact Kp.refl.new.new
  have o2:h2.ob (h.nx+1)=some (.lst true ((ls++[(⟨t,some p,g⟩:Row)]).map rV)):=by rw[<- eh];exact aX
  have nx2:h2.nx=h.nx+2:=by rw[<- eh];rfl
  clear eh;rw[fP];have hd:Nd (ls++[(⟨t,some p,g⟩:Row)]):=by
   unfold Nd;rw[List.map_append,List.nodup_append];refine⟨il.nd,by simp,λu hu v hv=>?_⟩;have:v=t:=by simpa using hv
   subst this;exact λe=>al.2 (yU.mp (e▸hu))
  obtain⟨bQ,p1,p2⟩:=FI hd;have hlen:(ls++[(⟨t,some p,g⟩:Row)]).length=ls.length+1:=by rw[List.length_append,List.length_singleton]
  refine Gy (k:=k) o2 (by omega) p1 p2 ?_;have kp3:Kp h2 (h2.new (.lst true (bQ.map rV))):=Kp.refl.new;have o3:(h2.new (.lst true (bQ.map rV))).ob h2.nx=some (.lst true (bQ.map rV)):=aX;have nx3:(h2.new (.lst true (bQ.map rV))).nx=h2.nx+1:=rfl;generalize h2.new (.lst true (bQ.map rV))=h3 at *;walk_at "w"
  refine q _ _ bQ _ (kp.trans kp3) ((kp.trans kp3).get hn on) o3 p2 ((pm.append_right _).trans p1.symm) (λr hr l hl=>?_) (.inl rfl) (by omega) (.inr (by omega)) (by omega) (by rw[p1.length_eq,hlen];omega);rcases List.mem_append.mp (p1.mem_iff.mp hl)with hl|hl
  .exact dj r hr l hl
  .have:l=⟨t,some p,g⟩:=by simpa using hl
   subst this;exact λe=>al.1 ⟨r,hr,e⟩
 |lv t=>
  obtain⟨rfl,rfl⟩:=af;show Wt _ (aW _ _ [some (.ref n),some (.ref m),some (dA (.lv t)),none,none]) _ _ _ _ _;have l1:(rs.filter (cC t)).length<=rs.length:=lV;have l2:(ls.filter (cC t)).length<=ls.length:=lV;have sw:dA (.lv t) = .tup [.str "leave",.int t]:=rfl;rw[sw];walk_at "w"
  refine eC on ?_;refine lN on (by omega) (mn (d:=.lv t)) ?_;rw[show Dd.t (.lv t)=t from rfl];generalize eh:h.new _=h1;have kp1:Kp h h1:=by rw[<- eh];exact Kp.refl.new
  have o1:h1.ob h.nx=some (.lst true ((rs.filter (cC t)).map rV)):=by rw[<- eh];exact aX
  have nx1:h1.nx=h.nx+1:=by rw[<- eh];rfl
  clear eh;walk_at "w"
  have om1:=kp1.get hm om;refine eC om1 ?_;refine lN om1 (by omega) (mn (d:=.lv t)) ?_;rw[show Dd.t (.lv t)=t from rfl];have kp2:Kp h1 (h1.new (.lst true ((ls.filter (cC t)).map rV))):=Kp.refl.new;have o2:(h1.new (.lst true ((ls.filter (cC t)).map rV))).ob h1.nx=some (.lst true ((ls.filter (cC t)).map rV)):=aX;have nx2:(h1.new (.lst true ((ls.filter (cC t)).map rV))).nx=h1.nx+1:=rfl;generalize h1.new (.lst true ((ls.filter (cC t)).map rV))=h2 at *;walk_at "w"
  exact q _ _ _ _ (kp1.trans kp2) (kp2.get (by omega) o1) o2 (kx il) (pm.filter _) (sV.mpr λt z y=>sV.mp dj t (kn z) (kn y)) (.inr (by omega)) (by omega) (.inr (by omega)) (by omega) (by omega)
 |pl t p=>
  obtain⟨r,hr,ht,rfl,rfl⟩:=af;show Wt _ (aW _ _ [some (.ref n),some (.ref m),some (dA (.pl t p)),none,none]) _ _ _ _ _;have l1:(rs.filter (cC t)).length<=rs.length:=lV;have sw:dA (.pl t p) = .tup [.str "place",.int t,.int p]:=rfl;rw[sw];walk_at "w"
  refine eC on ?_;refine lN on (by omega) (mn (d:=.pl t p)) ?_;rw[show Dd.t (.pl t p)=t from rfl];generalize eh:h.new _=h1;have kp1:Kp h h1:=by rw[<- eh];exact Kp.refl.new
  have o1:h1.ob h.nx=some (.lst true ((rs.filter (cC t)).map rV)):=by rw[<- eh];exact aX
  have nx1:h1.nx=h.nx+1:=by rw[<- eh];rfl
  clear eh;walk_at "w"
  have on1:=kp1.get hn on;refine eC on1 ?_;refine lN on1 (by omega) (Ly (d:=.pl t p)) ?_;rw[show Dd.t (.pl t p)=t from rfl];obtain⟨r2,e2,_,_,hu⟩:=(Ba (t:=t) hi).resolve_left λz=>z.2 ⟨r,hr,ht⟩;rw[e2,<- hu r hr ht];obtain⟨t',p',w'⟩:=r;dsimp only at ht;subst ht;rw[show List.map rV [⟨t',p',w'⟩]=[.tup [.int t',oV p',oV w']] from rfl];generalize eh:h1.new _=h2;have kp2:Kp h1 h2:=by rw[<- eh];exact Kp.refl.new
  have o2:h2.ob h1.nx=some (.lst true [.tup [.int t',oV p',oV w']]):=by rw[<- eh];exact aX
  have nx2:h2.nx=h1.nx+1:=by rw[<- eh];rfl
  have o12:=kp2.get (by omega) o1;clear eh;walk_at "w"
  refine iz (n:=h.nx) ((eA (by omega)).trans o12) aX (by rw[List.length_map];simp;omega) ?_;rw[show(rs.filter (cC t')).map rV++[AV.tup [.int t',.int p,oV w']]=(rs.filter (cC t')++[(⟨t',some p,w'⟩:Row)]).map rV by rw[List.map_append];rfl];generalize eh:AH.new (AH.new h2 _) _=h3;have kp3:Kp h2 h3:=by rw[<- eh];exact Kp.refl.new.new
  have o3:h3.ob (h2.nx+1)=some (.lst true ((rs.filter (cC t')++[(⟨t',some p,w'⟩:Row)]).map rV)):=by rw[<- eh];exact aX
  have nx3:h3.nx=h2.nx+2:=by rw[<- eh];rfl
  clear eh;rw[fP];have hp:=Vl (r':=⟨t',some p,w'⟩) hi.nd ⟨_,hr,rfl⟩;refine Gy (k:=k) o3 (by rw[List.length_append,List.length_singleton];omega) hp (lg hi) ?_;have kp4:Kp h3 (h3.new (.lst true ((cP ⟨t',some p,w'⟩ rs).map rV))):=Kp.refl.new;have o4:(h3.new (.lst true ((cP ⟨t',some p,w'⟩ rs).map rV))).ob h3.nx=some (.lst true ((cP ⟨t',some p,w'⟩ rs).map rV)):=aX;have nx4:(h3.new (.lst true ((cP ⟨t',some p,w'⟩ rs).map rV))).nx=h3.nx+1:=rfl;generalize h3.new (.lst true ((cP ⟨t',some p,w'⟩ rs).map rV))=h4 at *;have kpa:=((kp1.trans kp2).trans kp3).trans kp4;walk_at "w"
  exact q _ _ ls _ kpa o4 (kpa.get hm om) il pm (sV.mpr λt z=>sV.mp dj t (Ni.mp z)) (.inr (by omega)) (by omega) (.inl rfl) (by omega) (by rw[lr];omega)
 |wd t p=>
  obtain⟨r,hr,ht,rfl,rfl⟩:=af;show Wt _ (aW _ _ [some (.ref n),some (.ref m),some (dA (.wd t p)),none,none]) _ _ _ _ _;have l1:(rs.filter (cC t)).length<=rs.length:=lV;have sw:dA (.wd t p) = .tup [.str "word",.int t,.int p]:=rfl;rw[sw];walk_at "w"
  refine eC on ?_;refine lN on (by omega) (mn (d:=.wd t p)) ?_;rw[show Dd.t (.wd t p)=t from rfl];generalize eh:h.new _=h1;have kp1:Kp h h1:=by rw[<- eh];exact Kp.refl.new
  have o1:h1.ob h.nx=some (.lst true ((rs.filter (cC t)).map rV)):=by rw[<- eh];exact aX
  have nx1:h1.nx=h.nx+1:=by rw[<- eh];rfl
  clear eh;walk_at "w"
  have on1:=kp1.get hn on;refine eC on1 ?_;refine lN on1 (by omega) (Ly (d:=.wd t p)) ?_;rw[show Dd.t (.wd t p)=t from rfl];obtain⟨r2,e2,_,_,hu⟩:=(Ba (t:=t) hi).resolve_left λz=>z.2 ⟨r,hr,ht⟩;rw[e2,<- hu r hr ht];obtain⟨t',p',w'⟩:=r;dsimp only at ht;subst ht;rw[show List.map rV [⟨t',p',w'⟩]=[.tup [.int t',oV p',oV w']] from rfl];generalize eh:h1.new _=h2;have kp2:Kp h1 h2:=by rw[<- eh];exact Kp.refl.new
  have o2:h2.ob h1.nx=some (.lst true [.tup [.int t',oV p',oV w']]):=by rw[<- eh];exact aX
  have nx2:h2.nx=h1.nx+1:=by rw[<- eh];rfl
  have o12:=kp2.get (by omega) o1;clear eh;walk_at "w"
  refine iz (n:=h.nx) ((eA (by omega)).trans o12) aX (by rw[List.length_map];simp;omega) ?_;rw[show(rs.filter (cC t')).map rV++[AV.tup [.int t',oV p',.int p]]=(rs.filter (cC t')++[(⟨t',p',some p⟩:Row)]).map rV by rw[List.map_append];rfl];generalize eh:AH.new (AH.new h2 _) _=h3;have kp3:Kp h2 h3:=by rw[<- eh];exact Kp.refl.new.new
  have o3:h3.ob (h2.nx+1)=some (.lst true ((rs.filter (cC t')++[(⟨t',p',some p⟩:Row)]).map rV)):=by rw[<- eh];exact aX
  have nx3:h3.nx=h2.nx+2:=by rw[<- eh];rfl
  clear eh;rw[fP];have hp:=Vl (r':=⟨t',p',some p⟩) hi.nd ⟨_,hr,rfl⟩;refine Gy (k:=k) o3 (by rw[List.length_append,List.length_singleton];omega) hp (lg hi) ?_;have kp4:Kp h3 (h3.new (.lst true ((cP ⟨t',p',some p⟩ rs).map rV))):=Kp.refl.new;have o4:(h3.new (.lst true ((cP ⟨t',p',some p⟩ rs).map rV))).ob h3.nx=some (.lst true ((cP ⟨t',p',some p⟩ rs).map rV)):=aX;have nx4:(h3.new (.lst true ((cP ⟨t',p',some p⟩ rs).map rV))).nx=h3.nx+1:=rfl;generalize h3.new (.lst true ((cP ⟨t',p',some p⟩ rs).map rV))=h4 at *;have kpa:=((kp1.trans kp2).trans kp3).trans kp4;walk_at "w"
  exact q _ _ ls _ kpa o4 (kpa.get hm om) il pm (sV.mpr λt z=>sV.mp dj t (Ni.mp z)) (.inr (by omega)) (by omega) (.inl rfl) (by omega) (by rw[lr];omega)
def dK:Dd->PySem.Str
 |.st _=>"store"
 |.pl _ _=>"place"
 |.wd _ _=>"word"
 |.ld _ _ _=>"load"
 |.lv _=>"leave"
theorem Nv{Xc:Nat->AH->Prop}{d:Dd}{h:AH}{V1:AV->AH->Prop}(q:V1 (.str (dK d)) h):We Xc (Op.g .ix (dA d) (.int 0)) h V1:=by cases d<;>exact gS rfl rfl q
theorem Nw{Xc:Nat->AH->Prop}{d:Dd}{h:AH}{V1:AV->AH->Prop}(q:V1 (.int d.t) h):We Xc (Op.g .ix (dA d) (.int 1)) h V1:=by cases d<;>exact gS rfl rfl q
local macro_rules | `(tactic| walk_at "user")=>`(tactic| first
 | (with_reducible refine Nv ?_)
 | (with_reducible refine Nw ?_)
 | (with_reducible refine qY sX ?_))
def Nx(a n m:Nat)(h:AH)(c:Nat)(n' m':Nat)(h':AH):Prop:=∃bP lb' bQ,St a n' m' h' bP lb' bQ/\bP.length+bQ.length<=c+1/\Ka a h h'/\(n'=n\/h.nx<=n')/\(m'=m\/h.nx<=m')
theorem Nx.from{a n m c n' m':Nat}{h h1 h':AH}(k:Kp h h1)(x:Nx a n m h1 c n' m' h'):Nx a n m h c n' m' h':=by obtain⟨bP,lb',bQ,s,hl,ka,e1,e2⟩:=x;have:=k.nx;exact⟨bP,lb',bQ,s,hl,(oN k).trans ka,e1.imp id λz=>by omega,e2.imp id λz=>by omega⟩
theorem Lr{k n m a:Nat}{rs lb ls:List Row}{d:Dd}{h:AH}{R:AV->AH->Prop}(s:St a n m h rs lb ls)(hl:rs.length+ls.length<63)(al:Al rs ls d)
  (q:∀n' m' h',Nx a n m h (rs.length+ls.length) n' m' h'->R (.tup [.ref n',.ref m']) h'):Wp (run pg (k+4) zj [.ref a,.ref n,.ref m,dA d]) h R:=by
 have hpl:=s.pm.length_eq;have hn:=s.hn;have hm:=s.hm;refine cJ rfl rfl ?_;unfold Ji;walk_at "w"
 refine yy s.sh s.pm s.il s.dj (by omega) (λ_ bP lb' h1 ka s1 af=>?_) λz=>absurd al z;have on:=(ka.ob n hn.2 (by omega) (by omega)).trans s.on;have om:=(ka.ob m hm.2 (by omega) (by omega)).trans s.om;have nx:=ka.nx;walk_at "w"
 refine Ya om (by omega) ?_;walk_at "w"
 refine bu ?_;walk_at "w"
 refine Yi (k:=k+1) on om (by omega) (by omega) s.sh.inc s.il s.pm s.dj hl al af λn' m' bQ h2 kp o1 o2 i2 p2 d2 e1 e2 e3 e4 hl2=>?_;exact q _ _ _ ⟨bP,lb',bQ,⟨s1.kp kp,p2,i2,d2,o1,o2,⟨by rcases e1 with z|z<;>omega,e2⟩,⟨by rcases e3 with z|z<;>omega,e4⟩⟩,hl2,ka.trans (oN kp),e1.imp id λz=>by omega,e3.imp id λz=>by omega⟩
theorem cnt{t:Int}{rs:List Row}:(rs.filter (bT t)).length+(rs.filter (dC t)).length=rs.length:=by
 induction rs with
 |nil=>rfl|cons r rs ih=>
  rw[List.filter_cons,List.filter_cons];by_cases h:r.t ≥ t
  .rw[if_pos (show bT t r=true from decide_eq_true h),if_neg (show¬dC t r=true by unfold dC;simpa using h)];simp;omega
  .rw[if_neg (show¬bT t r=true by unfold bT;simpa using h),if_pos (show dC t r=true by unfold dC;simpa using h)];simp;omega
theorem Wo{k n m a:Nat}{rs lb ls:List Row}{t:Int}{h:AH}{R:AV->AH->Prop}(s:St a n m h rs lb ls)
  (q:∀n' m' h',St a n' m' h' (rs.filter (dC t)) (lb.filter (dC t)) (ls.filter (dC t))->Ka a h h'->h.nx<=n'->h.nx<=m'->R (.tup [.ref n',.ref m']) h'):Wp (run pg (k+3) Mb [.ref a,.ref n,.ref m,.int t]) h R:=by
 have hpl:=s.pm.length_eq;have hn:=s.hn;have hm:=s.hm;have cV:=s.sh.cV;have hc:∀(h1:AH) (r:Row),Wp (bE (run pg (k+2)) (.cmp .lt (.op .ix (.var 0) (.val (.int 0))) (.var 1)) [some (rV r),some (.int t)]) h1 λb h'=>b=dC t r/\h'=h1:=λh1 r=>by
  obtain⟨t',p,w⟩:=r;show Wp (bE _ _ [some (.tup [.int t',oV p,oV w]),some (.int t)]) _ _;walk_at "w"
  exact⟨rfl,rfl⟩
 refine cJ rfl rfl ?_;unfold Jq;walk_at "w"
 refine eC s.on ?_;refine lN s.on (by omega) (hc h) ?_;generalize eh:h.new _=h1;have kp1:Kp h h1:=by rw[<- eh];exact Kp.refl.new
 have o1:h1.ob h.nx=some (.lst true ((rs.filter (dC t)).map rV)):=by rw[<- eh];exact aX
 have nx1:h1.nx=h.nx+1:=by rw[<- eh];rfl
 clear eh;have s1:=s.kp kp1;walk_at "w"
 refine eC s1.om ?_;refine lN s1.om (by omega) (hc h1) ?_;generalize eh:h1.new _=h2;have kp2:Kp h1 h2:=by rw[<- eh];exact Kp.refl.new
 have o2:h2.ob h1.nx=some (.lst true ((ls.filter (dC t)).map rV)):=by rw[<- eh];exact aX
 have nx2:h2.nx=h1.nx+1:=by rw[<- eh];rfl
 have o12:=kp2.get (by omega) o1;clear eh;have s2:=s1.kp kp2;have on2:=s2.on;have om2:=s2.om;have oa:=s2.sh.oa;walk_at "w"
 refine⟨a,9,_,29,rfl,oa,rfl,rfl,?_⟩;walk_at "w"
 refine ZH s2.sh λh3 ka s3=>?_;have nx3:=ka.nx;walk_at "w"
 have c1:=cnt (t:=t) (rs:=rs);have c2:=cnt (t:=t) (rs:=ls);have c3:=(s.pm.filter (bT t)).length_eq;have ec:((rs.filter (bT t)).length:Int)+((lb.filter (bT t)).length:Int)=((rs.map rV).length:Int)+((ls.map rV).length:Int)-(((rs.filter (dC t)).map rV).length:Int)-(((ls.filter (dC t)).map rV).length:Int):=by rw[List.length_map,List.length_map,List.length_map,List.length_map];omega
 rw[ec];refine bu (o:=some _) ?_;walk_at "w"
 exact q _ _ _ ⟨s3,s.pm.filter _,kx s.il,sV.mpr λt z y=>sV.mp s.dj t (kn z) (kn y),(ka.ob _ (by omega) (by omega) (by omega)).trans o12,(ka.ob _ (by omega) (by omega) (by omega)).trans o2,by omega,by omega⟩ ((oN (kp1.trans kp2)).trans ka) (by omega) (by omega)
theorem Oy{t:Int}{rs:List Row}:¬ ∃r∈rs.filter (dC t),t<=r.t:=λ⟨r,hr,z⟩=>by have:=of_decide_eq_true (List.mem_filter.mp hr).2;omega
theorem Bh{t:Int}{rs:List Row}:¬eO t (rs.filter (dC t)):=λ⟨r,hr,z⟩=>Oy ⟨r,hr,by omega⟩
theorem XU{k n m a p:Nat}{rs lb ls:List Row}{d:Dd}{y z:Int}{h:AH}{R:AV->AH->Prop}(s:St a n m h rs lb ls)(op:h.ob p=some (.lst true [.int y,.int z]))(hp:p<h.nx/\a+2<p)(hl:rs.length+ls.length<63)
  (q:∀n' m' h',Nx a n m h (rs.length+ls.length) n' m' h'->R (.tup [.ref n',.ref m']) h'):Wp (run pg (k+5) DP [.ref a,.ref n,.ref m,.ref p,dA d]) h R:=by
 have hpl:=s.pm.length_eq;have hn:=s.hn;have hm:=s.hm;have cV:=s.sh.cV;have l1:∀t,(rs.filter (dC t)).length<=rs.length:=λt=>lV;have l2:∀t,(ls.filter (dC t)).length<=ls.length:=λt=>lV;have thr:∀h1,Kp h h1->∀n' m' h',St a n' m' h' (rs.filter (dC d.t)) (lb.filter (dC d.t)) (ls.filter (dC d.t))->Ka a h1 h'->h1.nx<=n'->h1.nx<=m'->Nx a n m h (rs.length+ls.length) n' m' h':=λh1 kp n' m' h' s' ka e1 e2=>Nx.from kp ⟨_,_,_,s',by have:=l1 d.t;have:=l2 d.t;omega,ka,.inr e1,.inr e2⟩;refine cJ rfl rfl ?_;unfold Jp;walk_at "w"
 .exact Wo s λn' m' h' s' ka e1 e2=>q _ _ _ (thr h .refl n' m' h' s' ka e1 e2)
 .refine Xz s.on s.om hm.2 hn.2 s.sh.inc (by omega) λb h1 kp hb=>?_;have s1:=s.kp kp;cases b with
  |true=>
   walk_at "w"
   exact Lr s1 hl (hb.mp rfl) λn' m' h' x=>q _ _ _ (x.from kp)
  |false=>
   have na:¬Al rs ls d:=λz=>nomatch hb.mpr z;walk_at "w"
   refine UQ s1.sh s1.pm s1.il s1.dj (by omega) na λh2 kp2=>?_;have s2:=s1.kp kp2;walk_at "w"
   refine UP s2.sh s2.pm s2.il s2.dj (by omega) na λh3 kp3=>?_;have s3:=s2.kp kp3;have kpa:=(kp.trans kp2).trans kp3;have op3:=kpa.get hp.1 op;have gQ:Nx a n m h (rs.length+ls.length) n m h3:=⟨_,_,_,s3,by omega,oN kpa,.inl rfl,.inl rfl⟩;have again:(dK d="store"\/dK d="load")->∀n' m' h',St a n' m' h' (rs.filter (dC d.t)) (lb.filter (dC d.t)) (ls.filter (dC d.t))->Ka a h3 h'->h3.nx<=n'->h3.nx<=m'->Wp (run pg (k+4) zj [.ref a,.ref n',.ref m',dA d]) h' R:=λhk n' m' h' s' ka e1 e2=>by
    have e3:=l1 d.t;have e4:=l2 d.t;refine Lr s' (by omega) ?_ λn2 m2 h2 x=>q _ _ _ ?_
    .cases d with
     |st t=>exact⟨Oy,Bh⟩|ld t p g=>exact⟨Bh,Bh⟩|pl t p=>exact absurd hk (show¬(("place":PySem.Str)="store"\/("place":PySem.Str)="load") by decide)|wd t p=>exact absurd hk (show¬(("word":PySem.Str)="store"\/("word":PySem.Str)="load") by decide)|lv t=>exact absurd hk (show¬(("leave":PySem.Str)="store"\/("leave":PySem.Str)="load") by decide)
    .obtain⟨bP,lb',bQ,x1,x2,x3,x4,x5⟩:=x;have:=ka.nx;exact Nx.from kpa ⟨bP,lb',bQ,x1,by omega,ka.trans x3,.inr (by rcases x4 with z|z<;>omega),.inr (by rcases x5 with z|z<;>omega)⟩
   have go:(dK d="store"\/dK d="load")->∀{Q:AV->AH->Prop},(∀n' m' h',Wp (run pg (k+4) zj [.ref a,.ref n',.ref m',dA d]) h' R->Q (.tup [.ref n',.ref m']) h')->Wp (run pg (k+4) Mb [.ref a,.ref n,.ref m,.int d.t]) h3 Q:=λhk Q hq=>Wo (k:=k+1) s3 λn' m' h' s' ka e1 e2=>hq _ _ _ (again hk n' m' h' s' ka e1 e2);walk_at "w"
   .exact q _ _ _ gQ
   .exact q _ _ _ gQ
   .rename_i hk;refine go (.inr (by simpa using hk)) λn' m' h' w=>?_;walk_at "w"
    exact w
   .rename_i hk;refine go (.inl (by simpa using hk)) λn' m' h' w=>?_;walk_at "w"
    exact w
theorem FE{l:List Int}{z:Int}(hl:0<l.length):∃i,dF (l.map AV.int) (z%(l.length:Int))=some (.int i):=by
 have h0:=Int.emod_nonneg z (show((l.length:Nat):Int)≠0 by omega);have h1:=Int.emod_lt_of_pos z (show(0:Int)<((l.length:Nat):Int) by omega);obtain⟨j,ej⟩:=Int.eq_ofNat_of_zero_le h0;rw[ej];have hj:j<l.length:=by omega
 exact⟨l[j],xr (by rw[List.getElem?_map,List.getElem?_eq_getElem hj];rfl)⟩
inductive Kd where
 |st|pl|wd|ld|lv
def Kd.nm:Kd->PySem.Str
 |.st=>"store" |.pl=>"place" |.wd=>"word" |.ld=>"load" |.lv=>"leave"
theorem FD{l:List Int}(hl:0<l.length):∃i,dF (l.map AV.int) (-1)=some (.int i):=by
 have h1:l.length-1<l.length:=by omega
 refine⟨l[l.length-1],?_⟩;have:=Yc (xs:=l.map AV.int) (n:=1) (by omega) (by rw[List.length_map];omega);rw[List.length_map,List.getElem?_map,List.getElem?_eq_getElem h1]at this;exact this
def Hg:bB:=(.cons (.ite (.or (.cmp .eq (.op .mod (.var 4) (.val (.int 4))) (.val (.int 0))) (.cmp .eq (.bi .len (.cons (.var 5) .nil)) (.val (.int 0))))
 (.cons (.ret (.op .add (.op .add (.var 3) (.val (.int 1))) (.op .mod (.op .fdiv (.var 4) (.val (.int 4))) (.val (.int 24))))) .nil)
 .nil) (.cons (.ite (.cmp .eq (.var 0) (.val (.str "store")))
 (.cons (.ret (.op .add (.op .ix (.var 5) (.neg (.val (.int 1)))) (.op .mod (.op .fdiv (.var 4) (.val (.int 4))) (.val (.int 4))))) .nil)
 .nil) (.cons (.asg (.nm 6) (.op .ix (.var 5) (.op .mod (.op .fdiv (.var 4) (.val (.int 4))) (.bi .len (.cons (.var 5) .nil))))) (.cons (.ite (.cmp .eq (.var 0) (.val (.str "load")))
 (.cons (.ret (.op .add (.var 6) (.op .mod (.op .fdiv (.var 4) (.val (.int 256))) (.val (.int 3))))) .nil)
 .nil) (.cons (.ret (.var 6)) .nil)))))
theorem ZK:Js=(.cons (.asg (.nm 5) (.fV [none] (.nm 0) (.seq (.var 1)) (.op .ix (.var 0) (.val (.int 0))))) (.cons (.ite (.cmp .eq (.var 0) (.val (.str "leave")))
 (.cons (.asg (.nm 5) (.op .add (.var 5) (.fV [none] (.nm 0) (.seq (.var 2)) (.op .ix (.var 0) (.val (.int 0)))))) .nil)
 .nil) Hg)):=rfl
theorem Wy{k c:Nat}{l:List Int}{kd:PySem.Str}{b z:Int}{v1 v2:Option AV}{h:AH}{R:AV->AH->Prop}{N B C:aA->AH->Prop}(oc:h.ob c=some (.lst true (l.map AV.int)))(q:∀t,R (.int t) h):Wt (λ_ _=>False) (aW (run pg k) Hg [some (.str kd),v1,v2,some (.int b),some (.int z),some (.ref c),none]) h N R B C:=by
 unfold Hg;walk_at "w"
 .exact q _
 .exact q _
 .rename_i _ hc _;obtain⟨i,hi⟩:=FD (l:=l) (by rw[List.length_map]at hc;omega);refine gS (eU oc) hi ?_;walk_at "w"
  exact q _
 .rename_i _ hc _;obtain⟨i,hi⟩:=FE (l:=l) (z:=z / 4) (by rw[List.length_map]at hc;omega);rw[List.length_map];refine gS (eU oc) hi ?_;walk_at "w"
  .exact q _
  .exact q _
theorem ZJ{k n m:Nat}{rs ls:List Row}{kd:PySem.Str}{b z:Int}{h:AH}{R:AV->AH->Prop}(on:h.ob n=some (.lst true (rs.map rV)))(om:h.ob m=some (.lst true (ls.map rV)))(hm:m<h.nx)(hl:rs.length+ls.length<64)(q:∀t h',Kp h h'->R (.int t) h'):Wp (run pg (k+1) DQ [.str kd,.ref n,.ref m,.int b,.int z]) h R:=by
 have big:=gP;refine cJ rfl rfl ?_;rw[ZK];walk_at "w"
 refine eC on ?_;refine cf on (by omega) ?_;generalize eh:h.new _=h1;have kp1:Kp h h1:=by rw[<- eh];exact Kp.refl.new
 have o1:h1.ob h.nx=some (.lst true ((rs.map (·.t)).map AV.int)):=by rw[<- eh];exact aX
 have nx1:h1.nx=h.nx+1:=by rw[<- eh];rfl
 have om1:=kp1.get hm om;clear eh;walk_at "w"
 .refine eC om1 ?_;refine cf om1 (by omega) ?_;refine iz (n:=h.nx) ((eA (by omega)).trans o1) aX (by simp only[List.length_map];omega) ?_;rw[<- List.map_append];generalize eh:AH.new (AH.new h1 _) _=h2;have kp2:Kp h1 h2:=by rw[<- eh];exact Kp.refl.new.new
  have o2:h2.ob (h1.nx+1)=some (.lst true ((rs.map (·.t)++ls.map (·.t)).map AV.int)):=by rw[<- eh];exact aX
  clear eh;rw[fP];walk_at "w"
  exact Wy o2 λt=>q t _ (kp1.trans kp2)
 .exact Wy o1 λt=>q t _ kp1
theorem GP{z:Int}(h0:0<=z)(h1:z<8):∃kd:Kd,dF [AV.str "store",.str "store",.str "place",.str "word",.str "word",.str "load",.str "load",.str "leave"] z=some (.str kd.nm):=by
 have:z=0\/z=1\/z=2\/z=3\/z=4\/z=5\/z=6\/z=7:=by omega
 rcases this with rfl|rfl|rfl|rfl|rfl|rfl|rfl|rfl
 .exact⟨.st,rfl⟩
 .exact⟨.st,rfl⟩
 .exact⟨.pl,rfl⟩
 .exact⟨.wd,rfl⟩
 .exact⟨.wd,rfl⟩
 .exact⟨.ld,rfl⟩
 .exact⟨.ld,rfl⟩
 .exact⟨.lv,rfl⟩
theorem AB{k n m p:Nat}{rs ls:List Row}{b fr y z:Int}{h:AH}{R:AV->AH->Prop}(on:h.ob n=some (.lst true (rs.map rV)))(om:h.ob m=some (.lst true (ls.map rV)))(hn:n<h.nx)(hm:m<h.nx)(hl:rs.length+ls.length<64)(op:h.ob p=some (.lst true [.int y,.int z]))(hp:p<h.nx)(z0:0<=z)(z1:z<2147483648)
  (q:∀d h',Kp h h'->R (dA d) h'):Wp (run pg (k+2) DH [.ref p,.ref n,.ref m,.int b,.int fr]) h R:=by
 refine cJ rfl rfl ?_;unfold Jg;walk_at "w"
 have ol:(h.new (.lst true [AV.str "store",.str "store",.str "place",.str "word",.str "word",.str "load",.str "load",.str "leave"])).ob h.nx=some (.lst true [AV.str "store",.str "store",.str "place",.str "word",.str "word",.str "load",.str "load",.str "leave"]):=aX;have kp1:Kp h (h.new (.lst true [AV.str "store",.str "store",.str "place",.str "word",.str "word",.str "load",.str "load",.str "leave"])):=Kp.refl.new;generalize h.new (.lst true [AV.str "store",.str "store",.str "place",.str "word",.str "word",.str "load",.str "load",.str "leave"])=h1 at *;have op1:=kp1.get hp op;have on1:=kp1.get hn on;have om1:=kp1.get hm om;have nx:=kp1.nx;walk_at "w"
 obtain⟨kd,hk⟩:=GP (z:=y / 2%8) (by omega) (by omega);refine gS (eU ol) hk ?_;clear hk ol;walk_at "w"
 refine ZJ on1 om1 (by omega) hl λt h2 kp2=>?_;have kp:=kp1.trans kp2;cases kd<;>simp only[Kd.nm]
 .walk_at "w"
  exact q (.st t) _ kp
 .walk_at "w"
  exact q (.pl t _) _ kp
 .walk_at "w"
  exact q (.wd t _) _ kp
 .walk_at "w"
  generalize (if t-1-z / 8%4 > 0 then t-1-z / 8%4 else 0)=gg;obtain⟨g,hg⟩:∃g:Option Int,dF [AV.aC,.int gg] (z / 4%2)=some (oV g):=by
   have:z / 4%2=0\/z / 4%2=1:=by omega
   rcases this with e|e<;>rw[e]
   .exact⟨none,rfl⟩
   .exact⟨some gg,rfl⟩
  refine gS (eU aX) hg ?_;walk_at "w"
  exact q (.ld t _ g) _ (kp.trans Kp.refl.new)
 .walk_at "w"
  exact q (.lv t) _ kp
theorem Zg{Xc:Nat->AH->Prop}{F:AM.Run}{c:Ex}{n:Nat}{rs:List Row}{v0:Option AV}{f:Row->Bool}{h:AH}{L1:List AV->AH->Prop}(en:h.ob n=some (.lst true (rs.map rV)))(hl:rs.length<64)(hc:∀r,Wp (bE F c [some (rV r)]) h λb h'=>b=f r/\h'=h)
  (q:L1 ((rs.filter f).map rV) h):We Xc (cM (eG n) (iA (.nm 0)) (bE F c) (aB F (.var 0)) FU 0 [] [v0]) h L1:=by
 have big:=gP;refine Ld (bb:=true) (xs:=rs.map rV) (λj ys U h'=>(∃v0,U=[v0])/\ys=((rs.take j).filter f).map rV/\h'=h) (by rw[List.length_map,fJ];omega) ⟨⟨_,rfl⟩,rfl,rfl⟩ (λj ys U h' ⟨_,_,e'⟩=>by rw[e'];exact en) (λj x ys U h' hx ⟨⟨v0,e1⟩,e2,e3⟩=>?_) (λys U h' ⟨⟨v0,e1⟩,e2,e3⟩=>?_)
 .subst e1 e3;obtain⟨r,hr,rfl⟩:=kF hx;have et:rs.take (j+1)=rs.take j++[r]:=by rw[List.take_add_one,hr];rfl
  have h1:((rs.take j).filter f).length<=(rs.take j).length:=List.length_filter_le _ _;have h2:(rs.take j).length<=rs.length:=by rw[List.length_take];omega
  walk_at "w"
  refine(hc r).mono λb h3 ⟨e4,e5⟩=>?_;subst e4 e5;split
  .rename_i hb;walk_at "w"
   refine⟨by rw[e2,List.length_map];omega,⟨_,rfl⟩,?_,rfl⟩;rw[et,e2,List.filter_append,List.map_append,List.filter_cons,if_pos hb];rfl
  .rename_i hb;refine⟨⟨_,rfl⟩,?_,rfl⟩;rw[et,e2,List.filter_append,List.map_append,List.filter_cons,if_neg hb];simp
 .subst e1 e3;rw[List.length_map,List.take_length]at e2;subst e2;exact q
def Gz:bB:=(.cons (.ite (.or (.cmp .eq (.bi .len (.cons (.var 5) .nil)) (.val (.int 0))) (.cmp .eq (.op .mod (.var 4) (.val (.int 5))) (.val (.int 0))))
 (.cons (.ret (.tup (.cons (.op .add (.var 2) (.op .mod (.op .fdiv (.var 4) (.val (.int 5))) (.val (.int 40)))) (.cons (.op .add (.var 3) (.op .mod (.op .fdiv (.var 4) (.val (.int 200))) (.val (.int 4)))) .nil)))) .nil)
 .nil) (.cons (.ret (.tup (.cons (.op .add (.op .add (.op .ix (.op .ix (.var 5) (.val (.int 0))) (.val (.int 0))) (.val (.int 1))) (.op .mod (.op .fdiv (.var 4) (.val (.int 5))) (.val (.int 3)))) (.cons (.op .ix (.op .ix (.var 5) (.val (.int 0))) (.val (.int 1))) .nil)))) .nil))
theorem XR:Jo=(.cons (.asg (.nm 5) (.eL [none,some 1] (.nm 0) (.seq (.var 0)) (.and (.cmp .ge (.op .ix (.var 0) (.val (.int 0))) (.op .ix (.var 1) (.val (.int 1)))) (.cmp .isn (.op .ix (.var 0) (.val (.int 1))) (.val .aC))) (.var 0))) (.cons (.ite (.cmp .eq (.bi .len (.cons (.var 5) .nil)) (.val (.int 0)))
 (.cons (.asg (.nm 5) (.eL [none] (.nm 0) (.seq (.var 0)) (.cmp .isn (.op .ix (.var 0) (.val (.int 1))) (.val .aC)) (.var 0))) .nil)
 .nil) Gz)):=rfl
theorem Vx{k c:Nat}{rs:List Row}{b fr z:Int}{v0 v1:Option AV}{h:AH}{R:AV->AH->Prop}{N B C:aA->AH->Prop}(oc:h.ob c=some (.lst true (rs.map rV)))(hs:∀r∈rs,r.p≠none)(q:∀tk pl,R (.tup [.int tk,.int pl]) h):Wt (λ_ _=>False) (aW (run pg k) Gz [v0,v1,some (.int b),some (.int fr),some (.int z),some (.ref c)]) h N R B C:=by
 unfold Gz;cases rs with
 |nil=>
  have oc:h.ob c=some (.lst true []):=oc;walk_at "w"
  exact q _ _
 |cons r rs=>
  obtain⟨t,p,w⟩:=r;have hp:=hs _ (List.mem_cons_self ..);dsimp only at hp;cases p with
  |none=>exact absurd rfl hp|some i=>
   have oc:h.ob c=some (.lst true (.tup [.int t,.int i,oV w]::rs.map rV)):=oc;walk_at "w"
   .exact q _ _
   .exact q _ _
   .refine gS (eU oc) (v:=.tup [.int t,.int i,oV w]) (xr (j:=0) rfl) ?_;walk_at "w"
    refine gS (eU oc) (v:=.tup [.int t,.int i,oV w]) (xr (j:=0) rfl) ?_;walk_at "w"
    exact q _ _
theorem XS{k n:Nat}{rs:List Row}{d:Dd}{b fr z:Int}{h:AH}{R:AV->AH->Prop}(on:h.ob n=some (.lst true (rs.map rV)))(hn:n<h.nx)(hl:rs.length<64)(q:∀tk pl h',Kp h h'->R (.tup [.int tk,.int pl]) h'):Wp (run pg (k+1) DO [.ref n,dA d,.int b,.int fr,.int z]) h R:=by
 have l1:∀f:Row->Bool,(rs.filter f).length<=rs.length:=λf=>lV;refine cJ rfl rfl ?_;rw[XR];walk_at "w"
 refine eC on ?_;refine lN (f:=λr=>bT d.t r&&r.p.isSome) on hl (λr=>?_) ?_
 .obtain⟨t',p,w⟩:=r;show Wp (bE _ _ [some (.tup [.int t',oV p,oV w]),some (dA d)]) _ _;cases p with
  |none=>
   walk_at "w"
   .exact⟨by simp[iH,oV],rfl⟩
   .rename_i hc;exact⟨by simp,rfl⟩
  |some i=>
   walk_at "w"
   .rename_i hc;exact⟨by simpa[iH,oV,bT]using hc,rfl⟩
   .rename_i hc;exact⟨by simpa[bT]using hc,rfl⟩
 generalize eh:h.new _=h1;have kp1:Kp h h1:=by rw[<- eh];exact Kp.refl.new
 have o1:h1.ob h.nx=some (.lst true ((rs.filter λr=>bT d.t r&&r.p.isSome).map rV)):=by rw[<- eh];exact aX
 have on1:=kp1.get hn on;clear eh;walk_at "w"
 .refine eC on1 ?_;refine Zg (f:=λr=>r.p.isSome) on1 hl (λr=>?_) ?_
  .obtain⟨t',p,w⟩:=r;show Wp (bE _ _ [some (.tup [.int t',oV p,oV w])]) _ _;cases p<;>(walk_at "w")<;>exact⟨rfl,rfl⟩
  refine Vx aX (λr hr=>?_) λtk pl=>q _ _ _ (kp1.trans Kp.refl.new);have:=(List.mem_filter.mp hr).2;intro z;rw[z]at this;cases this
 .refine Vx o1 (λr hr=>?_) λtk pl=>q _ _ _ kp1;have:=(List.mem_filter.mp hr).2;intro z;rw[z]at this;simp at this
theorem Oj{k n a:Nat}{rs lb:List Row}{tk pl:Int}{b:Bool}{h:AH}{R:AV->AH->Prop}(s:Sh h a rs lb)(en:h.ob n=some (.lst true (rs.map rV)))(hn:n<h.nx)(q:∀h',Kp h h'->R (.bl true) h'):Wp (run pg (k+3) DK [.ref a,.ref n,.tup [.int tk,.int pl],.bl b]) h R:=by
 have cV:=s.cV;refine cJ rfl rfl ?_;unfold Jk;walk_at "w"
 generalize (!b)=b2;refine eC aX ?_;refine cm (bb:=true) (xs:=[.bl b,.bl b2]) (λj U h'=>(∃v4,U=[some (.ref a),some (.ref n),some (.tup [.int tk,.int pl]),some (.bl b),v4])/\Kp h h'/\h'.ob h.nx=some (.lst true [.bl b,.bl b2])/\h.nx<h'.nx) (by rw[fJ];show 2<1000000;decide) ⟨⟨_,rfl⟩,Kp.refl.new,aX,Nat.lt_succ_self _⟩ (λj U h' ⟨_,_,e',_⟩=>e') (λj x U h' hx ⟨⟨v4,e1⟩,e2,e3,e4⟩=>?_) (λU h' ⟨⟨v4,e1⟩,e2,e3,e4⟩=>?_)
 .subst e1;obtain⟨da,rfl⟩:∃da,x = .bl da:=by
   match j,hx with
   |0,hx=>exact⟨b,(Option.some.inj hx).symm⟩|1,hx=>exact⟨b2,(Option.some.inj hx).symm⟩
  clear hx;have s1:=s.kp e2;have oa:=s1.oa;have nx1:=e2.nx;walk_at "w"
  refine⟨a,9,_,26,rfl,oa,rfl,rfl,?_⟩;walk_at "w"
  refine HC s1 λh2 kp2=>?_;have en2:=(e2.trans kp2).get hn en;walk_at "w"
  refine AR en2 (by omega) ?_;walk_at "w"
  refine Xy AQ ?_;walk_at "w"
  exact⟨⟨_,rfl⟩,e2.trans kp2,kp2.get e4 e3,by have:=kp2.nx;omega⟩
 .subst e1;walk_at "w"
  exact q _ e2
theorem Wu{k n m a:Nat}{rs lb ls:List Row}{h:AH}{R:AV->AH->Prop}(s:St a n m h rs lb ls)(q:∀h',Kp h h'->R (.bl true) h'):Wp (run pg (k+4) DR [.ref a,.tup [.ref n,.ref m]]) h R:=by
 have cV:=s.sh.cV;have hpl:=s.pm.length_eq;have oa:=s.sh.oa;refine cJ rfl rfl ?_;unfold Jt;walk_at "w"
 refine⟨a,9,_,30,rfl,oa,rfl,rfl,?_⟩;walk_at "w"
 refine XY s.sh λx h2 kp ox x1 x2=>?_;have s2:=s.kp kp;have oa2:=s2.sh.oa;walk_at "w"
 refine Hz (k:=k) ox s2.on (by omega) ?_;walk_at "w"
 refine⟨a,9,_,31,rfl,oa2,rfl,rfl,?_⟩;walk_at "w"
 refine HA s2.sh s2.pm s2.il λx' h3 kp3 ox3 x3 x4=>?_;have s3:=s2.kp kp3;walk_at "w"
 refine Hz (k:=k) ox3 s3.om (by omega) ?_;exact q _ (kp.trans kp3)
local macro_rules | `(tactic| walk_at "am1")=>`(tactic| with_reducible refine Hn ?_)
local macro_rules | `(tactic| walk_at "user")=>`(tactic| first
 | ((with_reducible refine' gS ?k1 ?k2 ?_);(case k1=>exact eU (by assumption));(case k2=>assumption)))
def xv:bB:=(.cons (.asg (.nm 9) (.call 8 (.cons (.var 7) (.cons (.op .ix (.op .ix (.var 4) (.var 8)) (.val (.int 0))) (.cons (.op .ix (.op .ix (.var 4) (.var 8)) (.val (.int 1))) (.cons (.var 1) (.cons (.var 2) .nil))))))) (.cons (.asg (.nm 10) (.call 16 (.cons (.op .ix (.op .ix (.var 4) (.var 8)) (.val (.int 0))) (.cons (.var 9) (.cons (.var 1) (.cons (.var 2) (.cons (.op .fdiv (.op .ix (.var 7) (.val (.int 1))) (.val (.int 7))) .nil))))))) (.cons (.ite (.not (.call 18 (.cons (.op .ix (.var 3) (.var 8)) (.cons (.op .ix (.op .ix (.var 4) (.var 8)) (.val (.int 0))) (.cons (.var 10) (.cons (.cmp .eq (.op .mod (.var 5) (.val (.int 2))) (.val (.int 0))) .nil))))))
 (.cons (.ret (.val (.bl false))) .nil)
 .nil) (.cons (.asg (.nm 11) (.call 15 (.cons (.op .ix (.var 3) (.var 8)) (.cons (.op .ix (.op .ix (.var 4) (.var 8)) (.val (.int 0))) (.cons (.op .ix (.op .ix (.var 4) (.var 8)) (.val (.int 1))) (.cons (.var 7) (.cons (.var 9) .nil))))))) (.cons (.ite (.or (.cmp .eP (.var 11) (.val .aC)) (.not (.call 19 (.cons (.op .ix (.var 3) (.var 8)) (.cons (.var 11) .nil)))))
 (.cons (.ret (.val (.bl false))) .nil)
 .nil) (.cons (.ite (.not (.call 18 (.cons (.op .ix (.var 3) (.var 8)) (.cons (.op .ix (.var 11) (.val (.int 0))) (.cons (.var 10) (.cons (.cmp .eq (.op .mod (.var 5) (.val (.int 3))) (.val (.int 0))) .nil))))))
 (.cons (.ret (.val (.bl false))) .nil)
 .nil) (.cons (.asg (.sub (.var 4) (.var 8)) (.var 11)) (.cons (.ite (.not (.call 19 (.cons (.op .ix (.var 3) (.op .sub (.val (.int 1)) (.var 8))) (.cons (.op .ix (.var 4) (.op .sub (.val (.int 1)) (.var 8))) .nil))))
 (.cons (.ret (.val (.bl false))) .nil)
 .nil) .nil))))))))
def Aw:bB:=(.cons (.asg (.nm 7) (.lst (.cons (.call 1 (.cons (.var 6) (.cons (.var 5) (.cons (.val (.int 48271)) (.cons (.val (.int 2147483647)) .nil))))) (.cons (.call 1 (.cons (.var 6) (.cons (.var 5) (.cons (.val (.int 69621)) (.cons (.val (.int 2147483629)) .nil))))) .nil)))) (.cons (.asg (.nm 8) (.op .mod (.op .ix (.var 7) (.val (.int 0))) (.val (.int 2)))) xv))
def Ax:bB:=(.cons (.asg (.nm 3) (.lst (.cons (.make 9 21 [] .nil) (.cons (.make 9 21 [] .nil) .nil)))) (.cons (.asg (.nm 4) (.lst (.cons (.tup (.cons (.lst .nil) (.cons (.lst .nil) .nil))) (.cons (.tup (.cons (.lst .nil) (.cons (.lst .nil) .nil))) .nil)))) (.cons (.gJ (.tup 2 (.cons (.nm 5) (.cons (.nm 6) .nil))) (.enum (.slice (.var 0) .no (.val (.int 63))))
 Aw) (.cons (.ret (.val (.bl true))) .nil))))
theorem GR:Ja=(.cons (.asg (.nm 1) (.val (.int 0))) (.cons (.asg (.nm 2) (.neg (.val (.int 2)))) (.cons (.ite (.cmp .eq (.op .mod (.call 0 (.cons (.var 0) (.cons (.val (.int 0)) .nil))) (.val (.int 3))) (.val (.int 1)))
 (.cons (.asg (.nm 1) (.op .mod (.op .fdiv (.call 0 (.cons (.var 0) (.cons (.val (.int 0)) .nil))) (.val (.int 3))) (.op .pow (.val (.int 10)) (.val (.int 17))))) (.cons (.asg (.nm 2) (.op .sub (.op .mod (.call 0 (.cons (.var 0) (.cons (.val (.int 1)) .nil))) (.op .mul (.val (.int 2)) (.op .pow (.val (.int 10)) (.val (.int 50))))) (.op .pow (.val (.int 10)) (.val (.int 50))))) .nil))
 .nil) Ax))):=rfl
structure fL(z q r c a a' n m n' m' j:Nat)(sl pl:List AV)(cs:List Int)(h:AH)(rs lb ls bP lb' bQ:List Row):Prop where
 s:St a n m h rs lb ls
 t:St a' n' m' h bP lb' bQ
 oq:h.ob q=some (.lst true sl)
 lY:h.ob r=some (.lst true pl)
 oc:h.ob c=some (.lst true (cs.map AV.int))
 ord:(a+2<a'\/a'+2<a)/\a+2<=z/\a'+2<=z/\z<q/\q<r/\r<c/\c<h.nx
 nm:z<n/\z<m/\z<n'/\z<m'/\n≠r/\m≠r/\n'≠r/\m'≠r
 cV:rs.length+ls.length<=j/\bP.length+bQ.length<=j
section
variable {z q r c a a' n m n' m' j:Nat}{sl pl:List AV}{cs:List Int}{h h':AH}{rs lb ls bP lb' bQ:List Row}
theorem fL.swap(w:fL z q r c a a' n m n' m' j sl pl cs h rs lb ls bP lb' bQ):fL z q r c a' a n' m' n m j sl pl cs h bP lb' bQ rs lb ls:=
 ⟨w.t,w.s,w.oq,w.lY,w.oc,by have:=w.ord;omega,by have:=w.nm;omega,by have:=w.cV;omega⟩
theorem fL.kp(w:fL z q r c a a' n m n' m' j sl pl cs h rs lb ls bP lb' bQ)(k:Kp h h'):fL z q r c a a' n m n' m' j sl pl cs h' rs lb ls bP lb' bQ:=
 ⟨w.s.kp k,w.t.kp k,k.get (by have:=w.ord;omega) w.oq,k.get (by have:=w.ord;omega) w.lY,k.get (by have:=w.ord;omega) w.oc,by have:=w.ord;have:=k.nx;omega,w.nm,w.cV⟩
theorem St.put{o:dO}(s:St a n m h rs lb ls)(h0:a+2<r)(h1:n≠r)(h2:m≠r):St a n m (h.put r o) rs lb ls:=
 ⟨⟨(bW (by omega)).trans s.sh.oa,(bW (by omega)).trans s.sh.ok,(bW (by omega)).trans s.sh.ob,s.sh.lt,s.sh.inc,s.sh.nd,s.sh.cV⟩,s.pm,s.il,s.dj,(bW h1).trans s.on,(bW h2).trans s.om,s.hn,s.hm⟩
theorem fL.put{pl2:List AV}(w:fL z q r c a a' n m n' m' j sl pl cs h rs lb ls bP lb' bQ):fL z q r c a a' n m n' m' j sl pl2 cs (h.put r (.lst true pl2)) rs lb ls bP lb' bQ:=by have o:=w.ord;have k:=w.nm;exact⟨w.s.put (by omega) (by omega) (by omega),w.t.put (by omega) (by omega) (by omega),(bW (by omega)).trans w.oq,jC,(bW (by omega)).trans w.oc,o,k,w.cV⟩
theorem fL.nx{n2 m2:Nat}(w:fL z q r c a a' n m n' m' j sl pl cs h rs lb ls bP lb' bQ)(x:Nx a n m h (rs.length+ls.length) n2 m2 h'):∃rs2 lb2 ls2,fL z q r c a a' n2 m2 n' m' (j+1) sl pl cs h' rs2 lb2 ls2 bP lb' bQ:=by obtain⟨rs2,lb2,ls2,s2,hl,ka,e1,e2⟩:=x;have o:=w.ord;have k:=w.nm;have f:=w.cV;have nx:=ka.nx;have t:=w.t;have tl:=t.sh.lt;have tn:=t.hn;have tm:=t.hm;refine⟨rs2,lb2,ls2,s2,⟨⟨(ka.ob _ (by omega) (by omega) (by omega)).trans t.sh.oa,(ka.ob _ (by omega) (by omega) (by omega)).trans t.sh.ok,(ka.ob _ (by omega) (by omega) (by omega)).trans t.sh.ob,by omega,t.sh.inc,t.sh.nd,t.sh.cV⟩,t.pm,t.il,t.dj,(ka.ob _ (by omega) (by omega) (by omega)).trans t.on,(ka.ob _ (by omega) (by omega) (by omega)).trans t.om,by omega,by omega⟩,(ka.ob _ (by omega) (by omega) (by omega)).trans w.oq,(ka.ob _ (by omega) (by omega) (by omega)).trans w.lY,(ka.ob _ (by omega) (by omega) (by omega)).trans w.oc,by omega,?_,by omega⟩;rcases e1 with e1|e1<;>rcases e2 with e2|e2<;>omega
end
theorem Kh{k z q r c a a' n m n' m' j i p jj:Nat}{sl pl:List AV}{cs:List Int}{h:AH}{rs lb ls bP lb' bQ:List Row}{b fr w y x:Int}{v0 v6 v9 v10 v11:Option AV}{R:AV->AH->Prop}{N B C:aA->AH->Prop}(W:fL z q r c a a' n m n' m' j sl pl cs h rs lb ls bP lb' bQ)(hj:j<63)(op:h.ob p=some (.lst true [.int y,.int x]))(hp:p<h.nx/\z<p)(x0:0<=x)(x1:x<2147483648)
  (hs:dF sl w=some (.ref a)) (hs':dF sl (1-w)=some (.ref a')) (hq:dF pl w=some (.tup [.ref n,.ref m])) (hi:iI pl.length w=some jj) (hq':∀v,dF (pl.set jj v) (1-w)=some (.tup [.ref n',.ref m']))
  (qq:∀n2 m2 h' rs2 lb2 ls2 u9 u10 u11,fL z q r c a a' n2 m2 n' m' (j+1) sl (pl.set jj (.tup [.ref n2,.ref m2])) cs h' rs2 lb2 ls2 bP lb' bQ->N [v0,some (.int b),some (.int fr),some (.ref q),some (.ref r),some (.int (i:Int)),v6,some (.ref p),some (.int w),u9,u10,u11] h') :
  Wt (λ_ _=>False) (aW (run pg (k+6)) xv [v0,some (.int b),some (.int fr),some (.ref q),some (.ref r),some (.int (i:Int)),v6,some (.ref p),some (.int w),v9,v10,v11]) h N R B C:=by
 have f:=W.cV;have o:=W.ord;have nm:=W.nm;have hpl:=W.s.pm.length_eq;have oq:=W.oq;have orr:=W.lY;unfold xv;walk_at "w"
 refine AB (k:=k+4) W.s.on W.s.om W.s.hn.2 W.s.hm.2 (by omega) op hp.1 x0 x1 λd h1 kp1=>?_;have W1:=W.kp kp1;have op1:=kp1.get hp.1 op;have nx1:=kp1.nx;clear oq orr;have oq:=W1.oq;have orr:=W1.lY;walk_at "w"
 refine XS (k:=k+5) W1.s.on W1.s.hn.2 (by omega) λtk pl' h2 kp2=>?_;have W2:=W1.kp kp2;have op2:=kp2.get (by omega) op1;have nx2:=kp2.nx;clear oq orr;have oq:=W2.oq;have orr:=W2.lY;walk_at "w"
 refine Oj (k:=k+3) W2.s.sh W2.s.on W2.s.hn.2 λh3 kp3=>?_;have W3:=W2.kp kp3;have op3:=kp3.get (by omega) op2;have nx3:=kp3.nx;clear oq orr;have oq:=W3.oq;have orr:=W3.lY;walk_at "w"
 refine XU (k:=k+1) W3.s op3 (by omega) (by omega) λn2 m2 h4 x=>?_;obtain⟨rs2,lb2,ls2,W4⟩:=W3.nx x;clear oq orr;have oq:=W4.oq;have orr:=W4.lY;walk_at "w"
 refine Wu (k:=k+2) W4.s λh5 kp5=>?_;have W5:=W4.kp kp5;clear oq orr;have oq:=W5.oq;have orr:=W5.lY;walk_at "w"
 refine Oj (k:=k+3) W5.s.sh W5.s.on W5.s.hn.2 λh6 kp6=>?_;have W6:=W5.kp kp6;clear oq orr;have oq:=W6.oq;have orr:=W6.lY;walk_at "w"
 refine⟨r,pl,w,jj,rfl,rfl,orr,hi,?_⟩;have W7:=W6.put (pl2:=pl.set jj (.tup [.ref n2,.ref m2]));generalize h6.put r (.lst true (pl.set jj (.tup [.ref n2,.ref m2])))=h7 at *;have hq2:=hq' (.tup [.ref n2,.ref m2]);clear oq orr;have oq:=W7.oq;have orr:=W7.lY;walk_at "w"
 refine Wu (k:=k+2) W7.t λh8 kp8=>?_;walk_at "w"
 exact qq _ _ _ _ _ _ _ _ _ (W7.kp kp8)
theorem HD{k z q r c a0 a1 n0 m0 n1 m1 i:Nat}{cs:List Int}{h:AH}{rs lb ls bP lb' bQ:List Row}{b fr cc:Int}{v0 v7 v8 v9 v10 v11:Option AV}{R:AV->AH->Prop}{N B C:aA->AH->Prop}(W:fL z q r c a0 a1 n0 m0 n1 m1 i [.ref a0,.ref a1] [.tup [.ref n0,.ref m0],.tup [.ref n1,.ref m1]] cs h rs lb ls bP lb' bQ)(hj:i<63)
  (qq:∀n2 m2 n3 m3 h' r1 r2 r3 r4 r5 r6 u7 u8 u9 u10 u11,fL z q r c a0 a1 n2 m2 n3 m3 (i+1) [.ref a0,.ref a1] [.tup [.ref n2,.ref m2],.tup [.ref n3,.ref m3]] cs h' r1 r2 r3 r4 r5 r6->N [v0,some (.int b),some (.int fr),some (.ref q),some (.ref r),some (.int (i:Int)),some (.int cc),u7,u8,u9,u10,u11] h') :
  Wt (λ_ _=>False) (aW (run pg (k+6)) Aw [v0,some (.int b),some (.int fr),some (.ref q),some (.ref r),some (.int (i:Int)),some (.int cc),v7,v8,v9,v10,v11]) h N R B C:=by
 have o:=W.ord;unfold Aw;walk_at "w"
 refine Ow (by omega) (by omega) (by omega) (by omega) λy y0 y1=>?_;walk_at "w"
 refine Ow (by omega) (by omega) (by omega) (by omega) λx x0 x1=>?_;walk_at "w"
 have kp:Kp h (h.new (.lst true [.int y,.int x])):=Kp.refl.new;have op:(h.new (.lst true [.int y,.int x])).ob h.nx=some (.lst true [.int y,.int x]):=aX;have nx:(h.new (.lst true [.int y,.int x])).nx=h.nx+1:=rfl;generalize h.new (.lst true [.int y,.int x])=h1 at *;have W1:=W.kp kp;walk_at "w"
 have hw:y%2=0\/y%2=1:=by omega
 rcases hw with e|e
 .rw[e];exact Kh (k:=k) (jj:=0) W1 hj op (by omega) x0 (by omega) rfl rfl rfl rfl (λv=>rfl) λn2 m2 h' rs2 lb2 ls2 u9 u10 u11 W2=>qq _ _ _ _ _ _ _ _ _ _ _ _ _ _ _ _ W2
 .rw[e];exact Kh (k:=k) (jj:=1) W1.swap hj op (by omega) x0 (by omega) rfl rfl rfl rfl (λv=>rfl) λn2 m2 h' rs2 lb2 ls2 u9 u10 u11 W2=>qq _ _ _ _ _ _ _ _ _ _ _ _ _ _ _ _ W2.swap
theorem Oq{k:Nat}{ns:List Int}{b fr:Int}{h:AH}{R:AV->AH->Prop}{N B C:aA->AH->Prop}(hl:ns.length<=63)(e0:h.ob 0=some (.lst false (ns.map AV.int)))(h0:0<h.nx)(q:∀h',R (.bl true) h') :
  Wt (λ_ _=>False) (aW (run pg (k+6)) Ax [some (.ref 0),some (.int b),some (.int fr),none,none,none,none,none,none,none,none,none]) h N R B C:=by
 unfold Ax;walk_at "w"
 refine Nj aX rfl λh1 nx1 o1 s1=>?_;refine⟨rfl,?_⟩;have e1:h1.ob 0=some (.lst false (ns.map AV.int)):=(o1 0 h0).trans ((eA (by omega)).trans e0);walk_at "w"
 refine Nj aX rfl λh2 nx2 o2 s2=>?_;refine⟨rfl,?_⟩;have kp2:Kp h1 h2:=⟨by omega,λn hn=>(o2 n hn).trans (eA (by omega))⟩;have e2:=kp2.get (by omega) e1;have s12:=s1.kp kp2;walk_at "w"
 simp only[fP];generalize eh:AH.new (AH.new (AH.new (AH.new (AH.new (AH.new h2 _) _) _) _) _) _=h3;have kp3:Kp h2 h3:=by rw[<- eh];exact Kp.refl.new.new.new.new.new.new
 have oq:h3.ob h2.nx=some (.lst true [.ref h.nx,.ref h1.nx]):=by
  rw[<- eh];repeat rw[eA (by simp only[fP];omega)]
  exact aX
 have f0:h3.ob (h2.nx+1)=some (.lst true (([]:List Row).map rV)):=by rw[<- eh,eA (by simp only[fP];omega),eA (by simp only[fP];omega),eA (by simp only[fP];omega),eA (by simp only[fP];omega)];exact aX
 have f1:h3.ob (h2.nx+1+1)=some (.lst true (([]:List Row).map rV)):=by rw[<- eh,eA (by simp only[fP];omega),eA (by simp only[fP];omega),eA (by simp only[fP];omega)];exact aX
 have f2:h3.ob (h2.nx+1+1+1)=some (.lst true (([]:List Row).map rV)):=by rw[<- eh,eA (by simp only[fP];omega),eA (by simp only[fP];omega)];exact aX
 have f3:h3.ob (h2.nx+1+1+1+1)=some (.lst true (([]:List Row).map rV)):=by rw[<- eh,eA (by simp only[fP];omega)];exact aX
 have orr:h3.ob (h2.nx+5)=some (.lst true [.tup [.ref (h2.nx+1),.ref (h2.nx+1+1)],.tup [.ref (h2.nx+1+1+1),.ref (h2.nx+1+1+1+1)]]):=by rw[<- eh];exact aX
 have nx3:h3.nx=h2.nx+6:=by rw[<- eh];rfl
 clear eh;refine j4 (kp3.get (by omega) e2) ?_;rw[Zs];have hc:=Zr ns none (some 63);generalize cg ns none (some 63)=cs at *;generalize eh:AH.new h3 _=h4;have kp4:Kp h3 h4:=by rw[<- eh];exact Kp.refl.new
 have ec:h4.ob h3.nx=some (.lst true (cs.map AV.int)):=by rw[<- eh];exact aX
 have nx4:h4.nx=h3.nx+1:=by rw[<- eh];rfl
 clear eh;have st:∀{a n m:Nat},Sh h2 a [] []->a+2<n->a+2<m->n<h3.nx->m<h3.nx->h3.ob n=some (.lst true (([]:List Row).map rV))->h3.ob m=some (.lst true (([]:List Row).map rV))->St a n m h4 [] [] []:=λs l1 l2 l3 l4 g1 g2=>⟨s.kp (kp3.trans kp4),.refl _,List.Pairwise.nil,λr hr=>(nomatch hr),kp4.get l3 g1,kp4.get l4 g2,by omega,by omega⟩;have W0:fL (h1.nx+2) h2.nx (h2.nx+5) h3.nx h.nx h1.nx (h2.nx+1) (h2.nx+1+1) (h2.nx+1+1+1) (h2.nx+1+1+1+1) 0 [.ref h.nx,.ref h1.nx] [.tup [.ref (h2.nx+1),.ref (h2.nx+1+1)],.tup [.ref (h2.nx+1+1+1),.ref (h2.nx+1+1+1+1)]] cs h4 [] [] [] [] [] []:=
  ⟨st s12 (by omega) (by omega) (by omega) (by omega) f0 f1,st s2 (by omega) (by omega) (by omega) (by omega) f2 f3,kp4.get (by omega) oq,kp4.get (by omega) orr,ec,by omega,by omega,by simp⟩
 refine⟨h3.nx,true,_,rfl,ec,?_⟩;refine DX (bb:=true) (xs:=cs.map AV.int) (λi U h'=>∃n0 m0 n1 m1 r1 r2 r3 r4 r5 r6 w5 w6 w7 w8 w9 w10 w11,U=[some (.ref 0),some (.int b),some (.int fr),some (.ref h2.nx),some (.ref (h2.nx+5)),w5,w6,w7,w8,w9,w10,w11]/\fL (h1.nx+2) h2.nx (h2.nx+5) h3.nx h.nx h1.nx n0 m0 n1 m1 i [.ref h.nx,.ref h1.nx] [.tup [.ref n0,.ref m0],.tup [.ref n1,.ref m1]] cs h' r1 r2 r3 r4 r5 r6)
  (by rw[List.length_map,fJ];omega) ⟨_,_,_,_,_,_,_,_,_,_,_,_,_,_,_,_,_,rfl,W0⟩ (λi U h' ⟨_,_,_,_,_,_,_,_,_,_,_,_,_,_,_,_,_,_,W⟩=>W.oc) (λi x U h' hx ⟨n0,m0,n1,m1,r1,r2,r3,r4,r5,r6,w5,w6,w7,w8,w9,w10,w11,ee,W⟩=>?_) (λU h' ⟨n0,m0,n1,m1,r1,r2,r3,r4,r5,r6,w5,w6,w7,w8,w9,w10,w11,ee,W⟩=>?_)
 .subst ee;obtain⟨cc,hcc,rfl⟩:=kF hx;have hi:=(List.getElem?_eq_some_iff.mp hcc).1;walk_at "w"
  exact HD (k:=k) W (by omega) λn2 m2 n3 m3 h'' r1 r2 r3 r4 r5 r6 u7 u8 u9 u10 u11 W'=>⟨_,_,_,_,_,_,_,_,_,_,_,_,_,_,_,_,_,rfl,W'⟩
 .subst ee;walk_at "w"
  exact q _
theorem keeps:Keeps pg 10 DB:=by
 refine Keeps.of λns hl=>?_;have e0:(h0 ns).ob 0=some (.lst false (ns.map AV.int)):=rfl;have x0:0<(h0 ns).nx:=Nat.zero_lt_one;refine cJ (k:=9) rfl rfl ?_;rw[GR];walk_at "w"
 refine ym e0 (by decide) λz=>?_;walk_at "w"
 .refine ym e0 (by decide) λz=>?_;walk_at "w"
  refine ym e0 (by decide) λz=>?_;walk_at "w"
  exact Oq (k:=3) hl e0 x0 λ_=>rfl
 .exact Oq (k:=3) hl e0 x0 λ_=>rfl
def pr:Pr:=⟨[rK,rL,rY,sJ,sN,sO,sP,sQ,sR,sS,rM,rN,rO,rP,rQ,rR,rS,rT,rW,rX,pQ,rZ,sA,sC,sD,sE,sF,sG,sH,sI,sL,sM],21,[],["len","int","min","max","tuple","list","any","sorted","isinstance","bool","enumerate","zip"],[("NoTicket",3)],[("NoTicket",[3]),("MillError",[3])],[("NoLabel",[(3,false)]),("Twice",[(3,false)]),("NoRow",[(3,false)]),("Halted",[(3,false)]),("Busy",[(3,false)]),("NoPlace",[(3,false)]),("Nought",[(3,false)]),("ValueError",[(3,true)])],[("begun",[9]),("kept",[9])],[("store",[(9,22)]),("worded",[(9,25)]),("loaded",[(9,27)]),("leave",[(9,28)]),("placed",[(9,23)]),("throw",[(9,29)]),("look",[(9,26)]),("loads",[(9,31)]),("stores",[(9,30)]),("bitten",[(9,24)])],[(("Shelf",0),(9,21,[]))],[],[],["begun","kept"]⟩
theorem AS:pr.bodyOf rK=cB.getD 0 (0,0,.nil):=by kernel_rfl
theorem AU:pr.bodyOf rL=cB.getD 1 (0,0,.nil):=by kernel_rfl
theorem BG:pr.bodyOf rY=cB.getD 2 (0,0,.nil):=by kernel_rfl
theorem BR:pr.bodyOf sJ=cB.getD 3 (0,0,.nil):=by kernel_rfl
theorem BV:pr.bodyOf sN=cB.getD 4 (0,0,.nil):=by kernel_rfl
theorem BW:pr.bodyOf sO=cB.getD 5 (0,0,.nil):=by kernel_rfl
theorem BX:pr.bodyOf sP=cB.getD 6 (0,0,.nil):=by kernel_rfl
theorem BY:pr.bodyOf sQ=cB.getD 7 (0,0,.nil):=by kernel_rfl
theorem BZ:pr.bodyOf sR=cB.getD 8 (0,0,.nil):=by kernel_rfl
theorem CA:pr.bodyOf sS=cB.getD 9 (0,0,.nil):=by kernel_rfl
theorem AW:pr.bodyOf rM=cB.getD 10 (0,0,.nil):=by kernel_rfl
theorem AX:pr.bodyOf rN=cB.getD 11 (0,0,.nil):=by kernel_rfl
theorem AY:pr.bodyOf rO=cB.getD 12 (0,0,.nil):=by kernel_rfl
theorem AZ:pr.bodyOf rP=cB.getD 13 (0,0,.nil):=by kernel_rfl
theorem BA:pr.bodyOf rQ=cB.getD 14 (0,0,.nil):=by kernel_rfl
theorem BB:pr.bodyOf rR=cB.getD 15 (0,0,.nil):=by kernel_rfl
theorem BC:pr.bodyOf rS=cB.getD 16 (0,0,.nil):=by kernel_rfl
theorem BD:pr.bodyOf rT=cB.getD 17 (0,0,.nil):=by kernel_rfl
theorem BE:pr.bodyOf rW=cB.getD 18 (0,0,.nil):=by kernel_rfl
theorem BF:pr.bodyOf rX=cB.getD 19 (0,0,.nil):=by kernel_rfl
theorem BH:pr.bodyOf pQ=cB.getD 20 (0,0,.nil):=by kernel_rfl
theorem BI:pr.bodyOf rZ=cB.getD 21 (0,0,.nil):=by kernel_rfl
theorem BJ:pr.bodyOf sA=cB.getD 22 (0,0,.nil):=by kernel_rfl
theorem BK:pr.bodyOf sC=cB.getD 23 (0,0,.nil):=by kernel_rfl
theorem BL:pr.bodyOf sD=cB.getD 24 (0,0,.nil):=by kernel_rfl
theorem BM:pr.bodyOf sE=cB.getD 25 (0,0,.nil):=by kernel_rfl
theorem BN:pr.bodyOf sF=cB.getD 26 (0,0,.nil):=by kernel_rfl
theorem BO:pr.bodyOf sG=cB.getD 27 (0,0,.nil):=by kernel_rfl
theorem BP:pr.bodyOf sH=cB.getD 28 (0,0,.nil):=by kernel_rfl
theorem BQ:pr.bodyOf sI=cB.getD 29 (0,0,.nil):=by kernel_rfl
theorem BS:pr.bodyOf sL=cB.getD 30 (0,0,.nil):=by kernel_rfl
theorem BU:pr.bodyOf sM=cB.getD 31 (0,0,.nil):=by kernel_rfl
theorem FQ:pr.ir=pg:=by
 have e:pr.defs.map pr.bodyOf=cB:=by show[pr.bodyOf rK,pr.bodyOf rL,pr.bodyOf rY,pr.bodyOf sJ,pr.bodyOf sN,pr.bodyOf sO,pr.bodyOf sP,pr.bodyOf sQ,pr.bodyOf sR,pr.bodyOf sS,pr.bodyOf rM,pr.bodyOf rN,pr.bodyOf rO,pr.bodyOf rP,pr.bodyOf rQ,pr.bodyOf rR,pr.bodyOf rS,pr.bodyOf rT,pr.bodyOf rW,pr.bodyOf rX,pr.bodyOf pQ,pr.bodyOf rZ,pr.bodyOf sA,pr.bodyOf sC,pr.bodyOf sD,pr.bodyOf sE,pr.bodyOf sF,pr.bodyOf sG,pr.bodyOf sH,pr.bodyOf sI,pr.bodyOf sL,pr.bodyOf sM]=cB;rw[AS,AU,BG,BR,BV,BW,BX,BY,BZ,CA,AW,AX,AY,AZ,BA,BB,BC,BD,BE,BF,BH,BI,BJ,BK,BL,BM,BN,BO,BP,BQ,BS,BU];rfl
 funext i
 show(pr.defs[i]?).map pr.bodyOf=cB[i]?;rw[<- e,List.getElem?_map]
theorem VG:bX rK.N rK.ps (aF rK.st):=⟨by kernel_rfl,by kernel_rfl,by kernel_rfl,by decide +kernel,by kernel_rfl,by decide +kernel,by decide +kernel⟩
theorem VH:bX rL.N rL.ps (aF rL.st):=⟨by kernel_rfl,by kernel_rfl,by kernel_rfl,by decide +kernel,by kernel_rfl,by decide +kernel,by decide +kernel⟩
theorem VT:bX rY.N rY.ps (aF rY.st):=⟨by kernel_rfl,by kernel_rfl,by kernel_rfl,by decide +kernel,by kernel_rfl,by decide +kernel,by decide +kernel⟩
theorem WE:bX sJ.N sJ.ps (aF sJ.st):=⟨by kernel_rfl,by kernel_rfl,by kernel_rfl,by decide +kernel,by kernel_rfl,by decide +kernel,by decide +kernel⟩
theorem WI:bX sN.N sN.ps (aF sN.st):=⟨by kernel_rfl,by kernel_rfl,by kernel_rfl,by decide +kernel,by kernel_rfl,by decide +kernel,by decide +kernel⟩
theorem WJ:bX sO.N sO.ps (aF sO.st):=⟨by kernel_rfl,by kernel_rfl,by kernel_rfl,by decide +kernel,by kernel_rfl,by decide +kernel,by decide +kernel⟩
theorem WK:bX sP.N sP.ps (aF sP.st):=⟨by kernel_rfl,by kernel_rfl,by kernel_rfl,by decide +kernel,by kernel_rfl,by decide +kernel,by decide +kernel⟩
theorem WL:bX sQ.N sQ.ps (aF sQ.st):=⟨by kernel_rfl,by kernel_rfl,by kernel_rfl,by decide +kernel,by kernel_rfl,by decide +kernel,by decide +kernel⟩
theorem WM:bX sR.N sR.ps (aF sR.st):=⟨by kernel_rfl,by kernel_rfl,by kernel_rfl,by decide +kernel,by kernel_rfl,by decide +kernel,by decide +kernel⟩
theorem WN:bX sS.N sS.ps (aF sS.st):=⟨by kernel_rfl,by kernel_rfl,by kernel_rfl,by decide +kernel,by kernel_rfl,by decide +kernel,by decide +kernel⟩
theorem VI:bX rM.N rM.ps (aF rM.st):=⟨by kernel_rfl,by kernel_rfl,by kernel_rfl,by decide +kernel,by kernel_rfl,by decide +kernel,by decide +kernel⟩
theorem VJ:bX rN.N rN.ps (aF rN.st):=⟨by kernel_rfl,by kernel_rfl,by kernel_rfl,by decide +kernel,by kernel_rfl,by decide +kernel,by decide +kernel⟩
theorem VL:bX rO.N rO.ps (aF rO.st):=⟨by kernel_rfl,by kernel_rfl,by kernel_rfl,by decide +kernel,by kernel_rfl,by decide +kernel,by decide +kernel⟩
theorem VM:bX rP.N rP.ps (aF rP.st):=⟨by kernel_rfl,by kernel_rfl,by kernel_rfl,by decide +kernel,by kernel_rfl,by decide +kernel,by decide +kernel⟩
theorem VN:bX rQ.N rQ.ps (aF rQ.st):=⟨by kernel_rfl,by kernel_rfl,by kernel_rfl,by decide +kernel,by kernel_rfl,by decide +kernel,by decide +kernel⟩
theorem VO:bX rR.N rR.ps (aF rR.st):=⟨by kernel_rfl,by kernel_rfl,by kernel_rfl,by decide +kernel,by kernel_rfl,by decide +kernel,by decide +kernel⟩
theorem VP:bX rS.N rS.ps (aF rS.st):=⟨by kernel_rfl,by kernel_rfl,by kernel_rfl,by decide +kernel,by kernel_rfl,by decide +kernel,by decide +kernel⟩
theorem VQ:bX rT.N rT.ps (aF rT.st):=⟨by kernel_rfl,by kernel_rfl,by kernel_rfl,by decide +kernel,by kernel_rfl,by decide +kernel,by decide +kernel⟩
theorem VR:bX rW.N rW.ps (aF rW.st):=⟨by kernel_rfl,by kernel_rfl,by kernel_rfl,by decide +kernel,by kernel_rfl,by decide +kernel,by decide +kernel⟩
theorem VS:bX rX.N rX.ps (aF rX.st):=⟨by kernel_rfl,by kernel_rfl,by kernel_rfl,by decide +kernel,by kernel_rfl,by decide +kernel,by decide +kernel⟩
theorem VU:bX pQ.N pQ.ps (aF pQ.st):=⟨by kernel_rfl,by kernel_rfl,by kernel_rfl,by decide +kernel,by kernel_rfl,by decide +kernel,by decide +kernel⟩
theorem VV:bX rZ.N rZ.ps (aF rZ.st):=⟨by kernel_rfl,by kernel_rfl,by kernel_rfl,by decide +kernel,by kernel_rfl,by decide +kernel,by decide +kernel⟩
theorem VW:bX sA.N sA.ps (aF sA.st):=⟨by kernel_rfl,by kernel_rfl,by kernel_rfl,by decide +kernel,by kernel_rfl,by decide +kernel,by decide +kernel⟩
theorem VX:bX sC.N sC.ps (aF sC.st):=⟨by kernel_rfl,by kernel_rfl,by kernel_rfl,by decide +kernel,by kernel_rfl,by decide +kernel,by decide +kernel⟩
theorem VY:bX sD.N sD.ps (aF sD.st):=⟨by kernel_rfl,by kernel_rfl,by kernel_rfl,by decide +kernel,by kernel_rfl,by decide +kernel,by decide +kernel⟩
theorem VZ:bX sE.N sE.ps (aF sE.st):=⟨by kernel_rfl,by kernel_rfl,by kernel_rfl,by decide +kernel,by kernel_rfl,by decide +kernel,by decide +kernel⟩
theorem WA:bX sF.N sF.ps (aF sF.st):=⟨by kernel_rfl,by kernel_rfl,by kernel_rfl,by decide +kernel,by kernel_rfl,by decide +kernel,by decide +kernel⟩
theorem WB:bX sG.N sG.ps (aF sG.st):=⟨by kernel_rfl,by kernel_rfl,by kernel_rfl,by decide +kernel,by kernel_rfl,by decide +kernel,by decide +kernel⟩
theorem WC:bX sH.N sH.ps (aF sH.st):=⟨by kernel_rfl,by kernel_rfl,by kernel_rfl,by decide +kernel,by kernel_rfl,by decide +kernel,by decide +kernel⟩
theorem WD:bX sI.N sI.ps (aF sI.st):=⟨by kernel_rfl,by kernel_rfl,by kernel_rfl,by decide +kernel,by kernel_rfl,by decide +kernel,by decide +kernel⟩
theorem WG:bX sL.N sL.ps (aF sL.st):=⟨by kernel_rfl,by kernel_rfl,by kernel_rfl,by decide +kernel,by kernel_rfl,by decide +kernel,by decide +kernel⟩
theorem WH:bX sM.N sM.ps (aF sM.st):=⟨by kernel_rfl,by kernel_rfl,by kernel_rfl,by decide +kernel,by kernel_rfl,by decide +kernel,by decide +kernel⟩
theorem tG{α:Type}{x:Str}{v:α}(h:([]:List (Str×α)).lookup x=some v):False:=by cases h
theorem eM{α:Type}{x k:Str}{v u:α}{r:List (Str×α)}(h:((k,u)::r).lookup x=some v):(x=k/\v=u)\/r.lookup x=some v:=by
 rw[List.lookup_cons]at h;split at h
 .rename_i q;exact .inl ⟨eq_of_beq q,(Option.some.inj h).symm⟩
 .exact .inr h
theorem fO{α:Type}{x:Nat}{v:α}(h:([]:List (Nat×α)).lookup x=some v):False:=by cases h
theorem fN{α:Type}{x k:Nat}{v u:α}{r:List (Nat×α)}(h:((k,u)::r).lookup x=some v):(x=k/\v=u)\/r.lookup x=some v:=by
 rw[List.lookup_cons]at h;split at h
 .rename_i q;exact .inl ⟨eq_of_beq q,(Option.some.inj h).symm⟩
 .exact .inr h
theorem GX{α:Type}{x:Str×Nat}{v:α}(h:([]:List ((Str×Nat)×α)).lookup x=some v):False:=by cases h
theorem GW{α:Type}{x y:Str}{m n:Nat}{v u:α}{r:List ((Str×Nat)×α)}(h:(((y,m),u)::r).lookup (x,n)=some v):(x=y/\n=m/\v=u)\/r.lookup (x,n)=some v:=by
 rw[List.lookup_cons]at h;split at h
 .rename_i q;have q:=eq_of_beq q;cases q;exact .inl ⟨rfl,rfl,(Option.some.inj h).symm⟩
 .exact .inr h
theorem all_mk{l:W.OpenLaw} {w:World} {K:W.Frag} {h:Heap} {mg:Str->Option Value} {fa:Addr} (X:K.In h) (G:h.Ns mainGlobals mg) (hfa:mg "law"=some (.ref fa))
  {C_0:Addr}
  {C_1:Addr}
  {C_2:Addr}
  {C_3:Addr}
  {C_4:Addr}
  {C_5:Addr}
  {C_6:Addr}
  {C_7:Addr}
  {C_8:Addr}
  {C_9:Addr}
  {f_0:Addr} {oc_0 kV_0 dc_0 pm_0 cd_0 ct_0:Value} {od_0 an_0:Option Addr} {sl_0:Array (Option Value)}
  {f_1:Addr} {oc_1 kV_1 dc_1 pm_1 cd_1 ct_1:Value} {od_1 an_1:Option Addr} {sl_1:Array (Option Value)}
  {f_2:Addr} {oc_2 kV_2 dc_2 pm_2 cd_2 ct_2:Value} {od_2 an_2:Option Addr} {sl_2:Array (Option Value)}
  {f_3:Addr} {oc_3 kV_3 dc_3 pm_3 cd_3 ct_3:Value} {od_3 an_3:Option Addr} {sl_3:Array (Option Value)}
  {f_4:Addr} {oc_4 kV_4 dc_4 pm_4 cd_4 ct_4:Value} {od_4 an_4:Option Addr} {sl_4:Array (Option Value)}
  {f_5:Addr} {oc_5 kV_5 dc_5 pm_5 cd_5 ct_5:Value} {od_5 an_5:Option Addr} {sl_5:Array (Option Value)}
  {f_6:Addr} {oc_6 kV_6 dc_6 pm_6 cd_6 ct_6:Value} {od_6 an_6:Option Addr} {sl_6:Array (Option Value)}
  {f_7:Addr} {oc_7 kV_7 dc_7 pm_7 cd_7 ct_7:Value} {od_7 an_7:Option Addr} {sl_7:Array (Option Value)}
  {f_8:Addr} {oc_8 kV_8 dc_8 pm_8 cd_8 ct_8:Value} {od_8 an_8:Option Addr} {sl_8:Array (Option Value)}
  {f_9:Addr} {oc_9 kV_9 dc_9 pm_9 cd_9 ct_9:Value} {od_9 an_9:Option Addr} {sl_9:Array (Option Value)}
  {f_10:Addr} {oc_10 kV_10 dc_10 pm_10 cd_10 ct_10:Value} {od_10 an_10:Option Addr} {sl_10:Array (Option Value)}
  {f_11:Addr} {oc_11 kV_11 dc_11 pm_11 cd_11 ct_11:Value} {od_11 an_11:Option Addr} {sl_11:Array (Option Value)}
  {f_12:Addr} {oc_12 kV_12 dc_12 pm_12 cd_12 ct_12:Value} {od_12 an_12:Option Addr} {sl_12:Array (Option Value)}
  {f_13:Addr} {oc_13 kV_13 dc_13 pm_13 cd_13 ct_13:Value} {od_13 an_13:Option Addr} {sl_13:Array (Option Value)}
  {f_14:Addr} {oc_14 kV_14 dc_14 pm_14 cd_14 ct_14:Value} {od_14 an_14:Option Addr} {sl_14:Array (Option Value)}
  {f_15:Addr} {oc_15 kV_15 dc_15 pm_15 cd_15 ct_15:Value} {od_15 an_15:Option Addr} {sl_15:Array (Option Value)}
  {f_16:Addr} {oc_16 kV_16 dc_16 pm_16 cd_16 ct_16:Value} {od_16 an_16:Option Addr} {sl_16:Array (Option Value)}
  {f_17:Addr} {oc_17 kV_17 dc_17 pm_17 cd_17 ct_17:Value} {od_17 an_17:Option Addr} {sl_17:Array (Option Value)}
  {f_18:Addr} {oc_18 kV_18 dc_18 pm_18 cd_18 ct_18:Value} {od_18 an_18:Option Addr} {sl_18:Array (Option Value)}
  {f_19:Addr} {oc_19 kV_19 dc_19 pm_19 cd_19 ct_19:Value} {od_19 an_19:Option Addr} {sl_19:Array (Option Value)}
  {f_20:Addr} {oc_20 kV_20 dc_20 pm_20 cd_20 ct_20:Value} {od_20 an_20:Option Addr} {sl_20:Array (Option Value)}
  {f_21:Addr} {oc_21 kV_21 dc_21 pm_21 cd_21 ct_21:Value} {od_21 an_21:Option Addr} {sl_21:Array (Option Value)}
  {f_22:Addr} {oc_22 kV_22 dc_22 pm_22 cd_22 ct_22:Value} {od_22 an_22:Option Addr} {sl_22:Array (Option Value)}
  {f_23:Addr} {oc_23 kV_23 dc_23 pm_23 cd_23 ct_23:Value} {od_23 an_23:Option Addr} {sl_23:Array (Option Value)}
  {f_24:Addr} {oc_24 kV_24 dc_24 pm_24 cd_24 ct_24:Value} {od_24 an_24:Option Addr} {sl_24:Array (Option Value)}
  {f_25:Addr} {oc_25 kV_25 dc_25 pm_25 cd_25 ct_25:Value} {od_25 an_25:Option Addr} {sl_25:Array (Option Value)}
  {f_26:Addr} {oc_26 kV_26 dc_26 pm_26 cd_26 ct_26:Value} {od_26 an_26:Option Addr} {sl_26:Array (Option Value)}
  {f_27:Addr} {oc_27 kV_27 dc_27 pm_27 cd_27 ct_27:Value} {od_27 an_27:Option Addr} {sl_27:Array (Option Value)}
  {f_28:Addr} {oc_28 kV_28 dc_28 pm_28 cd_28 ct_28:Value} {od_28 an_28:Option Addr} {sl_28:Array (Option Value)}
  {f_29:Addr} {oc_29 kV_29 dc_29 pm_29 cd_29 ct_29:Value} {od_29 an_29:Option Addr} {sl_29:Array (Option Value)}
  {f_30:Addr} {oc_30 kV_30 dc_30 pm_30 cd_30 ct_30:Value} {od_30 an_30:Option Addr} {sl_30:Array (Option Value)}
  {f_31:Addr} {oc_31 kV_31 dc_31 pm_31 cd_31 ct_31:Value} {od_31 an_31:Option Addr} {sl_31:Array (Option Value)}
  (xc_0:W.nsIn K mainGlobals "MillError"=some (some (.ref C_0)))
  (xc_1:W.nsIn K mainGlobals "Nought"=some (some (.ref C_1)))
  (xc_2:W.nsIn K mainGlobals "NoPlace"=some (some (.ref C_2)))
  (xc_3:W.nsIn K mainGlobals "NoTicket"=some (some (.ref C_3)))
  (xc_4:W.nsIn K mainGlobals "Busy"=some (some (.ref C_4)))
  (xc_5:W.nsIn K mainGlobals "Halted"=some (some (.ref C_5)))
  (xc_6:W.nsIn K mainGlobals "NoRow"=some (some (.ref C_6)))
  (xc_7:W.nsIn K mainGlobals "Twice"=some (some (.ref C_7)))
  (xc_8:W.nsIn K mainGlobals "NoLabel"=some (some (.ref C_8)))
  (xc_9:W.nsIn K mainGlobals "Shelf"=some (some (.ref C_9)))
  (x_0:W.nsIn K mainGlobals "_law_cell_at"=some (some (.ref f_0)))
  (l_0:K.lookup f_0=some ⟨oc_0,od_0,.func (W.fnOf "_law_cell_at" "_law_cell_at" (aM iN) (aL iN) (aF iN) .none kV_0 dc_0 pm_0 an_0 cd_0 ct_0),sl_0⟩)
  (c_0:W.codeIn K cd_0 "_law_cell_at"=true)
  (k_0:W.keepIn K (.ref f_0)=true)
  (x_1:W.nsIn K mainGlobals "_law_mixed"=some (some (.ref f_1)))
  (l_1:K.lookup f_1=some ⟨oc_1,od_1,.func (W.fnOf "_law_mixed" "_law_mixed" (aM mP) (aL mP) (aF mP) .none kV_1 dc_1 pm_1 an_1 cd_1 ct_1),sl_1⟩)
  (c_1:W.codeIn K cd_1 "_law_mixed"=true)
  (k_1:W.keepIn K (.ref f_1)=true)
  (x_2:W.nsIn K mainGlobals "_law_alike"=some (some (.ref f_2)))
  (l_2:K.lookup f_2=some ⟨oc_2,od_2,.func (W.fnOf "_law_alike" "_law_alike" (aM nA) (aL nA) (aF nA) .none kV_2 dc_2 pm_2 an_2 cd_2 ct_2),sl_2⟩)
  (c_2:W.codeIn K cd_2 "_law_alike"=true)
  (k_2:W.keepIn K (.ref f_2)=true)
  (x_3:W.nsIn K mainGlobals "_law_do"=some (some (.ref f_3)))
  (l_3:K.lookup f_3=some ⟨oc_3,od_3,.func (W.fnOf "_law_do" "_law_do" (aM nM) (aL nM) (aF nM) .none kV_3 dc_3 pm_3 an_3 cd_3 ct_3),sl_3⟩)
  (c_3:W.codeIn K cd_3 "_law_do"=true)
  (k_3:W.keepIn K (.ref f_3)=true)
  (x_4:W.nsIn K mainGlobals "_law_class"=some (some (.ref f_4)))
  (l_4:K.lookup f_4=some ⟨oc_4,od_4,.func (W.fnOf "_law_class" "_law_class" (aM nP) (aL nP) (aF nP) .none kV_4 dc_4 pm_4 an_4 cd_4 ct_4),sl_4⟩)
  (c_4:W.codeIn K cd_4 "_law_class"=true)
  (k_4:W.keepIn K (.ref f_4)=true)
  (x_5:W.nsIn K mainGlobals "_law_refused"=some (some (.ref f_5)))
  (l_5:K.lookup f_5=some ⟨oc_5,od_5,.func (W.fnOf "_law_refused" "_law_refused" (aM nQ) (aL nQ) (aF nQ) .none kV_5 dc_5 pm_5 an_5 cd_5 ct_5),sl_5⟩)
  (c_5:W.codeIn K cd_5 "_law_refused"=true)
  (k_5:W.keepIn K (.ref f_5)=true)
  (x_6:W.nsIn K mainGlobals "_law_refused_by_any"=some (some (.ref f_6)))
  (l_6:K.lookup f_6=some ⟨oc_6,od_6,.func (W.fnOf "_law_refused_by_any" "_law_refused_by_any" (aM nR) (aL nR) (aF nR) .none kV_6 dc_6 pm_6 an_6 cd_6 ct_6),sl_6⟩)
  (c_6:W.codeIn K cd_6 "_law_refused_by_any"=true)
  (k_6:W.keepIn K (.ref f_6)=true)
  (x_7:W.nsIn K mainGlobals "_law_ticket_by"=some (some (.ref f_7)))
  (l_7:K.lookup f_7=some ⟨oc_7,od_7,.func (W.fnOf "_law_ticket_by" "_law_ticket_by" (aM nS) (aL nS) (aF nS) .none kV_7 dc_7 pm_7 an_7 cd_7 ct_7),sl_7⟩)
  (c_7:W.codeIn K cd_7 "_law_ticket_by"=true)
  (k_7:W.keepIn K (.ref f_7)=true)
  (x_8:W.nsIn K mainGlobals "_law_deed"=some (some (.ref f_8)))
  (l_8:K.lookup f_8=some ⟨oc_8,od_8,.func (W.fnOf "_law_deed" "_law_deed" (aM nT) (aL nT) (aF nT) .none kV_8 dc_8 pm_8 an_8 cd_8 ct_8),sl_8⟩)
  (c_8:W.codeIn K cd_8 "_law_deed"=true)
  (k_8:W.keepIn K (.ref f_8)=true)
  (x_9:W.nsIn K mainGlobals "_law_allowed"=some (some (.ref f_9)))
  (l_9:K.lookup f_9=some ⟨oc_9,od_9,.func (W.fnOf "_law_allowed" "_law_allowed" (aM nU) (aL nU) (aF nU) .none kV_9 dc_9 pm_9 an_9 cd_9 ct_9),sl_9⟩)
  (c_9:W.codeIn K cd_9 "_law_allowed"=true)
  (k_9:W.keepIn K (.ref f_9)=true)
  (x_10:W.nsIn K mainGlobals "_law_ticket"=some (some (.ref f_10)))
  (l_10:K.lookup f_10=some ⟨oc_10,od_10,.func (W.fnOf "_law_ticket" "_law_ticket" (aM mQ) (aL mQ) (aF mQ) .none kV_10 dc_10 pm_10 an_10 cd_10 ct_10),sl_10⟩)
  (c_10:W.codeIn K cd_10 "_law_ticket"=true)
  (k_10:W.keepIn K (.ref f_10)=true)
  (x_11:W.nsIn K mainGlobals "_law_behind"=some (some (.ref f_11)))
  (l_11:K.lookup f_11=some ⟨oc_11,od_11,.func (W.fnOf "_law_behind" "_law_behind" (aM mR) (aL mR) (aF mR) .none kV_11 dc_11 pm_11 an_11 cd_11 ct_11),sl_11⟩)
  (c_11:W.codeIn K cd_11 "_law_behind"=true)
  (k_11:W.keepIn K (.ref f_11)=true)
  (x_12:W.nsIn K mainGlobals "_law_answer"=some (some (.ref f_12)))
  (l_12:K.lookup f_12=some ⟨oc_12,od_12,.func (W.fnOf "_law_answer" "_law_answer" (aM mS) (aL mS) (aF mS) .none kV_12 dc_12 pm_12 an_12 cd_12 ct_12),sl_12⟩)
  (c_12:W.codeIn K cd_12 "_law_answer"=true)
  (k_12:W.keepIn K (.ref f_12)=true)
  (x_13:W.nsIn K mainGlobals "_law_done"=some (some (.ref f_13)))
  (l_13:K.lookup f_13=some ⟨oc_13,od_13,.func (W.fnOf "_law_done" "_law_done" (aM mT) (aL mT) (aF mT) .none kV_13 dc_13 pm_13 an_13 cd_13 ct_13),sl_13⟩)
  (c_13:W.codeIn K cd_13 "_law_done"=true)
  (k_13:W.keepIn K (.ref f_13)=true)
  (x_14:W.nsIn K mainGlobals "_law_thrown"=some (some (.ref f_14)))
  (l_14:K.lookup f_14=some ⟨oc_14,od_14,.func (W.fnOf "_law_thrown" "_law_thrown" (aM mU) (aL mU) (aF mU) .none kV_14 dc_14 pm_14 an_14 cd_14 ct_14),sl_14⟩)
  (c_14:W.codeIn K cd_14 "_law_thrown"=true)
  (k_14:W.keepIn K (.ref f_14)=true)
  (x_15:W.nsIn K mainGlobals "_law_stepped"=some (some (.ref f_15)))
  (l_15:K.lookup f_15=some ⟨oc_15,od_15,.func (W.fnOf "_law_stepped" "_law_stepped" (aM mV) (aL mV) (aF mV) .none kV_15 dc_15 pm_15 an_15 cd_15 ct_15),sl_15⟩)
  (c_15:W.codeIn K cd_15 "_law_stepped"=true)
  (k_15:W.keepIn K (.ref f_15)=true)
  (x_16:W.nsIn K mainGlobals "_law_spot"=some (some (.ref f_16)))
  (l_16:K.lookup f_16=some ⟨oc_16,od_16,.func (W.fnOf "_law_spot" "_law_spot" (aM mW) (aL mW) (aF mW) .none kV_16 dc_16 pm_16 an_16 cd_16 ct_16),sl_16⟩)
  (c_16:W.codeIn K cd_16 "_law_spot"=true)
  (k_16:W.keepIn K (.ref f_16)=true)
  (x_17:W.nsIn K mainGlobals "_law_due"=some (some (.ref f_17)))
  (l_17:K.lookup f_17=some ⟨oc_17,od_17,.func (W.fnOf "_law_due" "_law_due" (aM mX) (aL mX) (aF mX) .none kV_17 dc_17 pm_17 an_17 cd_17 ct_17),sl_17⟩)
  (c_17:W.codeIn K cd_17 "_law_due"=true)
  (k_17:W.keepIn K (.ref f_17)=true)
  (x_18:W.nsIn K mainGlobals "_law_looks"=some (some (.ref f_18)))
  (l_18:K.lookup f_18=some ⟨oc_18,od_18,.func (W.fnOf "_law_looks" "_law_looks" (aM mY) (aL mY) (aF mY) .none kV_18 dc_18 pm_18 an_18 cd_18 ct_18),sl_18⟩)
  (c_18:W.codeIn K cd_18 "_law_looks"=true)
  (k_18:W.keepIn K (.ref f_18)=true)
  (x_19:W.nsIn K mainGlobals "_law_told"=some (some (.ref f_19)))
  (l_19:K.lookup f_19=some ⟨oc_19,od_19,.func (W.fnOf "_law_told" "_law_told" (aM mZ) (aL mZ) (aF mZ) .none kV_19 dc_19 pm_19 an_19 cd_19 ct_19),sl_19⟩)
  (c_19:W.codeIn K cd_19 "_law_told"=true)
  (k_19:W.keepIn K (.ref f_19)=true)
  (x_20:W.nsIn K mainGlobals "law"=some (some (.ref f_20)))
  (l_20:K.lookup f_20=some ⟨oc_20,od_20,.func (W.fnOf "law" "law" (aM nB) (aL nB) (aF nB) .none kV_20 dc_20 pm_20 an_20 cd_20 ct_20),sl_20⟩)
  (c_20:W.codeIn K cd_20 "law"=true)
  (k_20:W.keepIn K (.ref f_20)=true)
  (x_21:W.findIn K (.ref C_9) "__init__"=some (some (.ref f_21)))
  (l_21:K.lookup f_21=some ⟨oc_21,od_21,.func (W.fnOf "__init__" "Shelf.__init__" (aM nC) (aL nC) (aF nC) .none kV_21 dc_21 pm_21 an_21 cd_21 ct_21),sl_21⟩)
  (c_21:W.codeIn K cd_21 "Shelf.__init__"=true)
  (k_21:W.keepIn K (.ref f_21)=true)
  (x_22:W.findIn K (.ref C_9) "store"=some (some (.ref f_22)))
  (l_22:K.lookup f_22=some ⟨oc_22,od_22,.func (W.fnOf "store" "Shelf.store" (aM nE) (aL nE) (aF nE) .none kV_22 dc_22 pm_22 an_22 cd_22 ct_22),sl_22⟩)
  (c_22:W.codeIn K cd_22 "Shelf.store"=true)
  (k_22:W.keepIn K (.ref f_22)=true)
  (x_23:W.findIn K (.ref C_9) "placed"=some (some (.ref f_23)))
  (l_23:K.lookup f_23=some ⟨oc_23,od_23,.func (W.fnOf "placed" "Shelf.placed" (aM nF) (aL nF) (aF nF) .none kV_23 dc_23 pm_23 an_23 cd_23 ct_23),sl_23⟩)
  (c_23:W.codeIn K cd_23 "Shelf.placed"=true)
  (k_23:W.keepIn K (.ref f_23)=true)
  (x_24:W.findIn K (.ref C_9) "bitten"=some (some (.ref f_24)))
  (l_24:K.lookup f_24=some ⟨oc_24,od_24,.func (W.fnOf "bitten" "Shelf.bitten" (aM nG) (aL nG) (aF nG) .none kV_24 dc_24 pm_24 an_24 cd_24 ct_24),sl_24⟩)
  (c_24:W.codeIn K cd_24 "Shelf.bitten"=true)
  (k_24:W.keepIn K (.ref f_24)=true)
  (x_25:W.findIn K (.ref C_9) "worded"=some (some (.ref f_25)))
  (l_25:K.lookup f_25=some ⟨oc_25,od_25,.func (W.fnOf "worded" "Shelf.worded" (aM nH) (aL nH) (aF nH) .none kV_25 dc_25 pm_25 an_25 cd_25 ct_25),sl_25⟩)
  (c_25:W.codeIn K cd_25 "Shelf.worded"=true)
  (k_25:W.keepIn K (.ref f_25)=true)
  (x_26:W.findIn K (.ref C_9) "look"=some (some (.ref f_26)))
  (l_26:K.lookup f_26=some ⟨oc_26,od_26,.func (W.fnOf "look" "Shelf.look" (aM nI) (aL nI) (aF nI) .none kV_26 dc_26 pm_26 an_26 cd_26 ct_26),sl_26⟩)
  (c_26:W.codeIn K cd_26 "Shelf.look"=true)
  (k_26:W.keepIn K (.ref f_26)=true)
  (x_27:W.findIn K (.ref C_9) "loaded"=some (some (.ref f_27)))
  (l_27:K.lookup f_27=some ⟨oc_27,od_27,.func (W.fnOf "loaded" "Shelf.loaded" (aM nJ) (aL nJ) (aF nJ) .none kV_27 dc_27 pm_27 an_27 cd_27 ct_27),sl_27⟩)
  (c_27:W.codeIn K cd_27 "Shelf.loaded"=true)
  (k_27:W.keepIn K (.ref f_27)=true)
  (x_28:W.findIn K (.ref C_9) "leave"=some (some (.ref f_28)))
  (l_28:K.lookup f_28=some ⟨oc_28,od_28,.func (W.fnOf "leave" "Shelf.leave" (aM nK) (aL nK) (aF nK) .none kV_28 dc_28 pm_28 an_28 cd_28 ct_28),sl_28⟩)
  (c_28:W.codeIn K cd_28 "Shelf.leave"=true)
  (k_28:W.keepIn K (.ref f_28)=true)
  (x_29:W.findIn K (.ref C_9) "throw"=some (some (.ref f_29)))
  (l_29:K.lookup f_29=some ⟨oc_29,od_29,.func (W.fnOf "throw" "Shelf.throw" (aM nL) (aL nL) (aF nL) .none kV_29 dc_29 pm_29 an_29 cd_29 ct_29),sl_29⟩)
  (c_29:W.codeIn K cd_29 "Shelf.throw"=true)
  (k_29:W.keepIn K (.ref f_29)=true)
  (x_30:W.findIn K (.ref C_9) "stores"=some (some (.ref f_30)))
  (l_30:K.lookup f_30=some ⟨oc_30,od_30,.func (W.fnOf "stores" "Shelf.stores" (aM nN) (aL nN) (aF nN) .none kV_30 dc_30 pm_30 an_30 cd_30 ct_30),sl_30⟩)
  (c_30:W.codeIn K cd_30 "Shelf.stores"=true)
  (k_30:W.keepIn K (.ref f_30)=true)
  (x_31:W.findIn K (.ref C_9) "loads"=some (some (.ref f_31)))
  (l_31:K.lookup f_31=some ⟨oc_31,od_31,.func (W.fnOf "loads" "Shelf.loads" (aM nO) (aL nO) (aF nO) .none kV_31 dc_31 pm_31 an_31 cd_31 ct_31),sl_31⟩)
  (c_31:W.codeIn K cd_31 "Shelf.loads"=true)
  (k_31:W.keepIn K (.ref f_31)=true)
  (pg_9:W.plainGet K C_9 Str.empty=true)
  (hd_9:W.hasDictIn K C_9=true)
  (po_9:W.plainOver K C_9=true)
  (sa_9:W.findIn K (.ref C_9) "__setattr__"=some (some (.builtin "object.__setattr__")))
  (na_9_begun:W.findIn K (.ref C_9) "begun"=some none)
  (na_9_kept:W.findIn K (.ref C_9) "kept"=some none)
  (a_9_store:W.findIn K (.ref C_9) "store"=some (some (.ref f_22)))
  (fn_22:W.isFn K (.ref f_22)=true)
  (a_9_worded:W.findIn K (.ref C_9) "worded"=some (some (.ref f_25)))
  (fn_25:W.isFn K (.ref f_25)=true)
  (a_9_loaded:W.findIn K (.ref C_9) "loaded"=some (some (.ref f_27)))
  (fn_27:W.isFn K (.ref f_27)=true)
  (a_9_leave:W.findIn K (.ref C_9) "leave"=some (some (.ref f_28)))
  (fn_28:W.isFn K (.ref f_28)=true)
  (a_9_placed:W.findIn K (.ref C_9) "placed"=some (some (.ref f_23)))
  (fn_23:W.isFn K (.ref f_23)=true)
  (a_9_throw:W.findIn K (.ref C_9) "throw"=some (some (.ref f_29)))
  (fn_29:W.isFn K (.ref f_29)=true)
  (a_9_look:W.findIn K (.ref C_9) "look"=some (some (.ref f_26)))
  (fn_26:W.isFn K (.ref f_26)=true)
  (a_9_loads:W.findIn K (.ref C_9) "loads"=some (some (.ref f_31)))
  (fn_31:W.isFn K (.ref f_31)=true)
  (a_9_stores:W.findIn K (.ref C_9) "stores"=some (some (.ref f_30)))
  (fn_30:W.isFn K (.ref f_30)=true)
  (a_9_bitten:W.findIn K (.ref C_9) "bitten"=some (some (.ref f_24)))
  (fn_24:W.isFn K (.ref f_24)=true)
  (a_9_init:W.findIn K (.ref C_9) "__init__"=some (some (.ref f_21)))
  (fn_21:W.isFn K (.ref f_21)=true)
  (mk_9:W.makesIn K C_9=true)
  (kc_9:W.keepIn K (.ref C_9)=true)
  (cl_0:L2.clsIn K C_0=true)
  (cl_3:L2.clsIn K C_3=true)
  (xe_3:W.excIn K C_3 [.type "ValueError",.type "Exception",.type "BaseException",.type "object"] "ValueError.__new__"=true)
  (xf_3:W.yF K C_3=true)
  (mr_3_3:(L2.mroOf K C_3).contains (.ref C_3)=true)
  (mr_3_0:(L2.mroOf K C_3).contains (.ref C_0)=true)
  (ko_3_8:W.kitOne K (.ref C_3) (.ref C_8)=some false)
  (ko_3_7:W.kitOne K (.ref C_3) (.ref C_7)=some false)
  (ko_3_6:W.kitOne K (.ref C_3) (.ref C_6)=some false)
  (ko_3_5:W.kitOne K (.ref C_3) (.ref C_5)=some false)
  (ko_3_4:W.kitOne K (.ref C_3) (.ref C_4)=some false)
  (ko_3_2:W.kitOne K (.ref C_3) (.ref C_2)=some false)
  (ko_3_1:W.kitOne K (.ref C_3) (.ref C_1)=some false)
  (z_ValueError:W.nsIn K mainGlobals "ValueError"=some none)
  (ko_3_ValueError:W.kitOne K (.ref C_3) (.type "ValueError")=some true)
  (z_len:W.nsIn K mainGlobals "len"=some none)
  (z_int:W.nsIn K mainGlobals "int"=some none)
  (z_min:W.nsIn K mainGlobals "min"=some none)
  (z_max:W.nsIn K mainGlobals "max"=some none)
  (z_tuple:W.nsIn K mainGlobals "tuple"=some none)
  (z_list:W.nsIn K mainGlobals "list"=some none)
  (z_any:W.nsIn K mainGlobals "any"=some none)
  (z_sorted:W.nsIn K mainGlobals "sorted"=some none)
  (z_isinstance:W.nsIn K mainGlobals "isinstance"=some none)
  (z_bool:W.nsIn K mainGlobals "bool"=some none)
  (z_enumerate:W.nsIn K mainGlobals "enumerate"=some none)
  (z_zip:W.nsIn K mainGlobals "zip"=some none) :
  ∃fd:FuncData,(∀(s:Shared) (v:Value),BindsTo s fd ⟨[v],[]⟩ [("_law_script",v)])/\∀base:Heap,K.In base->base.Ns mainGlobals mg->dU l.prog w K mg base (cW l.prog w) (2*10) fa fd ["_law_script"] (vx K):=by
 have e:=hfa.symm.trans (W.mg_of X G x_20);cases e;have F_0:cK K "_law_cell_at" "_law_cell_at" iN f_0 _:=⟨⟨_,_,_,_,_,_,_,_,_,_,rfl,l_0,c_0⟩,k_0⟩;have b_0:Binds K (W.fnOf "_law_cell_at" "_law_cell_at" (aM iN) (aL iN) (aF iN) .none kV_0 dc_0 pm_0 an_0 cd_0 ct_0) ["_law_script","_law_k"] []:=.all λus hl=>by obtain⟨v0,v1,rfl⟩:=AM.nW hl;rfl
 have F_1:cK K "_law_mixed" "_law_mixed" mP f_1 _:=⟨⟨_,_,_,_,_,_,_,_,_,_,rfl,l_1,c_1⟩,k_1⟩;have b_1:Binds K (W.fnOf "_law_mixed" "_law_mixed" (aM mP) (aL mP) (aF mP) .none kV_1 dc_1 pm_1 an_1 cd_1 ct_1) ["_law_cell","_law_k","_law_by","_law_prime"] []:=.all λus hl=>by obtain⟨v0,v1,v2,v3,rfl⟩:=AM.yD hl;rfl
 have F_2:cK K "_law_alike" "_law_alike" nA f_2 _:=⟨⟨_,_,_,_,_,_,_,_,_,_,rfl,l_2,c_2⟩,k_2⟩;have b_2:Binds K (W.fnOf "_law_alike" "_law_alike" (aM nA) (aL nA) (aF nA) .none kV_2 dc_2 pm_2 an_2 cd_2 ct_2) ["_law_found","_law_due_here"] []:=.all λus hl=>by obtain⟨v0,v1,rfl⟩:=AM.nW hl;rfl
 have F_3:cK K "_law_do" "_law_do" nM f_3 _:=⟨⟨_,_,_,_,_,_,_,_,_,_,rfl,l_3,c_3⟩,k_3⟩;have b_3:Binds K (W.fnOf "_law_do" "_law_do" (aM nM) (aL nM) (aF nM) .none kV_3 dc_3 pm_3 an_3 cd_3 ct_3) ["_law_shelf","_law_deed_here"] []:=.all λus hl=>by obtain⟨v0,v1,rfl⟩:=AM.nW hl;rfl
 have F_4:cK K "_law_class" "_law_class" nP f_4 _:=⟨⟨_,_,_,_,_,_,_,_,_,_,rfl,l_4,c_4⟩,k_4⟩;have b_4:Binds K (W.fnOf "_law_class" "_law_class" (aM nP) (aL nP) (aF nP) .none kV_4 dc_4 pm_4 an_4 cd_4 ct_4) ["_law_caught"] []:=.all λus hl=>by obtain⟨v0,rfl⟩:=AM.yB hl;rfl
 have F_5:cK K "_law_refused" "_law_refused" nQ f_5 _:=⟨⟨_,_,_,_,_,_,_,_,_,_,rfl,l_5,c_5⟩,k_5⟩;have b_5:Binds K (W.fnOf "_law_refused" "_law_refused" (aM nQ) (aL nQ) (aF nQ) .none kV_5 dc_5 pm_5 an_5 cd_5 ct_5) ["_law_shelf","_law_deed_here"] []:=.all λus hl=>by obtain⟨v0,v1,rfl⟩:=AM.nW hl;rfl
 have F_6:cK K "_law_refused_by_any" "_law_refused_by_any" nR f_6 _:=⟨⟨_,_,_,_,_,_,_,_,_,_,rfl,l_6,c_6⟩,k_6⟩;have b_6:Binds K (W.fnOf "_law_refused_by_any" "_law_refused_by_any" (aM nR) (aL nR) (aF nR) .none kV_6 dc_6 pm_6 an_6 cd_6 ct_6) ["_law_shelf","_law_deed_here"] []:=.all λus hl=>by obtain⟨v0,v1,rfl⟩:=AM.nW hl;rfl
 have F_7:cK K "_law_ticket_by" "_law_ticket_by" nS f_7 _:=⟨⟨_,_,_,_,_,_,_,_,_,_,rfl,l_7,c_7⟩,k_7⟩;have b_7:Binds K (W.fnOf "_law_ticket_by" "_law_ticket_by" (aM nS) (aL nS) (aF nS) .none kV_7 dc_7 pm_7 an_7 cd_7 ct_7) ["_law_kind","_law_stores","_law_loads","_law_base","_law_number"] []:=.all λus hl=>by obtain⟨v0,v1,v2,v3,v4,rfl⟩:=AM.wu hl;rfl
 have F_8:cK K "_law_deed" "_law_deed" nT f_8 _:=⟨⟨_,_,_,_,_,_,_,_,_,_,rfl,l_8,c_8⟩,k_8⟩;have b_8:Binds K (W.fnOf "_law_deed" "_law_deed" (aM nT) (aL nT) (aF nT) .none kV_8 dc_8 pm_8 an_8 cd_8 ct_8) ["_law_numbers","_law_stores","_law_loads","_law_base","_law_far"] []:=.all λus hl=>by obtain⟨v0,v1,v2,v3,v4,rfl⟩:=AM.wu hl;rfl
 have F_9:cK K "_law_allowed" "_law_allowed" nU f_9 _:=⟨⟨_,_,_,_,_,_,_,_,_,_,rfl,l_9,c_9⟩,k_9⟩;have b_9:Binds K (W.fnOf "_law_allowed" "_law_allowed" (aM nU) (aL nU) (aF nU) .none kV_9 dc_9 pm_9 an_9 cd_9 ct_9) ["_law_stores","_law_loads","_law_deed_here"] []:=.all λus hl=>by obtain⟨v0,v1,v2,rfl⟩:=AM.yC hl;rfl
 have F_10:cK K "_law_ticket" "_law_ticket" mQ f_10 _:=⟨⟨_,_,_,_,_,_,_,_,_,_,rfl,l_10,c_10⟩,k_10⟩;have b_10:Binds K (W.fnOf "_law_ticket" "_law_ticket" (aM mQ) (aL mQ) (aF mQ) .none kV_10 dc_10 pm_10 an_10 cd_10 ct_10) ["_law_one"] []:=.all λus hl=>by obtain⟨v0,rfl⟩:=AM.yB hl;rfl
 have F_11:cK K "_law_behind" "_law_behind" mR f_11 _:=⟨⟨_,_,_,_,_,_,_,_,_,_,rfl,l_11,c_11⟩,k_11⟩;have b_11:Binds K (W.fnOf "_law_behind" "_law_behind" (aM mR) (aL mR) (aF mR) .none kV_11 dc_11 pm_11 an_11 cd_11 ct_11) ["_law_stores","_law_loads","_law_deed_here"] []:=.all λus hl=>by obtain⟨v0,v1,v2,rfl⟩:=AM.yC hl;rfl
 have F_12:cK K "_law_answer" "_law_answer" mS f_12 _:=⟨⟨_,_,_,_,_,_,_,_,_,_,rfl,l_12,c_12⟩,k_12⟩;have b_12:Binds K (W.fnOf "_law_answer" "_law_answer" (aM mS) (aL mS) (aF mS) .none kV_12 dc_12 pm_12 an_12 cd_12 ct_12) ["_law_loads","_law_deed_here"] []:=.all λus hl=>by obtain⟨v0,v1,rfl⟩:=AM.nW hl;rfl
 have F_13:cK K "_law_done" "_law_done" mT f_13 _:=⟨⟨_,_,_,_,_,_,_,_,_,_,rfl,l_13,c_13⟩,k_13⟩;have b_13:Binds K (W.fnOf "_law_done" "_law_done" (aM mT) (aL mT) (aF mT) .none kV_13 dc_13 pm_13 an_13 cd_13 ct_13) ["_law_shelf","_law_stores","_law_loads","_law_deed_here"] []:=.all λus hl=>by obtain⟨v0,v1,v2,v3,rfl⟩:=AM.yD hl;rfl
 have F_14:cK K "_law_thrown" "_law_thrown" mU f_14 _:=⟨⟨_,_,_,_,_,_,_,_,_,_,rfl,l_14,c_14⟩,k_14⟩;have b_14:Binds K (W.fnOf "_law_thrown" "_law_thrown" (aM mU) (aL mU) (aF mU) .none kV_14 dc_14 pm_14 an_14 cd_14 ct_14) ["_law_shelf","_law_stores","_law_loads","_law_ticket_here"] []:=.all λus hl=>by obtain⟨v0,v1,v2,v3,rfl⟩:=AM.yD hl;rfl
 have F_15:cK K "_law_stepped" "_law_stepped" mV f_15 _:=⟨⟨_,_,_,_,_,_,_,_,_,_,rfl,l_15,c_15⟩,k_15⟩;have b_15:Binds K (W.fnOf "_law_stepped" "_law_stepped" (aM mV) (aL mV) (aF mV) .none kV_15 dc_15 pm_15 an_15 cd_15 ct_15) ["_law_shelf","_law_stores","_law_loads","_law_numbers","_law_deed_here"] []:=.all λus hl=>by obtain⟨v0,v1,v2,v3,v4,rfl⟩:=AM.wu hl;rfl
 have F_16:cK K "_law_spot" "_law_spot" mW f_16 _:=⟨⟨_,_,_,_,_,_,_,_,_,_,rfl,l_16,c_16⟩,k_16⟩;have b_16:Binds K (W.fnOf "_law_spot" "_law_spot" (aM mW) (aL mW) (aF mW) .none kV_16 dc_16 pm_16 an_16 cd_16 ct_16) ["_law_stores","_law_deed_here","_law_base","_law_far","_law_number"] []:=.all λus hl=>by obtain⟨v0,v1,v2,v3,v4,rfl⟩:=AM.wu hl;rfl
 have F_17:cK K "_law_due" "_law_due" mX f_17 _:=⟨⟨_,_,_,_,_,_,_,_,_,_,rfl,l_17,c_17⟩,k_17⟩;have b_17:Binds K (W.fnOf "_law_due" "_law_due" (aM mX) (aL mX) (aF mX) .none kV_17 dc_17 pm_17 an_17 cd_17 ct_17) ["_law_stores","_law_spot_here","_law_dares"] []:=.all λus hl=>by obtain⟨v0,v1,v2,rfl⟩:=AM.yC hl;rfl
 have F_18:cK K "_law_looks" "_law_looks" mY f_18 _:=⟨⟨_,_,_,_,_,_,_,_,_,_,rfl,l_18,c_18⟩,k_18⟩;have b_18:Binds K (W.fnOf "_law_looks" "_law_looks" (aM mY) (aL mY) (aF mY) .none kV_18 dc_18 pm_18 an_18 cd_18 ct_18) ["_law_shelf","_law_stores","_law_spot_here","_law_first"] []:=.all λus hl=>by obtain⟨v0,v1,v2,v3,rfl⟩:=AM.yD hl;rfl
 have F_19:cK K "_law_told" "_law_told" mZ f_19 _:=⟨⟨_,_,_,_,_,_,_,_,_,_,rfl,l_19,c_19⟩,k_19⟩;have b_19:Binds K (W.fnOf "_law_told" "_law_told" (aM mZ) (aL mZ) (aF mZ) .none kV_19 dc_19 pm_19 an_19 cd_19 ct_19) ["_law_shelf","_law_pair"] []:=.all λus hl=>by obtain⟨v0,v1,rfl⟩:=AM.nW hl;rfl
 have F_20:cK K "law" "law" nB fa _:=⟨⟨_,_,_,_,_,_,_,_,_,_,rfl,l_20,c_20⟩,k_20⟩;have b_20:Binds K (W.fnOf "law" "law" (aM nB) (aL nB) (aF nB) .none kV_20 dc_20 pm_20 an_20 cd_20 ct_20) ["_law_script"] []:=.all λus hl=>by obtain⟨v0,rfl⟩:=AM.yB hl;rfl
 have F_21:cK K "__init__" "Shelf.__init__" nC f_21 _:=⟨⟨_,_,_,_,_,_,_,_,_,_,rfl,l_21,c_21⟩,k_21⟩;have b_21:Binds K (W.fnOf "__init__" "Shelf.__init__" (aM nC) (aL nC) (aF nC) .none kV_21 dc_21 pm_21 an_21 cd_21 ct_21) ["self"] []:=.all λus hl=>by obtain⟨v0,rfl⟩:=AM.yB hl;rfl
 have F_22:cK K "store" "Shelf.store" nE f_22 _:=⟨⟨_,_,_,_,_,_,_,_,_,_,rfl,l_22,c_22⟩,k_22⟩;have b_22:Binds K (W.fnOf "store" "Shelf.store" (aM nE) (aL nE) (aF nE) .none kV_22 dc_22 pm_22 an_22 cd_22 ct_22) ["self","ticket"] []:=.all λus hl=>by obtain⟨v0,v1,rfl⟩:=AM.nW hl;rfl
 have F_23:cK K "placed" "Shelf.placed" nF f_23 _:=⟨⟨_,_,_,_,_,_,_,_,_,_,rfl,l_23,c_23⟩,k_23⟩;have b_23:Binds K (W.fnOf "placed" "Shelf.placed" (aM nF) (aL nF) (aF nF) .none kV_23 dc_23 pm_23 an_23 cd_23 ct_23) ["self","ticket","place"] []:=.all λus hl=>by obtain⟨v0,v1,v2,rfl⟩:=AM.yC hl;rfl
 have F_24:cK K "bitten" "Shelf.bitten" nG f_24 _:=⟨⟨_,_,_,_,_,_,_,_,_,_,rfl,l_24,c_24⟩,k_24⟩;have b_24:Binds K (W.fnOf "bitten" "Shelf.bitten" (aM nG) (aL nG) (aF nG) .none kV_24 dc_24 pm_24 an_24 cd_24 ct_24) ["self","ticket","place"] []:=.all λus hl=>by obtain⟨v0,v1,v2,rfl⟩:=AM.yC hl;rfl
 have F_25:cK K "worded" "Shelf.worded" nH f_25 _:=⟨⟨_,_,_,_,_,_,_,_,_,_,rfl,l_25,c_25⟩,k_25⟩;have b_25:Binds K (W.fnOf "worded" "Shelf.worded" (aM nH) (aL nH) (aF nH) .none kV_25 dc_25 pm_25 an_25 cd_25 ct_25) ["self","ticket","word"] []:=.all λus hl=>by obtain⟨v0,v1,v2,rfl⟩:=AM.yC hl;rfl
 have F_26:cK K "look" "Shelf.look" nI f_26 _:=⟨⟨_,_,_,_,_,_,_,_,_,_,rfl,l_26,c_26⟩,k_26⟩;have b_26:Binds K (W.fnOf "look" "Shelf.look" (aM nI) (aL nI) (aF nI) .none kV_26 dc_26 pm_26 an_26 cd_26 ct_26) ["self","ticket","place","dares"] []:=.all λus hl=>by obtain⟨v0,v1,v2,v3,rfl⟩:=AM.yD hl;rfl
 have F_27:cK K "loaded" "Shelf.loaded" nJ f_27 _:=⟨⟨_,_,_,_,_,_,_,_,_,_,rfl,l_27,c_27⟩,k_27⟩;have b_27:Binds K (W.fnOf "loaded" "Shelf.loaded" (aM nJ) (aL nJ) (aF nJ) .none kV_27 dc_27 pm_27 an_27 cd_27 ct_27) ["self","ticket","place","giver"] []:=.all λus hl=>by obtain⟨v0,v1,v2,v3,rfl⟩:=AM.yD hl;rfl
 have F_28:cK K "leave" "Shelf.leave" nK f_28 _:=⟨⟨_,_,_,_,_,_,_,_,_,_,rfl,l_28,c_28⟩,k_28⟩;have b_28:Binds K (W.fnOf "leave" "Shelf.leave" (aM nK) (aL nK) (aF nK) .none kV_28 dc_28 pm_28 an_28 cd_28 ct_28) ["self","ticket"] []:=.all λus hl=>by obtain⟨v0,v1,rfl⟩:=AM.nW hl;rfl
 have F_29:cK K "throw" "Shelf.throw" nL f_29 _:=⟨⟨_,_,_,_,_,_,_,_,_,_,rfl,l_29,c_29⟩,k_29⟩;have b_29:Binds K (W.fnOf "throw" "Shelf.throw" (aM nL) (aL nL) (aF nL) .none kV_29 dc_29 pm_29 an_29 cd_29 ct_29) ["self","ticket"] []:=.all λus hl=>by obtain⟨v0,v1,rfl⟩:=AM.nW hl;rfl
 have F_30:cK K "stores" "Shelf.stores" nN f_30 _:=⟨⟨_,_,_,_,_,_,_,_,_,_,rfl,l_30,c_30⟩,k_30⟩;have b_30:Binds K (W.fnOf "stores" "Shelf.stores" (aM nN) (aL nN) (aF nN) .none kV_30 dc_30 pm_30 an_30 cd_30 ct_30) ["self"] []:=.all λus hl=>by obtain⟨v0,rfl⟩:=AM.yB hl;rfl
 have F_31:cK K "loads" "Shelf.loads" nO f_31 _:=⟨⟨_,_,_,_,_,_,_,_,_,_,rfl,l_31,c_31⟩,k_31⟩;have b_31:Binds K (W.fnOf "loads" "Shelf.loads" (aM nO) (aL nO) (aF nO) .none kV_31 dc_31 pm_31 an_31 cd_31 ct_31) ["self"] []:=.all λus hl=>by obtain⟨v0,rfl⟩:=AM.yB hl;rfl
 have O:xm l.prog w pr ⟨K,λkvs a=>False,λi=>match i with|0=>some C_0|1=>some C_1|2=>some C_2|3=>some C_3|4=>some C_4|5=>some C_5|6=>some C_6|7=>some C_7|8=>some C_8|9=>some C_9|_=>none⟩ mg (λi=>([f_0,f_1,f_2,f_3,f_4,f_5,f_6,f_7,f_8,f_9,f_10,f_11,f_12,f_13,f_14,f_15,f_16,f_17,f_18,f_19,fa,f_21,f_22,f_23,f_24,f_25,f_26,f_27,f_28,f_29,f_30,f_31]:List Addr).getD i 0) (λi=>([W.fnOf "_law_cell_at" "_law_cell_at" (aM iN) (aL iN) (aF iN) .none kV_0 dc_0 pm_0 an_0 cd_0 ct_0,W.fnOf "_law_mixed" "_law_mixed" (aM mP) (aL mP) (aF mP) .none kV_1 dc_1 pm_1 an_1 cd_1 ct_1,W.fnOf "_law_alike" "_law_alike" (aM nA) (aL nA) (aF nA) .none kV_2 dc_2 pm_2 an_2 cd_2 ct_2,W.fnOf "_law_do" "_law_do" (aM nM) (aL nM) (aF nM) .none kV_3 dc_3 pm_3 an_3 cd_3 ct_3,W.fnOf "_law_class" "_law_class" (aM nP) (aL nP) (aF nP) .none kV_4 dc_4 pm_4 an_4 cd_4 ct_4,W.fnOf "_law_refused" "_law_refused" (aM nQ) (aL nQ) (aF nQ) .none kV_5 dc_5 pm_5 an_5 cd_5 ct_5,W.fnOf "_law_refused_by_any" "_law_refused_by_any" (aM nR) (aL nR) (aF nR) .none kV_6 dc_6 pm_6 an_6 cd_6 ct_6,W.fnOf "_law_ticket_by" "_law_ticket_by" (aM nS) (aL nS) (aF nS) .none kV_7 dc_7 pm_7 an_7 cd_7 ct_7,W.fnOf "_law_deed" "_law_deed" (aM nT) (aL nT) (aF nT) .none kV_8 dc_8 pm_8 an_8 cd_8 ct_8,W.fnOf "_law_allowed" "_law_allowed" (aM nU) (aL nU) (aF nU) .none kV_9 dc_9 pm_9 an_9 cd_9 ct_9,W.fnOf "_law_ticket" "_law_ticket" (aM mQ) (aL mQ) (aF mQ) .none kV_10 dc_10 pm_10 an_10 cd_10 ct_10,W.fnOf "_law_behind" "_law_behind" (aM mR) (aL mR) (aF mR) .none kV_11 dc_11 pm_11 an_11 cd_11 ct_11,W.fnOf "_law_answer" "_law_answer" (aM mS) (aL mS) (aF mS) .none kV_12 dc_12 pm_12 an_12 cd_12 ct_12,W.fnOf "_law_done" "_law_done" (aM mT) (aL mT) (aF mT) .none kV_13 dc_13 pm_13 an_13 cd_13 ct_13,W.fnOf "_law_thrown" "_law_thrown" (aM mU) (aL mU) (aF mU) .none kV_14 dc_14 pm_14 an_14 cd_14 ct_14,W.fnOf "_law_stepped" "_law_stepped" (aM mV) (aL mV) (aF mV) .none kV_15 dc_15 pm_15 an_15 cd_15 ct_15,W.fnOf "_law_spot" "_law_spot" (aM mW) (aL mW) (aF mW) .none kV_16 dc_16 pm_16 an_16 cd_16 ct_16,W.fnOf "_law_due" "_law_due" (aM mX) (aL mX) (aF mX) .none kV_17 dc_17 pm_17 an_17 cd_17 ct_17,W.fnOf "_law_looks" "_law_looks" (aM mY) (aL mY) (aF mY) .none kV_18 dc_18 pm_18 an_18 cd_18 ct_18,W.fnOf "_law_told" "_law_told" (aM mZ) (aL mZ) (aF mZ) .none kV_19 dc_19 pm_19 an_19 cd_19 ct_19,W.fnOf "law" "law" (aM nB) (aL nB) (aF nB) .none kV_20 dc_20 pm_20 an_20 cd_20 ct_20,W.fnOf "__init__" "Shelf.__init__" (aM nC) (aL nC) (aF nC) .none kV_21 dc_21 pm_21 an_21 cd_21 ct_21,W.fnOf "store" "Shelf.store" (aM nE) (aL nE) (aF nE) .none kV_22 dc_22 pm_22 an_22 cd_22 ct_22,W.fnOf "placed" "Shelf.placed" (aM nF) (aL nF) (aF nF) .none kV_23 dc_23 pm_23 an_23 cd_23 ct_23,W.fnOf "bitten" "Shelf.bitten" (aM nG) (aL nG) (aF nG) .none kV_24 dc_24 pm_24 an_24 cd_24 ct_24,W.fnOf "worded" "Shelf.worded" (aM nH) (aL nH) (aF nH) .none kV_25 dc_25 pm_25 an_25 cd_25 ct_25,W.fnOf "look" "Shelf.look" (aM nI) (aL nI) (aF nI) .none kV_26 dc_26 pm_26 an_26 cd_26 ct_26,W.fnOf "loaded" "Shelf.loaded" (aM nJ) (aL nJ) (aF nJ) .none kV_27 dc_27 pm_27 an_27 cd_27 ct_27,W.fnOf "leave" "Shelf.leave" (aM nK) (aL nK) (aF nK) .none kV_28 dc_28 pm_28 an_28 cd_28 ct_28,W.fnOf "throw" "Shelf.throw" (aM nL) (aL nL) (aF nL) .none kV_29 dc_29 pm_29 an_29 cd_29 ct_29,W.fnOf "stores" "Shelf.stores" (aM nN) (aL nN) (aF nN) .none kV_30 dc_30 pm_30 an_30 cd_30 ct_30,W.fnOf "loads" "Shelf.loads" (aM nO) (aL nO) (aF nO) .none kV_31 dc_31 pm_31 an_31 cd_31 ct_31]:List FuncData).getD i (W.fnOf "_law_cell_at" "_law_cell_at" (aM iN) (aL iN) (aF iN) .none kV_0 dc_0 pm_0 an_0 cd_0 ct_0)):=by
  refine⟨λi d hd=>?_,λi d hd=>?_,λx v hx=>?_,λx hx=>?_,λkvs a ht=>?_,λx c hx=>?_,λx cs hx=>?_,λy cs hx=>?_,λf cs hx=>?_,λm dp hx c i hi=>?_,λx n c i dv hx=>?_,λy cs hx=>?_,λx m i hx=>?_⟩
  .exact yG.get (ds:=[rK,rL,rY,sJ,sN,sO,sP,sQ,sR,sS,rM,rN,rO,rP,rQ,rR,rS,rT,rW,rX,pQ,rZ,sA,sC,sD,sE,sF,sG,sH,sI,sL,sM]) (.cons ⟨F_0,b_0,VG⟩ (.cons ⟨F_1,b_1,VH⟩ (.cons ⟨F_2,b_2,VT⟩ (.cons ⟨F_3,b_3,WE⟩ (.cons ⟨F_4,b_4,WI⟩ (.cons ⟨F_5,b_5,WJ⟩ (.cons ⟨F_6,b_6,WK⟩ (.cons ⟨F_7,b_7,WL⟩ (.cons ⟨F_8,b_8,WM⟩ (.cons ⟨F_9,b_9,WN⟩ (.cons ⟨F_10,b_10,VI⟩ (.cons ⟨F_11,b_11,VJ⟩ (.cons ⟨F_12,b_12,VL⟩ (.cons ⟨F_13,b_13,VM⟩ (.cons ⟨F_14,b_14,VN⟩ (.cons ⟨F_15,b_15,VO⟩ (.cons ⟨F_16,b_16,VP⟩ (.cons ⟨F_17,b_17,VQ⟩ (.cons ⟨F_18,b_18,VR⟩ (.cons ⟨F_19,b_19,VS⟩ (.cons ⟨F_20,b_20,VU⟩ (.cons ⟨F_21,b_21,VV⟩ (.cons ⟨F_22,b_22,VW⟩ (.cons ⟨F_23,b_23,VX⟩ (.cons ⟨F_24,b_24,VY⟩ (.cons ⟨F_25,b_25,VZ⟩ (.cons ⟨F_26,b_26,WA⟩ (.cons ⟨F_27,b_27,WB⟩ (.cons ⟨F_28,b_28,WC⟩ (.cons ⟨F_29,b_29,WD⟩ (.cons ⟨F_30,b_30,WG⟩ (.cons ⟨F_31,b_31,WH⟩ .nil)))))))))))))))))))))))))))))))) i d hd
  .exact yH.get (ds:=[rK,rL,rY,sJ,sN,sO,sP,sQ,sR,sS,rM,rN,rO,rP,rQ,rR,rS,rT,rW,rX,pQ]) (as:=[f_0,f_1,f_2,f_3,f_4,f_5,f_6,f_7,f_8,f_9,f_10,f_11,f_12,f_13,f_14,f_15,f_16,f_17,f_18,f_19,fa,f_21,f_22,f_23,f_24,f_25,f_26,f_27,f_28,f_29,f_30,f_31]) (.cons (W.mg_of X G x_0) (.cons (W.mg_of X G x_1) (.cons (W.mg_of X G x_2) (.cons (W.mg_of X G x_3) (.cons (W.mg_of X G x_4) (.cons (W.mg_of X G x_5) (.cons (W.mg_of X G x_6) (.cons (W.mg_of X G x_7) (.cons (W.mg_of X G x_8) (.cons (W.mg_of X G x_9) (.cons (W.mg_of X G x_10) (.cons (W.mg_of X G x_11) (.cons (W.mg_of X G x_12) (.cons (W.mg_of X G x_13) (.cons (W.mg_of X G x_14) (.cons (W.mg_of X G x_15) (.cons (W.mg_of X G x_16) (.cons (W.mg_of X G x_17) (.cons (W.mg_of X G x_18) (.cons (W.mg_of X G x_19) (.cons (W.mg_of X G x_20) .nil))))))))))))))))))))) i d hd
  .exact(tG hx).elim
  .have hx:x∈(["len","int","min","max","tuple","list","any","sorted","isinstance","bool","enumerate","zip"]:List Str):=List.contains_iff_mem.mp hx;simp only[List.mem_cons,List.not_mem_nil,or_false]at hx;rcases hx with rfl|rfl|rfl|rfl|rfl|rfl|rfl|rfl|rfl|rfl|rfl|rfl
   .exact W.mg_none_of X G z_len
   .exact W.mg_none_of X G z_int
   .exact W.mg_none_of X G z_min
   .exact W.mg_none_of X G z_max
   .exact W.mg_none_of X G z_tuple
   .exact W.mg_none_of X G z_list
   .exact W.mg_none_of X G z_any
   .exact W.mg_none_of X G z_sorted
   .exact W.mg_none_of X G z_isinstance
   .exact W.mg_none_of X G z_bool
   .exact W.mg_none_of X G z_enumerate
   .exact W.mg_none_of X G z_zip
  .exact ht.elim
  .rcases eM hx with⟨rfl,rfl⟩|hx
   .exact⟨C_3,_,_,_,_,W.mg_of X G xc_3,rfl,xe_3,PySem.F.excBase_ValueError⟩
   exact(tG hx).elim
  .rcases eM hx with⟨rfl,rfl⟩|hx
   .refine⟨C_3,W.mg_of X G xc_3,cl_3,λc hc=>?_⟩;simp only[List.mem_cons,List.not_mem_nil,or_false]at hc;rcases hc with rfl
    .exact⟨C_3,rfl,cl_3,mr_3_3⟩
   rcases eM hx with⟨rfl,rfl⟩|hx
   .refine⟨C_0,W.mg_of X G xc_0,cl_0,λc hc=>?_⟩;simp only[List.mem_cons,List.not_mem_nil,or_false]at hc;rcases hc with rfl
    .exact⟨C_3,rfl,cl_3,mr_3_0⟩
   exact(tG hx).elim
  .rcases eM hx with⟨rfl,rfl⟩|hx
   .refine⟨.ref C_8,.ref C_8,λu h=>h,rfl,.inl (W.mg_of X G xc_8),λk b hk=>?_⟩;rcases fN hk with⟨rfl,rfl⟩|hk
    .exact⟨C_3,rfl,xf_3,ko_3_8⟩
    exact(fO hk).elim
   rcases eM hx with⟨rfl,rfl⟩|hx
   .refine⟨.ref C_7,.ref C_7,λu h=>h,rfl,.inl (W.mg_of X G xc_7),λk b hk=>?_⟩;rcases fN hk with⟨rfl,rfl⟩|hk
    .exact⟨C_3,rfl,xf_3,ko_3_7⟩
    exact(fO hk).elim
   rcases eM hx with⟨rfl,rfl⟩|hx
   .refine⟨.ref C_6,.ref C_6,λu h=>h,rfl,.inl (W.mg_of X G xc_6),λk b hk=>?_⟩;rcases fN hk with⟨rfl,rfl⟩|hk
    .exact⟨C_3,rfl,xf_3,ko_3_6⟩
    exact(fO hk).elim
   rcases eM hx with⟨rfl,rfl⟩|hx
   .refine⟨.ref C_5,.ref C_5,λu h=>h,rfl,.inl (W.mg_of X G xc_5),λk b hk=>?_⟩;rcases fN hk with⟨rfl,rfl⟩|hk
    .exact⟨C_3,rfl,xf_3,ko_3_5⟩
    exact(fO hk).elim
   rcases eM hx with⟨rfl,rfl⟩|hx
   .refine⟨.ref C_4,.ref C_4,λu h=>h,rfl,.inl (W.mg_of X G xc_4),λk b hk=>?_⟩;rcases fN hk with⟨rfl,rfl⟩|hk
    .exact⟨C_3,rfl,xf_3,ko_3_4⟩
    exact(fO hk).elim
   rcases eM hx with⟨rfl,rfl⟩|hx
   .refine⟨.ref C_2,.ref C_2,λu h=>h,rfl,.inl (W.mg_of X G xc_2),λk b hk=>?_⟩;rcases fN hk with⟨rfl,rfl⟩|hk
    .exact⟨C_3,rfl,xf_3,ko_3_2⟩
    exact(fO hk).elim
   rcases eM hx with⟨rfl,rfl⟩|hx
   .refine⟨.ref C_1,.ref C_1,λu h=>h,rfl,.inl (W.mg_of X G xc_1),λk b hk=>?_⟩;rcases fN hk with⟨rfl,rfl⟩|hk
    .exact⟨C_3,rfl,xf_3,ko_3_1⟩
    exact(fO hk).elim
   rcases eM hx with⟨rfl,rfl⟩|hx
   .refine⟨.ty "ValueError",.type "ValueError",λu h=>h,rfl,.inr ⟨W.mg_none_of X G z_ValueError,PyProof.Rows.Boot.«ValueError»⟩,λk b hk=>?_⟩;rcases fN hk with⟨rfl,rfl⟩|hk
    .exact⟨C_3,rfl,xf_3,ko_3_ValueError⟩
    exact(fO hk).elim
   exact(tG hx).elim
  .rcases eM hx with⟨rfl,rfl⟩|hx
   .intro c D hc hD;rw[List.contains_iff_mem]at hc;simp only[List.mem_cons,List.not_mem_nil,or_false]at hc;rcases hc with rfl
    .cases hD;exact⟨⟨pg_9,hd_9,po_9,sa_9⟩,na_9_begun⟩
   rcases eM hx with⟨rfl,rfl⟩|hx
   .intro c D hc hD;rw[List.contains_iff_mem]at hc;simp only[List.mem_cons,List.not_mem_nil,or_false]at hc;rcases hc with rfl
    .cases hD;exact⟨⟨pg_9,hd_9,po_9,sa_9⟩,na_9_kept⟩
   exact(tG hx).elim
  .rcases eM hx with⟨rfl,rfl⟩|hx
   .rcases fN hi with⟨rfl,rfl⟩|hi
    .exact⟨sA,C_9,rfl,rfl,⟨pg_9,hd_9,po_9,sa_9⟩,a_9_store,fn_22,k_22⟩
    exact(fO hi).elim
   rcases eM hx with⟨rfl,rfl⟩|hx
   .rcases fN hi with⟨rfl,rfl⟩|hi
    .exact⟨sE,C_9,rfl,rfl,⟨pg_9,hd_9,po_9,sa_9⟩,a_9_worded,fn_25,k_25⟩
    exact(fO hi).elim
   rcases eM hx with⟨rfl,rfl⟩|hx
   .rcases fN hi with⟨rfl,rfl⟩|hi
    .exact⟨sG,C_9,rfl,rfl,⟨pg_9,hd_9,po_9,sa_9⟩,a_9_loaded,fn_27,k_27⟩
    exact(fO hi).elim
   rcases eM hx with⟨rfl,rfl⟩|hx
   .rcases fN hi with⟨rfl,rfl⟩|hi
    .exact⟨sH,C_9,rfl,rfl,⟨pg_9,hd_9,po_9,sa_9⟩,a_9_leave,fn_28,k_28⟩
    exact(fO hi).elim
   rcases eM hx with⟨rfl,rfl⟩|hx
   .rcases fN hi with⟨rfl,rfl⟩|hi
    .exact⟨sC,C_9,rfl,rfl,⟨pg_9,hd_9,po_9,sa_9⟩,a_9_placed,fn_23,k_23⟩
    exact(fO hi).elim
   rcases eM hx with⟨rfl,rfl⟩|hx
   .rcases fN hi with⟨rfl,rfl⟩|hi
    .exact⟨sI,C_9,rfl,rfl,⟨pg_9,hd_9,po_9,sa_9⟩,a_9_throw,fn_29,k_29⟩
    exact(fO hi).elim
   rcases eM hx with⟨rfl,rfl⟩|hx
   .rcases fN hi with⟨rfl,rfl⟩|hi
    .exact⟨sF,C_9,rfl,rfl,⟨pg_9,hd_9,po_9,sa_9⟩,a_9_look,fn_26,k_26⟩
    exact(fO hi).elim
   rcases eM hx with⟨rfl,rfl⟩|hx
   .rcases fN hi with⟨rfl,rfl⟩|hi
    .exact⟨sM,C_9,rfl,rfl,⟨pg_9,hd_9,po_9,sa_9⟩,a_9_loads,fn_31,k_31⟩
    exact(fO hi).elim
   rcases eM hx with⟨rfl,rfl⟩|hx
   .rcases fN hi with⟨rfl,rfl⟩|hi
    .exact⟨sL,C_9,rfl,rfl,⟨pg_9,hd_9,po_9,sa_9⟩,a_9_stores,fn_30,k_30⟩
    exact(fO hi).elim
   rcases eM hx with⟨rfl,rfl⟩|hx
   .rcases fN hi with⟨rfl,rfl⟩|hi
    .exact⟨sD,C_9,rfl,rfl,⟨pg_9,hd_9,po_9,sa_9⟩,a_9_bitten,fn_24,k_24⟩
    exact(fO hi).elim
   exact(tG hx).elim
  .rcases GW hx with⟨rfl,rfl,hv⟩|hx
   .cases hv;exact⟨rZ,C_9,[],[],rfl,rfl,⟨mk_9,a_9_init,fn_21,kc_9⟩,W.mg_of X G xc_9,b_21,.nil,λ_ _=>.nil⟩
   exact(GX hx).elim
  .exact(tG hx).elim
  .obtain⟨r,h1,h2⟩:=Option.bind_eq_some_iff.mp hx;clear hx;exact(tG h1).elim
 have hk:Keeps pr.ir 10 20:=by rw[FQ];exact keeps
 exact⟨_,λs v=>.of_eq rfl,λbase _ _=>GS (T:=⟨K,λkvs a=>False,λi=>match i with|0=>some C_0|1=>some C_1|2=>some C_2|3=>some C_3|4=>some C_4|5=>some C_5|6=>some C_6|7=>some C_7|8=>some C_8|9=>some C_9|_=>none⟩) (d:=pQ) O rfl hk⟩
end AMx
open PySem PySem.W PyProof.Rows
namespace PySem.W.Fast
def bI:List Stmt->Nat->Stmt|a::_,0=>a|_::l,n+1=>bI l n | [],_=>.Pass (.mk 0 0 0 0)
def aP:Stmt->List Stmt | .FunctionDef _ _ b _ _ _ _ _ _ _=>b | .ClassDef _ _ _ b _ _ _ _ _ _ _=>b|_=>[]
def aU:Stmt->Arguments | .FunctionDef _ p _ _ _ _ _ _ _ _=>p|_=>default
def aV:Stmt->Scope | .FunctionDef _ _ _ _ _ _ s _ _ _=>s | .ClassDef _ _ _ _ _ _ s _ _ _ _=>s|_=>default
def qf(o:Obj):BT:=.node o .nil .nil
def qb(s:String)(x:Data):Obj:=⟨.type s,.none,x,#[]⟩
def qd(P:Params)(n:Str)(i:Nat)(v:Value):DictEntry:=⟨PySem.PyData.keyHash P n,.str n i,v⟩
def aH:String:=PySem.W.SL.s2766695959194262286x5
def bL:String:=PySem.W.SL.s5856160107412720595x4
def mO:String:=PySem.W.SL.s658472552662922059x5
def cZ:String:=PySem.W.SL.s14018661285674007319x4
def lF:String:=PySem.W.SL.s7097527257260152453x26
def dR:String:=PySem.W.SL.s6070975301684473832x10
def fE:String:=PySem.W.SL.s11030030927630378310x26
def pJ:String:=PySem.W.SL.s10062305145149207511x16
def dM:String:=PySem.W.SL.s17162191345867700912x4
def gE:String:=PySem.W.SL.s5946037652744460706x9
def gB:String:=PySem.W.SL.s4278001404047624695x13
def fI:String:=PySem.W.SL.s2742458400755230247x6
def gC:String:=PySem.W.SL.s4209523147560561109x18
def Gn:String:=PySem.W.SL.s14755015743595814543x17
def Uk:String:=PySem.W.SL.s10220274742760427390x26
def pH:String:=PySem.W.SL.s4290257624100764138x5
def pI:String:=PySem.W.SL.s4860613602091757760x24
def cF:String:=PySem.W.SL.s7174869446012820540x8
def UA:String:=PySem.W.SL.s11443829558043349243x14
def UB:String:=PySem.W.SL.s6511155373996960695x17
def UC:String:=PySem.W.SL.s12411053484034534018x21
def SQ:Stmt:=bI qMB 0
def Tu:Stmt:=bI qMB 1
def Tv:Stmt:=bI qMB 2
def Tx:Stmt:=bI qMB 3
def Tz:Stmt:=bI qMB 4
def Ua:Stmt:=bI qMB 5
def Ub:Stmt:=bI qMB 6
def Gi:Stmt:=bI qMB 7
def pG:Stmt:=bI (aP Gi) 0
def Gj:Stmt:=bI qMB 8
def vj:Stmt:=bI (aP Gj) 0
def Gk:Stmt:=bI qMB 9
def vk:Stmt:=bI (aP Gk) 0
def SR:Stmt:=bI qMB 10
def jR:Stmt:=bI qMB 11
def aa:Stmt:=bI (aP jR) 0
def ae:Stmt:=bI (aP jR) 1
def ag:Stmt:=bI (aP jR) 2
def ah:Stmt:=bI (aP jR) 3
def ai:Stmt:=bI (aP jR) 4
def aj:Stmt:=bI (aP jR) 5
def ak:Stmt:=bI (aP jR) 6
def ao:Stmt:=bI (aP jR) 7
def aq:Stmt:=bI (aP jR) 8
def uL:Stmt:=bI (aP jR) 9
def vi:Stmt:=bI (aP jR) 10
def SS:Stmt:=bI qMB 12
def uM:Stmt:=bI qMB 13
def uN:Stmt:=bI qMB 14
def uO:Stmt:=bI qMB 15
def uP:Stmt:=bI qMB 16
def uQ:Stmt:=bI qMB 17
def uR:Stmt:=bI qMB 18
def uS:Stmt:=bI qMB 19
def uT:Stmt:=bI qMB 20
def uU:Stmt:=bI qMB 21
def uV:Stmt:=bI qMB 22
def uW:Stmt:=bI qMB 23
def uX:Stmt:=bI qMB 24
def uY:Stmt:=bI qMB 25
def uZ:Stmt:=bI qMB 26
def vA:Stmt:=bI qMB 27
def vB:Stmt:=bI qMB 28
def vC:Stmt:=bI qMB 29
def vD:Stmt:=bI qMB 30
def vE:Stmt:=bI qMB 31
def vF:Stmt:=bI qMB 32
def vG:Stmt:=bI qMB 33
def Qf:Str:=.mk #[60,109,111,100,117,108,101,62]
def aK:Str:=.mk #[47,99,108,97,105,109,47,99,117,116,46,112,121]
def QJ:Str:=.mk #[95,95,109,97,105,110,95,95]
def kM:Str:=.mk #[95,95,110,97,109,101,95,95]
def bV:Str:=.mk #[97,104,101,97,100,109,105,108,108,46,101,114,114,111,114,115]
def eQ:Str:=.mk #[95,95,100,111,99,95,95]
def kN:Str:=.mk #[95,95,112,97,99,107,97,103,101,95,95]
def kO:Str:=.mk #[95,95,108,111,97,100,101,114,95,95]
def kP:Str:=.mk #[95,95,115,112,101,99,95,95]
def kQ:Str:=.mk #[95,95,97,110,110,111,116,97,116,105,111,110,115,95,95]
def kI:Str:=.mk #[95,95,98,117,105,108,116,105,110,115,95,95]
def kJ:Str:=.mk #[95,95,102,105,108,101,95,95]
def kK:Str:=.mk #[95,95,99,97,99,104,101,100,95,95]
def bF:Str:=.mk #[77,105,108,108,69,114,114,111,114]
def eY:Str:=.mk #[95,95,109,111,100,117,108,101,95,95]
def oR:Str:=.mk #[95,95,113,117,97,108,110,97,109,101,95,95]
def eZ:Str:=.mk #[95,95,102,105,114,115,116,108,105,110,101,110,111,95,95]
def fA:Str:=.mk #[95,95,115,116,97,116,105,99,95,97,116,116,114,105,98,117,116,101,115,95,95]
def nq:Str:=.mk #[95,95,119,101,97,107,114,101,102,95,95]
def fR:Str:=.mk #[78,111,117,103,104,116]
def gA:Str:=.mk #[78,111,80,108,97,99,101]
def gN:Str:=.mk #[78,111,84,105,99,107,101,116]
def gX:Str:=.mk #[66,117,115,121]
def iM:Str:=.mk #[72,97,108,116,101,100]
def jE:Str:=.mk #[78,111,82,111,119]
def fB:Str:=.mk #[95,95,105,110,105,116,95,95]
def qJ:Str:=.mk #[115,101,108,102]
def zG:Str:=.mk #[108,105,110,101]
def Bu:Str:=.mk #[78,111,82,111,119,46,95,95,105,110,105,116,95,95]
def kL:Str:=.mk #[84,119,105,99,101]
def Bv:Str:=.mk #[84,119,105,99,101,46,95,95,105,110,105,116,95,95]
def gO:Str:=.mk #[97,104,101,97,100,109,105,108,108,46,115,104,101,108,102]
def lZ:Str:=.mk #[78,111,76,97,98,101,108]
def Bw:Str:=.mk #[78,111,76,97,98,101,108,46,95,95,105,110,105,116,95,95]
def oS:Str:=.mk #[83,104,101,108,102]
def eu:Str:=.mk #[115,116,111,114,101]
def fc:Str:=.mk #[112,108,97,99,101,100]
def fe:Str:=.mk #[98,105,116,116,101,110]
def ff:Str:=.mk #[119,111,114,100,101,100]
def fg:Str:=.mk #[108,111,111,107]
def fh:Str:=.mk #[108,111,97,100,101,100]
def fi:Str:=.mk #[108,101,97,118,101]
def fj:Str:=.mk #[116,104,114,111,119]
def fk:Str:=.mk #[115,116,111,114,101,115]
def fm:Str:=.mk #[108,111,97,100,115]
def Bx:Str:=.mk #[83,104,101,108,102,46,95,95,105,110,105,116,95,95]
def By:Str:=.mk #[83,104,101,108,102,46,115,116,111,114,101]
def fo:Str:=.mk #[116,105,99,107,101,116]
def Bz:Str:=.mk #[112,108,97,99,101]
def Qi:Str:=.mk #[107,110,111,119,110]
def Ca:Str:=.mk #[83,104,101,108,102,46,112,108,97,99,101,100]
def QK:Str:=.mk #[116,111,108,100]
def QL:Str:=.mk #[111,116,104,101,114]
def Qj:Str:=.mk #[103,105,118,101,114]
def Cb:Str:=.mk #[83,104,101,108,102,46,98,105,116,116,101,110]
def QM:Str:=.mk #[119,111,114,100]
def Cc:Str:=.mk #[83,104,101,108,102,46,119,111,114,100,101,100]
def Cd:Str:=.mk #[83,104,101,108,102,46,108,111,111,107]
def Ce:Str:=.mk #[83,104,101,108,102,46,108,111,97,100,101,100]
def Cf:Str:=.mk #[83,104,101,108,102,46,108,101,97,118,101]
def Cg:Str:=.mk #[83,104,101,108,102,46,116,104,114,111,119]
def Ci:Str:=.mk #[83,104,101,108,102,46,115,116,111,114,101,115]
def Cj:Str:=.mk #[83,104,101,108,102,46,108,111,97,100,115]
def QN:Str:=.mk #[98,101,103,117,110]
def QP:Str:=.mk #[107,101,112,116]
def Qk:Str:=.mk #[95,95,100,105,99,116,95,95]
def eN:Str:=.mk #[108,97,119,95,97,104,101,97,100,109,105,108,108,95,107,51,51,95,115,104,101,108,102,95,108,101,102,116,95,97,110,100,95,116,104,114,111,119,110]
def tN:Str:=.mk #[95,108,97,119,95,99,101,108,108,95,97,116]
def tO:Str:=.mk #[95,108,97,119,95,109,105,120,101,100]
def tP:Str:=.mk #[95,108,97,119,95,97,108,105,107,101]
def tQ:Str:=.mk #[95,108,97,119,95,100,111]
def tR:Str:=.mk #[95,108,97,119,95,99,108,97,115,115]
def tS:Str:=.mk #[95,108,97,119,95,114,101,102,117,115,101,100]
def tT:Str:=.mk #[95,108,97,119,95,114,101,102,117,115,101,100,95,98,121,95,97,110,121]
def tU:Str:=.mk #[95,108,97,119,95,116,105,99,107,101,116,95,98,121]
def tV:Str:=.mk #[95,108,97,119,95,100,101,101,100]
def tW:Str:=.mk #[95,108,97,119,95,97,108,108,111,119,101,100]
def tX:Str:=.mk #[95,108,97,119,95,116,105,99,107,101,116]
def tY:Str:=.mk #[95,108,97,119,95,98,101,104,105,110,100]
def Ql:Str:=.mk #[95,108,97,119,95,115,99,114,105,112,116]
def Ck:Str:=.mk #[95,108,97,119,95,107]
def Qm:Str:=.mk #[95,108,97,119,95,99,101,108,108]
def QQ:Str:=.mk #[95,108,97,119,95,98,121]
def QR:Str:=.mk #[95,108,97,119,95,112,114,105,109,101]
def nr:Str:=.mk #[95,108,97,119,95,102,111,117,110,100]
def QU:Str:=.mk #[95,108,97,119,95,100,117,101,95,104,101,114,101]
def Qn:Str:=.mk #[95,108,97,119,95,111,110,101]
def QV:Str:=.mk #[95,108,97,119,95,111,116,104,101,114]
def wZ:Str:=.mk #[95,108,97,119,95,115,104,101,108,102]
def xA:Str:=.mk #[95,108,97,119,95,100,101,101,100,95,104,101,114,101]
def QX:Str:=.mk #[95,108,97,119,95,103,111,111,100]
def Qo:Str:=.mk #[95,108,97,119,95,99,97,117,103,104,116]
def QY:Str:=.mk #[101,114,114,111,114]
def Cm:Str:=.mk #[95,108,97,119,95,110,117,109,98,101,114,115]
def fq:Str:=.mk #[95,108,97,119,95,115,116,111,114,101,115]
def nu:Str:=.mk #[95,108,97,119,95,108,111,97,100,115]
def Qp:Str:=.mk #[95,108,97,119,95,98,97,115,101]
def Qq:Str:=.mk #[95,108,97,119,95,102,97,114]
def QZ:Str:=.mk #[95,108,97,119,95,107,105,110,100]
def RA:Str:=.mk #[95,108,97,119,95,112,97,114,116]
def PR:Str:=.mk #[95,108,97,119,95,116,105,99,107,101,116,95,104,101,114,101]
def PU:Str:=.mk #[95,108,97,119,95,112,108,97,99,101]
def wM:Str:=.mk #[95,108,97,119,95,97,110,115,119,101,114]
def wN:Str:=.mk #[95,108,97,119,95,100,111,110,101]
def wO:Str:=.mk #[95,108,97,119,95,116,104,114,111,119,110]
def wQ:Str:=.mk #[95,108,97,119,95,115,116,101,112,112,101,100]
def wR:Str:=.mk #[95,108,97,119,95,115,112,111,116]
def wU:Str:=.mk #[95,108,97,119,95,100,117,101]
def wW:Str:=.mk #[95,108,97,119,95,108,111,111,107,115]
def wX:Str:=.mk #[95,108,97,119,95,116,111,108,100]
def wY:Str:=.mk #[108,97,119]
def PV:Str:=.mk #[95,108,97,119,95,108,111,97,100]
def Qg:Str:=.mk #[95,108,97,119,95,116,104,101,114,101]
def PX:Str:=.mk #[95,108,97,119,95,103,105,118,101,114]
def Bt:Str:=.mk #[95,108,97,119,95,115,112,111,116,95,104,101,114,101]
def Qh:Str:=.mk #[95,108,97,119,95,100,97,114,101,115]
def PY:Str:=.mk #[95,108,97,119,95,115,116,111,114,101]
def PZ:Str:=.mk #[95,108,97,119,95,119,111,114,100]
def QB:Str:=.mk #[95,108,97,119,95,102,105,114,115,116]
def QC:Str:=.mk #[95,108,97,119,95,112,97,105,114]
def QD:Str:=.mk #[95,108,97,119,95,115,104,101,108,118,101,115]
def QF:Str:=.mk #[95,108,97,119,95,112,97,105,114,115]
def QH:Str:=.mk #[95,108,97,119,95,119,104,105,99,104]
variable (P:Params)
def tw10912344588806573054:Program:={ PySem.Challenge.rw_aheadmill_k33_shelf_left_and_thrown.row.toRowW.1 with main:={ PySem.Challenge.rw_aheadmill_k33_shelf_left_and_thrown.row.toRowW.1.main with body:=[Tu,Tv,Tx,Tz,Ua,Ub,Gi,Gj,Gk,jR,uM,uN,uO,uP,uQ,uR,uS,uT,uU,uV,uW,uX,uY,uZ,vA,vB,vC,vD,vE,vF,vG] } }
theorem te10912344588806573054:tw10912344588806573054=tw10912344588806573054:=rfl
def tw12365805176486851715:Params->W.Frag:=λ_=>[]
theorem te12365805176486851715:tw12365805176486851715=tw12365805176486851715:=rfl
def gY:=qb aH (.seq #[] 0)
def Ts:Obj:=(.mk .none .none (.fields #[]) #[])
def gZ:=qb bL (.fields #[(.str Qf 182),(.str Qf 183),(.str aK 184),(.int 1 0),(.int 0 0),(.int 0 0),(.int 0 0),(.int 0 0),(.ref 11),(.bool .false),(.int 181 0),(.ref 12),.none,.none,.none,.none,(.int 185 0),(.int 1 0),(.str aK 186)])
def hG:Obj:=(.mk (.type mO) .none .plain #[(.some (.ref 13)),(.some (.ref 3)),(.some (.ref 3)),.none,(.some (.str QJ 164)),.none,(.some (.ref 0))])
def tw11356705926164391707:Params->Heap:=λP=>(.mk #[(boot_o_0 P),(boot_o_1 P),(boot_o_2 P),(boot_o_3 P),(boot_o_4 P),(boot_o_5 P),(boot_o_6 P),(boot_o_7 P),(boot_o_8 P),(boot_o_9 P),(boot_o_10 P),gY,Ts,gZ,hG] (.mk [] [] [] 0 [] [] .false #[] [] 0 .false .false .false 0 [2000,10,10] .false 0 .true [] [] 0 .false))
theorem te11356705926164391707:tw11356705926164391707=tw11356705926164391707:=rfl
def tw3001030951972267385:Params->BT:=λP=>(.node (boot_o_0 P) (.node (boot_o_1 P) (.node (boot_o_3 P) (qf (boot_o_7 P)) (qf gY)) (.node (boot_o_5 P) (qf (boot_o_9 P)) (qf gZ))) (.node (boot_o_2 P) (.node (boot_o_4 P) (qf (boot_o_8 P)) (qf Ts)) (.node (boot_o_6 P) (qf (boot_o_10 P)) (qf hG))))
theorem te3001030951972267385:tw3001030951972267385=tw3001030951972267385:=rfl
def RX:=qb cZ (.dict #[(qd P kM 165 (.str bV 187)),(qd P eQ 166 .none),(qd P kN 167 .none),(qd P kO 168 (.builtin lF)),(qd P kP 169 .none),(qd P kQ 170 (.ref 6)),(qd P kI 171 (.ref 4)),(qd P kJ 173 (.str aK 172)),(qd P kK 174 .none),(qd P bF 206 (.ref 24))] 10)
def tw6469533223941182362:List Stmt:=[SQ,Tu]
theorem te6469533223941182362:tw6469533223941182362=tw6469533223941182362:=rfl
def RY:Obj:=(.mk .none .none (.fields #[(.int 2 0),(.int 0 0),(.ref 20)]) #[])
def jF:=qb aH (.seq #[(.type dR)] 0)
def jG:=qb fE (.fields #[(.builtin pJ),(.type dM)])
def jH:=qb cZ (.dict #[(qd P eY 196 (.str bV 187)),(qd P oR 198 (.str bF 197)),(qd P eZ 200 (.int 2 199)),(qd P fA 201 (.ref 22))] 4)
def jI:=qb aH (.seq #[] 0)
def jJ:Obj:=(.mk .none .none (.fields #[]) #[])
def jK:=qb bL (.fields #[(.str bF 191),(.str bF 192),(.str aK 193),(.int 2 0),(.int 0 0),(.int 0 0),(.int 0 0),(.int 0 0),(.ref 18),(.bool .false),(.int 181 0),(.ref 19),.none,.none,.none,.none,(.int 194 0),(.int 2 0),(.str aK 195)])
def jL:Obj:=(.mk (.type mO) .none .plain #[(.some (.ref 20)),(.some (.ref 3)),(.some (.ref 17)),.none,(.some (.str bV 187)),.none,(.some (.ref 0))])
def jM:=qb aH (.seq #[] 0)
def jN:=qb cZ (.dict #[(qd P eY 196 (.str bV 187)),(qd P eZ 200 (.int 2 199)),(qd P fA 201 (.ref 22)),(qd P nq 203 (.ref 25)),(qd P eQ 204 .none)] 3)
def RZ:Obj:=(.mk (.type dM) .none (.cls (.mk bF [(.type dR)] [(.ref 24),(.type dR),(.type gE),(.type gB),(.type fI)] 23 bF .true [] [] .false .none .false)) #[(.some (.ref 15)),.none,(.some (.str bF 189)),(.some (.str bF 197)),(.some (.builtin gC)),(.some (.bool .true))])
def jO:=qb Gn (.fields #[(.str nq 202),(.ref 24),(.builtin Uk),.none])
def jP:=qb pH (.fields #[(.ref 24),(.ref 24),(.ref 24)])
def jQ:=qb fE (.fields #[(.builtin pI),(.ref 24)])
def tw7909392051873714820:Params->BT:=λP=>(.node (boot_o_0 P) (.node (boot_o_1 P) (.node (RX P) (.node (boot_o_7 P) (qf jF) (qf (jN P))) (.node gY (qf jJ) (qf jQ))) (.node (boot_o_5 P) (.node (boot_o_9 P) (qf (jH P)) (qf jO)) (.node gZ (qf jL) .nil))) (.node (boot_o_2 P) (.node (boot_o_4 P) (.node (boot_o_8 P) (qf jG) (qf RZ)) (.node RY (qf jK) .nil)) (.node (boot_o_6 P) (.node (boot_o_10 P) (qf jI) (qf jP)) (.node hG (qf jM) .nil))))
theorem te7909392051873714820:tw7909392051873714820=tw7909392051873714820:=rfl
def SA:=qb cZ (.dict #[(qd P kM 165 (.str bV 187)),(qd P eQ 166 .none),(qd P kN 167 .none),(qd P kO 168 (.builtin lF)),(qd P kP 169 .none),(qd P kQ 170 (.ref 6)),(qd P kI 171 (.ref 4)),(qd P kJ 173 (.str aK 172)),(qd P kK 174 .none),(qd P bF 206 (.ref 24)),(qd P fR 222 (.ref 37))] 11)
def tw2205717992581255763:List Stmt:=[Tv]
theorem te2205717992581255763:tw2205717992581255763=tw2205717992581255763:=rfl
def SD:Obj:=(.mk .none .none (.fields #[(.int 2 0),(.int 0 0),(.ref 20),(.int 4 0),(.int 0 0),(.ref 33)]) #[])
def SE:Obj:=(.mk (.type dM) .none (.cls (.mk bF [(.type dR)] [(.ref 24),(.type dR),(.type gE),(.type gB),(.type fI)] 23 bF .true [] [(.ref 37)] .false .none .false)) #[(.some (.ref 15)),.none,(.some (.str bF 189)),(.some (.str bF 197)),(.some (.builtin gC)),(.some (.bool .true))])
def kR:=qb aH (.seq #[(.ref 24)] 0)
def kT:=qb fE (.fields #[(.builtin pJ),(.type dM)])
def kU:=qb cZ (.dict #[(qd P eY 214 (.str bV 187)),(qd P oR 216 (.str fR 215)),(qd P eZ 218 (.int 4 217)),(qd P fA 219 (.ref 35))] 4)
def kW:=qb aH (.seq #[] 0)
def kX:Obj:=(.mk .none .none (.fields #[]) #[])
def kY:=qb bL (.fields #[(.str fR 209),(.str fR 210),(.str aK 211),(.int 4 0),(.int 0 0),(.int 0 0),(.int 0 0),(.int 0 0),(.ref 31),(.bool .false),(.int 181 0),(.ref 32),.none,.none,.none,.none,(.int 212 0),(.int 4 0),(.str aK 213)])
def kZ:Obj:=(.mk (.type mO) .none .plain #[(.some (.ref 33)),(.some (.ref 3)),(.some (.ref 30)),.none,(.some (.str bV 187)),.none,(.some (.ref 0))])
def lA:=qb aH (.seq #[] 0)
def lB:=qb cZ (.dict #[(qd P eY 214 (.str bV 187)),(qd P eZ 218 (.int 4 217)),(qd P fA 219 (.ref 35)),(qd P eQ 220 .none)] 2)
def lC:Obj:=(.mk (.type dM) .none (.cls (.mk fR [(.ref 24)] [(.ref 37),(.ref 24),(.type dR),(.type gE),(.type gB),(.type fI)] 36 fR .true [] [] .false .none .false)) #[(.some (.ref 28)),.none,(.some (.str fR 207)),(.some (.str fR 215)),(.some (.builtin gC)),(.some (.bool .true))])
def lD:=qb pH (.fields #[(.ref 37),(.ref 37),(.ref 37)])
def lE:=qb fE (.fields #[(.builtin pI),(.ref 37)])
def tw5003780478241027034:Params->BT:=λP=>(.node (boot_o_0 P) (.node (boot_o_1 P) (.node (SA P) (.node (boot_o_7 P) (.node jF (qf kW) .nil) (.node (jN P) (qf lE) .nil)) (.node gY (.node jJ (qf lA) .nil) (qf jQ))) (.node (boot_o_5 P) (.node (boot_o_9 P) (.node (jH P) (qf kY) .nil) (qf jO)) (.node gZ (.node jL (qf lC) .nil) (qf kT)))) (.node (boot_o_2 P) (.node (boot_o_4 P) (.node (boot_o_8 P) (.node jG (qf kX) .nil) (qf SE)) (.node SD (.node jK (qf (lB P)) .nil) (qf kR))) (.node (boot_o_6 P) (.node (boot_o_10 P) (.node jI (qf kZ) .nil) (qf jP)) (.node hG (.node jM (qf lD) .nil) (qf (kU P))))))
theorem te5003780478241027034:tw5003780478241027034=tw5003780478241027034:=rfl
def SG:=qb cZ (.dict #[(qd P kM 165 (.str bV 187)),(qd P eQ 166 .none),(qd P kN 167 .none),(qd P kO 168 (.builtin lF)),(qd P kP 169 .none),(qd P kQ 170 (.ref 6)),(qd P kI 171 (.ref 4)),(qd P kJ 173 (.str aK 172)),(qd P kK 174 .none),(qd P bF 206 (.ref 24)),(qd P fR 222 (.ref 37)),(qd P gA 238 (.ref 49))] 12)
def tw2150473462918170840:List Stmt:=[Tx]
theorem te2150473462918170840:tw2150473462918170840=tw2150473462918170840:=rfl
def SH:Obj:=(.mk .none .none (.fields #[(.int 2 0),(.int 0 0),(.ref 20),(.int 4 0),(.int 0 0),(.ref 33),(.int 6 0),(.int 0 0),(.ref 45)]) #[])
def SI:Obj:=(.mk (.type dM) .none (.cls (.mk bF [(.type dR)] [(.ref 24),(.type dR),(.type gE),(.type gB),(.type fI)] 23 bF .true [] [(.ref 37),(.ref 49)] .false .none .false)) #[(.some (.ref 15)),.none,(.some (.str bF 189)),(.some (.str bF 197)),(.some (.builtin gC)),(.some (.bool .true))])
def mB:=qb aH (.seq #[(.ref 24)] 0)
def mC:=qb fE (.fields #[(.builtin pJ),(.type dM)])
def mD:=qb cZ (.dict #[(qd P eY 230 (.str bV 187)),(qd P oR 232 (.str gA 231)),(qd P eZ 234 (.int 6 233)),(qd P fA 235 (.ref 47))] 4)
def mE:=qb aH (.seq #[] 0)
def mF:Obj:=(.mk .none .none (.fields #[]) #[])
def mG:=qb bL (.fields #[(.str gA 225),(.str gA 226),(.str aK 227),(.int 6 0),(.int 0 0),(.int 0 0),(.int 0 0),(.int 0 0),(.ref 43),(.bool .false),(.int 181 0),(.ref 44),.none,.none,.none,.none,(.int 228 0),(.int 6 0),(.str aK 229)])
def mH:Obj:=(.mk (.type mO) .none .plain #[(.some (.ref 45)),(.some (.ref 3)),(.some (.ref 42)),.none,(.some (.str bV 187)),.none,(.some (.ref 0))])
def mI:=qb aH (.seq #[] 0)
def mJ:=qb cZ (.dict #[(qd P eY 230 (.str bV 187)),(qd P eZ 234 (.int 6 233)),(qd P fA 235 (.ref 47)),(qd P eQ 236 .none)] 2)
def mK:Obj:=(.mk (.type dM) .none (.cls (.mk gA [(.ref 24)] [(.ref 49),(.ref 24),(.type dR),(.type gE),(.type gB),(.type fI)] 48 gA .true [] [] .false .none .false)) #[(.some (.ref 40)),.none,(.some (.str gA 223)),(.some (.str gA 231)),(.some (.builtin gC)),(.some (.bool .true))])
def mL:=qb pH (.fields #[(.ref 49),(.ref 49),(.ref 49)])
def mM:=qb fE (.fields #[(.builtin pI),(.ref 49)])
def tw13802552675672825600:Params->BT:=λP=>(.node (boot_o_0 P) (.node (boot_o_1 P) (.node (SG P) (.node (boot_o_7 P) (.node jF (qf kW) (qf mI)) (.node (jN P) (qf lE) .nil)) (.node gY (.node jJ (qf lA) (qf mM)) (.node jQ (qf mE) .nil))) (.node (boot_o_5 P) (.node (boot_o_9 P) (.node (jH P) (qf kY) (qf mK)) (.node jO (qf mC) .nil)) (.node gZ (.node jL (qf lC) .nil) (.node kT (qf mG) .nil)))) (.node (boot_o_2 P) (.node (boot_o_4 P) (.node (boot_o_8 P) (.node jG (qf kX) (qf (mJ P))) (.node SI (qf mB) .nil)) (.node SH (.node jK (qf (lB P)) .nil) (.node kR (qf mF) .nil))) (.node (boot_o_6 P) (.node (boot_o_10 P) (.node jI (qf kZ) (qf mL)) (.node jP (qf (mD P)) .nil)) (.node hG (.node jM (qf lD) .nil) (.node (kU P) (qf mH) .nil)))))
theorem te13802552675672825600:tw13802552675672825600=tw13802552675672825600:=rfl
def SJ:=qb cZ (.dict #[(qd P kM 165 (.str bV 187)),(qd P eQ 166 .none),(qd P kN 167 .none),(qd P kO 168 (.builtin lF)),(qd P kP 169 .none),(qd P kQ 170 (.ref 6)),(qd P kI 171 (.ref 4)),(qd P kJ 173 (.str aK 172)),(qd P kK 174 .none),(qd P bF 206 (.ref 24)),(qd P fR 222 (.ref 37)),(qd P gA 238 (.ref 49)),(qd P gN 254 (.ref 61))] 13)
def tw11737152400048955314:List Stmt:=[Tz]
theorem te11737152400048955314:tw11737152400048955314=tw11737152400048955314:=rfl
def SK:Obj:=(.mk .none .none (.fields #[(.int 2 0),(.int 0 0),(.ref 20),(.int 4 0),(.int 0 0),(.ref 33),(.int 6 0),(.int 0 0),(.ref 45),(.int 8 0),(.int 0 0),(.ref 57)]) #[])
def SM:Obj:=(.mk (.type dM) .none (.cls (.mk bF [(.type dR)] [(.ref 24),(.type dR),(.type gE),(.type gB),(.type fI)] 23 bF .true [] [(.ref 37),(.ref 49),(.ref 61)] .false .none .false)) #[(.some (.ref 15)),.none,(.some (.str bF 189)),(.some (.str bF 197)),(.some (.builtin gC)),(.some (.bool .true))])
def pD:=qb aH (.seq #[(.ref 24)] 0)
def pE:=qb fE (.fields #[(.builtin pJ),(.type dM)])
def pF:=qb cZ (.dict #[(qd P eY 246 (.str bV 187)),(qd P oR 248 (.str gN 247)),(qd P eZ 250 (.int 8 249)),(qd P fA 251 (.ref 59))] 4)
def oT:=qb aH (.seq #[] 0)
def oU:Obj:=(.mk .none .none (.fields #[]) #[])
def oW:=qb bL (.fields #[(.str gN 241),(.str gN 242),(.str aK 243),(.int 8 0),(.int 0 0),(.int 0 0),(.int 0 0),(.int 0 0),(.ref 55),(.bool .false),(.int 181 0),(.ref 56),.none,.none,.none,.none,(.int 244 0),(.int 8 0),(.str aK 245)])
def oX:Obj:=(.mk (.type mO) .none .plain #[(.some (.ref 57)),(.some (.ref 3)),(.some (.ref 54)),.none,(.some (.str bV 187)),.none,(.some (.ref 0))])
def oY:=qb aH (.seq #[] 0)
def oZ:=qb cZ (.dict #[(qd P eY 246 (.str bV 187)),(qd P eZ 250 (.int 8 249)),(qd P fA 251 (.ref 59)),(qd P eQ 252 .none)] 2)
def pA:Obj:=(.mk (.type dM) .none (.cls (.mk gN [(.ref 24)] [(.ref 61),(.ref 24),(.type dR),(.type gE),(.type gB),(.type fI)] 60 gN .true [] [] .false .none .false)) #[(.some (.ref 52)),.none,(.some (.str gN 239)),(.some (.str gN 247)),(.some (.builtin gC)),(.some (.bool .true))])
def pB:=qb pH (.fields #[(.ref 61),(.ref 61),(.ref 61)])
def pC:=qb fE (.fields #[(.builtin pI),(.ref 61)])
def tw15685189284629398363:Params->BT:=λP=>(.node (boot_o_0 P) (.node (boot_o_1 P) (.node (SJ P) (.node (boot_o_7 P) (.node jF (.node kW (qf pC) .nil) (qf mI)) (.node (jN P) (qf lE) (qf oT))) (.node gY (.node jJ (qf lA) (qf mM)) (.node jQ (qf mE) (qf oY)))) (.node (boot_o_5 P) (.node (boot_o_9 P) (.node (jH P) (qf kY) (qf mK)) (.node jO (qf mC) (qf oW))) (.node gZ (.node jL (qf lC) (qf pE)) (.node kT (qf mG) (qf pA))))) (.node (boot_o_2 P) (.node (boot_o_4 P) (.node (boot_o_8 P) (.node jG (qf kX) (qf (mJ P))) (.node SM (qf mB) (qf oU))) (.node SK (.node jK (qf (lB P)) (qf pD)) (.node kR (qf mF) (qf (oZ P))))) (.node (boot_o_6 P) (.node (boot_o_10 P) (.node jI (qf kZ) (qf mL)) (.node jP (qf (mD P)) (qf oX))) (.node hG (.node jM (qf lD) (qf (pF P))) (.node (kU P) (qf mH) (qf pB))))))
theorem te15685189284629398363:tw15685189284629398363=tw15685189284629398363:=rfl
def RC:=qb cZ (.dict #[(qd P kM 165 (.str bV 187)),(qd P eQ 166 .none),(qd P kN 167 .none),(qd P kO 168 (.builtin lF)),(qd P kP 169 .none),(qd P kQ 170 (.ref 6)),(qd P kI 171 (.ref 4)),(qd P kJ 173 (.str aK 172)),(qd P kK 174 .none),(qd P bF 206 (.ref 24)),(qd P fR 222 (.ref 37)),(qd P gA 238 (.ref 49)),(qd P gN 254 (.ref 61)),(qd P gX 270 (.ref 73))] 14)
def tw6330052906522639238:List Stmt:=[Ua]
theorem te6330052906522639238:tw6330052906522639238=tw6330052906522639238:=rfl
def RD:Obj:=(.mk .none .none (.fields #[(.int 2 0),(.int 0 0),(.ref 20),(.int 4 0),(.int 0 0),(.ref 33),(.int 6 0),(.int 0 0),(.ref 45),(.int 8 0),(.int 0 0),(.ref 57),(.int 10 0),(.int 0 0),(.ref 69)]) #[])
def RE:Obj:=(.mk (.type dM) .none (.cls (.mk bF [(.type dR)] [(.ref 24),(.type dR),(.type gE),(.type gB),(.type fI)] 23 bF .true [] [(.ref 37),(.ref 49),(.ref 61),(.ref 73)] .false .none .false)) #[(.some (.ref 15)),.none,(.some (.str bF 189)),(.some (.str bF 197)),(.some (.builtin gC)),(.some (.bool .true))])
def qK:=qb aH (.seq #[(.ref 24)] 0)
def qL:=qb fE (.fields #[(.builtin pJ),(.type dM)])
def qM:=qb cZ (.dict #[(qd P eY 262 (.str bV 187)),(qd P oR 264 (.str gX 263)),(qd P eZ 266 (.int 10 265)),(qd P fA 267 (.ref 71))] 4)
def qN:=qb aH (.seq #[] 0)
def qO:Obj:=(.mk .none .none (.fields #[]) #[])
def qP:=qb bL (.fields #[(.str gX 257),(.str gX 258),(.str aK 259),(.int 10 0),(.int 0 0),(.int 0 0),(.int 0 0),(.int 0 0),(.ref 67),(.bool .false),(.int 181 0),(.ref 68),.none,.none,.none,.none,(.int 260 0),(.int 10 0),(.str aK 261)])
def qQ:Obj:=(.mk (.type mO) .none .plain #[(.some (.ref 69)),(.some (.ref 3)),(.some (.ref 66)),.none,(.some (.str bV 187)),.none,(.some (.ref 0))])
def qR:=qb aH (.seq #[] 0)
def qS:=qb cZ (.dict #[(qd P eY 262 (.str bV 187)),(qd P eZ 266 (.int 10 265)),(qd P fA 267 (.ref 71)),(qd P eQ 268 .none)] 2)
def qT:Obj:=(.mk (.type dM) .none (.cls (.mk gX [(.ref 24)] [(.ref 73),(.ref 24),(.type dR),(.type gE),(.type gB),(.type fI)] 72 gX .true [] [] .false .none .false)) #[(.some (.ref 64)),.none,(.some (.str gX 255)),(.some (.str gX 263)),(.some (.builtin gC)),(.some (.bool .true))])
def qU:=qb pH (.fields #[(.ref 73),(.ref 73),(.ref 73)])
def qV:=qb fE (.fields #[(.builtin pI),(.ref 73)])
def tw7765696143589100903:Params->BT:=λP=>(.node (boot_o_0 P) (.node (boot_o_1 P) (.node (RC P) (.node (boot_o_7 P) (.node jF (.node kW (qf pC) .nil) (qf mI)) (.node (jN P) (.node lE (qf qR) .nil) (qf oT))) (.node gY (.node jJ (.node lA (qf qN) .nil) (qf mM)) (.node jQ (.node mE (qf qV) .nil) (qf oY)))) (.node (boot_o_5 P) (.node (boot_o_9 P) (.node (jH P) (.node kY (qf qL) .nil) (qf mK)) (.node jO (.node mC (qf qT) .nil) (qf oW))) (.node gZ (.node jL (.node lC (qf qP) .nil) (qf pE)) (.node kT (qf mG) (qf pA))))) (.node (boot_o_2 P) (.node (boot_o_4 P) (.node (boot_o_8 P) (.node jG (.node kX (qf qK) .nil) (qf (mJ P))) (.node RE (.node mB (qf (qS P)) .nil) (qf oU))) (.node RD (.node jK (.node (lB P) (qf qO) .nil) (qf pD)) (.node kR (qf mF) (qf (oZ P))))) (.node (boot_o_6 P) (.node (boot_o_10 P) (.node jI (.node kZ (qf (qM P)) .nil) (qf mL)) (.node jP (.node (mD P) (qf qU) .nil) (qf oX))) (.node hG (.node jM (.node lD (qf qQ) .nil) (qf (pF P))) (.node (kU P) (qf mH) (qf pB))))))
theorem te7765696143589100903:tw7765696143589100903=tw7765696143589100903:=rfl
def RF:=qb cZ (.dict #[(qd P kM 165 (.str bV 187)),(qd P eQ 166 .none),(qd P kN 167 .none),(qd P kO 168 (.builtin lF)),(qd P kP 169 .none),(qd P kQ 170 (.ref 6)),(qd P kI 171 (.ref 4)),(qd P kJ 173 (.str aK 172)),(qd P kK 174 .none),(qd P bF 206 (.ref 24)),(qd P fR 222 (.ref 37)),(qd P gA 238 (.ref 49)),(qd P gN 254 (.ref 61)),(qd P gX 270 (.ref 73)),(qd P iM 286 (.ref 85))] 15)
def tw9187572246183960665:List Stmt:=[Ub]
theorem te9187572246183960665:tw9187572246183960665=tw9187572246183960665:=rfl
def RG:Obj:=(.mk .none .none (.fields #[(.int 2 0),(.int 0 0),(.ref 20),(.int 4 0),(.int 0 0),(.ref 33),(.int 6 0),(.int 0 0),(.ref 45),(.int 8 0),(.int 0 0),(.ref 57),(.int 10 0),(.int 0 0),(.ref 69),(.int 12 0),(.int 0 0),(.ref 81)]) #[])
def RH:Obj:=(.mk (.type dM) .none (.cls (.mk bF [(.type dR)] [(.ref 24),(.type dR),(.type gE),(.type gB),(.type fI)] 23 bF .true [] [(.ref 37),(.ref 49),(.ref 61),(.ref 73),(.ref 85)] .false .none .false)) #[(.some (.ref 15)),.none,(.some (.str bF 189)),(.some (.str bF 197)),(.some (.builtin gC)),(.some (.bool .true))])
def tZ:=qb aH (.seq #[(.ref 24)] 0)
def uA:=qb fE (.fields #[(.builtin pJ),(.type dM)])
def uB:=qb cZ (.dict #[(qd P eY 278 (.str bV 187)),(qd P oR 280 (.str iM 279)),(qd P eZ 282 (.int 12 281)),(qd P fA 283 (.ref 83))] 4)
def uC:=qb aH (.seq #[] 0)
def uD:Obj:=(.mk .none .none (.fields #[]) #[])
def uE:=qb bL (.fields #[(.str iM 273),(.str iM 274),(.str aK 275),(.int 12 0),(.int 0 0),(.int 0 0),(.int 0 0),(.int 0 0),(.ref 79),(.bool .false),(.int 181 0),(.ref 80),.none,.none,.none,.none,(.int 276 0),(.int 12 0),(.str aK 277)])
def uF:Obj:=(.mk (.type mO) .none .plain #[(.some (.ref 81)),(.some (.ref 3)),(.some (.ref 78)),.none,(.some (.str bV 187)),.none,(.some (.ref 0))])
def uG:=qb aH (.seq #[] 0)
def uH:=qb cZ (.dict #[(qd P eY 278 (.str bV 187)),(qd P eZ 282 (.int 12 281)),(qd P fA 283 (.ref 83)),(qd P eQ 284 .none)] 2)
def uI:Obj:=(.mk (.type dM) .none (.cls (.mk iM [(.ref 24)] [(.ref 85),(.ref 24),(.type dR),(.type gE),(.type gB),(.type fI)] 84 iM .true [] [] .false .none .false)) #[(.some (.ref 76)),.none,(.some (.str iM 271)),(.some (.str iM 279)),(.some (.builtin gC)),(.some (.bool .true))])
def uJ:=qb pH (.fields #[(.ref 85),(.ref 85),(.ref 85)])
def uK:=qb fE (.fields #[(.builtin pI),(.ref 85)])
def tw3801533538496348501:Params->BT:=λP=>(.node (boot_o_0 P) (.node (boot_o_1 P) (.node (RF P) (.node (boot_o_7 P) (.node jF (.node kW (qf pC) .nil) (.node mI (qf uC) .nil)) (.node (jN P) (.node lE (qf qR) .nil) (.node oT (qf uK) .nil))) (.node gY (.node jJ (.node lA (qf qN) .nil) (.node mM (qf uG) .nil)) (.node jQ (.node mE (qf qV) .nil) (qf oY)))) (.node (boot_o_5 P) (.node (boot_o_9 P) (.node (jH P) (.node kY (qf qL) .nil) (.node mK (qf uE) .nil)) (.node jO (.node mC (qf qT) .nil) (qf oW))) (.node gZ (.node jL (.node lC (qf qP) .nil) (.node pE (qf uI) .nil)) (.node kT (.node mG (qf uA) .nil) (qf pA))))) (.node (boot_o_2 P) (.node (boot_o_4 P) (.node (boot_o_8 P) (.node jG (.node kX (qf qK) .nil) (.node (mJ P) (qf uD) .nil)) (.node RH (.node mB (qf (qS P)) .nil) (qf oU))) (.node RG (.node jK (.node (lB P) (qf qO) .nil) (.node pD (qf (uH P)) .nil)) (.node kR (.node mF (qf tZ) .nil) (qf (oZ P))))) (.node (boot_o_6 P) (.node (boot_o_10 P) (.node jI (.node kZ (qf (qM P)) .nil) (.node mL (qf uF) .nil)) (.node jP (.node (mD P) (qf qU) .nil) (qf oX))) (.node hG (.node jM (.node lD (qf qQ) .nil) (.node (pF P) (qf uJ) .nil)) (.node (kU P) (.node mH (qf (uB P)) .nil) (qf pB))))))
theorem te3801533538496348501:tw3801533538496348501=tw3801533538496348501:=rfl
def RJ:=qb cZ (.dict #[(qd P kM 165 (.str bV 187)),(qd P eQ 166 .none),(qd P kN 167 .none),(qd P kO 168 (.builtin lF)),(qd P kP 169 .none),(qd P kQ 170 (.ref 6)),(qd P kI 171 (.ref 4)),(qd P kJ 173 (.str aK 172)),(qd P kK 174 .none),(qd P bF 206 (.ref 24)),(qd P fR 222 (.ref 37)),(qd P gA 238 (.ref 49)),(qd P gN 254 (.ref 61)),(qd P gX 270 (.ref 73)),(qd P iM 286 (.ref 85)),(qd P jE 311 (.ref 104))] 16)
def tw3308232655736596416:List Stmt:=[Gi]
theorem te3308232655736596416:tw3308232655736596416=tw3308232655736596416:=rfl
def RK:Obj:=(.mk .none .none (.fields #[(.int 2 0),(.int 0 0),(.ref 20),(.int 4 0),(.int 0 0),(.ref 33),(.int 6 0),(.int 0 0),(.ref 45),(.int 8 0),(.int 0 0),(.ref 57),(.int 10 0),(.int 0 0),(.ref 69),(.int 12 0),(.int 0 0),(.ref 81),(.int 14 0),(.int 0 0),(.ref 93)]) #[])
def RL:Obj:=(.mk (.type dM) .none (.cls (.mk bF [(.type dR)] [(.ref 24),(.type dR),(.type gE),(.type gB),(.type fI)] 23 bF .true [] [(.ref 37),(.ref 49),(.ref 61),(.ref 73),(.ref 85),(.ref 104)] .false .none .false)) #[(.some (.ref 15)),.none,(.some (.str bF 189)),(.some (.str bF 197)),(.some (.builtin gC)),(.some (.bool .true))])
def xB:=qb aH (.seq #[(.ref 24)] 0)
def xC:=qb fE (.fields #[(.builtin pJ),(.type dM)])
def xD:=qb cZ (.dict #[(qd P eY 294 (.str bV 187)),(qd P oR 296 (.str jE 295)),(qd P eZ 298 (.int 14 297)),(qd P fB 306 (.ref 101)),(qd P fA 308 (.ref 102))] 5)
def xE:=qb aH (.seq #[] 0)
def xG:Obj:=(.mk .none .none (.fields #[(.int 16 0),(.int 4 0),(.ref 100)]) #[])
def xH:=qb bL (.fields #[(.str jE 289),(.str jE 290),(.str aK 291),(.int 14 0),(.int 0 0),(.int 0 0),(.int 0 0),(.int 0 0),(.ref 91),(.bool .false),(.int 181 0),(.ref 92),.none,.none,.none,.none,(.int 292 0),(.int 14 0),(.str aK 293)])
def xI:Obj:=(.mk (.type mO) .none .plain #[(.some (.ref 93)),(.some (.ref 3)),(.some (.ref 90)),.none,(.some (.str bV 187)),.none,(.some (.ref 0))])
def xJ:=qb aH (.seq #[] 0)
def xK:Obj:=(.mk .none .none (.fields #[]) #[])
def xM:=qb aH (.seq #[(.str qJ 302),(.str zG 303)] 0)
def xN:=qb aH (.seq #[] 0)
def xO:Obj:=(.mk .none .none (.func (.mk fB Bu (aU pG) (.stmts (aP pG)) (aV pG) 0 [] .none .none .none .none .none .none .none 0)) #[])
def xP:=qb bL (.fields #[(.str fB 299),(.str Bu 300),(.str aK 301),(.int 16 0),(.int 2 0),(.int 0 0),(.int 0 0),(.int 3 0),(.ref 95),(.bool .true),(.int 181 0),(.ref 96),.none,(.ref 97),(.ref 98),(.ref 99),(.int 304 0),(.int 16 0),(.str aK 305)])
def xQ:=qb cF (.func (.mk fB Bu (aU pG) (.stmts (aP pG)) (aV pG) 3 [] .none .none .none (.str bV 187) .none (.ref 100) .none 0))
def xR:=qb aH (.seq #[(.str zG 307)] 0)
def xS:=qb cZ (.dict #[(qd P eY 294 (.str bV 187)),(qd P eZ 298 (.int 14 297)),(qd P fB 306 (.ref 101)),(qd P fA 308 (.ref 102)),(qd P eQ 309 .none)] 2)
def xT:Obj:=(.mk (.type dM) .none (.cls (.mk jE [(.ref 24)] [(.ref 104),(.ref 24),(.type dR),(.type gE),(.type gB),(.type fI)] 103 jE .true [] [] .false .none .false)) #[(.some (.ref 88)),.none,(.some (.str jE 287)),(.some (.str jE 295)),(.some (.builtin gC)),(.some (.bool .true))])
def xU:=qb pH (.fields #[(.ref 104),(.ref 104),(.ref 104)])
def xV:=qb fE (.fields #[(.builtin pI),(.ref 104)])
def tw2642722894955266890:Params->BT:=λP=>(.node (boot_o_0 P) (.node (boot_o_1 P) (.node (RJ P) (.node (boot_o_7 P) (.node jF (.node kW (qf pC) (qf xJ)) (.node mI (qf uC) .nil)) (.node (jN P) (.node lE (qf qR) (qf (xS P))) (.node oT (qf uK) .nil))) (.node gY (.node jJ (.node lA (qf qN) (qf xO)) (.node mM (qf uG) .nil)) (.node jQ (.node mE (qf qV) .nil) (.node oY (qf xE) .nil)))) (.node (boot_o_5 P) (.node (boot_o_9 P) (.node (jH P) (.node kY (qf qL) (qf xM)) (.node mK (qf uE) .nil)) (.node jO (.node mC (qf qT) (qf xU)) (.node oW (qf xC) .nil))) (.node gZ (.node jL (.node lC (qf qP) (qf xQ)) (.node pE (qf uI) .nil)) (.node kT (.node mG (qf uA) .nil) (.node pA (qf xH) .nil))))) (.node (boot_o_2 P) (.node (boot_o_4 P) (.node (boot_o_8 P) (.node jG (.node kX (qf qK) (qf xK)) (.node (mJ P) (qf uD) .nil)) (.node RL (.node mB (qf (qS P)) (qf xT)) (.node oU (qf xB) .nil))) (.node RK (.node jK (.node (lB P) (qf qO) (qf xP)) (.node pD (qf (uH P)) .nil)) (.node kR (.node mF (qf tZ) .nil) (.node (oZ P) (qf xG) .nil)))) (.node (boot_o_6 P) (.node (boot_o_10 P) (.node jI (.node kZ (qf (qM P)) (qf xN)) (.node mL (qf uF) .nil)) (.node jP (.node (mD P) (qf qU) (qf xV)) (.node oX (qf (xD P)) .nil))) (.node hG (.node jM (.node lD (qf qQ) (qf xR)) (.node (pF P) (qf uJ) .nil)) (.node (kU P) (.node mH (qf (uB P)) .nil) (.node pB (qf xI) .nil))))))
theorem te2642722894955266890:tw2642722894955266890=tw2642722894955266890:=rfl
def RM:=qb cZ (.dict #[(qd P kM 165 (.str bV 187)),(qd P eQ 166 .none),(qd P kN 167 .none),(qd P kO 168 (.builtin lF)),(qd P kP 169 .none),(qd P kQ 170 (.ref 6)),(qd P kI 171 (.ref 4)),(qd P kJ 173 (.str aK 172)),(qd P kK 174 .none),(qd P bF 206 (.ref 24)),(qd P fR 222 (.ref 37)),(qd P gA 238 (.ref 49)),(qd P gN 254 (.ref 61)),(qd P gX 270 (.ref 73)),(qd P iM 286 (.ref 85)),(qd P jE 311 (.ref 104)),(qd P kL 336 (.ref 123))] 17)
def tw8959545983142018318:List Stmt:=[Gj]
theorem te8959545983142018318:tw8959545983142018318=tw8959545983142018318:=rfl
def RN:Obj:=(.mk .none .none (.fields #[(.int 2 0),(.int 0 0),(.ref 20),(.int 4 0),(.int 0 0),(.ref 33),(.int 6 0),(.int 0 0),(.ref 45),(.int 8 0),(.int 0 0),(.ref 57),(.int 10 0),(.int 0 0),(.ref 69),(.int 12 0),(.int 0 0),(.ref 81),(.int 14 0),(.int 0 0),(.ref 93),(.int 18 0),(.int 0 0),(.ref 112)]) #[])
def RP:Obj:=(.mk (.type dM) .none (.cls (.mk bF [(.type dR)] [(.ref 24),(.type dR),(.type gE),(.type gB),(.type fI)] 23 bF .true [] [(.ref 37),(.ref 49),(.ref 61),(.ref 73),(.ref 85),(.ref 104),(.ref 123)] .false .none .false)) #[(.some (.ref 15)),.none,(.some (.str bF 189)),(.some (.str bF 197)),(.some (.builtin gC)),(.some (.bool .true))])
def zH:=qb aH (.seq #[(.ref 24)] 0)
def zI:=qb fE (.fields #[(.builtin pJ),(.type dM)])
def zJ:=qb cZ (.dict #[(qd P eY 319 (.str bV 187)),(qd P oR 321 (.str kL 320)),(qd P eZ 323 (.int 18 322)),(qd P fB 331 (.ref 120)),(qd P fA 333 (.ref 121))] 5)
def zK:=qb aH (.seq #[] 0)
def zL:Obj:=(.mk .none .none (.fields #[(.int 20 0),(.int 4 0),(.ref 119)]) #[])
def zM:=qb bL (.fields #[(.str kL 314),(.str kL 315),(.str aK 316),(.int 18 0),(.int 0 0),(.int 0 0),(.int 0 0),(.int 0 0),(.ref 110),(.bool .false),(.int 181 0),(.ref 111),.none,.none,.none,.none,(.int 317 0),(.int 18 0),(.str aK 318)])
def zN:Obj:=(.mk (.type mO) .none .plain #[(.some (.ref 112)),(.some (.ref 3)),(.some (.ref 109)),.none,(.some (.str bV 187)),.none,(.some (.ref 0))])
def zO:=qb aH (.seq #[] 0)
def zP:Obj:=(.mk .none .none (.fields #[]) #[])
def zQ:=qb aH (.seq #[(.str qJ 327),(.str zG 328)] 0)
def zR:=qb aH (.seq #[] 0)
def zS:Obj:=(.mk .none .none (.func (.mk fB Bv (aU vj) (.stmts (aP vj)) (aV pG) 0 [] .none .none .none .none .none .none .none 0)) #[])
def zT:=qb bL (.fields #[(.str fB 324),(.str Bv 325),(.str aK 326),(.int 20 0),(.int 2 0),(.int 0 0),(.int 0 0),(.int 3 0),(.ref 114),(.bool .true),(.int 181 0),(.ref 115),.none,(.ref 116),(.ref 117),(.ref 118),(.int 329 0),(.int 20 0),(.str aK 330)])
def zU:=qb cF (.func (.mk fB Bv (aU vj) (.stmts (aP vj)) (aV pG) 3 [] .none .none .none (.str bV 187) .none (.ref 119) .none 0))
def zV:=qb aH (.seq #[(.str zG 332)] 0)
def zW:=qb cZ (.dict #[(qd P eY 319 (.str bV 187)),(qd P eZ 323 (.int 18 322)),(qd P fB 331 (.ref 120)),(qd P fA 333 (.ref 121)),(qd P eQ 334 .none)] 2)
def zX:Obj:=(.mk (.type dM) .none (.cls (.mk kL [(.ref 24)] [(.ref 123),(.ref 24),(.type dR),(.type gE),(.type gB),(.type fI)] 122 kL .true [] [] .false .none .false)) #[(.some (.ref 107)),.none,(.some (.str kL 312)),(.some (.str kL 320)),(.some (.builtin gC)),(.some (.bool .true))])
def zY:=qb pH (.fields #[(.ref 123),(.ref 123),(.ref 123)])
def zZ:=qb fE (.fields #[(.builtin pI),(.ref 123)])
def tw1210977886918025454:Params->BT:=λP=>(.node (boot_o_0 P) (.node (boot_o_1 P) (.node (RM P) (.node (boot_o_7 P) (.node jF (.node kW (qf pC) (qf xJ)) (.node mI (qf uC) (qf zL))) (.node (jN P) (.node lE (qf qR) (qf (xS P))) (.node oT (qf uK) (qf zT)))) (.node gY (.node jJ (.node lA (qf qN) (qf xO)) (.node mM (qf uG) (qf zP))) (.node jQ (.node mE (qf qV) (qf zH)) (.node oY (qf xE) (qf zX))))) (.node (boot_o_5 P) (.node (boot_o_9 P) (.node (jH P) (.node kY (qf qL) (qf xM)) (.node mK (qf uE) (qf zN))) (.node jO (.node mC (qf qT) (qf xU)) (.node oW (qf xC) (qf zV)))) (.node gZ (.node jL (.node lC (qf qP) (qf xQ)) (.node pE (qf uI) (qf zR))) (.node kT (.node mG (qf uA) (qf (zJ P))) (.node pA (qf xH) (qf zZ)))))) (.node (boot_o_2 P) (.node (boot_o_4 P) (.node (boot_o_8 P) (.node jG (.node kX (qf qK) (qf xK)) (.node (mJ P) (qf uD) (qf zM))) (.node RP (.node mB (qf (qS P)) (qf xT)) (.node oU (qf xB) (qf zU)))) (.node RN (.node jK (.node (lB P) (qf qO) (qf xP)) (.node pD (qf (uH P)) (qf zQ))) (.node kR (.node mF (qf tZ) (qf zI)) (.node (oZ P) (qf xG) (qf zY))))) (.node (boot_o_6 P) (.node (boot_o_10 P) (.node jI (.node kZ (qf (qM P)) (qf xN)) (.node mL (qf uF) (qf zO))) (.node jP (.node (mD P) (qf qU) (qf xV)) (.node oX (qf (xD P)) (qf (zW P))))) (.node hG (.node jM (.node lD (qf qQ) (qf xR)) (.node (pF P) (qf uJ) (qf zS))) (.node (kU P) (.node mH (qf (uB P)) (qf zK)) (.node pB (qf xI) .nil))))))
theorem te1210977886918025454:tw1210977886918025454=tw1210977886918025454:=rfl
def RQ:=qb cZ (.dict #[(qd P kM 165 (.str gO 362)),(qd P eQ 166 .none),(qd P kN 167 .none),(qd P kO 168 (.builtin lF)),(qd P kP 169 .none),(qd P kQ 170 (.ref 6)),(qd P kI 171 (.ref 4)),(qd P kJ 173 (.str aK 172)),(qd P kK 174 .none),(qd P bF 206 (.ref 24)),(qd P fR 222 (.ref 37)),(qd P gA 238 (.ref 49)),(qd P gN 254 (.ref 61)),(qd P gX 270 (.ref 73)),(qd P iM 286 (.ref 85)),(qd P jE 311 (.ref 104)),(qd P kL 336 (.ref 123)),(qd P lZ 361 (.ref 142))] 18)
def tw8788351624217705852:List Stmt:=[Gk,SR]
theorem te8788351624217705852:tw8788351624217705852=tw8788351624217705852:=rfl
def RS:Obj:=(.mk .none .none (.fields #[(.int 2 0),(.int 0 0),(.ref 20),(.int 4 0),(.int 0 0),(.ref 33),(.int 6 0),(.int 0 0),(.ref 45),(.int 8 0),(.int 0 0),(.ref 57),(.int 10 0),(.int 0 0),(.ref 69),(.int 12 0),(.int 0 0),(.ref 81),(.int 14 0),(.int 0 0),(.ref 93),(.int 18 0),(.int 0 0),(.ref 112),(.int 22 0),(.int 0 0),(.ref 131)]) #[])
def ft:Obj:=(.mk (.type dM) .none (.cls (.mk bF [(.type dR)] [(.ref 24),(.type dR),(.type gE),(.type gB),(.type fI)] 23 bF .true [] [(.ref 37),(.ref 49),(.ref 61),(.ref 73),(.ref 85),(.ref 104),(.ref 123),(.ref 142)] .false .none .false)) #[(.some (.ref 15)),.none,(.some (.str bF 189)),(.some (.str bF 197)),(.some (.builtin gC)),(.some (.bool .true))])
def fu:=qb aH (.seq #[(.ref 24)] 0)
def fv:=qb fE (.fields #[(.builtin pJ),(.type dM)])
def fw:=qb cZ (.dict #[(qd P eY 344 (.str bV 187)),(qd P oR 346 (.str lZ 345)),(qd P eZ 348 (.int 22 347)),(qd P fB 356 (.ref 139)),(qd P fA 358 (.ref 140))] 5)
def fz:=qb aH (.seq #[] 0)
def gb:Obj:=(.mk .none .none (.fields #[(.int 24 0),(.int 4 0),(.ref 138)]) #[])
def gc:=qb bL (.fields #[(.str lZ 339),(.str lZ 340),(.str aK 341),(.int 22 0),(.int 0 0),(.int 0 0),(.int 0 0),(.int 0 0),(.ref 129),(.bool .false),(.int 181 0),(.ref 130),.none,.none,.none,.none,(.int 342 0),(.int 22 0),(.str aK 343)])
def gf:Obj:=(.mk (.type mO) .none .plain #[(.some (.ref 131)),(.some (.ref 3)),(.some (.ref 128)),.none,(.some (.str bV 187)),.none,(.some (.ref 0))])
def gh:=qb aH (.seq #[] 0)
def gi:Obj:=(.mk .none .none (.fields #[]) #[])
def gj:=qb aH (.seq #[(.str qJ 352),(.str zG 353)] 0)
def gk:=qb aH (.seq #[] 0)
def gm:Obj:=(.mk .none .none (.func (.mk fB Bw (aU vk) (.stmts (aP vk)) (aV pG) 0 [] .none .none .none .none .none .none .none 0)) #[])
def gp:=qb bL (.fields #[(.str fB 349),(.str Bw 350),(.str aK 351),(.int 24 0),(.int 2 0),(.int 0 0),(.int 0 0),(.int 3 0),(.ref 133),(.bool .true),(.int 181 0),(.ref 134),.none,(.ref 135),(.ref 136),(.ref 137),(.int 354 0),(.int 24 0),(.str aK 355)])
def gq:=qb cF (.func (.mk fB Bw (aU vk) (.stmts (aP vk)) (aV pG) 3 [] .none .none .none (.str bV 187) .none (.ref 138) .none 0))
def gr:=qb aH (.seq #[(.str zG 357)] 0)
def gu:=qb cZ (.dict #[(qd P eY 344 (.str bV 187)),(qd P eZ 348 (.int 22 347)),(qd P fB 356 (.ref 139)),(qd P fA 358 (.ref 140)),(qd P eQ 359 .none)] 2)
def gw:Obj:=(.mk (.type dM) .none (.cls (.mk lZ [(.ref 24)] [(.ref 142),(.ref 24),(.type dR),(.type gE),(.type gB),(.type fI)] 141 lZ .true [] [] .false .none .false)) #[(.some (.ref 126)),.none,(.some (.str lZ 337)),(.some (.str lZ 345)),(.some (.builtin gC)),(.some (.bool .true))])
def gx:=qb pH (.fields #[(.ref 142),(.ref 142),(.ref 142)])
def gy:=qb fE (.fields #[(.builtin pI),(.ref 142)])
def tw71755784671800870:Params->BT:=λP=>(.node (boot_o_0 P) (.node (boot_o_1 P) (.node (RQ P) (.node (boot_o_7 P) (.node jF (.node kW (.node pC (qf fv) .nil) (qf xJ)) (.node mI (.node uC (qf gx) .nil) (qf zL))) (.node (jN P) (.node lE (.node qR (qf gj) .nil) (qf (xS P))) (.node oT (qf uK) (qf zT)))) (.node gY (.node jJ (.node lA (.node qN (qf gc) .nil) (qf xO)) (.node mM (qf uG) (qf zP))) (.node jQ (.node mE (.node qV (qf gq) .nil) (qf zH)) (.node oY (qf xE) (qf zX))))) (.node (boot_o_5 P) (.node (boot_o_9 P) (.node (jH P) (.node kY (.node qL (qf fz) .nil) (qf xM)) (.node mK (qf uE) (qf zN))) (.node jO (.node mC (.node qT (qf gm) .nil) (qf xU)) (.node oW (qf xC) (qf zV)))) (.node gZ (.node jL (.node lC (.node qP (qf gh) .nil) (qf xQ)) (.node pE (qf uI) (qf zR))) (.node kT (.node mG (.node uA (qf (gu P)) .nil) (qf (zJ P))) (.node pA (qf xH) (qf zZ)))))) (.node (boot_o_2 P) (.node (boot_o_4 P) (.node (boot_o_8 P) (.node jG (.node kX (.node qK (qf (fw P)) .nil) (qf xK)) (.node (mJ P) (.node uD (qf gy) .nil) (qf zM))) (.node ft (.node mB (.node (qS P) (qf gk) .nil) (qf xT)) (.node oU (qf xB) (qf zU)))) (.node RS (.node jK (.node (lB P) (.node qO (qf gf) .nil) (qf xP)) (.node pD (qf (uH P)) (qf zQ))) (.node kR (.node mF (.node tZ (qf gr) .nil) (qf zI)) (.node (oZ P) (qf xG) (qf zY))))) (.node (boot_o_6 P) (.node (boot_o_10 P) (.node jI (.node kZ (.node (qM P) (qf gb) .nil) (qf xN)) (.node mL (qf uF) (qf zO))) (.node jP (.node (mD P) (.node qU (qf gp) .nil) (qf xV)) (.node oX (qf (xD P)) (qf (zW P))))) (.node hG (.node jM (.node lD (.node qQ (qf gi) .nil) (qf xR)) (.node (pF P) (qf uJ) (qf zS))) (.node (kU P) (.node mH (.node (uB P) (qf gw) .nil) (qf zK)) (.node pB (qf xI) (qf fu)))))))
theorem te71755784671800870:tw71755784671800870=tw71755784671800870:=rfl
def RT:=qb cZ (.dict #[(qd P kM 165 (.str gO 362)),(qd P eQ 166 .none),(qd P kN 167 .none),(qd P kO 168 (.builtin lF)),(qd P kP 169 .none),(qd P kQ 170 (.ref 6)),(qd P kI 171 (.ref 4)),(qd P kJ 173 (.str aK 172)),(qd P kK 174 .none),(qd P bF 206 (.ref 24)),(qd P fR 222 (.ref 37)),(qd P gA 238 (.ref 49)),(qd P gN 254 (.ref 61)),(qd P gX 270 (.ref 73)),(qd P iM 286 (.ref 85)),(qd P jE 311 (.ref 104)),(qd P kL 336 (.ref 123)),(qd P lZ 361 (.ref 142)),(qd P oS 472 (.ref 221))] 19)
def tw12886015383515110569:List Stmt:=[jR]
theorem te12886015383515110569:tw12886015383515110569=tw12886015383515110569:=rfl
def RU:Obj:=(.mk .none .none (.fields #[(.int 2 0),(.int 0 0),(.ref 20),(.int 4 0),(.int 0 0),(.ref 33),(.int 6 0),(.int 0 0),(.ref 45),(.int 8 0),(.int 0 0),(.ref 57),(.int 10 0),(.int 0 0),(.ref 69),(.int 12 0),(.int 0 0),(.ref 81),(.int 14 0),(.int 0 0),(.ref 93),(.int 18 0),(.int 0 0),(.ref 112),(.int 22 0),(.int 0 0),(.ref 131),(.int 27 0),(.int 0 0),(.ref 150)]) #[])
def nv:=qb aH (.seq #[] 0)
def ny:=qb fE (.fields #[(.builtin pJ),(.type dM)])
def og:=qb cZ (.dict #[(qd P eY 371 (.str gO 362)),(qd P oR 373 (.str oS 372)),(qd P eZ 375 (.int 27 374)),(qd P fB 382 (.ref 158)),(qd P eu 388 (.ref 163)),(qd P fc 398 (.ref 170)),(qd P fe 410 (.ref 177)),(qd P ff 420 (.ref 184)),(qd P fg 426 (.ref 189)),(qd P fh 436 (.ref 196)),(qd P fi 444 (.ref 203)),(qd P fj 450 (.ref 208)),(qd P fk 456 (.ref 213)),(qd P fm 462 (.ref 218)),(qd P fA 465 (.ref 219))] 15)
def oh:=qb aH (.seq #[] 0)
def oj:Obj:=(.mk .none .none (.fields #[(.int 29 0),(.int 4 0),(.ref 157),(.int 33 0),(.int 4 0),(.ref 162),(.int 38 0),(.int 4 0),(.ref 169),(.int 45 0),(.int 4 0),(.ref 176),(.int 53 0),(.int 4 0),(.ref 183),(.int 59 0),(.int 4 0),(.ref 188),(.int 70 0),(.int 4 0),(.ref 195),(.int 75 0),(.int 4 0),(.ref 202),(.int 83 0),(.int 4 0),(.ref 207),(.int 92 0),(.int 4 0),(.ref 212),(.int 95 0),(.int 4 0),(.ref 217)]) #[])
def oo:=qb bL (.fields #[(.str oS 366),(.str oS 367),(.str aK 368),(.int 27 0),(.int 0 0),(.int 0 0),(.int 0 0),(.int 0 0),(.ref 148),(.bool .false),(.int 181 0),(.ref 149),.none,.none,.none,.none,(.int 369 0),(.int 27 0),(.str aK 370)])
def ot:Obj:=(.mk (.type mO) .none .plain #[(.some (.ref 150)),(.some (.ref 3)),(.some (.ref 147)),.none,(.some (.str gO 362)),.none,(.some (.ref 0))])
def ou:=qb aH (.seq #[] 0)
def ow:Obj:=(.mk .none .none (.fields #[]) #[])
def oy:=qb aH (.seq #[(.str qJ 379)] 0)
def oz:=qb aH (.seq #[] 0)
def pf:Obj:=(.mk .none .none (.func (.mk fB Bx (aU aa) (.stmts (aP aa)) (aV aa) 0 [] .none .none .none .none .none .none .none 0)) #[])
def pj:=qb bL (.fields #[(.str fB 376),(.str Bx 377),(.str aK 378),(.int 29 0),(.int 1 0),(.int 0 0),(.int 0 0),(.int 3 0),(.ref 152),(.bool .true),(.int 181 0),(.ref 153),.none,(.ref 154),(.ref 155),(.ref 156),(.int 380 0),(.int 29 0),(.str aK 381)])
def pq:=qb cF (.func (.mk fB Bx (aU aa) (.stmts (aP aa)) (aV aa) 3 [] .none .none .none (.str gO 362) .none (.ref 157) .none 0))
def pv:=qb aH (.seq #[] 0)
def pw:Obj:=(.mk .none .none (.fields #[]) #[])
def px:Obj:=(.mk .none .none (.func (.mk eu By (aU ae) (.stmts (aP ae)) (aV ae) 0 [] .none .none .none .none .none .none .none 0)) #[])
def pz:=qb bL (.fields #[(.str eu 383),(.str By 384),(.str aK 385),(.int 33 0),(.int 2 0),(.int 0 0),(.int 0 0),(.int 3 0),(.ref 159),(.bool .true),(.int 181 0),(.ref 160),.none,.none,.none,(.ref 161),(.int 386 0),(.int 33 0),(.str aK 387)])
def qa:=qb cF (.func (.mk eu By (aU ae) (.stmts (aP ae)) (aV ae) 3 [] .none .none .none (.str gO 362) .none (.ref 162) .none 0))
def qc:=qb aH (.seq #[] 0)
def qe:Obj:=(.mk .none .none (.fields #[]) #[])
def qg:=qb aH (.seq #[(.str qJ 392),(.str fo 393),(.str Bz 394),(.str Qi 395)] 0)
def qh:=qb aH (.seq #[] 0)
def qj:Obj:=(.mk .none .none (.func (.mk fc Ca (aU ag) (.stmts (aP ag)) (aV ag) 0 [] .none .none .none .none .none .none .none 0)) #[])
def qk:=qb bL (.fields #[(.str fc 389),(.str Ca 390),(.str aK 391),(.int 38 0),(.int 3 0),(.int 0 0),(.int 0 0),(.int 3 0),(.ref 164),(.bool .true),(.int 181 0),(.ref 165),.none,(.ref 166),(.ref 167),(.ref 168),(.int 396 0),(.int 38 0),(.str aK 397)])
def ql:=qb cF (.func (.mk fc Ca (aU ag) (.stmts (aP ag)) (aV ag) 3 [] .none .none .none (.str gO 362) .none (.ref 169) .none 0))
def qm:=qb aH (.seq #[] 0)
def qo:Obj:=(.mk .none .none (.fields #[]) #[])
def qp:=qb aH (.seq #[(.str qJ 402),(.str fo 403),(.str Bz 404),(.str QK 405),(.str QL 406),(.str Qj 407)] 0)
def qr:=qb aH (.seq #[] 0)
def qu:Obj:=(.mk .none .none (.func (.mk fe Cb (aU ah) (.stmts (aP ah)) (aV ah) 0 [] .none .none .none .none .none .none .none 0)) #[])
def qv:=qb bL (.fields #[(.str fe 399),(.str Cb 400),(.str aK 401),(.int 45 0),(.int 3 0),(.int 0 0),(.int 0 0),(.int 3 0),(.ref 171),(.bool .true),(.int 181 0),(.ref 172),.none,(.ref 173),(.ref 174),(.ref 175),(.int 408 0),(.int 45 0),(.str aK 409)])
def qw:=qb cF (.func (.mk fe Cb (aU ah) (.stmts (aP ah)) (aV ah) 3 [] .none .none .none (.str gO 362) .none (.ref 176) .none 0))
def qx:=qb aH (.seq #[] 0)
def qy:Obj:=(.mk .none .none (.fields #[]) #[])
def qz:=qb aH (.seq #[(.str qJ 414),(.str fo 415),(.str QM 416),(.str Qi 417)] 0)
def rf:=qb aH (.seq #[] 0)
def rg:Obj:=(.mk .none .none (.func (.mk ff Cc (aU ai) (.stmts (aP ai)) (aV ai) 0 [] .none .none .none .none .none .none .none 0)) #[])
def rj:=qb bL (.fields #[(.str ff 411),(.str Cc 412),(.str aK 413),(.int 53 0),(.int 3 0),(.int 0 0),(.int 0 0),(.int 3 0),(.ref 178),(.bool .true),(.int 181 0),(.ref 179),.none,(.ref 180),(.ref 181),(.ref 182),(.int 418 0),(.int 53 0),(.str aK 419)])
def rm:=qb cF (.func (.mk ff Cc (aU ai) (.stmts (aP ai)) (aV ai) 3 [] .none .none .none (.str gO 362) .none (.ref 183) .none 0))
def rn:=qb aH (.seq #[] 0)
def rq:Obj:=(.mk .none .none (.fields #[]) #[])
def si:Obj:=(.mk .none .none (.func (.mk fg Cd (aU aj) (.stmts (aP aj)) (aV aj) 0 [] .none .none .none .none .none .none .none 0)) #[])
def sj:=qb bL (.fields #[(.str fg 421),(.str Cd 422),(.str aK 423),(.int 59 0),(.int 4 0),(.int 0 0),(.int 0 0),(.int 3 0),(.ref 185),(.bool .true),(.int 181 0),(.ref 186),.none,.none,.none,(.ref 187),(.int 424 0),(.int 59 0),(.str aK 425)])
def sm:=qb cF (.func (.mk fg Cd (aU aj) (.stmts (aP aj)) (aV aj) 3 [] .none .none .none (.str gO 362) .none (.ref 188) .none 0))
def so:=qb aH (.seq #[] 0)
def sr:Obj:=(.mk .none .none (.fields #[]) #[])
def su:=qb aH (.seq #[(.str qJ 430),(.str fo 431),(.str Bz 432),(.str Qj 433)] 0)
def sv:=qb aH (.seq #[] 0)
def sx:Obj:=(.mk .none .none (.func (.mk fh Ce (aU ak) (.stmts (aP ak)) (aV ak) 0 [] .none .none .none .none .none .none .none 0)) #[])
def sy:=qb bL (.fields #[(.str fh 427),(.str Ce 428),(.str aK 429),(.int 70 0),(.int 4 0),(.int 0 0),(.int 0 0),(.int 3 0),(.ref 190),(.bool .true),(.int 181 0),(.ref 191),.none,(.ref 192),(.ref 193),(.ref 194),(.int 434 0),(.int 70 0),(.str aK 435)])
def tf:=qb cF (.func (.mk fh Ce (aU ak) (.stmts (aP ak)) (aV ak) 3 [] .none .none .none (.str gO 362) .none (.ref 195) .none 0))
def tj:=qb aH (.seq #[] 0)
def tq:Obj:=(.mk .none .none (.fields #[]) #[])
def tu:=qb aH (.seq #[(.str qJ 440),(.str fo 441)] 0)
def tw:=qb aH (.seq #[] 0)
def ub:Obj:=(.mk .none .none (.func (.mk fi Cf (aU ao) (.stmts (aP ao)) (aV ao) 0 [] .none .none .none .none .none .none .none 0)) #[])
def uc:=qb bL (.fields #[(.str fi 437),(.str Cf 438),(.str aK 439),(.int 75 0),(.int 2 0),(.int 0 0),(.int 0 0),(.int 3 0),(.ref 197),(.bool .true),(.int 181 0),(.ref 198),.none,(.ref 199),(.ref 200),(.ref 201),(.int 442 0),(.int 75 0),(.str aK 443)])
def ud:=qb cF (.func (.mk fi Cf (aU ao) (.stmts (aP ao)) (aV ao) 3 [] .none .none .none (.str gO 362) .none (.ref 202) .none 0))
def ue:=qb aH (.seq #[] 0)
def uf:Obj:=(.mk .none .none (.fields #[]) #[])
def ug:Obj:=(.mk .none .none (.func (.mk fj Cg (aU aq) (.stmts (aP aq)) (aV aq) 0 [] .none .none .none .none .none .none .none 0)) #[])
def uh:=qb bL (.fields #[(.str fj 445),(.str Cg 446),(.str aK 447),(.int 83 0),(.int 2 0),(.int 0 0),(.int 0 0),(.int 3 0),(.ref 204),(.bool .true),(.int 181 0),(.ref 205),.none,.none,.none,(.ref 206),(.int 448 0),(.int 83 0),(.str aK 449)])
def ui:=qb cF (.func (.mk fj Cg (aU aq) (.stmts (aP aq)) (aV aq) 3 [] .none .none .none (.str gO 362) .none (.ref 207) .none 0))
def uj:=qb aH (.seq #[] 0)
def um:Obj:=(.mk .none .none (.fields #[]) #[])
def uo:Obj:=(.mk .none .none (.func (.mk fk Ci (aU uL) (.stmts (aP uL)) (aV uL) 0 [] .none .none .none .none .none .none .none 0)) #[])
def uq:=qb bL (.fields #[(.str fk 451),(.str Ci 452),(.str aK 453),(.int 92 0),(.int 1 0),(.int 0 0),(.int 0 0),(.int 3 0),(.ref 209),(.bool .true),(.int 181 0),(.ref 210),.none,.none,.none,(.ref 211),(.int 454 0),(.int 92 0),(.str aK 455)])
def ur:=qb cF (.func (.mk fk Ci (aU uL) (.stmts (aP uL)) (aV uL) 3 [] .none .none .none (.str gO 362) .none (.ref 212) .none 0))
def uu:=qb aH (.seq #[] 0)
def uv:Obj:=(.mk .none .none (.fields #[]) #[])
def uw:Obj:=(.mk .none .none (.func (.mk fm Cj (aU vi) (.stmts (aP vi)) (aV uL) 0 [] .none .none .none .none .none .none .none 0)) #[])
def ux:=qb bL (.fields #[(.str fm 457),(.str Cj 458),(.str aK 459),(.int 95 0),(.int 1 0),(.int 0 0),(.int 0 0),(.int 3 0),(.ref 214),(.bool .true),(.int 181 0),(.ref 215),.none,.none,.none,(.ref 216),(.int 460 0),(.int 95 0),(.str aK 461)])
def uy:=qb cF (.func (.mk fm Cj (aU vi) (.stmts (aP vi)) (aV uL) 3 [] .none .none .none (.str gO 362) .none (.ref 217) .none 0))
def uz:=qb aH (.seq #[(.str QN 463),(.str QP 464)] 0)
def va:=qb cZ (.dict #[(qd P eY 371 (.str gO 362)),(qd P eZ 375 (.int 27 374)),(qd P fB 382 (.ref 158)),(qd P eu 388 (.ref 163)),(qd P fc 398 (.ref 170)),(qd P fe 410 (.ref 177)),(qd P ff 420 (.ref 184)),(qd P fg 426 (.ref 189)),(qd P fh 436 (.ref 196)),(qd P fi 444 (.ref 203)),(qd P fj 450 (.ref 208)),(qd P fk 456 (.ref 213)),(qd P fm 462 (.ref 218)),(qd P fA 465 (.ref 219)),(qd P Qk 467 (.ref 222)),(qd P nq 469 (.ref 223)),(qd P eQ 470 .none)] 4)
def vc:Obj:=(.mk (.type dM) .none (.cls (.mk oS [(.type fI)] [(.ref 221),(.type fI)] 220 oS .true [] [] .false .none .false)) #[.none,.none,(.some (.str oS 364)),(.some (.str oS 372)),(.some (.builtin UA)),(.some (.bool .true))])
def ve:=qb Gn (.fields #[(.str Qk 466),(.ref 221),(.builtin UB),(.builtin UC)])
def vf:=qb Gn (.fields #[(.str nq 468),(.ref 221),(.builtin Uk),.none])
def vg:=qb pH (.fields #[(.ref 221),(.ref 221),(.ref 221)])
def vh:=qb fE (.fields #[(.builtin pI),(.ref 221)])
def tw3355270508847793057:Params->BT:=λP=>(.node (boot_o_0 P) (.node (boot_o_1 P) (.node (RT P) (.node (boot_o_7 P) (.node jF (.node kW (.node pC (qf fv) (qf sr)) (.node xJ (qf pv) (qf vf))) (.node mI (.node uC (qf gx) (qf uh)) (.node zL (qf qu) .nil))) (.node (jN P) (.node lE (.node qR (qf gj) (qf tu)) (.node (xS P) (qf qh) .nil)) (.node oT (.node uK (qf ot) (qf uv)) (.node zT (qf rj) .nil)))) (.node gY (.node jJ (.node lA (.node qN (qf gc) (qf sy)) (.node xO (qf qa) .nil)) (.node mM (.node uG (qf (og P)) (qf uo)) (.node zP (qf qy) .nil))) (.node jQ (.node mE (.node qV (qf gq) (qf ud)) (.node zH (qf qm) .nil)) (.node oY (.node xE (qf oz) (qf uz)) (.node zX (qf si) .nil))))) (.node (boot_o_5 P) (.node (boot_o_9 P) (.node (jH P) (.node kY (.node qL (qf fz) (qf sv)) (.node xM (qf px) (qf vh))) (.node mK (.node uE (qf nv) (qf uj)) (.node zN (qf qw) .nil))) (.node jO (.node mC (.node qT (qf gm) (qf ub)) (.node xU (qf qk) .nil)) (.node oW (.node xC (qf ow) (qf ux)) (.node zV (qf rn) .nil)))) (.node gZ (.node jL (.node lC (.node qP (qf gh) (qf tj)) (.node xQ (qf qe) .nil)) (.node pE (.node uI (qf oj) (qf ur)) (.node zR (qf rf) .nil))) (.node kT (.node mG (.node uA (qf (gu P)) (qf uf)) (.node (zJ P) (qf qp) .nil)) (.node pA (.node xH (qf pj) (qf vc)) (.node zZ (qf sm) .nil)))))) (.node (boot_o_2 P) (.node (boot_o_4 P) (.node (boot_o_8 P) (.node jG (.node kX (.node qK (qf (fw P)) (qf su)) (.node xK (qf pw) (qf vg))) (.node (mJ P) (.node uD (qf gy) (qf ui)) (.node zM (qf qv) .nil))) (.node ft (.node mB (.node (qS P) (qf gk) (qf tw)) (.node xT (qf qj) .nil)) (.node oU (.node xB (qf ou) (qf uw)) (.node zU (qf rm) .nil)))) (.node RU (.node jK (.node (lB P) (.node qO (qf gf) (qf tf)) (.node xP (qf qc) .nil)) (.node pD (.node (uH P) (qf oh) (qf uq)) (.node zQ (qf qz) .nil))) (.node kR (.node mF (.node tZ (qf gr) (qf ue)) (.node zI (qf qo) .nil)) (.node (oZ P) (.node xG (qf pf) (qf (va P))) (.node zY (qf sj) .nil))))) (.node (boot_o_6 P) (.node (boot_o_10 P) (.node jI (.node kZ (.node (qM P) (qf gb) (qf sx)) (.node xN (qf pz) .nil)) (.node mL (.node uF (qf ny) (qf um)) (.node zO (qf qx) .nil))) (.node jP (.node (mD P) (.node qU (qf gp) (qf uc)) (.node xV (qf ql) .nil)) (.node oX (.node (xD P) (qf oy) (qf uy)) (.node (zW P) (qf rq) .nil)))) (.node hG (.node jM (.node lD (.node qQ (qf gi) (qf tq)) (.node xR (qf qg) .nil)) (.node (pF P) (.node uJ (qf oo) (qf uu)) (.node zS (qf rg) .nil))) (.node (kU P) (.node mH (.node (uB P) (qf gw) (qf ug)) (.node zK (qf qr) .nil)) (.node pB (.node xI (qf pq) (qf ve)) (.node fu (qf so) .nil)))))))
theorem te3355270508847793057:tw3355270508847793057=tw3355270508847793057:=rfl
def RV:=qb cZ (.dict #[(qd P kM 165 (.str eN 473)),(qd P eQ 166 .none),(qd P kN 167 .none),(qd P kO 168 (.builtin lF)),(qd P kP 169 .none),(qd P kQ 170 (.ref 6)),(qd P kI 171 (.ref 4)),(qd P kJ 173 (.str aK 172)),(qd P kK 174 .none),(qd P bF 206 (.ref 24)),(qd P fR 222 (.ref 37)),(qd P gA 238 (.ref 49)),(qd P gN 254 (.ref 61)),(qd P gX 270 (.ref 73)),(qd P iM 286 (.ref 85)),(qd P jE 311 (.ref 104)),(qd P kL 336 (.ref 123)),(qd P lZ 361 (.ref 142)),(qd P oS 472 (.ref 221)),(qd P tN 482 (.ref 232)),(qd P tO 492 (.ref 239)),(qd P tP 502 (.ref 246)),(qd P tQ 511 (.ref 253)),(qd P tR 518 (.ref 260)),(qd P tS 528 (.ref 267)),(qd P tT 536 (.ref 274)),(qd P tU 542 (.ref 279)),(qd P tV 557 (.ref 286)),(qd P tW 563 (.ref 291)),(qd P tX 570 (.ref 298)),(qd P tY 576 (.ref 303))] 31)
def tw10272178859855015377:List Stmt:=[SS,uM,uN,uO,uP,uQ,uR,uS,uT,uU,uV,uW,uX]
theorem te10272178859855015377:tw10272178859855015377=tw10272178859855015377:=rfl
def RW:Obj:=(.mk .none .none (.fields #[(.int 2 0),(.int 0 0),(.ref 20),(.int 4 0),(.int 0 0),(.ref 33),(.int 6 0),(.int 0 0),(.ref 45),(.int 8 0),(.int 0 0),(.ref 57),(.int 10 0),(.int 0 0),(.ref 69),(.int 12 0),(.int 0 0),(.ref 81),(.int 14 0),(.int 0 0),(.ref 93),(.int 18 0),(.int 0 0),(.ref 112),(.int 22 0),(.int 0 0),(.ref 131),(.int 27 0),(.int 0 0),(.ref 150),(.int 98 0),(.int 0 0),(.ref 231),(.int 102 0),(.int 0 0),(.ref 238),(.int 104 0),(.int 0 0),(.ref 245),(.int 120 0),(.int 0 0),(.ref 252),(.int 133 0),(.int 0 0),(.ref 259),(.int 139 0),(.int 0 0),(.ref 266),(.int 146 0),(.int 0 0),(.ref 273),(.int 152 0),(.int 0 0),(.ref 278),(.int 164 0),(.int 0 0),(.ref 285),(.int 176 0),(.int 0 0),(.ref 290),(.int 187 0),(.int 0 0),(.ref 297),(.int 189 0),(.int 0 0),(.ref 302)]) #[])
def Co:=qb aH (.seq #[] 0)
def Cq:Obj:=(.mk .none .none (.fields #[]) #[])
def Cr:=qb aH (.seq #[(.str Ql 478),(.str Ck 479)] 0)
def Cs:=qb aH (.seq #[] 0)
def Ct:Obj:=(.mk .none .none (.func (.mk tN tN (aU uM) (.stmts (aP uM)) (aV uM) 0 [] .none .none .none .none .none .none .none 0)) #[])
def Cu:=qb bL (.fields #[(.str tN 475),(.str tN 476),(.str aK 477),(.int 98 0),(.int 2 0),(.int 0 0),(.int 0 0),(.int 3 0),(.ref 226),(.bool .true),(.int 181 0),(.ref 227),.none,(.ref 228),(.ref 229),(.ref 230),(.int 480 0),(.int 98 0),(.str aK 481)])
def Cv:=qb cF (.func (.mk tN tN (aU uM) (.stmts (aP uM)) (aV uM) 3 [] .none .none .none (.str eN 473) .none (.ref 231) .none 0))
def Cw:=qb aH (.seq #[] 0)
def Cy:Obj:=(.mk .none .none (.fields #[]) #[])
def Cz:=qb aH (.seq #[(.str Qm 486),(.str Ck 487),(.str QQ 488),(.str QR 489)] 0)
def De:=qb aH (.seq #[] 0)
def Dg:Obj:=(.mk .none .none (.func (.mk tO tO (aU uN) (.stmts (aP uN)) (aV uN) 0 [] .none .none .none .none .none .none .none 0)) #[])
def Dh:=qb bL (.fields #[(.str tO 483),(.str tO 484),(.str aK 485),(.int 102 0),(.int 4 0),(.int 0 0),(.int 0 0),(.int 3 0),(.ref 233),(.bool .true),(.int 181 0),(.ref 234),.none,(.ref 235),(.ref 236),(.ref 237),(.int 490 0),(.int 102 0),(.str aK 491)])
def Di:=qb cF (.func (.mk tO tO (aU uN) (.stmts (aP uN)) (aV uN) 3 [] .none .none .none (.str eN 473) .none (.ref 238) .none 0))
def Dk:=qb aH (.seq #[] 0)
def Dl:Obj:=(.mk .none .none (.fields #[]) #[])
def Dn:=qb aH (.seq #[(.str nr 496),(.str QU 497),(.str Qn 498),(.str QV 499)] 0)
def Dp:=qb aH (.seq #[] 0)
def Dq:Obj:=(.mk .none .none (.func (.mk tP tP (aU uO) (.stmts (aP uO)) (aV uO) 0 [] .none .none .none .none .none .none .none 0)) #[])
def Dr:=qb bL (.fields #[(.str tP 493),(.str tP 494),(.str aK 495),(.int 104 0),(.int 2 0),(.int 0 0),(.int 0 0),(.int 3 0),(.ref 240),(.bool .true),(.int 181 0),(.ref 241),.none,(.ref 242),(.ref 243),(.ref 244),(.int 500 0),(.int 104 0),(.str aK 501)])
def Ds:=qb cF (.func (.mk tP tP (aU uO) (.stmts (aP uO)) (aV uO) 3 [] .none .none .none (.str eN 473) .none (.ref 245) .none 0))
def Dt:=qb aH (.seq #[] 0)
def Du:Obj:=(.mk .none .none (.fields #[]) #[])
def Dv:=qb aH (.seq #[(.str wZ 506),(.str xA 507),(.str QX 508)] 0)
def Dw:=qb aH (.seq #[] 0)
def Dx:Obj:=(.mk .none .none (.func (.mk tQ tQ (aU uP) (.stmts (aP uP)) (aV uP) 0 [] .none .none .none .none .none .none .none 0)) #[])
def Dy:=qb bL (.fields #[(.str tQ 503),(.str tQ 504),(.str aK 505),(.int 120 0),(.int 2 0),(.int 0 0),(.int 0 0),(.int 3 0),(.ref 247),(.bool .true),(.int 181 0),(.ref 248),.none,(.ref 249),(.ref 250),(.ref 251),(.int 509 0),(.int 120 0),(.str aK 510)])
def Dz:=qb cF (.func (.mk tQ tQ (aU uP) (.stmts (aP uP)) (aV uP) 3 [] .none .none .none (.str eN 473) .none (.ref 252) .none 0))
def Ea:=qb aH (.seq #[] 0)
def Eb:Obj:=(.mk .none .none (.fields #[]) #[])
def Ec:=qb aH (.seq #[(.str Qo 515)] 0)
def Ed:=qb aH (.seq #[] 0)
def Ee:Obj:=(.mk .none .none (.func (.mk tR tR (aU uQ) (.stmts (aP uQ)) (aV uQ) 0 [] .none .none .none .none .none .none .none 0)) #[])
def Ef:=qb bL (.fields #[(.str tR 512),(.str tR 513),(.str aK 514),(.int 133 0),(.int 1 0),(.int 0 0),(.int 0 0),(.int 3 0),(.ref 254),(.bool .true),(.int 181 0),(.ref 255),.none,(.ref 256),(.ref 257),(.ref 258),(.int 516 0),(.int 133 0),(.str aK 517)])
def Eg:=qb cF (.func (.mk tR tR (aU uQ) (.stmts (aP uQ)) (aV uQ) 3 [] .none .none .none (.str eN 473) .none (.ref 259) .none 0))
def Eh:=qb aH (.seq #[] 0)
def Ei:Obj:=(.mk .none .none (.fields #[]) #[])
def Ej:=qb aH (.seq #[(.str wZ 522),(.str xA 523),(.str Qo 524),(.str QY 525)] 0)
def Ek:=qb aH (.seq #[] 0)
def El:Obj:=(.mk .none .none (.func (.mk tS tS (aU uR) (.stmts (aP uR)) (aV uR) 0 [] .none .none .none .none .none .none .none 0)) #[])
def Em:=qb bL (.fields #[(.str tS 519),(.str tS 520),(.str aK 521),(.int 139 0),(.int 2 0),(.int 0 0),(.int 0 0),(.int 3 0),(.ref 261),(.bool .true),(.int 181 0),(.ref 262),.none,(.ref 263),(.ref 264),(.ref 265),(.int 526 0),(.int 139 0),(.str aK 527)])
def En:=qb cF (.func (.mk tS tS (aU uR) (.stmts (aP uR)) (aV uR) 3 [] .none .none .none (.str eN 473) .none (.ref 266) .none 0))
def Eo:=qb aH (.seq #[] 0)
def Ep:Obj:=(.mk .none .none (.fields #[]) #[])
def Er:=qb aH (.seq #[(.str wZ 532),(.str xA 533)] 0)
def Es:=qb aH (.seq #[] 0)
def Et:Obj:=(.mk .none .none (.func (.mk tT tT (aU uS) (.stmts (aP uS)) (aV uS) 0 [] .none .none .none .none .none .none .none 0)) #[])
def Eu:=qb bL (.fields #[(.str tT 529),(.str tT 530),(.str aK 531),(.int 146 0),(.int 2 0),(.int 0 0),(.int 0 0),(.int 3 0),(.ref 268),(.bool .true),(.int 181 0),(.ref 269),.none,(.ref 270),(.ref 271),(.ref 272),(.int 534 0),(.int 146 0),(.str aK 535)])
def Ew:=qb cF (.func (.mk tT tT (aU uS) (.stmts (aP uS)) (aV uS) 3 [] .none .none .none (.str eN 473) .none (.ref 273) .none 0))
def Ey:=qb aH (.seq #[] 0)
def Ez:Obj:=(.mk .none .none (.fields #[]) #[])
def Fb:Obj:=(.mk .none .none (.func (.mk tU tU (aU uT) (.stmts (aP uT)) (aV uT) 0 [] .none .none .none .none .none .none .none 0)) #[])
def Fc:=qb bL (.fields #[(.str tU 537),(.str tU 538),(.str aK 539),(.int 152 0),(.int 5 0),(.int 0 0),(.int 0 0),(.int 3 0),(.ref 275),(.bool .true),(.int 181 0),(.ref 276),.none,.none,.none,(.ref 277),(.int 540 0),(.int 152 0),(.str aK 541)])
def Fd:=qb cF (.func (.mk tU tU (aU uT) (.stmts (aP uT)) (aV uT) 3 [] .none .none .none (.str eN 473) .none (.ref 278) .none 0))
def Fe:=qb aH (.seq #[] 0)
def Ff:Obj:=(.mk .none .none (.fields #[]) #[])
def Fg:=qb aH (.seq #[(.str Cm 546),(.str fq 547),(.str nu 548),(.str Qp 549),(.str Qq 550),(.str QZ 551),(.str RA 552),(.str PR 553),(.str PU 554)] 0)
def Fh:=qb aH (.seq #[] 0)
def Fi:Obj:=(.mk .none .none (.func (.mk tV tV (aU uU) (.stmts (aP uU)) (aV uU) 0 [] .none .none .none .none .none .none .none 0)) #[])
def Fj:=qb bL (.fields #[(.str tV 543),(.str tV 544),(.str aK 545),(.int 164 0),(.int 5 0),(.int 0 0),(.int 0 0),(.int 3 0),(.ref 280),(.bool .true),(.int 181 0),(.ref 281),.none,(.ref 282),(.ref 283),(.ref 284),(.int 555 0),(.int 164 0),(.str aK 556)])
def Fl:=qb cF (.func (.mk tV tV (aU uU) (.stmts (aP uU)) (aV uU) 3 [] .none .none .none (.str eN 473) .none (.ref 285) .none 0))
def Fo:=qb aH (.seq #[] 0)
def Fp:Obj:=(.mk .none .none (.fields #[]) #[])
def Fq:Obj:=(.mk .none .none (.func (.mk tW tW (aU uV) (.stmts (aP uV)) (aV uV) 0 [] .none .none .none .none .none .none .none 0)) #[])
def Fs:=qb bL (.fields #[(.str tW 558),(.str tW 559),(.str aK 560),(.int 176 0),(.int 3 0),(.int 0 0),(.int 0 0),(.int 3 0),(.ref 287),(.bool .true),(.int 181 0),(.ref 288),.none,.none,.none,(.ref 289),(.int 561 0),(.int 176 0),(.str aK 562)])
def Ft:=qb cF (.func (.mk tW tW (aU uV) (.stmts (aP uV)) (aV uV) 3 [] .none .none .none (.str eN 473) .none (.ref 290) .none 0))
def Fu:=qb aH (.seq #[] 0)
def Fv:Obj:=(.mk .none .none (.fields #[]) #[])
def Fw:=qb aH (.seq #[(.str Qn 567)] 0)
def Fy:=qb aH (.seq #[] 0)
def Fz:Obj:=(.mk .none .none (.func (.mk tX tX (aU uW) (.stmts (aP uW)) (aV uW) 0 [] .none .none .none .none .none .none .none 0)) #[])
def Ga:=qb bL (.fields #[(.str tX 564),(.str tX 565),(.str aK 566),(.int 187 0),(.int 1 0),(.int 0 0),(.int 0 0),(.int 3 0),(.ref 292),(.bool .true),(.int 181 0),(.ref 293),.none,(.ref 294),(.ref 295),(.ref 296),(.int 568 0),(.int 187 0),(.str aK 569)])
def Gb:=qb cF (.func (.mk tX tX (aU uW) (.stmts (aP uW)) (aV uW) 3 [] .none .none .none (.str eN 473) .none (.ref 297) .none 0))
def Gd:=qb aH (.seq #[] 0)
def Ge:Obj:=(.mk .none .none (.fields #[]) #[])
def Gf:Obj:=(.mk .none .none (.func (.mk tY tY (aU uX) (.stmts (aP uX)) (aV uX) 0 [] .none .none .none .none .none .none .none 0)) #[])
def Gg:=qb bL (.fields #[(.str tY 571),(.str tY 572),(.str aK 573),(.int 189 0),(.int 3 0),(.int 0 0),(.int 0 0),(.int 3 0),(.ref 299),(.bool .true),(.int 181 0),(.ref 300),.none,.none,.none,(.ref 301),(.int 574 0),(.int 189 0),(.str aK 575)])
def Gh:=qb cF (.func (.mk tY tY (aU uX) (.stmts (aP uX)) (aV uX) 3 [] .none .none .none (.str eN 473) .none (.ref 302) .none 0))
def tw8945889294566185916:Params->BT:=λP=>(.node (boot_o_0 P) (.node (boot_o_1 P) (.node (RV P) (.node (boot_o_7 P) (.node jF (.node kW (.node pC (.node fv (qf Eb) .nil) (qf sr)) (.node xJ (.node pv (qf Fo) .nil) (qf vf))) (.node mI (.node uC (.node gx (qf Es) .nil) (qf uh)) (.node zL (.node qu (qf Gh) .nil) (qf Di)))) (.node (jN P) (.node lE (.node qR (.node gj (qf Ej) .nil) (qf tu)) (.node (xS P) (.node qh (qf Fy) .nil) (qf Cu))) (.node oT (.node uK (.node ot (qf Fd) .nil) (qf uv)) (.node zT (qf rj) (qf Dt))))) (.node gY (.node jJ (.node lA (.node qN (.node gc (qf Ef) .nil) (qf sy)) (.node xO (.node qa (qf Ft) .nil) (qf Cq))) (.node mM (.node uG (.node (og P) (qf Ey) .nil) (qf uo)) (.node zP (qf qy) (qf Dp)))) (.node jQ (.node mE (.node qV (.node gq (qf En) .nil) (qf ud)) (.node zH (.node qm (qf Gd) .nil) (qf Cz))) (.node oY (.node xE (.node oz (qf Fh) .nil) (qf uz)) (.node zX (qf si) (qf Dx)))))) (.node (boot_o_5 P) (.node (boot_o_9 P) (.node (jH P) (.node kY (.node qL (.node fz (qf Ed) .nil) (qf sv)) (.node xM (.node px (qf Fq) .nil) (qf vh))) (.node mK (.node uE (.node nv (qf Eu) .nil) (qf uj)) (.node zN (qf qw) (qf Dl)))) (.node jO (.node mC (.node qT (.node gm (qf El) .nil) (qf ub)) (.node xU (.node qk (qf Ga) .nil) (qf Cw))) (.node oW (.node xC (.node ow (qf Ff) .nil) (qf ux)) (.node zV (qf rn) (qf Dv))))) (.node gZ (.node jL (.node lC (.node qP (.node gh (qf Eh) .nil) (qf tj)) (.node xQ (.node qe (qf Fv) .nil) (qf Cs))) (.node pE (.node uI (.node oj (qf Fb) .nil) (qf ur)) (.node zR (qf rf) (qf Dr)))) (.node kT (.node mG (.node uA (.node (gu P) (qf Ep) .nil) (qf uf)) (.node (zJ P) (.node qp (qf Gf) .nil) (qf Dg))) (.node pA (.node xH (.node pj (qf Fj) .nil) (qf vc)) (.node zZ (qf sm) (qf Dz))))))) (.node (boot_o_2 P) (.node (boot_o_4 P) (.node (boot_o_8 P) (.node jG (.node kX (.node qK (.node (fw P) (qf Ec) .nil) (qf su)) (.node xK (.node pw (qf Fp) .nil) (qf vg))) (.node (mJ P) (.node uD (.node gy (qf Et) .nil) (qf ui)) (.node zM (qf qv) (qf Dk)))) (.node ft (.node mB (.node (qS P) (.node gk (qf Ek) .nil) (qf tw)) (.node xT (.node qj (qf Fz) .nil) (qf Cv))) (.node oU (.node xB (.node ou (qf Fe) .nil) (qf uw)) (.node zU (qf rm) (qf Du))))) (.node RW (.node jK (.node (lB P) (.node qO (.node gf (qf Eg) .nil) (qf tf)) (.node xP (.node qc (qf Fu) .nil) (qf Cr))) (.node pD (.node (uH P) (.node oh (qf Ez) .nil) (qf uq)) (.node zQ (qf qz) (qf Dq)))) (.node kR (.node mF (.node tZ (.node gr (qf Eo) .nil) (qf ue)) (.node zI (.node qo (qf Ge) .nil) (qf De))) (.node (oZ P) (.node xG (.node pf (qf Fi) .nil) (qf (va P))) (.node zY (qf sj) (qf Dy)))))) (.node (boot_o_6 P) (.node (boot_o_10 P) (.node jI (.node kZ (.node (qM P) (.node gb (qf Ee) .nil) (qf sx)) (.node xN (.node pz (qf Fs) .nil) (qf Co))) (.node mL (.node uF (.node ny (qf Ew) .nil) (qf um)) (.node zO (qf qx) (qf Dn)))) (.node jP (.node (mD P) (.node qU (.node gp (qf Em) .nil) (qf uc)) (.node xV (.node ql (qf Gb) .nil) (qf Cy))) (.node oX (.node (xD P) (.node oy (qf Fg) .nil) (qf uy)) (.node (zW P) (qf rq) (qf Dw))))) (.node hG (.node jM (.node lD (.node qQ (.node gi (qf Ei) .nil) (qf tq)) (.node xR (.node qg (qf Fw) .nil) (qf Ct))) (.node (pF P) (.node uJ (.node oo (qf Fc) .nil) (qf uu)) (.node zS (qf rg) (qf Ds)))) (.node (kU P) (.node mH (.node (uB P) (.node gw (qf Er) .nil) (qf ug)) (.node zK (.node qr (qf Gg) .nil) (qf Dh))) (.node pB (.node xI (.node pq (qf Fl) .nil) (qf ve)) (.node fu (qf so) (qf Ea))))))))
theorem te8945889294566185916:tw8945889294566185916=tw8945889294566185916:=rfl
def Qr:=qb cZ (.dict #[(qd P kM 165 (.str eN 473)),(qd P eQ 166 .none),(qd P kN 167 .none),(qd P kO 168 (.builtin lF)),(qd P kP 169 .none),(qd P kQ 170 (.ref 6)),(qd P kI 171 (.ref 4)),(qd P kJ 173 (.str aK 172)),(qd P kK 174 .none),(qd P bF 206 (.ref 24)),(qd P fR 222 (.ref 37)),(qd P gA 238 (.ref 49)),(qd P gN 254 (.ref 61)),(qd P gX 270 (.ref 73)),(qd P iM 286 (.ref 85)),(qd P jE 311 (.ref 104)),(qd P kL 336 (.ref 123)),(qd P lZ 361 (.ref 142)),(qd P oS 472 (.ref 221)),(qd P tN 482 (.ref 232)),(qd P tO 492 (.ref 239)),(qd P tP 502 (.ref 246)),(qd P tQ 511 (.ref 253)),(qd P tR 518 (.ref 260)),(qd P tS 528 (.ref 267)),(qd P tT 536 (.ref 274)),(qd P tU 542 (.ref 279)),(qd P tV 557 (.ref 286)),(qd P tW 563 (.ref 291)),(qd P tX 570 (.ref 298)),(qd P tY 576 (.ref 303)),(qd P wM 587 (.ref 310)),(qd P wN 597 (.ref 317)),(qd P wO 603 (.ref 322)),(qd P wQ 615 (.ref 329)),(qd P wR 621 (.ref 334)),(qd P wU 634 (.ref 341)),(qd P wW 645 (.ref 348)),(qd P wX 653 (.ref 355)),(qd P wY 671 (.ref 362))] 40)
def tw12573056572271340098:List Stmt:=[uY,uZ,vA,vB,vC,vD,vE,vF,vG]
theorem te12573056572271340098:tw12573056572271340098=tw12573056572271340098:=rfl
def Qs:Obj:=(.mk .none .none (.fields #[(.int 2 0),(.int 0 0),(.ref 20),(.int 4 0),(.int 0 0),(.ref 33),(.int 6 0),(.int 0 0),(.ref 45),(.int 8 0),(.int 0 0),(.ref 57),(.int 10 0),(.int 0 0),(.ref 69),(.int 12 0),(.int 0 0),(.ref 81),(.int 14 0),(.int 0 0),(.ref 93),(.int 18 0),(.int 0 0),(.ref 112),(.int 22 0),(.int 0 0),(.ref 131),(.int 27 0),(.int 0 0),(.ref 150),(.int 98 0),(.int 0 0),(.ref 231),(.int 102 0),(.int 0 0),(.ref 238),(.int 104 0),(.int 0 0),(.ref 245),(.int 120 0),(.int 0 0),(.ref 252),(.int 133 0),(.int 0 0),(.ref 259),(.int 139 0),(.int 0 0),(.ref 266),(.int 146 0),(.int 0 0),(.ref 273),(.int 152 0),(.int 0 0),(.ref 278),(.int 164 0),(.int 0 0),(.ref 285),(.int 176 0),(.int 0 0),(.ref 290),(.int 187 0),(.int 0 0),(.ref 297),(.int 189 0),(.int 0 0),(.ref 302),(.int 201 0),(.int 0 0),(.ref 309),(.int 208 0),(.int 0 0),(.ref 316),(.int 212 0),(.int 0 0),(.ref 321),(.int 219 0),(.int 0 0),(.ref 328),(.int 232 0),(.int 0 0),(.ref 333),(.int 239 0),(.int 0 0),(.ref 340),(.int 247 0),(.int 0 0),(.ref 347),(.int 252 0),(.int 0 0),(.ref 354),(.int 254 0),(.int 0 0),(.ref 361)]) #[])
def Qt:=qb aH (.seq #[] 0)
def Qu:Obj:=(.mk .none .none (.fields #[]) #[])
def Qv:=qb aH (.seq #[(.str nu 580),(.str xA 581),(.str PV 582),(.str Qg 583),(.str PX 584)] 0)
def Qw:=qb aH (.seq #[] 0)
def Qx:Obj:=(.mk .none .none (.func (.mk wM wM (aU uY) (.stmts (aP uY)) (aV uY) 0 [] .none .none .none .none .none .none .none 0)) #[])
def Qy:=qb bL (.fields #[(.str wM 577),(.str wM 578),(.str aK 579),(.int 201 0),(.int 2 0),(.int 0 0),(.int 0 0),(.int 3 0),(.ref 304),(.bool .true),(.int 181 0),(.ref 305),.none,(.ref 306),(.ref 307),(.ref 308),(.int 585 0),(.int 201 0),(.str aK 586)])
def Qz:=qb cF (.func (.mk wM wM (aU uY) (.stmts (aP uY)) (aV uY) 3 [] .none .none .none (.str eN 473) .none (.ref 309) .none 0))
def Ra:=qb aH (.seq #[] 0)
def Rb:Obj:=(.mk .none .none (.fields #[]) #[])
def Rc:=qb aH (.seq #[(.str wZ 591),(.str fq 592),(.str nu 593),(.str xA 594)] 0)
def Rg:=qb aH (.seq #[] 0)
def Ri:Obj:=(.mk .none .none (.func (.mk wN wN (aU uZ) (.stmts (aP uZ)) (aV uZ) 0 [] .none .none .none .none .none .none .none 0)) #[])
def Rj:=qb bL (.fields #[(.str wN 588),(.str wN 589),(.str aK 590),(.int 208 0),(.int 4 0),(.int 0 0),(.int 0 0),(.int 3 0),(.ref 311),(.bool .true),(.int 181 0),(.ref 312),.none,(.ref 313),(.ref 314),(.ref 315),(.int 595 0),(.int 208 0),(.str aK 596)])
def Rk:=qb cF (.func (.mk wN wN (aU uZ) (.stmts (aP uZ)) (aV uZ) 3 [] .none .none .none (.str eN 473) .none (.ref 316) .none 0))
def Rm:=qb aH (.seq #[] 0)
def Rn:Obj:=(.mk .none .none (.fields #[]) #[])
def Ro:Obj:=(.mk .none .none (.func (.mk wO wO (aU vA) (.stmts (aP vA)) (aV vA) 0 [] .none .none .none .none .none .none .none 0)) #[])
def Rt:=qb bL (.fields #[(.str wO 598),(.str wO 599),(.str aK 600),(.int 212 0),(.int 4 0),(.int 0 0),(.int 0 0),(.int 3 0),(.ref 318),(.bool .true),(.int 181 0),(.ref 319),.none,.none,.none,(.ref 320),(.int 601 0),(.int 212 0),(.str aK 602)])
def Ru:=qb cF (.func (.mk wO wO (aU vA) (.stmts (aP vA)) (aV vA) 3 [] .none .none .none (.str eN 473) .none (.ref 321) .none 0))
def Rv:=qb aH (.seq #[] 0)
def Rw:Obj:=(.mk .none .none (.fields #[]) #[])
def Rx:=qb aH (.seq #[(.str wZ 607),(.str fq 608),(.str nu 609),(.str Cm 610),(.str xA 611),(.str nr 612)] 0)
def Ry:=qb aH (.seq #[] 0)
def Rz:Obj:=(.mk .none .none (.func (.mk wQ wQ (aU vB) (.stmts (aP vB)) (aV vB) 0 [] .none .none .none .none .none .none .none 0)) #[])
def Sa:=qb bL (.fields #[(.str wQ 604),(.str wQ 605),(.str aK 606),(.int 219 0),(.int 5 0),(.int 0 0),(.int 0 0),(.int 3 0),(.ref 323),(.bool .true),(.int 181 0),(.ref 324),.none,(.ref 325),(.ref 326),(.ref 327),(.int 613 0),(.int 219 0),(.str aK 614)])
def Sb:=qb cF (.func (.mk wQ wQ (aU vB) (.stmts (aP vB)) (aV vB) 3 [] .none .none .none (.str eN 473) .none (.ref 328) .none 0))
def Sd:=qb aH (.seq #[] 0)
def Se:Obj:=(.mk .none .none (.fields #[]) #[])
def Sf:Obj:=(.mk .none .none (.func (.mk wR wR (aU vC) (.stmts (aP vC)) (aV vC) 0 [] .none .none .none .none .none .none .none 0)) #[])
def Sg:=qb bL (.fields #[(.str wR 616),(.str wR 617),(.str aK 618),(.int 232 0),(.int 5 0),(.int 0 0),(.int 0 0),(.int 3 0),(.ref 330),(.bool .true),(.int 181 0),(.ref 331),.none,.none,.none,(.ref 332),(.int 619 0),(.int 232 0),(.str aK 620)])
def Si:=qb cF (.func (.mk wR wR (aU vC) (.stmts (aP vC)) (aV vC) 3 [] .none .none .none (.str eN 473) .none (.ref 333) .none 0))
def Sj:=qb aH (.seq #[] 0)
def Sk:Obj:=(.mk .none .none (.fields #[]) #[])
def Sl:=qb aH (.seq #[(.str fq 625),(.str Bt 626),(.str Qh 627),(.str nr 628),(.str PY 629),(.str Qg 630),(.str PZ 631)] 0)
def Sm:=qb aH (.seq #[] 0)
def Sn:Obj:=(.mk .none .none (.func (.mk wU wU (aU vD) (.stmts (aP vD)) (aV vD) 0 [] .none .none .none .none .none .none .none 0)) #[])
def So:=qb bL (.fields #[(.str wU 622),(.str wU 623),(.str aK 624),(.int 239 0),(.int 3 0),(.int 0 0),(.int 0 0),(.int 3 0),(.ref 335),(.bool .true),(.int 181 0),(.ref 336),.none,(.ref 337),(.ref 338),(.ref 339),(.int 632 0),(.int 239 0),(.str aK 633)])
def Sq:=qb cF (.func (.mk wU wU (aU vD) (.stmts (aP vD)) (aV vD) 3 [] .none .none .none (.str eN 473) .none (.ref 340) .none 0))
def Sr:=qb aH (.seq #[] 0)
def Ss:Obj:=(.mk .none .none (.fields #[]) #[])
def Su:=qb aH (.seq #[(.str wZ 638),(.str fq 639),(.str Bt 640),(.str QB 641),(.str Qh 642)] 0)
def Sv:=qb aH (.seq #[] 0)
def Sw:Obj:=(.mk .none .none (.func (.mk wW wW (aU vE) (.stmts (aP vE)) (aV vE) 0 [] .none .none .none .none .none .none .none 0)) #[])
def Sy:=qb bL (.fields #[(.str wW 635),(.str wW 636),(.str aK 637),(.int 247 0),(.int 4 0),(.int 0 0),(.int 0 0),(.int 3 0),(.ref 342),(.bool .true),(.int 181 0),(.ref 343),.none,(.ref 344),(.ref 345),(.ref 346),(.int 643 0),(.int 247 0),(.str aK 644)])
def Sz:=qb cF (.func (.mk wW wW (aU vE) (.stmts (aP vE)) (aV vE) 3 [] .none .none .none (.str eN 473) .none (.ref 347) .none 0))
def Ta:=qb aH (.seq #[] 0)
def Tb:Obj:=(.mk .none .none (.fields #[]) #[])
def Tc:=qb aH (.seq #[(.str wZ 649),(.str QC 650)] 0)
def Td:=qb aH (.seq #[] 0)
def Te:Obj:=(.mk .none .none (.func (.mk wX wX (aU vF) (.stmts (aP vF)) (aV vF) 0 [] .none .none .none .none .none .none .none 0)) #[])
def Tf:=qb bL (.fields #[(.str wX 646),(.str wX 647),(.str aK 648),(.int 252 0),(.int 2 0),(.int 0 0),(.int 0 0),(.int 3 0),(.ref 349),(.bool .true),(.int 181 0),(.ref 350),.none,(.ref 351),(.ref 352),(.ref 353),(.int 651 0),(.int 252 0),(.str aK 652)])
def Th:=qb cF (.func (.mk wX wX (aU vF) (.stmts (aP vF)) (aV vF) 3 [] .none .none .none (.str eN 473) .none (.ref 354) .none 0))
def Ti:=qb aH (.seq #[] 0)
def Tj:Obj:=(.mk .none .none (.fields #[]) #[])
def Tn:=qb aH (.seq #[(.str Ql 657),(.str Qp 658),(.str Qq 659),(.str QD 660),(.str QF 661),(.str Ck 662),(.str Qm 663),(.str Cm 664),(.str QH 665),(.str xA 666),(.str Bt 667),(.str nr 668)] 0)
def To:=qb aH (.seq #[] 0)
def Tp:Obj:=(.mk .none .none (.func (.mk wY wY (aU vG) (.stmts (aP vG)) (aV vG) 0 [] .none .none .none .none .none .none .none 0)) #[])
def Tq:=qb bL (.fields #[(.str wY 654),(.str wY 655),(.str aK 656),(.int 254 0),(.int 1 0),(.int 0 0),(.int 0 0),(.int 3 0),(.ref 356),(.bool .true),(.int 181 0),(.ref 357),.none,(.ref 358),(.ref 359),(.ref 360),(.int 669 0),(.int 254 0),(.str aK 670)])
def Tr:=qb cF (.func (.mk wY wY (aU vG) (.stmts (aP vG)) (aV vG) 3 [] .none .none .none (.str eN 473) .none (.ref 361) .none 0))
def tw9488108115432602818:Params->BT:=λP=>(.node (boot_o_0 P) (.node (boot_o_1 P) (.node (Qr P) (.node (boot_o_7 P) (.node jF (.node kW (.node pC (.node fv (qf Eb) .nil) (.node sr (qf Rn) .nil)) (.node xJ (.node pv (qf Fo) .nil) (.node vf (qf Tc) .nil))) (.node mI (.node uC (.node gx (qf Es) .nil) (.node uh (qf Sj) .nil)) (.node zL (.node qu (qf Gh) .nil) (qf Di)))) (.node (jN P) (.node lE (.node qR (.node gj (qf Ej) .nil) (.node tu (qf Rz) .nil)) (.node (xS P) (.node qh (qf Fy) .nil) (.node Cu (qf To) .nil))) (.node oT (.node uK (.node ot (qf Fd) .nil) (.node uv (qf Ss) .nil)) (.node zT (.node rj (qf Ra) .nil) (qf Dt))))) (.node gY (.node jJ (.node lA (.node qN (.node gc (qf Ef) .nil) (.node sy (qf Rv) .nil)) (.node xO (.node qa (qf Ft) .nil) (.node Cq (qf Th) .nil))) (.node mM (.node uG (.node (og P) (qf Ey) .nil) (.node uo (qf Sn) .nil)) (.node zP (.node qy (qf Qw) .nil) (qf Dp)))) (.node jQ (.node mE (.node qV (.node gq (qf En) .nil) (.node ud (qf Se) .nil)) (.node zH (.node qm (qf Gd) .nil) (qf Cz))) (.node oY (.node xE (.node oz (qf Fh) .nil) (.node uz (qf Sy) .nil)) (.node zX (.node si (qf Ri) .nil) (qf Dx)))))) (.node (boot_o_5 P) (.node (boot_o_9 P) (.node (jH P) (.node kY (.node qL (.node fz (qf Ed) .nil) (.node sv (qf Rt) .nil)) (.node xM (.node px (qf Fq) .nil) (.node vh (qf Te) .nil))) (.node mK (.node uE (.node nv (qf Eu) .nil) (.node uj (qf Sl) .nil)) (.node zN (.node qw (qf Qu) .nil) (qf Dl)))) (.node jO (.node mC (.node qT (.node gm (qf El) .nil) (.node ub (qf Sb) .nil)) (.node xU (.node qk (qf Ga) .nil) (.node Cw (qf Tq) .nil))) (.node oW (.node xC (.node ow (qf Ff) .nil) (.node ux (qf Sv) .nil)) (.node zV (.node rn (qf Rc) .nil) (qf Dv))))) (.node gZ (.node jL (.node lC (.node qP (.node gh (qf Eh) .nil) (.node tj (qf Rx) .nil)) (.node xQ (.node qe (qf Fv) .nil) (.node Cs (qf Tj) .nil))) (.node pE (.node uI (.node oj (qf Fb) .nil) (.node ur (qf Sq) .nil)) (.node zR (.node rf (qf Qy) .nil) (qf Dr)))) (.node kT (.node mG (.node uA (.node (gu P) (qf Ep) .nil) (.node uf (qf Sg) .nil)) (.node (zJ P) (.node qp (qf Gf) .nil) (qf Dg))) (.node pA (.node xH (.node pj (qf Fj) .nil) (.node vc (qf Ta) .nil)) (.node zZ (.node sm (qf Rk) .nil) (qf Dz))))))) (.node (boot_o_2 P) (.node (boot_o_4 P) (.node (boot_o_8 P) (.node jG (.node kX (.node qK (.node (fw P) (qf Ec) .nil) (.node su (qf Ro) .nil)) (.node xK (.node pw (qf Fp) .nil) (.node vg (qf Td) .nil))) (.node (mJ P) (.node uD (.node gy (qf Et) .nil) (.node ui (qf Sk) .nil)) (.node zM (.node qv (qf Qt) .nil) (qf Dk)))) (.node ft (.node mB (.node (qS P) (.node gk (qf Ek) .nil) (.node tw (qf Sa) .nil)) (.node xT (.node qj (qf Fz) .nil) (.node Cv (qf Tp) .nil))) (.node oU (.node xB (.node ou (qf Fe) .nil) (.node uw (qf Su) .nil)) (.node zU (.node rm (qf Rb) .nil) (qf Du))))) (.node Qs (.node jK (.node (lB P) (.node qO (.node gf (qf Eg) .nil) (.node tf (qf Rw) .nil)) (.node xP (.node qc (qf Fu) .nil) (.node Cr (qf Ti) .nil))) (.node pD (.node (uH P) (.node oh (qf Ez) .nil) (.node uq (qf So) .nil)) (.node zQ (.node qz (qf Qx) .nil) (qf Dq)))) (.node kR (.node mF (.node tZ (.node gr (qf Eo) .nil) (.node ue (qf Sf) .nil)) (.node zI (.node qo (qf Ge) .nil) (qf De))) (.node (oZ P) (.node xG (.node pf (qf Fi) .nil) (.node (va P) (qf Sz) .nil)) (.node zY (.node sj (qf Rj) .nil) (qf Dy)))))) (.node (boot_o_6 P) (.node (boot_o_10 P) (.node jI (.node kZ (.node (qM P) (.node gb (qf Ee) .nil) (.node sx (qf Ru) .nil)) (.node xN (.node pz (qf Fs) .nil) (.node Co (qf Tf) .nil))) (.node mL (.node uF (.node ny (qf Ew) .nil) (.node um (qf Sm) .nil)) (.node zO (.node qx (qf Qv) .nil) (qf Dn)))) (.node jP (.node (mD P) (.node qU (.node gp (qf Em) .nil) (.node uc (qf Sd) .nil)) (.node xV (.node ql (qf Gb) .nil) (.node Cy (qf Tr) .nil))) (.node oX (.node (xD P) (.node oy (qf Fg) .nil) (.node uy (qf Sw) .nil)) (.node (zW P) (.node rq (qf Rg) .nil) (qf Dw))))) (.node hG (.node jM (.node lD (.node qQ (.node gi (qf Ei) .nil) (.node tq (qf Ry) .nil)) (.node xR (.node qg (qf Fw) .nil) (.node Ct (qf Tn) .nil))) (.node (pF P) (.node uJ (.node oo (qf Fc) .nil) (.node uu (qf Sr) .nil)) (.node zS (.node rg (qf Qz) .nil) (qf Ds)))) (.node (kU P) (.node mH (.node (uB P) (.node gw (qf Er) .nil) (.node ug (qf Si) .nil)) (.node zK (.node qr (qf Gg) .nil) (qf Dh))) (.node pB (.node xI (.node pq (qf Fl) .nil) (.node ve (qf Tb) .nil)) (.node fu (.node so (qf Rm) .nil) (qf Ea))))))))
theorem te9488108115432602818:tw9488108115432602818=tw9488108115432602818:=rfl
def tw4238305127709004456:Params->Heap:=λP=>(.mk #[(boot_o_0 P),(boot_o_1 P),(boot_o_2 P),(Qr P),(boot_o_4 P),(boot_o_5 P),(boot_o_6 P),(boot_o_7 P),(boot_o_8 P),(boot_o_9 P),(boot_o_10 P),gY,Qs,gZ,hG,jF,jG,(jH P),jI,jJ,jK,jL,jM,(jN P),ft,jO,jP,jQ,kR,kT,(kU P),kW,kX,kY,kZ,lA,(lB P),lC,lD,lE,mB,mC,(mD P),mE,mF,mG,mH,mI,(mJ P),mK,mL,mM,pD,pE,(pF P),oT,oU,oW,oX,oY,(oZ P),pA,pB,pC,qK,qL,(qM P),qN,qO,qP,qQ,qR,(qS P),qT,qU,qV,tZ,uA,(uB P),uC,uD,uE,uF,uG,(uH P),uI,uJ,uK,xB,xC,(xD P),xE,xG,xH,xI,xJ,xK,xM,xN,xO,xP,xQ,xR,(xS P),xT,xU,xV,zH,zI,(zJ P),zK,zL,zM,zN,zO,zP,zQ,zR,zS,zT,zU,zV,(zW P),zX,zY,zZ,fu,fv,(fw P),fz,gb,gc,gf,gh,gi,gj,gk,gm,gp,gq,gr,(gu P),gw,gx,gy,nv,ny,(og P),oh,oj,oo,ot,ou,ow,oy,oz,pf,pj,pq,pv,pw,px,pz,qa,qc,qe,qg,qh,qj,qk,ql,qm,qo,qp,qr,qu,qv,qw,qx,qy,qz,rf,rg,rj,rm,rn,rq,si,sj,sm,so,sr,su,sv,sx,sy,tf,tj,tq,tu,tw,ub,uc,ud,ue,uf,ug,uh,ui,uj,um,uo,uq,ur,uu,uv,uw,ux,uy,uz,(va P),vc,ve,vf,vg,vh,Co,Cq,Cr,Cs,Ct,Cu,Cv,Cw,Cy,Cz,De,Dg,Dh,Di,Dk,Dl,Dn,Dp,Dq,Dr,Ds,Dt,Du,Dv,Dw,Dx,Dy,Dz,Ea,Eb,Ec,Ed,Ee,Ef,Eg,Eh,Ei,Ej,Ek,El,Em,En,Eo,Ep,Er,Es,Et,Eu,Ew,Ey,Ez,Fb,Fc,Fd,Fe,Ff,Fg,Fh,Fi,Fj,Fl,Fo,Fp,Fq,Fs,Ft,Fu,Fv,Fw,Fy,Fz,Ga,Gb,Gd,Ge,Gf,Gg,Gh,Qt,Qu,Qv,Qw,Qx,Qy,Qz,Ra,Rb,Rc,Rg,Ri,Rj,Rk,Rm,Rn,Ro,Rt,Ru,Rv,Rw,Rx,Ry,Rz,Sa,Sb,Sd,Se,Sf,Sg,Si,Sj,Sk,Sl,Sm,Sn,So,Sq,Sr,Ss,Su,Sv,Sw,Sy,Sz,Ta,Tb,Tc,Td,Te,Tf,Th,Ti,Tj,Tn,To,Tp,Tq,Tr] (.mk [] [] [] 0 [] [] .false #[] [] 0 .false .false .false 0 [2000,10,10] .false 0 .true [] [] 0 .false))
theorem te4238305127709004456:tw4238305127709004456=tw4238305127709004456:=rfl
end PySem.W.Fast
theorem PySem.Challenge.cw_aheadmill_k33_shelf_left_and_thrown_holds : PySem.Challenge.rw_aheadmill_k33_shelf_left_and_thrown.Holds := by
 w_on;o_law;k_head;(case hw=>w_witness2)
 k_fill
 refine AM.walk (k:=2*10) (x:="_law_script") (l:=PySem.Challenge.rw_aheadmill_k33_shelf_left_and_thrown) rfl rfl ⟨rfl,by decide,by decide⟩ (λw h Y=>W.kIn_of Y) ?F
 case F=>
  intro w mg fa h KX G hmg;refine' AMx.all_mk KX G hmg ?xc_0 ?xc_1 ?xc_2 ?xc_3 ?xc_4 ?xc_5 ?xc_6 ?xc_7 ?xc_8 ?xc_9 ?x_0 ?l_0 ?c_0 ?k_0 ?x_1 ?l_1 ?c_1 ?k_1 ?x_2 ?l_2 ?c_2 ?k_2 ?x_3 ?l_3 ?c_3 ?k_3 ?x_4 ?l_4 ?c_4 ?k_4 ?x_5 ?l_5 ?c_5 ?k_5 ?x_6 ?l_6 ?c_6 ?k_6 ?x_7 ?l_7 ?c_7 ?k_7 ?x_8 ?l_8 ?c_8 ?k_8 ?x_9 ?l_9 ?c_9 ?k_9 ?x_10 ?l_10 ?c_10 ?k_10 ?x_11 ?l_11 ?c_11 ?k_11 ?x_12 ?l_12 ?c_12 ?k_12 ?x_13 ?l_13 ?c_13 ?k_13 ?x_14 ?l_14 ?c_14 ?k_14 ?x_15 ?l_15 ?c_15 ?k_15 ?x_16 ?l_16 ?c_16 ?k_16 ?x_17 ?l_17 ?c_17 ?k_17 ?x_18 ?l_18 ?c_18 ?k_18 ?x_19 ?l_19 ?c_19 ?k_19 ?x_20 ?l_20 ?c_20 ?k_20 ?x_21 ?l_21 ?c_21 ?k_21 ?x_22 ?l_22 ?c_22 ?k_22 ?x_23 ?l_23 ?c_23 ?k_23 ?x_24 ?l_24 ?c_24 ?k_24 ?x_25 ?l_25 ?c_25 ?k_25 ?x_26 ?l_26 ?c_26 ?k_26 ?x_27 ?l_27 ?c_27 ?k_27 ?x_28 ?l_28 ?c_28 ?k_28 ?x_29 ?l_29 ?c_29 ?k_29 ?x_30 ?l_30 ?c_30 ?k_30 ?x_31 ?l_31 ?c_31 ?k_31 ?pg_9 ?hd_9 ?po_9 ?sa_9 ?na_9_begun ?na_9_kept ?a_9_store ?fn_22 ?a_9_worded ?fn_25 ?a_9_loaded ?fn_27 ?a_9_leave ?fn_28 ?a_9_placed ?fn_23 ?a_9_throw ?fn_29 ?a_9_look ?fn_26 ?a_9_loads ?fn_31 ?a_9_stores ?fn_30 ?a_9_bitten ?fn_24 ?a_9_init ?fn_21 ?mk_9 ?kc_9 ?cl_0 ?cl_3 ?xe_3 ?xf_3 ?mr_3_3 ?mr_3_0 ?ko_3_8 ?ko_3_7 ?ko_3_6 ?ko_3_5 ?ko_3_4 ?ko_3_2 ?ko_3_1 ?z_ValueError ?ko_3_ValueError ?z_len ?z_int ?z_min ?z_max ?z_tuple ?z_list ?z_any ?z_sorted ?z_isinstance ?z_bool ?z_enumerate ?z_zip
  (case xc_0=>k_is)
  (case xc_1=>k_is)
  (case xc_2=>k_is)
  (case xc_3=>k_is)
  (case xc_4=>k_is)
  (case xc_5=>k_is)
  (case xc_6=>k_is)
  (case xc_7=>k_is)
  (case xc_8=>k_is)
  (case xc_9=>k_is)
  (case x_0=>k_is)
  (case l_0=>k_is)
  (case c_0=>k_is)
  (case k_0=>k_is)
  (case x_1=>k_is)
  (case l_1=>k_is)
  (case c_1=>k_is)
  (case k_1=>k_is)
  (case x_2=>k_is)
  (case l_2=>k_is)
  (case c_2=>k_is)
  (case k_2=>k_is)
  (case x_3=>k_is)
  (case l_3=>k_is)
  (case c_3=>k_is)
  (case k_3=>k_is)
  (case x_4=>k_is)
  (case l_4=>k_is)
  (case c_4=>k_is)
  (case k_4=>k_is)
  (case x_5=>k_is)
  (case l_5=>k_is)
  (case c_5=>k_is)
  (case k_5=>k_is)
  (case x_6=>k_is)
  (case l_6=>k_is)
  (case c_6=>k_is)
  (case k_6=>k_is)
  (case x_7=>k_is)
  (case l_7=>k_is)
  (case c_7=>k_is)
  (case k_7=>k_is)
  (case x_8=>k_is)
  (case l_8=>k_is)
  (case c_8=>k_is)
  (case k_8=>k_is)
  (case x_9=>k_is)
  (case l_9=>k_is)
  (case c_9=>k_is)
  (case k_9=>k_is)
  (case x_10=>k_is)
  (case l_10=>k_is)
  (case c_10=>k_is)
  (case k_10=>k_is)
  (case x_11=>k_is)
  (case l_11=>k_is)
  (case c_11=>k_is)
  (case k_11=>k_is)
  (case x_12=>k_is)
  (case l_12=>k_is)
  (case c_12=>k_is)
  (case k_12=>k_is)
  (case x_13=>k_is)
  (case l_13=>k_is)
  (case c_13=>k_is)
  (case k_13=>k_is)
  (case x_14=>k_is)
  (case l_14=>k_is)
  (case c_14=>k_is)
  (case k_14=>k_is)
  (case x_15=>k_is)
  (case l_15=>k_is)
  (case c_15=>k_is)
  (case k_15=>k_is)
  (case x_16=>k_is)
  (case l_16=>k_is)
  (case c_16=>k_is)
  (case k_16=>k_is)
  (case x_17=>k_is)
  (case l_17=>k_is)
  (case c_17=>k_is)
  (case k_17=>k_is)
  (case x_18=>k_is)
  (case l_18=>k_is)
  (case c_18=>k_is)
  (case k_18=>k_is)
  (case x_19=>k_is)
  (case l_19=>k_is)
  (case c_19=>k_is)
  (case k_19=>k_is)
  (case x_20=>k_is)
  (case l_20=>k_is)
  (case c_20=>k_is)
  (case k_20=>k_is)
  (case x_21=>k_is)
  (case l_21=>k_is)
  (case c_21=>k_is)
  (case k_21=>k_is)
  (case x_22=>k_is)
  (case l_22=>k_is)
  (case c_22=>k_is)
  (case k_22=>k_is)
  (case x_23=>k_is)
  (case l_23=>k_is)
  (case c_23=>k_is)
  (case k_23=>k_is)
  (case x_24=>k_is)
  (case l_24=>k_is)
  (case c_24=>k_is)
  (case k_24=>k_is)
  (case x_25=>k_is)
  (case l_25=>k_is)
  (case c_25=>k_is)
  (case k_25=>k_is)
  (case x_26=>k_is)
  (case l_26=>k_is)
  (case c_26=>k_is)
  (case k_26=>k_is)
  (case x_27=>k_is)
  (case l_27=>k_is)
  (case c_27=>k_is)
  (case k_27=>k_is)
  (case x_28=>k_is)
  (case l_28=>k_is)
  (case c_28=>k_is)
  (case k_28=>k_is)
  (case x_29=>k_is)
  (case l_29=>k_is)
  (case c_29=>k_is)
  (case k_29=>k_is)
  (case x_30=>k_is)
  (case l_30=>k_is)
  (case c_30=>k_is)
  (case k_30=>k_is)
  (case x_31=>k_is)
  (case l_31=>k_is)
  (case c_31=>k_is)
  (case k_31=>k_is)
  (case pg_9=>k_is)
  (case hd_9=>k_is)
  (case po_9=>k_is)
  (case sa_9=>k_is)
  (case na_9_begun=>k_is)
  (case na_9_kept=>k_is)
  (case a_9_store=>k_is)
  (case fn_22=>k_is)
  (case a_9_worded=>k_is)
  (case fn_25=>k_is)
  (case a_9_loaded=>k_is)
  (case fn_27=>k_is)
  (case a_9_leave=>k_is)
  (case fn_28=>k_is)
  (case a_9_placed=>k_is)
  (case fn_23=>k_is)
  (case a_9_throw=>k_is)
  (case fn_29=>k_is)
  (case a_9_look=>k_is)
  (case fn_26=>k_is)
  (case a_9_loads=>k_is)
  (case fn_31=>k_is)
  (case a_9_stores=>k_is)
  (case fn_30=>k_is)
  (case a_9_bitten=>k_is)
  (case fn_24=>k_is)
  (case a_9_init=>k_is)
  (case fn_21=>k_is)
  (case mk_9=>k_is)
  (case kc_9=>k_is)
  (case cl_0=>kernel_rfl)
  (case cl_3=>kernel_rfl)
  (case xe_3=>k_exc)
  (case xf_3=>kernel_rfl)
  (case mr_3_3=>kernel_rfl)
  (case mr_3_0=>kernel_rfl)
  (case ko_3_8=>kernel_rfl)
  (case ko_3_7=>kernel_rfl)
  (case ko_3_6=>kernel_rfl)
  (case ko_3_5=>kernel_rfl)
  (case ko_3_4=>kernel_rfl)
  (case ko_3_2=>kernel_rfl)
  (case ko_3_1=>kernel_rfl)
  (case z_ValueError=>k_is)
  (case ko_3_ValueError=>kernel_rfl)
  (case z_len=>k_is)
  (case z_int=>k_is)
  (case z_min=>k_is)
  (case z_max=>k_is)
  (case z_tuple=>k_is)
  (case z_list=>k_is)
  (case z_any=>k_is)
  (case z_sorted=>k_is)
  (case z_isinstance=>k_is)
  (case z_bool=>k_is)
  (case z_enumerate=>k_is)
  (case z_zip=>k_is)
