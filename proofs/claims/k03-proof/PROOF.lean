import PyProof.Rows.All
import Wide.All
import OpenK.AllK
import Wide.FinOn
import Lean
import PyProof.EqAt
import PyProof.EqKinds
import PyProof.TupleCall
import PySem.Challenge.RW_leastloss_k03_holds
set_option Elab.async false
set_option genSizeOf false
set_option bootstrap.genMatcherCode false
set_option compiler.extract_closed false
set_option linter.all false
set_option maxRecDepth 100000
set_option maxHeartbeats 4000000
section
namespace L2
open PySem PySem.Spec PyProof.Rows
noncomputable abbrev Key:=Sum Int Str
noncomputable def RX:Key->Value->Bool
 |.inl k,v=>Value.isInt k v
 |.inr x,v=>Value.isStrOf x v
noncomputable def Ig (w:World):Key->Int
 |.inl k=>hashInt k
 |.inr x=>hashStr w x
theorem eZ:∀{k:Key}{v:Value},RX k v=true->(∃ i t,k=Sum.inl i/\v=Value.int i t)∨(∃ x t,k=Sum.inr x/\v=Value.str x t)
 |.inl i,v,h=>by
  obtain⟨t,e⟩:=Value.isInt_shape (k:=i) (v:=v) h
  exact .inl ⟨i,t,rfl,e⟩
 |.inr x,v,h=>by
  obtain⟨t,e⟩:=Value.isStrOf_shape (x:=x) (v:=v) h
  exact .inr ⟨x,t,rfl,e⟩
theorem Ag (a b:Int):decide ((Sum.inl a:Key)=Sum.inl b)=(a==b):=by
 by_cases e:a=b
 ·subst e;simp
 ·have h:¬(Sum.inl a:Key)=Sum.inl b:=fun q=>e (Sum.inl.inj q)
  rw[decide_eq_false h]
  exact(beq_eq_false_iff_ne.mpr e).symm
theorem X7 (a b:Str):decide ((Sum.inr a:Key)=Sum.inr b)=decide (a=b):=by
 by_cases e:a=b
 ·subst e;simp
 ·have h:¬(Sum.inr a:Key)=Sum.inr b:=fun q=>e (Sum.inr.inj q)
  rw[decide_eq_false h,decide_eq_false e]
theorem Z9 (a:Int)(b:Str):decide ((Sum.inl a:Key)=Sum.inr b)=false:=decide_eq_false (fun q=>nomatch q)
theorem WE (a:Str)(b:Int):decide ((Sum.inr a:Key)=Sum.inl b)=false:=decide_eq_false (fun q=>nomatch q)
noncomputable def B6 (prog:Program)(w:World):PySem.KeyKind prog w Key where
 is:=RX
 hash:=Ig w
 inj:=fun v a b ha hb=>by
  rcases eZ ha with⟨i,t,rfl,rfl⟩|⟨x,t,rfl,rfl⟩
  ·rcases eZ hb with⟨j,u,rfl,e⟩|⟨y,u,rfl,e⟩
   ·injection e with e1 _;rw[e1]
   ·exact nomatch e
  ·rcases eZ hb with⟨j,u,rfl,e⟩|⟨y,u,rfl,e⟩
   ·exact nomatch e
   ·injection e with e1 _;rw[e1]
 byValue:=fun k v h=>by
  rcases eZ h with⟨i,t,rfl,rfl⟩|⟨x,t,rfl,rfl⟩<;>rfl
 pyHash:=fun hv h=>by
  rcases eZ hv with⟨i,t,rfl,rfl⟩|⟨x,t,rfl,rfl⟩
  ·exact wpAny_pyHash_int h
  ·exact wpAny_pyHash_str h
 eqBool:=fun hu hv h=>by
  rcases eZ hu with⟨i,t,rfl,rfl⟩|⟨x,t,rfl,rfl⟩
  ·rcases eZ hv with⟨j,u,rfl,rfl⟩|⟨y,u,rfl,rfl⟩
   ·rw[Ag]at h;exact wpAny_eqBool_int h
   ·rw[Z9]at h;exact SeqAt.EqAt.int_str i t y u _ _ _ _ h
  ·rcases eZ hv with⟨j,u,rfl,rfl⟩|⟨y,u,rfl,rfl⟩
   ·rw[WE]at h;exact SeqAt.EqAt.str_int x t j u _ _ _ _ h
   ·rw[X7]at h;exact wpAny_eqBool_str h
 «strs»:=fun k x t v h=>by
  rcases eZ h with⟨i,u,rfl,e⟩|⟨y,u,rfl,e⟩
  ·exact nomatch e
  ·injection e with e1 _
   subst e1
   cases v<;>rfl
end L2
namespace L2
open PySem PySem.Spec PyProof.Rows
inductive V where
 |non|bl (b:Bool)|int (i:Int)|str (x:Str)|byt (b:Array UInt8)|flt (b:UInt64)|ref (a:Addr)|ty (n:String)
 deriving DecidableEq
noncomputable def RelV:V->Value->Prop
 |.non,u=>u=Value.none
 |.bl b,u=>u=Value.bool b
 |.int i,u=>∃ t,u=Value.int i t
 |.str x,u=>∃ t,u=Value.str x t
 |.byt b,u=>∃ t,u=Value.bytes b t
 |.flt b,u=>∃ t,u=Value.float b t
 |.ref a,u=>u=Value.ref a
 |.ty n,u=>u=Value.type n
noncomputable abbrev aO:List V->List Value->Prop:=Paired RelV
theorem aO.length {xs:List V}{us:List Value}(r:aO xs us):xs.length=us.length:=Paired.length r
theorem aO.get:∀{xs:List V}{us:List Value}{i:Nat}{x:V},aO xs us->xs[i]? = some x->∃ u,us[i]? = some u/\RelV x u
 |_,_,_,_,.nil,e=>by simp at e
 |_,_,0,_,.cons r _,e=>by simp at e;subst e;exact⟨_,rfl,r⟩
 |_,_,i+1,x,.cons _ t,e=>by
  obtain⟨u,h1,h2⟩:=aO.get (i:=i) (x:=x) t (by simpa using e)
  exact⟨u,by simpa using h1,h2⟩
theorem aO.set {x:V}{u:Value}(r:RelV x u):∀{xs:List V}{us:List Value}(i:Nat),aO xs us->aO (xs.set i x) (us.set i u)
 |_,_,_,.nil=>.nil
 |_,_,0,.cons _ t=>.cons r t
 |_,_,i+1,.cons q t=>.cons q (aO.set r i t)
theorem aO.append:∀{xs ys:List V}{us ws:List Value},aO xs us->aO ys ws->aO (xs++ys) (us++ws)
 |_,_,_,_,.nil,s=>s
 |_,_,_,_,.cons r t,s=>.cons r (aO.append t s)
theorem aO.take:∀{xs:List V}{us:List Value}(n:Nat),aO xs us->aO (xs.take n) (us.take n)
 |_,_,0,_=>.nil
 |_,_,_+1,.nil=>.nil
 |_,_,n+1,.cons r t=>.cons r (aO.take n t)
theorem aO.drop:∀{xs:List V}{us:List Value}(n:Nat),aO xs us->aO (xs.drop n) (us.drop n)
 |_,_,0,r=>r
 |_,_,_+1,.nil=>.nil
 |_,_,n+1,.cons _ t=>aO.drop n t
noncomputable def rA:Option V->Option Value->Prop
 |some v,some u=>RelV v u
 |none,none=>True
 |_,_=>False
noncomputable def KV {κ:Type}:List (κ×V)->List (κ×Value)->Prop:=Paired fun(p:κ×V)(q:κ×Value)=>p.1=q.1/\RelV p.2 q.2
noncomputable def kV:Key->V
 |.inl i=>.int i
 |.inr x=>.str x
inductive HO where
 /-- a list -/
 |lst (xs:List V)
 /-- a tuple (never changes) -/
 |tup (xs:List V)
 /-- a dict whose keys are ints and texts; one whose keys are tuples of ints and texts (the empty one is both) -/
 |dK (gC:List (Key×V))|dT (gC:List (List Key×V))
 /-- a set of ints: aD members, aD size -/
 |set (S:Int->Bool)(n:Nat)
 /-- an instance of the class at C, aD dict at dx, aD attributes -/
 |ins (C dx:Addr)(fs:List (Str×V))
 /-- the dict of the instance at x -/
 |own (x:Addr)
 /-- the dict of an exception -/
 |xd (fs:List (Str×V))
 /-- a bound method, f of x -/
 |met (f x:Addr)
 /-- a range object lo, lo + 1, .. below hi -/
 |rng (lo hi:Int)
 /-- a thing that is known to the object (the script; a dict while a loop walks it): read, never written while it is so -/
 |frz (o:Obj)(u:HO)
 /-- a code object's table -/
 |tbl (ps:Array Value)
 /-- any other thing, by what is true of aD one object (a def of one's own: SetO a S n := HO.ext fun h => ..) -/
 |ext (φ:Program->World->Heap->Prop)
noncomputable abbrev Hp:=Addr->Option HO
noncomputable def upd (H:Hp)(a:Addr)(o:HO):Hp:=fun b=>if b=a then some o else H b
theorem cY {H:Hp}{a:Addr}{o:HO}:upd H a o a=some o:=by unfold upd;rw[if_pos rfl]
theorem aY {H:Hp}{a b:Addr}{o:HO}(h:b≠a):upd H a o b=H b:=by unfold upd;rw[if_neg h]
theorem KS {H:Hp}{a b:Addr}{o u:HO}(h:H a=some o)(h':H b=some u)(d:o≠u):a≠b:=by
 intro e;subst e;rw[h]at h';exact d (Option.some.inj h')
theorem gR {H:Hp}{a b:Addr}{o:HO}(h:H a=some o)(h':H b=none):a≠b:=by
 intro e;subst e;rw[h]at h';cases h'
noncomputable def nX (h:Heap)(a:Addr)(aD:Array Value):Prop:=∃ o,h.get? a=some o/\o.cls=.type "tuple" /\ (∃ n,o.data=.seq aD n)/\o.dict=none
theorem nX.tup {h:Heap}{a:Addr}{aD:Array Value}:nX h a aD->IsTup h a aD:=fun⟨o,e,c,d,_⟩=>⟨o,e,c,d⟩
theorem nX.lt {h:Heap}{a:Addr}{aD:Array Value}(x:nX h a aD):a<h.objs.size:=x.tup.lt
theorem nX.new (h:Heap)(items:Array Value):nX (h.push { cls:=.type "tuple", data:=.seq items }) h.objs.size items:=⟨_,Heap.get?_push_size _ rfl,rfl,⟨_,rfl⟩,rfl⟩
section
variable (P:Program)(w:World)
noncomputable def iL (H:Hp)(h:Heap)(a:Addr):HO->Prop
 |.lst xs=>xs.length<=sizeLine/\∃(aD:List Value)(n:Nat),aO xs aD/\h.get? a=some { cls:=.type "list", data:=.seq aD.toArray n }
 |.tup xs=>xs.length<=sizeLine/\∃ aD:List Value,aO xs aD/\nX h a aD.toArray
 |.dK gC=>gC.length<=sizeLine/\(a==sysModules)=false/\∃ vs,KV gC vs/\h.DictOf (B6 P w) a vs
 |.dT gC=>gC.length<=sizeLine/\(a==sysModules)=false/\∃ xs:List (List Key×Addr×Value),
  Paired (fun(p:List Key×V)(q:List Key×Addr×Value)=>p.1=q.1/\H q.2.1=some (.tup (p.1.map kV))/\RelV p.2 q.2.2) gC xs /\
  ∃ o es ep,h.get? a=some o/\o.ExactDict/\o.data=.dict es ep/\es.toList=xs.map (entryOfKey (tupleKind (B6 P w)))/\(xs.map (·.1)).Nodup
 |.set S n=>h.SetOf (intKind P w) a S n
 |.ins C dx fs=>H dx=some (.own a)/\fs.length<=1000/\dx≠a/\h.get? a=some (PySem.W.instObj C dx) /\
  ∃ mA,h.Ns1 dx mA/\(∀ f,rA (fs.lookup f) (mA f))/\PySem.Within mA (fs.map (·.1))
 |.own _=>∃ o,h.get? a=some o
 |.xd fs=>∃ mA,h.Ns1 a mA/\∀ f,rA (fs.lookup f) (mA f)
 |.rng lo hi=>∃ t u v,h.get? a=some { cls:=.type "range", data:=.fields #[.int lo t,.int hi u,.int 1 v] }
 |.frz o u=>h.get? a=some o/\iL H h a u
 |.tbl ps=>h.get? a=some { cls:=.none,data:=.fields ps }
 |.met f x=>h.get? a=some (PySem.W.methodObj (.ref f) (.ref x))
 |.ext φ=>φ P w h/\(∃ o,h.get? a=some o)/\∀ h1 h2:Heap,φ P w h1->(∀ o,h1.get? a=some o->h2.get? a=some o)->φ P w h2
noncomputable def fS (H:Hp)(h:Heap):Prop:=∀ a o,H a=some o->iL P w H h a o
end
section
variable {P:Program}{w:World}{H H':Hp}{h h':Heap}{a:Addr}{o:HO}
theorem iL.lt (x:iL P w H h a o):a<h.objs.size:=by
 cases o with
 |lst xs=>obtain⟨_,_,_,_,e⟩:=x;exact Heap.lt_size e
 |tup xs=>obtain⟨_,_,_,p⟩:=x;exact p.lt
 |dK gC=>obtain⟨_,_,_,_,o,_,_,e,_⟩:=x;exact Heap.lt_size e
 |dT gC=>obtain⟨_,_,_,_,o,_,_,e,_⟩:=x;exact Heap.lt_size e
 |set S n=>obtain⟨o,_,_,_,e,_⟩:=x;exact Heap.lt_size e
 |ins C dx fs=>obtain⟨_,_,_,e,_⟩:=x;exact Heap.lt_size e
 |own y=>obtain⟨_,e⟩:=x;exact Heap.lt_size e
 |xd fs=>obtain⟨_,⟨_,_,_,e,_⟩,_⟩:=x;exact Heap.lt_size e
 |rng lo hi=>obtain⟨_,_,_,e⟩:=x;exact Heap.lt_size e
 |frz ob u=>obtain⟨e,_⟩:=x;exact Heap.lt_size e
 |tbl ps=>exact Heap.lt_size (show h.get? a=some _ from x)
 |met f y=>exact Heap.lt_size (show h.get? a=some _ from x)
 |ext φ=>obtain⟨_,⟨_,e⟩,_⟩:=x;exact Heap.lt_size e
theorem Paired.Z4 {α β:Type}{F G:α->β->Prop}:∀{l₁:List α}{l₂:List β},Paired F l₁ l₂->(∀ a b,F a b->G a b)->Paired G l₁ l₂
 |_,_,.nil,_=>.nil
 |_,_,.cons r t,f=>.cons (f _ _ r) (Paired.Z4 t f)
theorem iL.nZ (x:iL P w H h a o)(k:∀ b u,(b=a∨H b=some (.own a))->h.get? b=some u->h'.get? b=some u)
 (ho:∀ b,H b=some (.own a)->H' b=some (.own a))(ht:∀ b xs,H b=some (.tup xs)->H' b=some (.tup xs)):iL P w H' h' a o:=by
 induction o with
 |lst xs=>obtain⟨z,aD,n,r,e⟩:=x;exact⟨z,aD,n,r,k _ _ (.inl rfl) e⟩
 |tup xs=>obtain⟨z,aD,r,ob,e,c⟩:=x;exact⟨z,aD,r,ob,k _ _ (.inl rfl) e,c⟩
 |dK gC=>obtain⟨z,y,vs,r,ob,es,ep,e,c⟩:=x;exact⟨z,y,vs,r,ob,es,ep,k _ _ (.inl rfl) e,c⟩
 |dT gC =>
 obtain⟨z,y,xs,r,ob,es,ep,e,c⟩:=x
 exact⟨z,y,xs,Paired.Z4 r fun p q z=>⟨z.1,ht _ _ z.2.1,z.2.2⟩,ob,es,ep,k _ _ (.inl rfl) e,c⟩
 |set S n=>obtain⟨ob,es,ep,t,e,c⟩:=x;exact⟨ob,es,ep,t,k _ _ (.inl rfl) e,c⟩
 |ins C dx fs =>
 obtain⟨d,z,ne,e,mA,⟨od,es,ep,e2,c⟩,r⟩:=x
 exact⟨ho _ d,z,ne,k _ _ (.inl rfl) e,mA,⟨od,es,ep,k _ _ (.inr d) e2,c⟩,r⟩
 |own y=>obtain⟨ob,e⟩:=x;exact⟨ob,k _ _ (.inl rfl) e⟩
 |xd fs=>obtain⟨mA,⟨od,es,ep,e,c⟩,r⟩:=x;exact⟨mA,⟨od,es,ep,k _ _ (.inl rfl) e,c⟩,r⟩
 |rng lo hi=>obtain⟨t,u,v,e⟩:=x;exact⟨t,u,v,k _ _ (.inl rfl) e⟩
 |frz ob u ih=>obtain⟨e,q⟩:=x;exact⟨k _ _ (.inl rfl) e,ih q⟩
 |tbl ps =>
 have e:h.get? a=some { cls:=.none,data:=.fields ps }:=x
 show h'.get? a=some { cls:=.none,data:=.fields ps }
 exact k a _ (.inl rfl) e
 |met f y =>
 have e:h.get? a=some (PySem.W.methodObj (.ref f) (.ref y)):=x
 show h'.get? a=some (PySem.W.methodObj (.ref f) (.ref y))
 exact k a _ (.inl rfl) e
 |ext φ=>obtain⟨p,⟨o,e⟩,st⟩:=x;exact⟨st _ _ p fun o q=>k _ _ (.inl rfl) q,⟨o,k _ _ (.inl rfl) e⟩,st⟩
theorem fS.lt (x:fS P w H h)(e:H a=some o):a<h.objs.size:=(x a o e).lt
theorem fS.fresh (x:fS P w H h)(e:h.objs.size<=a):H a=none:=by
 cases q:H a with
 |none=>rfl
 |some u=>exact absurd (Nat.lt_of_lt_of_le (x.lt q) e) (Nat.lt_irrefl _)
theorem fS.kept (x:fS P w H h)(k:∀ b u,h.get? b=some u->h'.get? b=some u):fS P w H h':=fun a o e =>
 (x a o e).nZ (fun b u _ q=>k b u q) (fun _ q=>q) fun _ _ q=>q
theorem fS.laid (x:fS P w H h)(k:∀ b u,h.get? b=some u->h'.get? b=some u)(hp:h.objs.size<=a)(new:iL P w (upd H a o) h' a o):fS P w (upd H a o) h':=fun b u e=>by
 have hn:=x.fresh hp
 by_cases hb:b=a
 ·subst hb;rw[cY]at e;cases e;exact new
 ·rw[aY hb]at e
  exact(x b u e).nZ (fun c v _ q=>k c v q) (fun c q=>by rw[aY (gR q hn)];exact q) fun c xs q=>by rw[aY (gR q hn)];exact q
end
noncomputable def Rd (H:Hp)(a:Addr)(u:HO):Prop:=H a=some u∨∃ o,H a=some (.frz o u)
theorem Rd.ok {P:Program}{w:World}{H:Hp}{h:Heap}{a:Addr}{u:HO}(r:Rd H a u)(x:fS P w H h):iL P w H h a u:=by
 rcases r with r|⟨o,r⟩
 ·exact x a u r
 ·obtain⟨_,q⟩:=x a _ r
  exact q
noncomputable def RI:Option HO->Prop
 |some (.lst _)=>True
 |some (.dK _)=>True
 |some (.dT _)=>True
 |some (.set _ _)=>True
 |some (.ins _ _ _)=>True
 |some (.ext _)=>True
 |_=>False
section
variable {P:Program}{w:World}{H:Hp}{h h':Heap}{x e:Addr}{o':HO}
theorem fS.write (ok:fS P w H h)(mu:RI (H x))(he:e=x∨H e=some (.own x))(k:∀ b u,b≠e->h.get? b=some u->h'.get? b=some u)(heo:∃ u,h'.get? e=some u)
  (new:iL P w (upd H x o') h' x o'):fS P w (upd H x o') h':=fun b u q=>by
 have nown:∀ c y,H c=some (.own y)->c≠x:=fun c y r z=>by subst z;rw[r]at mu;exact mu
 have ntup:∀ c xs,H c=some (.tup xs)->c≠x:=fun c xs r z=>by subst z;rw[r]at mu;exact mu
 by_cases hb:b=x
 ·subst hb;rw[cY]at q;cases q;exact new
 ·rw[aY hb]at q
  by_cases hbe:b=e
  ·have q':H b=some (.own x):=by
    rcases he with z|z
    ·exact absurd (hbe.trans z) hb
    ·rw[hbe];exact z
   rw[q]at q';cases q'
   obtain⟨v,hv⟩:=heo
   exact⟨v,by rw[hbe];exact hv⟩
  ·refine(ok b u q).nZ (fun c v hc r=>k c v ?_ r) (fun c r=>by rw[aY (nown c b r)];exact r) fun c xs r=>by rw[aY (ntup c xs r)];exact r
   rcases hc with rfl|hc
   ·exact hbe
   ·rintro rfl
    rcases he with z|z
    ·exact nown c b hc z
    ·rw[hc]at z;cases z;exact hb rfl
end
structure Un (fs ex:List Addr)(H H':Hp)(h h':Heap):Prop where
 keep:∀ b o,h.get? b=some o->H b=none->b∉fs->b∉ex->h'.get? b=some o
 slot:∀ b o,h.get? b=some o->H b=none->b∈fs->b∉ex->∃ sl,h'.get? b=some { o with slots:=sl }
 free:∀ b o,h.get? b=some o->H b=none->b∉ex->H' b=none
 there:∀ b o,h.get? b=some o->b∉ex->∃ o',h'.get? b=some o'
 pX:∀ b xs,H b=some (.tup xs)->H' b=some (.tup xs)
 mB:∀ b o u,H b=some (.frz o u)->H' b=some (.frz o u)
 oB:∀ b ps,H b=some (.tbl ps)->∃ more,H' b=some (.tbl (ps++more))
section
variable {fs fs' ex ex':List Addr}{H H1 H2:Hp}{h h1 h2 h':Heap}{a x e:Addr}{o:HO}
theorem Un.any (u:Un fs ex H H1 h h1){b:Addr}{ob:Obj}(q:h.get? b=some ob)(n:H b=none)(hx:b∉ex):∃ sl,h1.get? b=some { ob with slots:=sl }:=by
 by_cases hb:b∈fs
 ·exact u.slot b ob q n hb hx
 ·exact⟨ob.slots,u.keep b ob q n hb hx⟩
theorem Un.kept (k:∀ b u,h.get? b=some u->h'.get? b=some u):Un fs ex H H h h' :=
 ⟨fun b ob q _ _ _=>k b ob q,fun b ob q _ _ _=>⟨ob.slots,k b ob q⟩,fun _ _ _ n _=>n,fun b ob q _=>⟨ob,k b ob q⟩,fun _ _ q=>q,fun _ _ _ q=>q,fun _ ps q=>⟨#[],by rw[q];simp⟩⟩
theorem Un.refl:Un fs ex H H h h:=Un.kept fun _ _ q=>q
theorem Un.laid (k:∀ b u,h.get? b=some u->h'.get? b=some u)(hp:h.objs.size<=a)(hn:H a=none):Un fs ex H (upd H a o) h h' where
 keep:=fun b u q _ _ _=>k b u q
 slot:=fun b u q _ _ _=>⟨u.slots,k b u q⟩
 free:=fun b u q n _=>by rw[aY (Nat.ne_of_lt (Nat.lt_of_lt_of_le (Heap.lt_size q) hp))];exact n
 there:=fun b u q _=>⟨u,k b u q⟩
 pX:=fun b xs q=>by rw[aY (gR q hn)];exact q
 mB:=fun b u xs q=>by rw[aY (gR q hn)];exact q
 oB:=fun b ps q=>⟨#[],by rw[aY (gR q hn),q];simp⟩
theorem Un.write (mu:RI (H x))(he:e=x∨H e=some (.own x))(k:∀ b u,b≠e->h.get? b=some u->h'.get? b=some u)(heo:∃ u,h'.get? e=some u):Un fs ex H (upd H x o) h h':=by
 have hx:∀ b,H b=none->b≠x:=fun b n z=>by subst z;rw[n]at mu;exact mu
 have hb:∀ b,H b=none->b≠e:=fun b n z=>by
  subst z
  rcases he with r|r
  ·exact hx b n r
  ·rw[n]at r;cases r
 have hm:∀ b u,H b=some u->¬RI (some u)->b≠x:=fun b u q nm z=>by subst z;rw[q]at mu;exact nm mu
 refine⟨fun b u q n _ _=>k b u (hb b n) q,fun b u q n _ _=>⟨u.slots,k b u (hb b n) q⟩,fun b u q n _=>by rw[aY (hx b n)];exact n,fun b u q _=>?_,
  fun b xs q=>by rw[aY (hm b _ q fun z=>z)];exact q,fun b u xs q=>by rw[aY (hm b _ q fun z=>z)];exact q,fun b ps q=>⟨#[],by rw[aY (hm b _ q fun z=>z),q];simp⟩⟩
 by_cases hbe:b=e
 ·subst hbe;exact heo
 ·exact⟨u,k b u hbe q⟩
end
noncomputable def R4 (h:Heap)(H:Hp):List Addr:=(List.range h.objs.size).filter fun a=>(H a).isSome
noncomputable def qZ (h:Heap)(H:Hp):Heap:=PySem.W.hideAll h (R4 h H)
theorem OE (h:Heap)(H:Hp):(qZ h H).objs.size=h.objs.size:=PySem.W.hideAll_size _ _
theorem O6 {h:Heap}{H:Hp}{b:Addr}{o:Obj}(e:h.get? b=some o)(n:H b=none):(qZ h H).get? b=some o :=
 PySem.W.hideAll_get _ e fun hm=>by
 have q:(H b).isSome=true:=(List.mem_filter.mp hm).2
 rw[n]at q;simp at q
theorem SH {h:Heap}{H:Hp}{b:Addr}{o:Obj}(e:(qZ h H).get? b=some o):h.get? b=some o/\H b=none:=by
 have e':h.get? b=some o:=PySem.W.of_hideAll (R4 h H) e
 refine⟨e',?_⟩
 cases q:H b with
 |none=>rfl
 |some x =>
 have hm:b∈R4 h H:=List.mem_filter.mpr ⟨List.mem_range.mpr (Heap.lt_size e'),by simp [q]⟩
 have z:(qZ h H).get? b=none:=PySem.W.hideAll_none (R4 h H) hm
 rw[z]at e;cases e
noncomputable def UA (g h:Heap)(L:Addr):List (Addr×Obj):=(List.range h.objs.size).filterMap fun a=>if a=L∨(g.get? a).isSome=true then none else(h.get? a).map fun o=>(a,o)
noncomputable def rest (g h:Heap)(L d:Addr):List (Addr×Obj):=(UA g h L).filter fun p=>decide (p.1≠d)
end L2
namespace L2
open PySem PySem.Spec PyProof.Rows
structure Mod (K:PySem.W.Frag)(mg:Str->Option Value)(base:Heap):Prop where
 kin:K.In base
 glob:base.Ns mainGlobals mg
 blt:∃ mb,base.Ns builtinsNs mb/\∀ x:Str,x ≠"__name__" -> mb x=bootBuiltins x
 nolimit:base.NoLimit
structure Cx where
 prog:Program
 w:World
 K:PySem.W.Frag
 mg:Str->Option Value
 base:Heap
 A:Around
 N:List Str
 s₀:Shared
 H₀:Hp
 env:Env
 outer:List Env
 stack:List Env
 ex:List Addr
 fn:Str->Bool
 calm:Bool
 pn:List (Addr×Obj)
 xe:Value->Shared->Prop
noncomputable def sJ (l:List Env):List Addr:=l.filterMap (·.frame)
noncomputable abbrev Cx.fs (X:Cx):List Addr:=sJ X.outer
noncomputable def RP (sc:Scope)(x:Str):Prop:=sc.names.lookup x=some .local∨sc.names.lookup x=some .cell∨sc.names.lookup x=some .free
noncomputable def Loc (sc:Scope)(x:Str):Prop:=sc.names.lookup x=some .local∨sc.names.lookup x=some .cell
noncomputable def Look (env:Env)(h:Heap)(m:Str->Option Value)(x:Str)(u:Value):Prop :=
 (env.kindOf x=some .local/\m x=some u)∨((env.kindOf x=some .cell∨env.kindOf x=some .free)/\∃ c,env.cells.lookup x=some c/\h.IsCell c (some u))
structure Cx.Ok (X:Cx):Prop where
 mod:Mod X.K X.mg X.base
 kind:X.env.scope.kind=.function
 glob:X.env.globals=mainGlobals
 blt:X.env.builtins=builtinsNs
 above:X.s₀.heap.objs.size<=X.env.locals
 inj:∀ x y c,X.env.cells.lookup x=some c->X.env.cells.lookup y=some c->x=y
 has:∀ x,(X.env.kindOf x=some .cell∨X.env.kindOf x=some .free)->∃ c,X.env.cells.lookup x=some c
 cab:∀ x c,X.fn x=true->X.env.cells.lookup x=some c->X.s₀.heap.objs.size<=c
 hd:X.calm=true->X.A.handled=none
 frames:X.A.frames=some X.stack
 stk:X.stack=X.outer∨(X.stack=X.env::X.outer/\X.env.frame=some X.env.locals)
 exf:∀ b∈X.ex,b≠X.env.locals/\∀ x c,X.env.cells.lookup x=some c->c≠b
 bs:∀ b o,X.base.get? b=some o->X.s₀.heap.get? b=some o/\X.H₀ b=none
 bsz:X.base.objs.size<=X.s₀.heap.objs.size
 noex:∀ b o,X.base.get? b=some o->b∉X.ex
 exfs:∀ b∈X.ex,b∉X.fs
 kB:X.s₀.heap.FunFrames X.base X.outer
 frf:∀ b∈X.fs,X.H₀ b=none
structure Inv (X:Cx)(pins:List (Addr×Obj))(σ:List (Option V))(H:Hp)(s:Shared):Prop where
 ok:X.Ok
 os:s.os=X.s₀.os
 bare:AllBare s.gens
 base:Un X.fs X.ex X.H₀ H X.s₀.heap s.heap
 loc:∃ m,s.heap.Ns X.env.locals m/\∀(i:Nat)(x:Str)(v:V),X.N[i]? = some x->σ[i]? = some (some v)->RP X.env.scope x->∃ u,RelV v u/\Look X.env s.heap m x u
 cell:∀ x c,X.env.cells.lookup x=some c->∃ v,s.heap.IsCell c v
 free:H X.env.locals=none
 jG:∀ x c,X.env.cells.lookup x=some c->H c=none
 pin:∀ p∈X.pn++pins,s.heap.get? p.1=some p.2/\H p.1=none/\p.1≠X.env.locals/\p.1∉X.fs/\∀ v,p.2.data≠.cell v
 bH:fS X.prog X.w H s.heap
 len:σ.length=X.N.length
section
variable {X:Cx}{pins:List (Addr×Obj)}{σ:List (Option V)}{H H':Hp}{s:Shared}{h':Heap}
theorem Cx.Ok.Hq (ok:X.Ok){b:Addr}{o:Obj}(e:X.base.get? b=some o):b∉X.fs:=fun hb=>by
 have:=(ok.kB.mem hb).1
 rw[e]at this;cases this
theorem Inv.bs (I:Inv X pins σ H s):∀ b o,X.base.get? b=some o->s.heap.get? b=some o/\H b=none:=fun b o e =>
 ⟨I.base.keep b o (I.ok.bs b o e).1 (I.ok.bs b o e).2 (I.ok.Hq e) (I.ok.noex b o e),I.base.free b o (I.ok.bs b o e).1 (I.ok.bs b o e).2 (I.ok.noex b o e)⟩
theorem Inv.bk (I:Inv X pins σ H s):∀ b o,X.base.get? b=some o->s.heap.get? b=some o:=fun b o e=>(I.bs b o e).1
theorem Inv.mod (I:Inv X pins σ H s):Mod X.K X.mg X.base:=I.ok.mod
theorem Inv.hU (I:Inv X pins σ H s):X.K.In s.heap:=I.ok.mod.kin.keeps I.bk
theorem Inv.fr (I:Inv X pins σ H s):∃ m,Fr X.base X.env.locals s.heap m :=
 let⟨m,hn,_⟩:=I.loc
 ⟨m,hn,I.bk,Nat.le_trans I.ok.bsz I.ok.above⟩
theorem Inv.lt (I:Inv X pins σ H s):X.env.locals<s.heap.objs.size:=let⟨_,hn,_⟩:=I.loc;hn.lt
theorem Inv.sz (I:Inv X pins σ H s):X.s₀.heap.objs.size<=s.heap.objs.size:=Nat.le_trans I.ok.above (Nat.le_of_lt I.lt)
theorem Inv.VW (I:Inv X pins σ H s){a:Addr}(h:s.heap.objs.size<=a):a∉X.fs:=fun hb=>by
 obtain⟨_,o,ho,_⟩:=I.ok.kB.mem hb
 exact absurd (Nat.lt_of_lt_of_le (Heap.lt_size ho) (Nat.le_trans I.sz h)) (Nat.lt_irrefl _)
theorem Inv.CS (I:Inv X pins σ H s):∀ x c,X.env.cells.lookup x=some c->c≠X.env.locals:=fun x c e z=>by
 obtain⟨v,o,ho,hd⟩:=I.cell x c e
 obtain⟨m,⟨o',es,ep,ho',hd',_⟩,_⟩:=I.loc
 rw[z,ho']at ho;cases ho;rw[hd']at hd;cases hd
theorem Inv.kB (I:Inv X pins σ H s):s.heap.FunFrames X.base X.outer:=by
 have all:∀(l:List Env),(∀ b∈sJ l,b∈X.fs)->X.s₀.heap.FunFrames X.base l->s.heap.FunFrames X.base l:=by
  intro l
  induction l with
  |nil=>intro _ _;trivial
  |cons env r ih =>
   intro hs hl
   obtain⟨hk,⟨L,o,hf,hn,ho,hd⟩,hr⟩:=hl
   have hL:L∈X.fs:=hs L (by unfold sJ;rw[List.filterMap_cons,hf];exact List.mem_cons_self)
   obtain⟨sl,e⟩:=I.base.slot L o ho (I.ok.frf L hL) hL fun z=>I.ok.exfs L z hL
   exact⟨hk,⟨L,_,hf,hn,e,hd⟩,ih (fun b hb=>hs b (by unfold sJ;rw[List.filterMap_cons,hf];exact List.mem_cons_of_mem _ hb)) hr⟩
 exact all X.outer (fun _ hb=>hb) I.ok.kB
theorem Inv.stack (I:Inv X pins σ H s):s.heap.FunFrames X.base X.stack:=by
 rcases I.ok.stk with e|⟨e,hf⟩
 ·rw[e];exact I.kB
 ·rw[e]
  obtain⟨m,hn,_⟩:=I.loc
  refine .cons (by rw[I.ok.kind];decide) hf hn ?_ I.kB
  exact Heap.get?_none_of_le (Nat.le_trans I.ok.bsz I.ok.above)
theorem Inv.AI (I:Inv X pins σ H s):∀ b∈sJ X.stack,b∈X.env.locals::X.fs:=fun b hb=>by
 rcases I.ok.stk with e|⟨e,hf⟩
 ·rw[e]at hb;exact List.mem_cons_of_mem _ hb
 ·rw[e]at hb
  unfold sJ at hb
  rw[List.filterMap_cons,hf]at hb
  exact hb
theorem Inv.IQ (I:Inv X pins σ H s):∀ b∈sJ X.stack,H b=none:=fun b hb=>by
 rcases List.mem_cons.mp (I.AI b hb)with e|hb
 ·rw[e];exact I.free
 ·obtain⟨_,o,ho,_⟩:=I.ok.kB.mem hb
  exact I.base.free b o ho (I.ok.frf b hb) fun z=>I.ok.exfs b z hb
theorem Inv.step {g':Array GenState}{t':Nat}{d':Drawn}{ch:List Addr}(I:Inv X pins σ H s)
  (hch:∀ b∈ch,(b∈X.ex∨X.s₀.heap.objs.size<=b)/\b≠X.env.locals/\(∀ x c,X.env.cells.lookup x=some c->c≠b)/\∀ p∈X.pn++pins,p.1≠b)
  (keep:∀ b o,b≠X.env.locals->b∉X.fs->b∉ch->s.heap.get? b=some o->H b=none->h'.get? b=some o)
  (slot:∀ b o,b≠X.env.locals->b∈X.fs->b∉ch->s.heap.get? b=some o->H b=none->∃ sl,h'.get? b=some { o with slots:=sl })(free:∀ b o,b∉ch->s.heap.get? b=some o->H b=none->H' b=none)
  (there:∀ b o,b∉ch->s.heap.get? b=some o->∃ o',h'.get? b=some o')
  (pX:∀ b xs,H b=some (.tup xs)->H' b=some (.tup xs))(mB:∀ b o u,H b=some (.frz o u)->H' b=some (.frz o u))(oB:∀ b ps,H b=some (.tbl ps)->∃ more,H' b=some (.tbl (ps++more)))
  (ns:∀ m,s.heap.Ns X.env.locals m->h'.Ns X.env.locals m)(bH:fS X.prog X.w H' h')(hg:AllBare g'):
  Inv X pins σ H' { s with heap:=h',gens:=g',drawn:=d',toks:=t' }:=by
 have neL:∀ b o,X.s₀.heap.get? b=some o->b≠X.env.locals:=fun b o e=>Nat.ne_of_lt (Nat.lt_of_lt_of_le (Heap.lt_size e) I.ok.above)
 have neC:∀ b o,X.s₀.heap.get? b=some o->b∉X.ex->b∉ch:=fun b o e hx hb=>by
  rcases(hch b hb).1 with z|z
  ·exact hx z
  ·exact absurd (Nat.lt_of_lt_of_le (Heap.lt_size e) z) (Nat.lt_irrefl _)
 have cellK:∀ x c,X.env.cells.lookup x=some c->∀ v,s.heap.IsCell c v->h'.IsCell c v:=fun x c e v ⟨o,ho,hd⟩=>by
  have nch:c∉ch:=fun z=>(hch c z).2.2.1 x c e rfl
  by_cases hc:c∈X.fs
  ·obtain⟨sl,q⟩:=slot c o (I.CS x c e) hc nch ho (I.jG x c e)
   exact⟨_,q,hd⟩
  ·exact⟨o,keep c o (I.CS x c e) hc nch ho (I.jG x c e),hd⟩
 refine⟨I.ok,I.os,hg,⟨fun b o e n hb hx=>?_,fun b o e n hb hx=>?_,fun b o e n hx=>?_,fun b o e hx=>?_,fun b xs e=>pX b xs (I.base.pX b xs e),fun b o xs e=>mB b o xs (I.base.mB b o xs e),fun b ps e=>?_⟩,?_,fun x c e=>?_,?_,fun x c e=>?_,fun p hp=>?_,bH,I.len⟩
 ·exact keep b o (neL b o e) hb (neC b o e hx) (I.base.keep b o e n hb hx) (I.base.free b o e n hx)
 ·obtain⟨sl,e1⟩:=I.base.slot b o e n hb hx
  obtain⟨sl',e2⟩:=slot b _ (neL b o e) hb (neC b o e hx) e1 (I.base.free b o e n hx)
  exact⟨sl',e2⟩
 ·obtain⟨o',e1⟩:=I.base.there b o e hx
  exact free b o' (neC b o e hx) e1 (I.base.free b o e n hx)
 ·obtain⟨o',e1⟩:=I.base.there b o e hx
  exact there b o' (neC b o e hx) e1
 ·obtain⟨m1,e1⟩:=I.base.oB b ps e
  obtain⟨m2,e2⟩:=oB b _ e1
  exact⟨m1++m2,by rw[e2,Array.append_assoc]⟩
 ·obtain⟨m,hn,hl⟩:=I.loc
  refine⟨m,ns m hn,fun i x v e1 e2 e3=>?_⟩
  obtain⟨u,r,l⟩:=hl i x v e1 e2 e3
  refine⟨u,r,?_⟩
  rcases l with l|⟨k,c,e,z⟩
  ·exact .inl l
  ·exact .inr ⟨k,c,e,cellK x c e _ z⟩
 ·obtain⟨v,z⟩:=I.cell x c e
  exact⟨v,cellK x c e v z⟩
 ·obtain⟨m,⟨o,_,_,ho,_⟩,_⟩:=I.loc
  exact free _ o (fun z=>(hch _ z).2.1 rfl) ho I.free
 ·obtain⟨v,o,ho,hd⟩:=I.cell x c e
  exact free c o (fun z=>(hch c z).2.2.1 x c e rfl) ho (I.jG x c e)
 ·obtain⟨e,n,ne,nf,d⟩:=I.pin p hp
  have nch:p.1∉ch:=fun z=>(hch p.1 z).2.2.2 p hp rfl
  exact⟨keep p.1 p.2 ne nf nch e n,free p.1 p.2 nch e n,ne,nf,d⟩
theorem Inv.un {t':Nat}(I:Inv X pins σ H s)(u:Un X.fs [] H H' s.heap h')(bH:fS X.prog X.w H' h'):Inv X pins σ H' { s with heap:=h',toks:=t' }:=by
 obtain⟨m,⟨o,es,ep,ho,r⟩,_⟩:=id I.loc
 obtain⟨sl,hL⟩:=u.any ho I.free (by simp)
 exact I.step (g':=s.gens) (d':=s.drawn) (ch:=[]) (fun _ z=>nomatch z) (fun b o _ hb _ e n=>u.keep b o e n hb (by simp)) (fun b o _ hb _ e n=>u.slot b o e n hb (by simp)) (fun b o _ e n=>u.free b o e n (by simp)) (fun b o _ e=>u.there b o e (by simp)) u.pX u.mB u.oB (fun m' hm=>by
 obtain⟨o',es',ep',ho',r'⟩:=hm
 rw[ho]at ho';cases ho'
 exact⟨_,es',ep',hL,r'⟩) bH I.bare
theorem Inv.call {g':Array GenState}{t':Nat}{d':Drawn}{ch:List Addr}(I:Inv X pins σ H s)(u:Un (sJ X.stack) ch H H' s.heap h')(bH:fS X.prog X.w H' h')(hg:AllBare g')
 (hch:∀ b∈ch,(b∈X.ex∨X.s₀.heap.objs.size<=b)/\b≠X.env.locals/\(∀ x c,X.env.cells.lookup x=some c->c≠b)/\∀ p∈X.pn++pins,p.1≠b):
 Inv X pins σ H' { s with heap:=h',gens:=g',drawn:=d',toks:=t' }:=by
 obtain⟨m,⟨o,es,ep,ho,r⟩,_⟩:=id I.loc
 obtain⟨sl,hL⟩:=u.any ho I.free fun z=>(hch _ z).2.1 rfl
 exact I.step (ch:=ch) hch (fun b o hL hb hc e n=>u.keep b o e n (fun z=>(List.mem_cons.mp (I.AI b z)).elim hL hb) hc) (fun b o _ _ hc e n=>u.any e n hc) (fun b o hc e n=>u.free b o e n hc) (fun b o hc e=>u.there b o e hc) u.pX u.mB u.oB (fun m' hm=>by
 obtain⟨o',es',ep',ho',r'⟩:=hm
 rw[ho]at ho';cases ho'
 exact⟨_,es',ep',hL,r'⟩) bH hg
theorem Inv.turned {t':Nat}{it:Addr}(I:Inv X pins σ H s)(k:∀ b o,b≠it->s.heap.get? b=some o->h'.get? b=some o)(hn:H it=none)(hL:it≠X.env.locals)
  (h1:it∈X.ex∨X.s₀.heap.objs.size<=it)(h2:∀ x c,X.env.cells.lookup x=some c->c≠it)(h3:∀ p∈X.pn++pins,p.1≠it):Inv X pins σ H { s with heap:=h',toks:=t' }:=by
 have nit:∀ b u,H b=some u->b≠it:=fun b u e z=>by rw[z,hn]at e;cases e
 refine I.step (g':=s.gens) (d':=s.drawn) (ch:=[it]) (fun b hb=>?_) (fun b o _ _ hc e _=>k b o (fun z=>hc (by simp [z])) e) (fun b o _ _ hc e _=>⟨o.slots,k b o (fun z=>hc (by simp [z])) e⟩) (fun _ _ _ _ n=>n)
  (fun b o hc e=>⟨o,k b o (fun z=>hc (by simp [z])) e⟩) (fun _ _ e=>e) (fun _ _ _ e=>e) (fun b ps e=>⟨#[],by rw[e];simp⟩) (fun m hm=>?_) (fun b u e=>?_) I.bare
 ·have e:b=it:=by simpa using hb
  subst e
  exact⟨h1,hL,h2,h3⟩
 ·obtain⟨o,es,ep,ho,r⟩:=hm
  exact⟨o,es,ep,k _ o (Ne.symm hL) ho,r⟩
 ·refine(I.bH b u e).nZ (fun c v hc q=>k c v ?_ q) (fun _ q=>q) fun _ _ q=>q
  rcases hc with z|z
  ·rw[z];exact nit b u e
  ·exact nit c _ z
theorem Inv.tok (I:Inv X pins σ H s)(t:Nat):Inv X pins σ H { s with toks:=t }:=I.un (h':=s.heap) (t':=t) Un.refl I.bH
theorem Inv.kept {t':Nat}(I:Inv X pins σ H s)(k:∀ b u,s.heap.get? b=some u->h'.get? b=some u):Inv X pins σ H { s with heap:=h',toks:=t' }:=I.un (Un.kept k) (I.bH.kept k)
theorem Inv.laid {a:Addr}{o:HO}{t':Nat}(I:Inv X pins σ H s)(k:∀ b u,s.heap.get? b=some u->h'.get? b=some u)(hp:s.heap.objs.size<=a)(new:iL X.prog X.w (upd H a o) h' a o):
 Inv X pins σ (upd H a o) { s with heap:=h',toks:=t' }:=I.un (Un.laid k hp (I.bH.fresh hp)) (I.bH.laid k hp new)
theorem Inv.write {x e:Addr}{o:HO}{t':Nat}(I:Inv X pins σ H s)(mu:RI (H x))(he:e=x∨H e=some (.own x))(k:∀ b u,b≠e->s.heap.get? b=some u->h'.get? b=some u)(heo:∃ u,h'.get? e=some u)
 (new:iL X.prog X.w (upd H x o) h' x o):Inv X pins σ (upd H x o) { s with heap:=h',toks:=t' }:=I.un (Un.write mu he k heo) (I.bH.write mu he k heo new)
theorem Inv.weak {σ':List (Option V)}(I:Inv X pins σ H s)(hl:σ'.length=σ.length)(w:∀(i:Nat) v,σ'[i]? = some (some v)->σ[i]? = some (some v)):Inv X pins σ' H s :=
 ⟨I.ok,I.os,I.bare,I.base,let⟨m,hn,hl'⟩:=I.loc;⟨m,hn,fun i x v e1 e2 e3=>hl' i x v e1 (w i v e2) e3⟩,I.cell,I.free,I.jG,I.pin,I.bH,hl.trans I.len⟩
theorem Inv.IP {pins':List (Addr×Obj)}(I:Inv X pins σ H s)(h:∀ p∈pins',s.heap.get? p.1=some p.2/\H p.1=none/\p.1≠X.env.locals/\p.1∉X.fs/\∀ v,p.2.data≠.cell v):Inv X pins' σ H s :=
 ⟨I.ok,I.os,I.bare,I.base,I.loc,I.cell,I.free,I.jG,fun p hp=>(List.mem_append.mp hp).elim (fun z=>I.pin p (List.mem_append_left _ z)) (h p),I.bH,I.len⟩
theorem FV {N:List Str}(hN:N.Nodup){i j:Nat}{x:Str}(a:N[i]? = some x)(b:N[j]? = some x):i=j:=by
 obtain⟨h1,e1⟩:=List.getElem?_eq_some_iff.mp a
 obtain⟨h2,e2⟩:=List.getElem?_eq_some_iff.mp b
 exact(List.getElem_inj hN).mp (e1.trans e2.symm)
theorem DC {M:Model}{A:Around}{E:Value->Shared->Prop}{i:Nat}{x:Str}{v:V}{u:Value}{Q:Unit->Shared->Prop}(I:Inv X pins σ H s)(hN:X.N.Nodup)(hi:X.N[i]? = some x)(hx:Loc X.env.scope x)(r:RelV v u)
  (h:∀ s',Inv X pins (σ.set i (some v)) H s'->(∃ a,Heap.SameBut a s.heap s'.heap/\(a=X.env.locals∨X.env.cells.lookup x=some a))->Q () s')(hf:X.fn x=true∨X.env.scope.names.lookup x=some .local:=by first|exact .inl rfl|exact .inr rfl|assumption):wpAny M A (storeName X.env x u) Q E s:=by
 obtain⟨m,hn,hl⟩:=id I.loc
 have hcls:(X.env.scope.kind == .class||(X.env.scope.kind == .module&&X.env.locals != X.env.globals))=false:=by rw[I.ok.kind];rfl
 have hiσ:i<σ.length:=by rw[I.len];exact(List.getElem?_eq_some_iff.mp hi).1
 have CS:=I.CS
 have tracked:∀{a:Addr}{h':Heap},(∃ o,s.heap.get? a=some o/\H a=none)->Heap.SameBut a s.heap h'->fS X.prog X.w H h':=fun{a h'} ha hs b ob e=>by
  obtain⟨_,_,hfree⟩:=ha
  refine(I.bH b ob e).nZ (fun c w' hc q=>(hs.2 c ?_).trans q) (fun _ q=>q) fun _ _ q=>q
  rintro rfl
  rcases hc with rfl|hc
  ·rw[hfree]at e;cases e
  ·rw[hfree]at hc;cases hc
 rcases hx with hk|hk
 ·refine wpAny_storeName_local hk hn (fun h' hn' hs=>?_) hcls
  obtain⟨oL,_,_,hoL,_⟩:=id hn
  refine h _ ⟨I.ok,I.os,I.bare,⟨fun b o e n hb hx=>?_,fun b o e n hb hx=>?_,I.base.free,fun b o e hx=>?_,I.base.pX,I.base.mB,I.base.oB⟩,⟨_,hn',fun j y v' e1 e2 e3=>?_⟩,fun y c e=>?_,I.free,I.jG,fun p hp=>?_,tracked ⟨oL,hoL,I.free⟩ hs,by simpa using I.len⟩ ⟨_,hs,.inl rfl⟩
  ·exact(hs.2 b (Nat.ne_of_lt (Nat.lt_of_lt_of_le (Heap.lt_size e) I.ok.above))).trans (I.base.keep b o e n hb hx)
  ·obtain⟨sl,e1⟩:=I.base.slot b o e n hb hx
   exact⟨sl,(hs.2 b (Nat.ne_of_lt (Nat.lt_of_lt_of_le (Heap.lt_size e) I.ok.above))).trans e1⟩
  ·obtain⟨o',e1⟩:=I.base.there b o e hx
   exact⟨o',(hs.2 b (Nat.ne_of_lt (Nat.lt_of_lt_of_le (Heap.lt_size e) I.ok.above))).trans e1⟩
  ·by_cases hj:j=i
   ·subst hj
    rw[hi]at e1;cases e1
    rw[List.getElem?_set_self hiσ]at e2
    cases e2
    exact⟨u,r,.inl ⟨hk,by simp⟩⟩
   ·rw[List.getElem?_set_ne (Ne.symm hj)]at e2
    obtain⟨u',r',q⟩:=hl j y v' e1 e2 e3
    refine⟨u',r',?_⟩
    rcases q with⟨k,e⟩|⟨k,c,e,z⟩
    ·refine .inl ⟨k,?_⟩
     have:y≠x:=fun e=>hj (FV hN e1 (e▸hi))
     simp [this,e]
    ·exact .inr ⟨k,c,e,z.sameBut hs (CS y c e)⟩
  ·obtain⟨w',z⟩:=I.cell y c e
   exact⟨w',z.sameBut hs (CS y c e)⟩
  ·obtain⟨e,n,ne,nf,d⟩:=I.pin p hp
   exact⟨(hs.2 p.1 ne).trans e,n,ne,nf,d⟩
 ·have hfn:X.fn x=true:=by
   rcases hf with z|z
   ·exact z
   ·rw[z]at hk;cases hk
  obtain⟨c,hc⟩:=I.ok.has x (.inl hk)
  obtain⟨w',z⟩:=I.cell x c hc
  refine wpAny_storeName_cell I.ok.kind hk hc z (fun h' hc' hs=>?_)
  obtain⟨oc,hoc,hocd⟩:=id z
  refine h { s with heap:=h' } ⟨I.ok,I.os,I.bare,⟨fun b o e n hb hx=>?_,fun b o e n hb hx=>?_,I.base.free,fun b o e hx=>?_,I.base.pX,I.base.mB,I.base.oB⟩,⟨m,hn.sameBut hs (Ne.symm (CS x c hc)),fun j y v' e1 e2 e3=>?_⟩,fun y c' e=>?_,I.free,I.jG,fun p hp=>?_,tracked ⟨oc,hoc,I.jG x c hc⟩ hs,by simpa using I.len⟩ ⟨c,hs,.inr hc⟩
  ·exact(hs.2 b (Nat.ne_of_lt (Nat.lt_of_lt_of_le (Heap.lt_size e) (I.ok.cab x c hfn hc)))).trans (I.base.keep b o e n hb hx)
  ·obtain⟨sl,e1⟩:=I.base.slot b o e n hb hx
   exact⟨sl,(hs.2 b (Nat.ne_of_lt (Nat.lt_of_lt_of_le (Heap.lt_size e) (I.ok.cab x c hfn hc)))).trans e1⟩
  ·obtain⟨o',e1⟩:=I.base.there b o e hx
   exact⟨o',(hs.2 b (Nat.ne_of_lt (Nat.lt_of_lt_of_le (Heap.lt_size e) (I.ok.cab x c hfn hc)))).trans e1⟩
  ·by_cases hj:j=i
   ·subst hj
    rw[hi]at e1;cases e1
    rw[List.getElem?_set_self hiσ]at e2
    cases e2
    exact⟨u,r,.inr ⟨.inl hk,c,hc,hc'⟩⟩
   ·rw[List.getElem?_set_ne (Ne.symm hj)]at e2
    obtain⟨u',r',q⟩:=hl j y v' e1 e2 e3
    refine⟨u',r',?_⟩
    rcases q with q|⟨k,c',e,z'⟩
    ·exact .inl q
    ·refine .inr ⟨k,c',e,z'.sameBut hs ?_⟩
     rintro rfl
     exact hj (FV hN e1 (I.ok.inj _ _ _ e hc▸hi))
  ·by_cases hcc:c'=c
   ·subst hcc;exact⟨_,hc'⟩
   ·obtain⟨w2,z2⟩:=I.cell y c' e
    exact⟨w2,z2.sameBut hs hcc⟩
  ·obtain⟨e,n,ne,nf,d⟩:=I.pin p hp
   refine⟨(hs.2 p.1 ?_).trans e,n,ne,nf,d⟩
   intro q
   rw[q,hoc]at e
   have q':oc=p.2:=Option.some.inj e
   exact d w' (by rw[<-q'];exact hocd)
theorem P2 {M:Model}{A:Around}{E:Value->Shared->Prop}{i:Nat}{x:Str}{v:V}{u:Value}{Q:Unit->Shared->Prop}(I:Inv X pins σ H s)(hN:X.N.Nodup)(hi:X.N[i]? = some x)(hx:Loc X.env.scope x)(r:RelV v u)
 (h:∀ s',Inv X pins (σ.set i (some v)) H s'->Q () s')(hf:X.fn x=true∨X.env.scope.names.lookup x=some .local:=by first|exact .inl rfl|exact .inr rfl|assumption):wpAny M A (storeName X.env x u) Q E s :=
 DC I hN hi hx r (fun s' I' _=>h s' I') hf
theorem Inv.RN {s':Shared}{ch:List Addr}(I:Inv X pins σ H s)(ho:s'.os=s.os)(u:Un (sJ X.stack) ch H H' s.heap s'.heap)(bH:fS X.prog X.w H' s'.heap)(hg:AllBare s'.gens)
 (hch:∀ b∈ch,(b∈X.ex∨X.s₀.heap.objs.size<=b)/\b≠X.env.locals/\(∀ x c,X.env.cells.lookup x=some c->c≠b)/\∀ p∈X.pn++pins,p.1≠b):Inv X pins σ H' s':=by
 obtain⟨h',g',d',t',o'⟩:=s'
 have e:o'=s.os:=ho
 subst e
 exact I.call (g':=g') (t':=t') (d':=d') u bH hg hch
end
noncomputable abbrev XK:=Value->Option Addr->Hp->Prop
noncomputable abbrev St:=List (Option V)
noncomputable abbrev VK:=V->Hp->Prop
noncomputable abbrev TE:=St->Hp->VK->Prop
noncomputable abbrev TT:=St->Hp->(Bool->Hp->Prop)->Prop
noncomputable abbrev TA:=St->Hp->(List V->Hp->Prop)->Prop
structure Ends where
 nx:St->Hp->Prop
 rt:VK
 bk:St->Hp->Prop:=fun _ _=>False
 ct:St->Hp->Prop:=fun _ _=>False
noncomputable abbrev TS:=Ends->St->Hp->Prop
inductive EP (X:Cx)(pins:List (Addr×Obj))(σ:St)(Q:VK)(u:Value)(s':Shared):Prop
 |mk (v:V)(H':Hp)(i:Inv X pins σ H' s')(r:RelV v u)(q:Q v H')
inductive TP (X:Cx)(pins:List (Addr×Obj))(σ:St)(Q:Bool->Hp->Prop)(b:Bool)(s':Shared):Prop
 |mk (H':Hp)(i:Inv X pins σ H' s')(q:Q b H')
inductive AP (X:Cx)(pins:List (Addr×Obj))(σ:St)(Q:List V->Hp->Prop)(us:List Value)(s':Shared):Prop
 |mk (vs:List V)(H':Hp)(i:Inv X pins σ H' s')(r:aO vs us)(q:Q vs H')
noncomputable def SP (X:Cx)(pins:List (Addr×Obj))(D:Ends)(f:Flow)(s':Shared):Prop :=
 match f with
 |.next=>∃ σ' H',Inv X pins σ' H' s'/\D.nx σ' H'
 |.brk=>∃ σ' H',Inv X pins σ' H' s'/\D.bk σ' H'
 |.cont=>∃ σ' H',Inv X pins σ' H' s'/\D.ct σ' H'
 |.ret u=>∃ v σ' H',Inv X pins σ' H' s'/\RelV v u/\D.rt v H'
noncomputable def PE (X:Cx)(e:Expr)(t:TE):Prop :=
 ∀(pins:List (Addr×Obj))(s:Shared)(σ:St)(H:Hp)(Q:VK),Inv X pins σ H s->t σ H Q->wpAny (model X.prog X.w) X.A (eval e X.env) (EP X pins σ Q) X.xe s
noncomputable def PT (X:Cx)(e:Expr)(t:TT):Prop :=
 ∀(pins:List (Addr×Obj))(s:Shared)(σ:St)(H:Hp)(Q:Bool->Hp->Prop),Inv X pins σ H s->t σ H Q->wpAny (model X.prog X.w) X.A (isTrue e X.env (eval e X.env)) (TP X pins σ Q) X.xe s
noncomputable def PW (X:Cx)(e:Expr)(t:TT):Prop :=
 ∀(whole:Sem Value)(pins:List (Addr×Obj))(s:Shared)(σ:St)(H:Hp)(Q:Bool->Hp->Prop),Inv X pins σ H s->t σ H Q->wpAny (model X.prog X.w) X.A (isTrue e X.env whole) (TP X pins σ Q) X.xe s
theorem PW.pt {X:Cx}{e:Expr}{t:TT}(h:PW X e t):PT X e t:=h _
noncomputable def PA (X:Cx)(es:List Expr)(t:TA):Prop :=
 ∀(pos:Pos)(pins:List (Addr×Obj))(s:Shared)(σ:St)(H:Hp)(Q:List V->Hp->Prop),Inv X pins σ H s->t σ H Q->wpAny (model X.prog X.w) X.A (spliced (backTo pos (starEach es X.env))) (AP X pins σ Q) X.xe s
noncomputable def PS (X:Cx)(st:Stmt)(t:TS):Prop :=
 ∀(pins:List (Addr×Obj))(s:Shared)(σ:St)(H:Hp)(D:Ends),Inv X pins σ H s->t D σ H->wpAny (model X.prog X.w) X.A (exec st X.env) (SP X pins D) X.xe s
noncomputable def jI (X:Cx)(st:List Stmt)(t:TS):Prop :=
 ∀(pins:List (Addr×Obj))(s:Shared)(σ:St)(H:Hp)(D:Ends),Inv X pins σ H s->t D σ H->wpAny (model X.prog X.w) X.A (execs st X.env) (SP X pins D) X.xe s
theorem aV {α:Type}{t:Sem α}{Q Q':α->Shared->Prop}{M:Model}{A:Around}{E:Value->Shared->Prop}{s:Shared}(h:wpAny M A t Q E s)(hQ:∀ a s,Q a s->Q' a s):wpAny M A t Q' E s:=wpAny_mono h hQ fun _ _ x=>x
end L2
namespace L2
open PySem PySem.Spec PyProof.Rows
section
variable {X:Cx}
theorem bin {a b:Expr}{ta tb:TE}(ha:PE X a ta)(hb:PE X b tb){pins:List (Addr×Obj)}{s:Shared}{σ:St}{H:Hp}{R:V->V->Hp->Prop}(I:Inv X pins σ H s)(h:ta σ H fun x H1=>tb σ H1 fun y H2=>R x y H2)
 {α:Type}{Q:α->Shared->Prop}{f:Value->Value->Sem α}
 (hf:∀ v u s2 x y H2,Inv X pins σ H2 s2->RelV x v->RelV y u->R x y H2->wpAny (model X.prog X.w) X.A (f v u) Q X.xe s2):
 wpAny (model X.prog X.w) X.A (eval a X.env) (fun v s₁=>wpAny (model X.prog X.w) X.A (eval b X.env) (fun u s₂=>wpAny (model X.prog X.w) X.A (f v u) Q X.xe s₂) X.xe s₁) X.xe s:=by
 refine aV (ha pins s σ H _ I h) fun v s1 ⟨x,H1,I1,r1,q1⟩=>?_
 refine aV (hb pins s1 σ H1 _ I1 q1) fun u s2 ⟨y,H2,I2,r2,q2⟩=>?_
 exact hf v u s2 x y H2 I2 r1 r2 q2
noncomputable def QP (i:Nat):TE:=fun σ H Q=>∃ v,σ[i]? = some (some v)/\Q v H
noncomputable def tC (v:V):TE:=fun _ H Q=>Q v H
theorem L0 {i:Nat}{x:Str}{pos:Pos}(hN:X.N[i]? = some x)(hv:RP X.env.scope x)(hd:(x==("__debug__" : Str))=false:=by decide)(hcd:(x==("__classdict__" : Str))=false:=by decide):PE X (.Name x pos) (QP i):=by
 intro pins s σ H Q I h
 obtain⟨v,e,h⟩:=h
 obtain⟨m,hn,hl⟩:=I.loc
 obtain⟨u,r,l⟩:=hl i x v hN e hv
 have fin:EP X pins σ Q u s:=⟨v,H,I,r,h⟩
 rcases l with⟨hk,hm⟩|⟨hk,c,hc,hcell⟩
 ·exact wpAny_Name (wpAny_loadName_local I.ok.kind hk hn hm fin) hd
 ·rcases hk with hk|hk
  ·exact wpAny_Name (wpAny_loadName_cell I.ok.kind hk hc hcell fin) hd
  ·exact wpAny_Name (wpAny_loadName_free I.ok.kind hk hc hcell fin hcd) hd
theorem W6 {i j pos}:PE X (.Constant (.int i) j pos) (tC (.int i)):=fun _ _ _ H _ I h=>wpAny_Constant_int ⟨.int i,H,I.tok _,⟨_,rfl⟩,h⟩
theorem Dz {b j pos}:PE X (.Constant (.bool b) j pos) (tC (.bl b)):=fun _ _ _ H _ I h=>Constant_bool ⟨.bl b,H,I,rfl,h⟩
theorem WU {j pos}:PE X (.Constant .none j pos) (tC .non):=fun _ _ _ H _ I h=>Constant_none ⟨.non,H,I,rfl,h⟩
theorem YV {x j pos}:PE X (.Constant (.str x) j pos) (tC (.str x)):=fun _ _ _ H _ I h=>Calls.Constant_str ⟨.str x,H,I.tok _,⟨_,rfl⟩,h⟩
noncomputable def Gl (X:Cx)(x:Str):Prop:=X.env.kindOf x=some .globalImplicit
theorem xR {E:Value->Shared->Prop}{pins:List (Addr×Obj)}{s:Shared}{σ:St}{H:Hp}{x:Str}{u:Value}{pos:Pos}{Q:Value->Shared->Prop}(I:Inv X pins σ H s)(hg:Gl X x)(hm:X.mg x=some u)(h:Q u s)
 (hd:(x==("__debug__" : Str))=false:=by decide):wpAny (model X.prog X.w) X.A (eval (.Name x pos) X.env) Q E s :=
 Calls.Name_function_global I.ok.kind hg (Calls.loadGlobal_global (by rw[I.ok.glob];exact I.mod.glob.keeps I.bk) hm h) hd
theorem lR {E:Value->Shared->Prop}{pins:List (Addr×Obj)}{s:Shared}{σ:St}{H:Hp}{x:Str}{u:Value}{pos:Pos}{Q:Value->Shared->Prop}(I:Inv X pins σ H s)(hg:Gl X x)(hm:X.mg x=none)(hv:bootBuiltins x=some u)(h:Q u s)
 (hn:x ≠"__name__":=by decide)(hd:(x==("__debug__" : Str))=false:=by decide):wpAny (model X.prog X.w) X.A (eval (.Name x pos) X.env) Q E s:=by
 obtain⟨mb,h1,h2⟩:=I.mod.blt
 exact Calls.Name_function_global I.ok.kind hg (Calls.loadGlobal_builtin (by rw[I.ok.glob];exact I.mod.glob.keeps I.bk) hm (by rw[I.ok.blt];exact h1.keeps I.bk) ((h2 x hn).trans hv) h) hd
theorem SY {x:Str}{v:V}{u:Value}{pos:Pos}(hg:Gl X x)(hm:X.mg x=some u)(r:RelV v u)(hd:(x==("__debug__" : Str))=false:=by decide):PE X (.Name x pos) (tC v) :=
 fun _ _ _ H _ I h=>xR I hg hm ⟨v,H,I,r,h⟩ hd
theorem SI {x:Str}{v:V}{u:Value}{pos:Pos}(hg:Gl X x)(hm:X.mg x=none)(hv:bootBuiltins x=some u)(r:RelV v u)(hn:x ≠"__name__":=by decide)(hd:(x==("__debug__" : Str))=false:=by decide):PE X (.Name x pos) (tC v) :=
 fun _ _ _ H _ I h=>lR I hg hm hv ⟨v,H,I,r,h⟩ hn hd
variable {a b:Expr}{ta tb:TE}{pos:Pos}
theorem RelV.PN {x:V}{v:Value}(r:RelV x v):(v==Value.none)=decide (x=.non):=by
 cases x with
 |non=>cases r;rfl
 |bl _=>cases r;rfl
 |int _=>obtain⟨t,rfl⟩:=r;rfl
 |str _=>obtain⟨t,rfl⟩:=r;rfl
 |byt _=>obtain⟨t,rfl⟩:=r;rfl
 |flt _=>obtain⟨t,rfl⟩:=r;rfl
 |ref _=>cases r;rfl
 |ty _=>cases r;rfl
variable {tA tB':TT}{rest:List Expr}
noncomputable def He (t u:TT):TT:=fun σ H Q=>t σ H fun c H1=>if c=true then u σ H1 Q else Q false H1
noncomputable def Jg (t u:TT):TT:=fun σ H Q=>t σ H fun c H1=>if c=true then Q true H1 else u σ H1 Q
noncomputable def Ft (t:TT):TT:=fun σ H Q=>t σ H fun c H1=>Q (!c) H1
theorem VB (ha:PT X a tA):PW X (.BoolOp .And [a] pos) tA:=by
 intro wh pins s σ H Q I h
 refine isTrue_and (aV (ha pins s σ H Q I h) fun c s1 e=>?_)
 cases c with
 |true=>exact isTrue_and_nil e
 |false=>exact e
theorem X3 (ha:PT X a tA):PW X (.BoolOp .Or [a] pos) tA:=by
 intro wh pins s σ H Q I h
 refine isTrue_or (aV (ha pins s σ H Q I h) fun c s1 e=>?_)
 cases c with
 |false=>exact isTrue_or_nil e
 |true=>exact e
theorem Y2 (ha:PT X a tA)(hb:PW X (.BoolOp .And (b::rest) pos) tB'):PW X (.BoolOp .And (a::b::rest) pos) (He tA tB'):=by
 intro wh pins s σ H Q I h
 refine isTrue_and (aV (ha pins s σ H _ I h) fun c s1 ⟨H1,I1,q1⟩=>?_)
 cases c with
 |true=>exact hb wh pins s1 σ H1 Q I1 q1
 |false=>exact⟨H1,I1,q1⟩
theorem Ek (ha:PT X a tA)(hb:PW X (.BoolOp .Or (b::rest) pos) tB'):PW X (.BoolOp .Or (a::b::rest) pos) (Jg tA tB'):=by
 intro wh pins s σ H Q I h
 refine isTrue_or (aV (ha pins s σ H _ I h) fun c s1 ⟨H1,I1,q1⟩=>?_)
 cases c with
 |true=>exact⟨H1,I1,q1⟩
 |false=>exact hb wh pins s1 σ H1 Q I1 q1
theorem XM (ha:PT X a tA):PT X (.UnaryOp .Not a pos) (Ft tA):=by
 intro pins s σ H Q I h
 exact isTrue_not (aV (ha pins s σ H (fun c H1=>Q (!c) H1) I h) fun c s1 ⟨H1,I1,q⟩=>⟨H1,I1,q⟩)
theorem YE {op}{t:TE}(h:PE X a t):PE X (.BoolOp op [a] pos) t:=fun pins s σ H Q I hw=>BoolOp_one (h pins s σ H Q I hw)
end
end L2
namespace L2
open PySem PySem.Spec PyProof.Rows
noncomputable def dR (K:PySem.W.Frag)(H:Hp)(a:Addr)(xs:List V):Prop :=
 Rd H a (.lst xs) ∨
 ∃(o:Obj)(aD:Array Value)(n:Nat),K.lookup a=some o/\o.cls=.type "list" /\ o.dict=none/\o.data=.seq aD n/\aD.size<=sizeLine/\aO xs aD.toList
noncomputable def dQ (K:PySem.W.Frag)(H:Hp)(a:Addr)(xs:List V):Prop :=
 Rd H a (.tup xs) ∨
 ∃(o:Obj)(aD:Array Value)(n:Nat),K.lookup a=some o/\o.cls=.type "tuple" /\ o.dict=none/\o.data=.seq aD n/\aD.size<=sizeLine/\aO xs aD.toList
noncomputable def Il:Value->Option V
 |.none=>some .non
 |.bool b=>some (.bl b)
 |.int i _=>some (.int i)
 |.str x _=>some (.str x)
 |.bytes b _=>some (.byt b)
 |.float b _=>some (.flt b)
 |.ref a=>some (.ref a)
 |.type n=>some (.ty n)
 |_=>none
theorem RelV.abs {x:V}{u:Value}(r:RelV x u):Il u=some x:=by
 cases x with
 |non=>cases r;rfl
 |bl _=>cases r;rfl
 |int _=>obtain⟨t,rfl⟩:=r;rfl
 |str _=>obtain⟨t,rfl⟩:=r;rfl
 |byt _=>obtain⟨t,rfl⟩:=r;rfl
 |flt _=>obtain⟨t,rfl⟩:=r;rfl
 |ref _=>cases r;rfl
 |ty _=>cases r;rfl
theorem RelV.inj {x y:V}{u:Value}(r:RelV x u)(q:RelV y u):x=y:=Option.some.inj (r.abs.symm.trans q.abs)
theorem aO.inj:∀{xs ys:List V}{us:List Value},aO xs us->aO ys us->xs=ys
 |_,_,_,.nil,.nil=>rfl
 |_,_,_,.cons r t,.cons r' t'=>by rw[r.inj r',aO.inj t t']
section
variable {X:Cx}{pins:List (Addr×Obj)}{σ:St}{H:Hp}{s:Shared}{a:Addr}{xs ys:List V}
theorem dR.of {K:PySem.W.Frag}(h:H a=some (.lst xs)):dR K H a xs:=.inl (.inl h)
theorem dQ.of {K:PySem.W.Frag}(h:H a=some (.tup xs)):dQ K H a xs:=.inl (.inl h)
theorem Inv.list (I:Inv X pins σ H s)(h:dR X.K H a xs):∃ aD:List Value,aO xs aD/\PlainL s.heap a aD.toArray/\xs.length<=sizeLine:=by
 rcases h with h|⟨o,aD,n,hk,hc,hd,hs,hz,r⟩
 ·obtain⟨z,aD,n,r,e⟩:=h.ok I.bH
  exact⟨aD,r,⟨_,n,e,rfl,rfl,rfl⟩,z⟩
 ·refine⟨aD.toList,r,⟨o,n,I.hU a o hk,hc,hd,by simpa using hs⟩,?_⟩
  have e:=r.length
  simp only[Array.length_toList]at e
  omega
theorem Inv.tuple (I:Inv X pins σ H s)(h:dQ X.K H a xs):∃ aD:List Value,aO xs aD/\IsTup s.heap a aD.toArray/\xs.length<=sizeLine:=by
 rcases h with h|⟨o,aD,n,hk,hc,_,hs,hz,r⟩
 ·obtain⟨z,aD,r,p⟩:=h.ok I.bH
  exact⟨aD,r,p.tup,z⟩
 ·refine⟨aD.toList,r,⟨o,I.hU a o hk,hc,n,by simpa using hs⟩,?_⟩
  have e:=r.length
  simp only[Array.length_toList]at e
  omega
theorem Inv.oV (I:Inv X pins σ H s)(h:dR X.K H a xs)(h':dR X.K H a ys):xs=ys:=by
 obtain⟨aD,r,⟨o,n,e,_,_,d⟩,_⟩:=I.list h
 obtain⟨kC,r',⟨o',n',e',_,_,d'⟩,_⟩:=I.list h'
 rw[e]at e';cases e'
 rw[d]at d'
 injection d' with d1 _
 have:aD=kC:=by simpa using congrArg Array.toList d1
 subst this
 exact r.inj r'
theorem Inv.Bd (I:Inv X pins σ H s)(h:dQ X.K H a xs):∃ o,s.heap.get? a=some o/\o.dict=none:=by
 rcases h with h|⟨o,aD,n,hk,hc,hd,hs,hz,r⟩
 ·obtain⟨z,aD,r,o,e,_,_,d⟩:=h.ok I.bH
  exact⟨o,e,d⟩
 ·exact⟨o,I.hU a o hk,hd⟩
theorem Inv.qO (I:Inv X pins σ H s)(h:dQ X.K H a xs)(h':dQ X.K H a ys):xs=ys:=by
 obtain⟨aD,r,⟨o,e,_,n,d⟩,_⟩:=I.tuple h
 obtain⟨kC,r',⟨o',e',_,n',d'⟩,_⟩:=I.tuple h'
 rw[e]at e';cases e'
 rw[d]at d'
 injection d' with d1 _
 have:aD=kC:=by simpa using congrArg Array.toList d1
 subst this
 exact r.inj r'
end
noncomputable abbrev Cx.rH (X:Cx)(E:Value->Shared->Prop):Cx:={ X with xe:=E }
noncomputable abbrev Cx.gT (X:Cx):Cx:=X.rH fun _ _=>False
theorem Cx.Ok.rH {X:Cx}(ok:X.Ok)(E:Value->Shared->Prop):(X.rH E).Ok :=
 ⟨ok.mod,ok.kind,ok.glob,ok.blt,ok.above,ok.inj,ok.has,ok.cab,ok.hd,ok.frames,ok.stk,ok.exf,ok.bs,ok.bsz,ok.noex,ok.exfs,ok.kB,ok.frf⟩
theorem Cx.Ok.mX {X:Cx}{E:Value->Shared->Prop}(ok:(X.rH E).Ok):X.Ok :=
 ⟨ok.mod,ok.kind,ok.glob,ok.blt,ok.above,ok.inj,ok.has,ok.cab,ok.hd,ok.frames,ok.stk,ok.exf,ok.bs,ok.bsz,ok.noex,ok.exfs,ok.kB,ok.frf⟩
section
variable {X:Cx}{pins:List (Addr×Obj)}{σ:St}{H:Hp}{s:Shared}{E:Value->Shared->Prop}
theorem Inv.rH (I:Inv X pins σ H s)(E:Value->Shared->Prop):Inv (X.rH E) pins σ H s:=⟨I.ok.rH E,I.os,I.bare,I.base,I.loc,I.cell,I.free,I.jG,I.pin,I.bH,I.len⟩
theorem Inv.mX (I:Inv (X.rH E) pins σ H s):Inv X pins σ H s:=⟨I.ok.mX,I.os,I.bare,I.base,I.loc,I.cell,I.free,I.jG,I.pin,I.bH,I.len⟩
theorem SP.mX {D:Ends}{f:Flow}{s':Shared}(h:SP (X.rH E) pins D f s'):SP X pins D f s':=by
 cases f with
 |next=>obtain⟨σ',H',I,q⟩:=h;exact⟨σ',H',I.mX,q⟩
 |brk=>obtain⟨σ',H',I,q⟩:=h;exact⟨σ',H',I.mX,q⟩
 |cont=>obtain⟨σ',H',I,q⟩:=h;exact⟨σ',H',I.mX,q⟩
 |ret u=>obtain⟨v,σ',H',I,r,q⟩:=h;exact⟨v,σ',H',I.mX,r,q⟩
theorem jI.gT {st:List Stmt}{t:TS}(h:jI X.gT st t):jI X st t:=fun pins s σ H D I hw =>
 wpAny_mono (h pins s σ H D (I.rH _) hw) (fun _ _ q=>q.mX) fun _ _ z=>False.elim z
end
section
variable {X:Cx}{st:Stmt}{rest:List Stmt}{t u:TS}{e:Expr}{te:TE}{pos:Pos}
noncomputable def Cq:TS:=fun D σ H=>D.nx σ H
noncomputable def Gj (t u:TS):TS:=fun D σ H=>t { D with nx:=u D } σ H
theorem TJ:jI X [] Cq:=fun _ _ σ H _ I h=>wpAny_execs_nil ⟨σ,H,I,h⟩
theorem PU (h1:PS X st t)(h2:jI X rest u):jI X (st::rest) (Gj t u):=by
 intro pins s σ H D I h
 refine wpAny_execs_cons (aV (h1 pins s σ H { D with nx:=u D } I h) fun f s1 q=>?_)
 cases f with
 |next =>
 obtain⟨σ',H',I',q⟩:=q
 exact h2 pins s1 σ' H' D I' q
 |ret v=>exact q
 |brk=>exact q
 |cont=>exact q
theorem Inv.quiet {pins:List (Addr×Obj)}{σ:St}{H:Hp}{s:Shared}(I:Inv X pins σ H s):interactive X.env=false:=by simp [interactive,I.ok.kind]
noncomputable def Dt (te:TE):TS:=fun D σ H=>te σ H fun _ H1=>D.nx σ H1
theorem SJ (he:PE X e te)(hs:swapsWith e none pos.line X.env=pure false:=by rfl):PS X (.Expr e pos) (Dt te):=by
 intro pins s σ H D I h
 exact wpAny_Expr_any (aV (he pins s σ H _ I h) fun v s1 ⟨x,H1,I1,r1,q1⟩=>⟨σ,H1,I1,q1⟩) I.quiet hs
noncomputable def Hf (te:TE):TS:=fun D σ H=>te σ H D.rt
theorem ZI (he:PE X e te):PS X (.Return (some e) pos) (Hf te):=by
 intro pins s σ H D I h
 exact wpAny_Return_some (aV (he pins s σ H _ I h) fun v s1 ⟨x,H1,I1,r1,q1⟩=>⟨x,σ,H1,I1,r1,q1⟩)
noncomputable def Dc:TS:=fun D _ H=>D.rt .non H
theorem VM:PS X (.Return none pos) Dc:=fun _ _ σ H _ I h=>wpAny_Return_none ⟨.non,σ,H,I,rfl,h⟩
noncomputable def Ih (c:TT)(t u:TS):TS:=fun D σ H=>c σ H fun b H1=>if b=true then t D σ H1 else u D σ H1
theorem Er {c:Expr}{a b:List Stmt}{tc:TT}(hc:PT X c tc)(ha:jI X a t)(hb:jI X b u):PS X (.If c a b pos) (Ih tc t u):=by
 intro pins s σ H D I h
 refine wpAny_If (aV (hc pins s σ H _ I h) fun d s1 ⟨H1,I1,q1⟩=>?_)
 cases d with
 |true=>exact ha pins s1 σ H1 D I1 q1
 |false=>exact hb pins s1 σ H1 D I1 q1
noncomputable def W8:TS:=fun _ _ _=>False
theorem QT:PS X st W8:=fun _ _ _ _ _ _ h=>h.elim
end
noncomputable abbrev TG:=V->St->Hp->(St->Hp->Prop)->Prop
noncomputable abbrev DT:=List V->St->Hp->(St->Hp->Prop)->Prop
noncomputable def PG (X:Cx)(target:Expr)(t:TG):Prop :=
 ∀(pins:List (Addr×Obj))(s:Shared)(σ:St)(H:Hp)(v:V)(u:Value)(Q:St->Hp->Prop),Inv X pins σ H s->RelV v u->t v σ H Q ->
 wpAny (model X.prog X.w) X.A (assign target X.env u) (fun _ s'=>∃ σ' H',Inv X pins σ' H' s'/\Q σ' H') X.xe s
noncomputable def A7 (X:Cx)(ts:List Expr)(t:DT):Prop :=
 ∀(pins:List (Addr×Obj))(s:Shared)(σ:St)(H:Hp)(vs:List V)(us:List Value)(Q:St->Hp->Prop),Inv X pins σ H s->aO vs us->t vs σ H Q ->
 wpAny (model X.prog X.w) X.A (assignInOrder ((assignEach ts X.env).map (·.2)) us) (fun _ s'=>∃ σ' H',Inv X pins σ' H' s'/\Q σ' H') X.xe s
noncomputable abbrev QC:=V->V->V->Hp->(Hp->Prop)->Prop
noncomputable def WN (X:Cx)(t:QC):Prop :=
 ∀(pins:List (Addr×Obj))(s:Shared)(σ:St)(H:Hp)(o i v:V)(ov iv u:Value)(Q:Hp->Prop),Inv X pins σ H s->RelV o ov->RelV i iv->RelV v u->t o i v H Q ->
 wpAny (model X.prog X.w) X.A (setItem ov iv u) (fun _ s'=>∃ H',Inv X pins σ H' s'/\Q H') X.xe s
section
variable {X:Cx}{pos:Pos}
noncomputable def zY (i:Nat):TG:=fun v σ H Q=>Q (σ.set i (some v)) H
theorem xN {i:Nat}{x:Str}(hN:X.N.Nodup)(hi:X.N[i]? = some x)(hx:Loc X.env.scope x)(hf:X.fn x=true∨X.env.scope.names.lookup x=some .local:=by first|exact .inl rfl|exact .inr rfl|assumption):PG X (.Name x pos) (zY i):=by
 intro pins s σ H v u Q I r h
 exact wpAny_assign_Name (P2 I hN hi hx r (fun s' I'=>⟨_,H,I',h⟩) hf)
noncomputable def Gg:DT:=fun vs σ H Q=>vs=[]/\Q σ H
noncomputable def Dr (t:TG)(u:DT):DT:=fun vs σ H Q=>∃ v r,vs=v::r/\t v σ H fun σ' H'=>u r σ' H' Q
theorem TR:A7 X [] Gg:=by
 intro pins s σ H vs us Q I r h
 obtain⟨e,h⟩:=h
 subst e
 cases r
 exact assignInOrder_nil ⟨σ,H,I,h⟩
theorem P7 {e:Expr}{es:List Expr}{t:TG}{u:DT}(h1:PG X e t)(h2:A7 X es u)
 (hs:(assignEach (e::es) X.env).map (·.2)=assign e X.env::(assignEach es X.env).map (·.2):=by rfl):A7 X (e::es) (Dr t u):=by
 intro pins s σ H vs us Q I r h
 obtain⟨v,vr,e1,h⟩:=h
 subst e1
 cases r with
 |cons r rr =>
 rw[hs]
 refine assignInOrder_cons (aV (h1 pins s σ H _ _ _ I r h) fun _ s1 ⟨σ1,H1,I1,q1⟩=>?_)
 exact h2 pins s1 σ1 H1 _ _ Q I1 rr q1
noncomputable def WR (K:PySem.W.Frag)(n:Nat)(t:DT):TG:=fun v σ H Q=>∃ a xs,v=.ref a/\dQ K H a xs/\xs.length=n/\t xs σ H Q
theorem ZR {es:List Expr}{k:Nat}{t:DT}{n:Nat}(hc:X.calm=true)(h:A7 X es t)
 (hn:(assignEach es X.env).length=n:=by rfl)(dZ:(assignEach es X.env).findIdx? (·.1)=none:=by rfl):PG X (.Tuple es k pos) (WR X.K n t):=by
 intro pins s σ H v u Q I r hw
 obtain⟨a,xs,e1,hq,hl,hw⟩:=hw
 subst e1
 cases r
 obtain⟨aD,rv,ht,hz⟩:=I.tuple hq
 refine assign_Tuple_tuple (I.ok.hd hc) ht (by simp [hn,<-hl,rv.length]) dZ fun h' hx=>?_
 have I1:Inv X pins σ H { s with heap:=h' }:=I.kept (t':=s.toks) fun b o e=>hx b o (Nat.ne_of_lt (Heap.lt_size e)) e
 exact h pins _ σ H xs _ Q I1 (by simpa using rv) hw
noncomputable def Gd (to ti:TE)(t:QC):TG:=fun v σ H Q=>to σ H fun o H1=>ti σ H1 fun i H2=>t o i v H2 fun H3=>Q σ H3
theorem WW {o i:Expr}{to ti:TE}{t:QC}(ho:PE X o to)(hi:PE X i ti)(hs:WN X t)
 (ha:∀ v,assign (.Subscript o i pos) X.env v=(do
  let ov <-holding [v] (eval o X.env)
  let iv <-holding [v,ov] (eval i X.env)
  standAt pos
  holding [v,ov,iv] (setItem ov iv v)
  release [v,ov,iv] []):=by intro _;rfl):PG X (.Subscript o i pos) (Gd to ti t):=by
 intro pins s σ H v u Q I r h
 rw[ha]
 refine wpAny_bind (wpAny_holding (aV (ho pins s σ H _ I h) fun ov s1 ⟨x,H1,I1,r1,q1⟩=>?_))
 refine wpAny_bind (wpAny_holding (aV (hi pins s1 σ H1 _ I1 q1) fun iv s2 ⟨y,H2,I2,r2,q2⟩=>?_))
 refine wpAny_bind (wpAny_standAt (wpAny_bind (wpAny_holding (aV (hs pins s2 σ H2 x y v ov iv u _ I2 r1 r2 r q2) fun _ s3 ⟨H3,I3,q3⟩=>?_))))
 exact wpAny_release ⟨σ,H3,I3,q3⟩
noncomputable def Fw (te:TE)(g:TG):TS:=fun D σ H=>te σ H fun x H1=>g x σ H1 D.nx
theorem ZS {tg e:Expr}{te:TE}{g:TG}(he:PE X e te)(hg:PG X tg g)(hs:swapsWithSole [tg] e pos.line X.env=pure false:=by rfl)(hw:swappedStores [tg] e X.env=pure none:=by rfl)
 (h1:(assignEach [tg] X.env).map (·.2)=[assign tg X.env]:=by rfl):PS X (.Assign [tg] e pos) (Fw te g):=by
 intro pins s σ H D I h
 refine wpAny_Assign_stores (aV (he pins s σ H _ I h) fun v s1 ⟨x,H1,I1,r1,q1⟩=>?_) hs hw
 rw[h1]
 exact aV (hg pins s1 σ H1 x v _ I1 r1 q1) fun _ s2 q=>q
end
section
variable {X:Cx}{pos:Pos}
noncomputable def WG (c:TT)(tb:TS):TS:=fun D σ H=>∃ W:Nat->St->Hp->Prop,(∃ m,W m σ H)/\∀ m σ H,W m σ H ->
 c σ H fun b H1=>if b=true then ∃ N:St->Hp->Prop,(∀ σ' H',N σ' H'->∃ m',m'<m/\W m' σ' H')/\tb { D with nx:=N,ct:=N,bk:=D.nx } σ H1 else D.nx σ H1
theorem QS {c:Expr}{body:List Stmt}{tc:TT}{tb:TS}(hp:PassesOwn (model X.prog X.w) X.A X.env X.xe)(hc:PT X c tc)(hb:jI X body tb):PS X (.While c body [] pos) (WG tc tb):=by
 intro pins s σ H D I h
 obtain⟨W,⟨m0,w0⟩,turn⟩:=h
 refine wpAny_While (codeAny_whileLoop (fun n s'=>∃ σ' H',Inv X pins σ' H' s'/\W n σ' H') ?_ m0 ⟨σ,H,I,w0⟩)
 rintro n s1 ⟨σ1,H1,I1,w1⟩
 refine wpAny_passesOwn hp (aV (hc pins s1 σ1 H1 _ I1 (turn n σ1 H1 w1)) fun b s2 ⟨H2,I2,q2⟩=>?_)
 cases b with
 |true =>
  obtain⟨N,hN,q2⟩:=q2
  rw[if_pos rfl]
  refine wpAny_passesOwn hp (aV (hb pins s2 σ1 H2 _ I2 q2) fun f s3 q3=>?_)
  cases f with
  |next =>
   obtain⟨σ3,H3,I3,n3⟩:=q3
   obtain⟨m',hm,w3⟩:=hN σ3 H3 n3
   exact⟨m',hm,σ3,H3,I3,w3⟩
  |cont =>
   obtain⟨σ3,H3,I3,n3⟩:=q3
   obtain⟨m',hm,w3⟩:=hN σ3 H3 n3
   exact⟨m',hm,σ3,H3,I3,w3⟩
  |brk=>exact q3
  |ret v=>exact q3
 |false =>
  rw[if_neg Bool.false_ne_true]
  exact wpAny_execs_nil ⟨σ1,H2,I2,q2⟩
end
structure It where
 go:Nat->Hp->Prop
 yld:Nat->Hp->V->Hp->Prop
 stop:Nat->Hp->Prop
noncomputable def lY (X:Cx)(pins:List (Addr×Obj))(H:Hp)(b:Addr):Prop :=
 H b=none/\b≠X.env.locals/\b∉X.fs/\(b∈X.ex∨X.s₀.heap.objs.size<=b)/\(∀ x c,X.env.cells.lookup x=some c->c≠b)/\∀ p∈X.pn++pins,p.1≠b
theorem Inv.GP {X:Cx}{pins:List (Addr×Obj)}{σ:St}{H H':Hp}{s:Shared}{b:Addr}(I:Inv X pins σ H s)(hb:s.heap.objs.size<=b)(hn:H' b=none):lY X pins H' b:=by
 refine⟨hn,Nat.ne_of_gt (Nat.lt_of_lt_of_le I.lt hb),I.VW hb,.inr (Nat.le_trans I.sz hb),fun x c e z=>?_,fun p hp z=>?_⟩
 ·obtain⟨v,q⟩:=I.cell x c e
  exact absurd (Nat.lt_of_lt_of_le q.lt (by rw[z];exact hb)) (Nat.lt_irrefl _)
 ·exact absurd (Nat.lt_of_lt_of_le (Heap.lt_size (I.pin p hp).1) (by rw[z];exact hb)) (Nat.lt_irrefl _)
structure Turn (P:Program)(w:World)(K:PySem.W.Frag)(tg:Expr)(J:It)(fp:List Addr)(it:Addr)(tn:Nat->Heap->Prop):Prop where
 mem:it∈fp
 obj:∀ i h,tn i h->∀ b∈fp,∃ o,h.get? b=some o/\∀ v,o.data≠.cell v
 keep:∀ i h h',tn i h->(∀ b∈fp,∀ o,h.get? b=some o->h'.get? b=some o)->tn i h'
 item:∀(X:Cx),X.prog=P->X.w=w->X.K=K->X.calm=true->∀(i:Nat)(pins:List (Addr×Obj))(s:Shared)(σ:St)(H:Hp)(E:Value->Shared->Prop),Inv X pins σ H s->(∀ b∈fp,lY X pins H b)->tn i s.heap->J.go i H ->
 wpAny (model P w) X.A (pyNext (.ref it)) (fun r s1=>∃ u,r=some u /\
  wpAny (model P w) X.A (letOwnedTupleGo tg (.ref it) u) (fun _ s2=>∃ x H',Inv X pins σ H' s2/\RelV x u/\J.yld i H x H'/\tn (i+1) s2.heap/\∀ b∈fp,H' b=none) E s1) E s
 done:∀(X:Cx),X.prog=P->X.w=w->X.K=K->X.calm=true->∀(i:Nat)(pins:List (Addr×Obj))(s:Shared)(σ:St)(H:Hp)(E:Value->Shared->Prop),Inv X pins σ H s->(∀ b∈fp,lY X pins H b)->tn i s.heap->J.stop i H ->
 wpAny (model P w) X.A (pyNext (.ref it)) (fun r s1=>r=none/\Inv X pins σ H s1) E s
 self:∀(A:Around)(i:Nat)(s:Shared)(Q:Value->Shared->Prop)(E:Value->Shared->Prop),tn i s.heap->Q (.ref it) s->wpAny (model P w) A (pyIter (.ref it)) Q E s
noncomputable abbrev TI:=St->Hp->(It->Hp->Prop)->Prop
noncomputable def N1 (X:Cx)(pins:List (Addr×Obj))(σ:St)(tg:Expr)(R:It->Hp->Prop)(itv:Value)(s2:Shared):Prop :=
 ∃(it:Addr)(fp:List Addr)(tn:Nat->Heap->Prop)(J:It)(H':Hp),itv=.ref it/\Inv X pins σ H' s2/\Turn X.prog X.w X.K tg J fp it tn/\tn 0 s2.heap/\(∀ b∈fp,lY X pins H' b)/\R J H'
noncomputable def PI (X:Cx)(tg iter:Expr)(wi:TI):Prop :=
 ∀(pins:List (Addr×Obj))(s:Shared)(σ:St)(H:Hp)(R:It->Hp->Prop),Inv X pins σ H s->wi σ H R ->
 wpAny (model X.prog X.w) X.A (eval iter X.env) (fun v s1=>wpAny (model X.prog X.w) X.A (pyIter v) (N1 X pins σ tg R) X.xe s1) X.xe s
theorem AD {M:Model}{A:Around}{E:Value->Shared->Prop}{s:Shared}{tg:Expr}{it:Addr}{u:Value}{o:Obj}{n:String}{vs:Array Value}{Q:Unit->Shared->Prop}(ho:s.heap.get? it=some o)(hc:o.cls=.type n)(hd:o.data=.fields vs)
    (hn:["enumerate","zip","dict_itemiterator","dict_reverseitemiterator","odict_iterator","itertools.zip_longest","itertools.pairwise"].contains n=false)(hQ:Q () s):wpAny M A (letOwnedTupleGo tg (.ref it) u) Q E s:=by
  unfold letOwnedTupleGo
  cases tg<;>first
    |exact wpAny_pure hQ
    |(cases u<;>first
        |exact wpAny_pure hQ
        | (refine wpAny_bind (wpAny_load ho ?_)
           rw[hc,hd]
           show wpAny M A (if(["enumerate","zip","dict_itemiterator","dict_reverseitemiterator","odict_iterator","itertools.zip_longest","itertools.pairwise"].contains n&&vs[0]? == some (rawInt _))=true then _ else _) Q E s
           rw[if_neg (by intro h;rw[hn,Bool.false_and]at h;cases h)]
           exact wpAny_pure hQ))
noncomputable def RT (K:PySem.W.Frag)(a:Addr):It :=
 ⟨fun i H=>∃ xs x,dR K H a xs/\xs[i]? = some x,fun i H x H'=>H'=H/\∀ xs,dR K H a xs->xs[i]? = some x,fun i H=>∃ xs,dR K H a xs/\xs.length<=i⟩
noncomputable def XN (K:PySem.W.Frag)(a:Addr):It :=
 ⟨fun i H=>∃ xs x,dQ K H a xs/\xs[i]? = some x,fun i H x H'=>H'=H/\∀ xs,dQ K H a xs->xs[i]? = some x,fun i H=>∃ xs,dQ K H a xs/\xs.length<=i⟩
noncomputable def RK (lo:Int)(n:Nat):It:=⟨fun i _=>i<n,fun i H x H'=>H'=H/\x=.int (lo+i),fun i _=>n<=i⟩
theorem OG {P:Program}{w:World}{K:PySem.W.Frag}{tg:Expr}(a it:Addr):Turn P w K tg (RT K a) [it] it (fun i h=>h.IsListIter it a i) where
 mem:=by simp
 obj:=fun i h st b hb=>by
  have e:b=it:=by simpa using hb
  subst e
  obtain⟨o,e,c,d⟩:=st
  exact⟨o,e,fun v z=>by rw[d]at z;cases z⟩
 keep:=fun i h h' st k=>st.at fun o e=>k it (by simp) o e
 item:=by
  intro X hP hw hK hc i pins s σ H E I hf st hg
  subst hP hw hK
  obtain⟨xs,x,hq,hx⟩:=hg
  obtain⟨aD,rv,p,hz⟩:=I.list hq
  obtain⟨u,hu,ru⟩:=rv.get hx
  obtain⟨f0,f1,f2,f3,f4,f5⟩:=hf it (by simp)
  refine wpAny_pyNext_list_item st p.isList (x:=u) (by simpa using hu) fun h' aB sb=>?_
  have I1:Inv X pins σ H { s with heap:=h' }:=I.turned (t':=s.toks) (fun b o hb e=>(sb.2 b hb).trans e) f0 f1 f3 f4 f5
  obtain⟨o,e,c,d⟩:=id aB
  exact⟨u,rfl,AD (s:={ s with heap:=h' }) e c d (by decide) ⟨x,H,I1,ru,⟨rfl,fun ys hy=>by rw[I.oV hy hq];exact hx⟩,aB,fun b hb=>(hf b hb).1⟩⟩
 done:=by
  intro X hP hw hK hc i pins s σ H E I hf st hg
  subst hP hw hK
  obtain⟨xs,hq,hx⟩:=hg
  obtain⟨aD,rv,p,hz⟩:=I.list hq
  obtain⟨f0,f1,f2,f3,f4,f5⟩:=hf it (by simp)
  have hl:=rv.length
  exact wpAny_pyNext_list_end (I.ok.hd hc) st p.isList (by simp;omega) fun h' eb=>⟨rfl,I.turned (t':=s.toks) (fun b o hb e=>eb b o hb e) f0 f1 f3 f4 f5⟩
 self:=fun _ _ _ _ _ st h=>wpAny_pyIter_listiter st h
theorem KY {P:Program}{w:World}{K:PySem.W.Frag}{tg:Expr}(a it:Addr):Turn P w K tg (XN K a) [it] it (fun i h=>h.IsTupleIter it a i) where
 mem:=by simp
 obj:=fun i h st b hb=>by
  have e:b=it:=by simpa using hb
  subst e
  obtain⟨o,e,c,d⟩:=st
  exact⟨o,e,fun v z=>by rw[d]at z;cases z⟩
 keep:=fun i h h' st k=>st.at fun o e=>k it (by simp) o e
 item:=by
  intro X hP hw hK hc i pins s σ H E I hf st hg
  subst hP hw hK
  obtain⟨xs,x,hq,hx⟩:=hg
  obtain⟨aD,rv,p,hz⟩:=I.tuple hq
  obtain⟨u,hu,ru⟩:=rv.get hx
  obtain⟨f0,f1,f2,f3,f4,f5⟩:=hf it (by simp)
  refine wpAny_pyNext_tuple_item st (show s.heap.IsTuple a aD.toArray from p) (x:=u) (by simpa using hu) fun h' aB sb=>?_
  have I1:Inv X pins σ H { s with heap:=h' }:=I.turned (t':=s.toks) (fun b o hb e=>(sb.2 b hb).trans e) f0 f1 f3 f4 f5
  obtain⟨o,e,c,d⟩:=id aB
  exact⟨u,rfl,AD (s:={ s with heap:=h' }) e c d (by decide) ⟨x,H,I1,ru,⟨rfl,fun ys hy=>by rw[I.qO hy hq];exact hx⟩,aB,fun b hb=>(hf b hb).1⟩⟩
 done:=by
  intro X hP hw hK hc i pins s σ H E I hf st hg
  subst hP hw hK
  obtain⟨xs,hq,hx⟩:=hg
  obtain⟨aD,rv,p,hz⟩:=I.tuple hq
  obtain⟨f0,f1,f2,f3,f4,f5⟩:=hf it (by simp)
  have hl:=rv.length
  exact wpAny_pyNext_tuple_end (I.ok.hd hc) st (show s.heap.IsTuple a aD.toArray from p) (by simp;omega) fun h' eb=>⟨rfl,I.turned (t':=s.toks) (fun b o hb e=>eb b o hb e) f0 f1 f3 f4 f5⟩
 self:=fun _ _ _ _ _ st h=>wpAny_pyIter_tupleiter st h
theorem KZ {P:Program}{w:World}{K:PySem.W.Frag}{tg:Expr}(it:Addr)(lo:Int)(n:Nat):Turn P w K tg (RK lo n) [it] it (fun i h=>IsRangeIter h it (lo+(i:Nat)*1) ((n:Int)-(i:Nat)) 1) where
 mem:=by simp
 obj:=fun i h st b hb=>by
  have e:b=it:=by simpa using hb
  subst e
  exact⟨_,st,fun v z=>by
   have z':Data.fields _=Data.cell v:=z
   cases z'⟩
 keep:=fun i h h' st k=>k it (by simp) _ st
 item:=by
  intro X hP hw hK hc i pins s σ H E I hf st hg
  subst hP hw hK
  obtain⟨f0,f1,f2,f3,f4,f5⟩:=hf it (by simp)
  have W:=Walks.range (prog:=X.prog) (w:=X.w) (I.ok.hd hc) it lo 1 n
  refine W.item i s _ _ hg st fun v h' tk hv aB kk=>?_
  obtain⟨t,rfl⟩:=hv
  have I1:Inv X pins σ H { s with heap:=h',toks:=tk }:=I.turned (fun b o hb e=>kk b o (by simpa using hb) e) f0 f1 f3 f4 f5
  refine⟨_,rfl,AD (s:={ s with heap:=h',toks:=tk }) (n :="range_iterator") aB rfl rfl (by decide) ⟨.int (lo+i),H,I1,⟨t,?_⟩,⟨rfl,rfl⟩,aB,fun b hb=>(hf b hb).1⟩⟩
  rw[Int.mul_one]
 done:=by
  intro X hP hw hK hc i pins s σ H E I hf st hg
  subst hP hw hK
  obtain⟨f0,f1,f2,f3,f4,f5⟩:=hf it (by simp)
  exact wpAny_pyNext_range_end (I.ok.hd hc) st (by have:n<=i:=hg;omega) fun h' eb=>⟨rfl,I.turned (t':=s.toks) (fun b o hb e=>eb b o hb e) f0 f1 f3 f4 f5⟩
 self:=fun _ _ _ _ _ st h=>wpAny_pyIter_rangeiter st h
end L2
namespace L2
open PySem PySem.Spec PyProof.Rows
section
variable {X:Cx}{tg:Expr}
theorem O8 {pins:List (Addr×Obj)}{σ:St}{H:Hp}{s:Shared}{R:It->Hp->Prop}{E:Value->Shared->Prop}{lo hi:Int}{t u v:Tok}{tk:Nat}(I:Inv X pins σ H s) (h1 : -(2 ^ 62)<=lo)(h2:lo<2 ^ 62) (h3 : -(2 ^ 62)<=hi)(h4:hi<2 ^ 62)
  (q:R (RK lo (hi-lo).toNat) H):wpAny (model X.prog X.w) X.A (pyIter (.ref s.heap.objs.size)) (N1 X pins σ tg R) E { s with heap:=s.heap.push { cls:=.type "range", data:=.fields #[.int lo t,.int hi u,.int 1 v] },toks:=tk }:=by
 refine wpAny_pyIter_range (IsRange.new ..) (small_one h1 h2 h3 h4) ?_
 have I1:Inv X pins σ H { s with heap:=s.heap.push { cls:=.type "range", data:=.fields #[.int lo t,.int hi u,.int 1 v] },toks:=tk }:=I.kept fun b o e=>Heap.get?_push_of_some _ e
 refine⟨(s.heap.push { cls:=.type "range", data:=.fields #[.int lo t,.int hi u,.int 1 v] }).objs.size,[(s.heap.push { cls:=.type "range", data:=.fields #[.int lo t,.int hi u,.int 1 v] }).objs.size],_,_,H,rfl,
  I1.kept (t':=tk) fun b o e=>Heap.get?_push_of_some _ e,KZ _ lo (hi-lo).toNat,?_,fun b hb=>?_,q⟩
 ·have e1:lo+((0:Nat):Int)*1=lo:=by simp
  have e2:(((hi-lo).toNat:Nat):Int)-((0:Nat):Int)=Builtin.Range.rangeSize lo hi 1:=by rw[rangeSize_one];split<;>omega
  show IsRangeIter _ _ (lo+((0:Nat):Int)*1) ((((hi-lo).toNat:Nat):Int)-((0:Nat):Int)) 1
  rw[e1,e2]
  exact Heap.get?_push_size _ rfl
 ·have e:b=(s.heap.push { cls:=.type "range", data:=.fields #[.int lo t,.int hi u,.int 1 v] }).objs.size:=by simpa using hb
  subst e
  exact I1.GP (Nat.le_refl _) (I1.bH.fresh (Nat.le_refl _))
noncomputable def Cn (ta:TA):TI:=fun σ H R=>ta σ H fun vs H1=>∃ j:Int,vs=[.int j]/\-(2 ^ 62)<=j/\j<2 ^ 62/\R (RK 0 j.toNat) H1
theorem OB {a:Expr}{ta:TA}{p pos:Pos}(hg:Gl X "range")(hm:X.mg "range" = none)(ha:PA X [a] ta)(hs:starEach [a] X.env=[(false,eval a X.env)]:=by rfl):PI X tg (.Call (.Name "range" p) [a] [] pos) (Cn ta):=by
 intro pins s σ H R I h
 refine Call_ (lR I hg hm boot_range (PyProof.Rows.callWith_type1 (aV (ha pos pins s σ H _ I h) fun us s1 ⟨vs,H1,I1,r1,q1⟩=>?_) hs rfl))
 obtain⟨j,e,q1,q2,q⟩:=q1
 subst e
 cases r1 with
 |cons r rr =>
 cases rr
 obtain⟨t,rfl⟩:=r
 exact call_range_1 (O8 I1 (by omega) (by omega) q1 q2 (by simpa using q))
noncomputable def Hj (wi:TI)(g:TG)(tb:TS):TS:=fun D σ H=>wi σ H fun J H1=>∃ W:Nat->Nat->St->Hp->Prop,(∃ m,W 0 m σ H1)/\∀ i m σ H,W i m σ H ->
 (J.stop i H/\D.nx σ H)∨(J.go i H/\∃ N:St->Hp->Prop,(∀ σ' H',N σ' H'->∃ m',m'<m/\W (i+1) m' σ' H')/\∀ x H',J.yld i H x H'->g x σ H' fun σ2 H2=>tb { D with nx:=N,ct:=N,bk:=D.nx } σ2 H2)
noncomputable def wH (fp:List Addr)(h:Heap):List (Addr×Obj):=fp.filterMap fun b=>(h.get? b).map fun o=>(b,o)
theorem tR {fp:List Addr}{h:Heap}{b:Addr}{o:Obj}(hb:b∈fp)(e:h.get? b=some o):(b,o)∈wH fp h:=List.mem_filterMap.mpr ⟨b,hb,by rw[e];rfl⟩
theorem M6 {fp:List Addr}{h:Heap}{p:Addr×Obj}(hp:p∈wH fp h):p.1∈fp/\h.get? p.1=some p.2:=by
 obtain⟨b,hb,e⟩:=List.mem_filterMap.mp hp
 cases q:h.get? b with
 |none=>rw[q]at e;cases e
 |some o =>
 rw[q]at e
 have e':(b,o)=p:=Option.some.inj e
 subst e'
 exact⟨hb,q⟩
theorem Inv.pinned {pins:List (Addr×Obj)}{σ:St}{H:Hp}{s:Shared}{fp:List Addr}(I:Inv X pins σ H s)(hf:∀ b∈fp,lY X pins H b)(ho:∀ b∈fp,∃ o,s.heap.get? b=some o/\∀ v,o.data≠.cell v):Inv X (pins++wH fp s.heap) σ H s :=
 I.IP fun p hp=>(List.mem_append.mp hp).elim (fun z=>I.pin p (List.mem_append_right _ z)) fun z=>by
 obtain⟨hb,e⟩:=M6 z
 obtain⟨f0,f1,f2,_⟩:=hf p.1 hb
 obtain⟨o,e',d⟩:=ho p.1 hb
 rw[e]at e';cases e'
 exact⟨e,f0,f1,f2,d⟩
theorem Inv.tG {pins pl:List (Addr×Obj)}{σ:St}{H:Hp}{s:Shared}(I:Inv X (pins++pl) σ H s):Inv X pins σ H s:=I.IP fun p hp=>I.pin p (List.mem_append_right _ (List.mem_append_left _ hp))
theorem X9 {iter:Expr}{body:List Stmt}{wi:TI}{g:TG}{tb:TS}{pos:Pos}(hp:PassesOwn (model X.prog X.w) X.A X.env X.xe)(hc:X.calm=true)(hi:PI X tg iter wi)(hg:PG X tg g)(hb:jI X body tb)
  (hs:∀ x,foldedSetIterable iter X.env x=pure x:=by intro _;rfl):PS X (.For tg iter body [] pos) (Hj wi g tb):=by
 intro pins s σ H D I h
 refine wpAny_For (aV (hi pins s σ H _ I h) fun v s1 h1=>aV h1 fun itv s2 h2=>?_) hs
 obtain⟨it,fp,tn,J,H2,e,I2,T,aF,f2,W,⟨m0,w0⟩,turn⟩:=h2
 subst e
 have stat:∀{H':Hp},(∀ b∈fp,H' b=none)->∀ b∈fp,lY X pins H' b:=fun hn b hb=>⟨hn b hb,(f2 b hb).2⟩
 refine codeAny_forLoop_any (fun n s'=>∃ i σ' H',Inv X pins σ' H' s'/\tn i s'.heap/\(∀ b∈fp,H' b=none)/\W i n σ' H') ?_ m0 ⟨0,σ,H2,I2,aF,fun b hb=>(f2 b hb).1,w0⟩
 rintro n s3 ⟨i,σ3,H3,I3,bB,fr3,w3⟩
 rcases turn i n σ3 H3 w3 with⟨stop,qn⟩|⟨go,N,hN,step⟩
 ·refine wpAny_passesOwn hp (aV (T.done X rfl rfl rfl hc i pins s3 σ3 H3 X.xe I3 (stat fr3) bB stop) fun r s4 ⟨hr,I4⟩=>?_)
  subst hr
  exact wpAny_execs_nil ⟨σ3,H3,I4,qn⟩
 ·refine wpAny_passesOwn hp (aV (T.item X rfl rfl rfl hc i pins s3 σ3 H3 X.xe I3 (stat fr3) bB go) fun r s4 ⟨u,hr,h4⟩=>?_)
  subst hr
  refine wpAny_passesOwn hp (aV h4 fun _ s5 ⟨x,H5,I5,r5,y5,fY,fr5⟩=>?_)
  have I5':=I5.pinned (stat fr5) (T.obj _ _ fY)
  refine wpAny_passesOwn hp (aV (hg _ s5 σ3 H5 x u _ I5' r5 (step x H5 y5)) fun _ s6 ⟨σ6,H6,I6,q6⟩=>?_)
  refine wpAny_passesOwn hp (aV (hb _ s6 σ6 H6 _ I6 q6) fun f s7 q7=>?_)
  have again:∀{σ7:St}{H7:Hp},Inv X (pins++wH fp s5.heap) σ7 H7 s7->N σ7 H7->∃ m,m<n/\∃ i σ' H',Inv X pins σ' H' s7/\tn i s7.heap/\(∀ b∈fp,H' b=none)/\W i m σ' H':=fun{σ7 H7} I7 n7=>by
   obtain⟨m',hm,w7⟩:=hN σ7 H7 n7
   refine⟨m',hm,i+1,σ7,H7,I7.tG,T.keep _ _ _ fY fun b hb o e=>(I7.pin (b,o) (List.mem_append_right _ (List.mem_append_right _ (tR hb e)))).1,fun b hb=>?_,w7⟩
   obtain⟨o,e,d⟩:=T.obj _ _ fY b hb
   exact(I7.pin (b,o) (List.mem_append_right _ (List.mem_append_right _ (tR hb e)))).2.1
  cases f with
  |next=>obtain⟨σ7,H7,I7,n7⟩:=q7;exact again I7 n7
  |cont=>obtain⟨σ7,H7,I7,n7⟩:=q7;exact again I7 n7
  |brk=>obtain⟨σ7,H7,I7,q7⟩:=q7;exact⟨σ7,H7,I7.tG,q7⟩
  |ret v=>obtain⟨x7,σ7,H7,I7,r7,q7⟩:=q7;exact⟨x7,σ7,H7,I7.tG,r7,q7⟩
end
end L2
namespace L2
open PySem PySem.Spec PyProof.Rows
noncomputable abbrev R2:=V->V->Hp->VK->Prop
noncomputable def gA (X:Cx)(f:Value->Value->Sem Value)(r:R2):Prop :=
 ∀(pins:List (Addr×Obj))(s:Shared)(σ:St)(H:Hp)(x y:V)(v u:Value)(Q:VK),Inv X pins σ H s->RelV x v->RelV y u->r x y H Q ->
 wpAny (model X.prog X.w) X.A (f v u) (EP X pins σ Q) X.xe s
noncomputable def YI (X:Cx)(f:Value->Sem Value)(r:V->Hp->VK->Prop):Prop :=
 ∀(pins:List (Addr×Obj))(s:Shared)(σ:St)(H:Hp)(x:V)(v:Value)(Q:VK),Inv X pins σ H s->RelV x v->r x H Q ->
 wpAny (model X.prog X.w) X.A (f v) (EP X pins σ Q) X.xe s
noncomputable def sX (X:Cx)(f:Value)(r:List V->Hp->VK->Prop):Prop :=
 ∀(pins:List (Addr×Obj))(s:Shared)(σ:St)(H:Hp)(xs:List V)(us:List Value)(Q:VK),Inv X pins σ H s->aO xs us->r xs H Q ->
 wpAny (model X.prog X.w) X.A (call f us) (EP X pins σ Q) X.xe s
noncomputable def Gs (X:Cx)(r:V->Hp->(Bool->Hp->Prop)->Prop):Prop :=
 ∀(pins:List (Addr×Obj))(s:Shared)(σ:St)(H:Hp)(x:V)(v:Value)(Q:Bool->Hp->Prop),Inv X pins σ H s->RelV x v->r x H Q ->
 wpAny (model X.prog X.w) X.A (truthy v) (TP X pins σ Q) X.xe s
noncomputable def W5 (r:R2)(ta tb:TE):TE:=fun σ H Q=>ta σ H fun x H1=>tb σ H1 fun y H2=>r x y H2 Q
noncomputable def Jm (r:V->Hp->VK->Prop)(ta:TE):TE:=fun σ H Q=>ta σ H fun x H1=>r x H1 Q
noncomputable def rI (C:Int->Int->Prop)(g:Int->Int->V):R2:=fun x y H Q=>∃ i j,x=.int i/\y=.int j/\C i j/\Q (g i j) H
noncomputable def ES (g:Int->Int->V):R2:=fun x y H Q=>∃ i j,x=.int i/\y=.int j/\Q (g i j) H
noncomputable def rU (g:Int->V):V->Hp->VK->Prop:=fun x H Q=>∃ i,x=.int i/\Q (g i) H
section
variable {X:Cx}{a b c:Expr}{ta tb tc:TE}{pos:Pos}
theorem ZN (ha:PE X a ta)(hb:PE X b tb){pins:List (Addr×Obj)}{s:Shared}{σ:St}{H:Hp}{R:V->V->Hp->Prop}(I:Inv X pins σ H s)
 (h:ta σ H fun x H1=>tb σ H1 fun y H2=>R x y H2){Q:Value->Shared->Prop}{f:Value->Value->Sem Value}
 (hf:∀ v u s2 x y H2,Inv X pins σ H2 s2->RelV x v->RelV y u->R x y H2->wpAny (model X.prog X.w) X.A (f v u) Q X.xe s2):
 wpAny (model X.prog X.w) X.A (eval a X.env) (fun v s₁=>wpAny (model X.prog X.w) X.A (eval b X.env) (fun u s₂=>wpAny (model X.prog X.w) X.A (f v u) Q X.xe s₂) X.xe s₁) X.xe s:=by
 refine aV (ha pins s σ H _ I h) fun v s1 ⟨x,H1,I1,r1,q1⟩=>?_
 refine aV (hb pins s1 σ H1 _ I1 q1) fun u s2 ⟨y,H2,I2,r2,q2⟩=>?_
 exact hf v u s2 x y H2 I2 r1 r2 q2
theorem Ez {op:Operator}{r:R2}(ho:gA X (binaryOp op) r)(ha:PE X a ta)(hb:PE X b tb):PE X (.BinOp a op b pos) (W5 r ta tb):=by
 intro pins s σ H Q I h
 exact wpAny_BinOp (ZN ha hb I h fun v u s2 x y H2 I2 rx ry q=>ho pins s2 σ H2 x y v u Q I2 rx ry q)
theorem Ce {op:UnaryOp}{r:V->Hp->VK->Prop}(ho:YI X (unaryOp op) r)(ha:PE X a ta):PE X (.UnaryOp op a pos) (Jm r ta):=by
 intro pins s σ H Q I h
 exact UnaryOp_ (aV (ha pins s σ H _ I h) fun v s1 ⟨x,H1,I1,r1,q1⟩=>ho pins s1 σ H1 x v Q I1 r1 q1)
theorem SA {f:Value->Value->Sem Value}{C:Int->Int->Prop}{g:Int->Int->Int}
 (rule:∀(i j:Int)(t u:Tok)(s:Shared)(Q:Value->Shared->Prop)(E:Value->Shared->Prop),C i j->Q (.int (g i j) s.toks) { s with toks:=s.toks+1 }->wpAny (model X.prog X.w) X.A (f (.int i t) (.int j u)) Q E s):
 gA X f (rI C fun i j=>.int (g i j)):=by
 intro pins s σ H x y v u Q I rx ry h
 obtain⟨i,j,rfl,rfl,hc,q⟩:=h
 obtain⟨t,rfl⟩:=rx
 obtain⟨t',rfl⟩:=ry
 exact rule i j t t' s _ _ hc ⟨.int (g i j),H,I.tok _,⟨_,rfl⟩,q⟩
theorem YH {f:Value->Value->Sem Value}{g:Int->Int->Int}
 (rule:∀(i j:Int)(t u:Tok)(s:Shared)(Q:Value->Shared->Prop)(E:Value->Shared->Prop),Q (.int (g i j) s.toks) { s with toks:=s.toks+1 }->wpAny (model X.prog X.w) X.A (f (.int i t) (.int j u)) Q E s):
 gA X f (ES fun i j=>.int (g i j)):=by
 intro pins s σ H x y v u Q I rx ry h
 obtain⟨i,j,rfl,rfl,q⟩:=h
 obtain⟨t,rfl⟩:=rx
 obtain⟨t',rfl⟩:=ry
 exact rule i j t t' s _ _ ⟨.int (g i j),H,I.tok _,⟨_,rfl⟩,q⟩
noncomputable def ZW (i j:Int):Prop:=0<j/\j<1073741824
noncomputable def XS (i j:Int):Prop:=0<=j/\j<=1000000/\i.natAbs<2 ^ 64
noncomputable def KP (i j:Int):Prop:=(-(2 ^ 64)<i/\i<2 ^ 64)∨(-(2 ^ 64)<j/\j<2 ^ 64)
theorem KP.ok {i j:Int}(h:KP i j):IntMulOk i j:=by
 rcases h with⟨h1,h2⟩|⟨h1,h2⟩
 ·exact .of_left (intBits_le_64 h1 h2)
 ·exact .of_right (intBits_le_64 h1 h2)
theorem VV:gA X (binaryOp .Add) (ES fun i j=>.int (i+j)):=YH fun _ _ _ _ _ _ _ q=>add_int q
theorem WO:gA X (binaryOp .Sub) (ES fun i j=>.int (i-j)):=YH fun _ _ _ _ _ _ _ q=>sub_int q
theorem V2:gA X (binaryOp .Mult) (rI KP fun i j=>.int (i*j)):=SA fun _ _ _ _ _ _ _ hc q=>mul_int q hc.ok
theorem U3:gA X (binaryOp .FloorDiv) (rI ZW fun i j=>.int (i / j)):=SA fun i j _ _ _ _ _ hc q=>by
 have h1:(0:Int)<j:=hc.1
 have h2:j<1073741824:=hc.2
 exact floordiv_int (by omega) (by rw[Int.fdiv_eq_ediv_of_nonneg i (by omega)];exact q) (.inl (PyProof.noPylong_small (by omega)))
theorem YM:gA X (binaryOp .Mod) (rI (fun _ j=>0<j) fun i j=>.int (i % j)):=SA fun i j _ _ _ _ _ hc q=>by
 have h1:(0:Int)<j:=hc
 exact mod_int' (by omega) (by rw[Int.fmod_eq_emod_of_nonneg i (by omega)];exact q)
theorem WD:gA X (binaryOp .Pow) (rI XS fun i j=>.int (i ^ j.toNat)):=SA fun _ _ _ _ _ _ _ hc q=>pow_int_small hc.1 hc.2.1 hc.2.2 q
theorem Jf {f:Value->Sem Value}{g:Int->Int}
 (rule:∀(i:Int)(t:Tok)(s:Shared)(Q:Value->Shared->Prop)(E:Value->Shared->Prop),Q (.int (g i) s.toks) { s with toks:=s.toks+1 }->wpAny (model X.prog X.w) X.A (f (.int i t)) Q E s):
 YI X f (rU fun i=>.int (g i)):=by
 intro pins s σ H x v Q I rx h
 obtain⟨i,rfl,q⟩:=h
 obtain⟨t,rfl⟩:=rx
 exact rule i t s _ _ ⟨.int (g i),H,I.tok _,⟨_,rfl⟩,q⟩
theorem Aa:YI X (unaryOp .USub) (rU fun i=>.int (-i)):=Jf fun _ _ _ _ _ q=>neg_int q
end
section
variable {X:Cx}{a b c:Expr}{ta tb tc:TE}{pos:Pos}
theorem XW {pins:List (Addr×Obj)}{σ:St}{H:Hp}{s:Shared}{Q:VK}{k k':Bool}(I:Inv X pins σ H s)(q:Q (.bl k) H)(e:k=k'):EP X pins σ Q (.bool k') s:=by
 subst e
 exact⟨.bl k,H,I,rfl,q⟩
theorem M3:gA X (compareOp .In) (fun x y H Q=>∃ i j,x=.str i/\y=.str j/\Q (.bl (!(Builtin.Str.occurrences j i 0 j.length 1).isEmpty)) H):=by
 intro pins s σ H x y v u Q I rx ry h
 obtain⟨i,j,rfl,rfl,q⟩:=h
 obtain⟨t,rfl⟩:=rx
 obtain⟨t',rfl⟩:=ry
 exact in_str (XW I q rfl)
theorem gA.or {f:Value->Value->Sem Value}{r r':R2}(h:gA X f r)(h':gA X f r'):gA X f (fun x y H Q=>r x y H Q∨r' x y H Q):=by
 intro pins s σ H x y v u Q I rx ry q
 rcases q with q|q
 ·exact h pins s σ H x y v u Q I rx ry q
 ·exact h' pins s σ H x y v u Q I rx ry q
noncomputable def PD (K:PySem.W.Frag)(x:V)(H:Hp)(k:Bool):Prop :=
 match x with
 |.non=>k=false
 |.bl b=>k=b
 |.int i=>k=(i != 0)
 |.str y=>y.length<=sizeLine/\k=((y.length:Int) != 0)
 |.byt y=>y.size<=sizeLine/\k=((y.size:Int) != 0)
 |.ref p=>(∃ xs,dR K H p xs/\k = !xs.isEmpty)∨(∃ xs,dQ K H p xs/\k = !xs.isEmpty)∨∃ gC,H p=some (.dK gC)/\k = !gC.isEmpty
 |_=>False
theorem KG {κ:Type}{gC:List (κ×V)}{vs:List (κ×Value)}(r:KV gC vs):(!vs.isEmpty) = !gC.isEmpty:=by
 cases r<;>rfl
theorem AB {xs:List V}{aD:List Value}(r:aO xs aD):(!aD.toArray.isEmpty) = !xs.isEmpty:=by
 cases r<;>simp
theorem pM:(sizeLine:Nat)<2 ^ 63:=by rw[sizeLine_eq];decide
theorem AY:Gs X (fun x H Q=>∃ k,PD X.K x H k/\Q k H):=by
 intro pins s σ H x v Q I rx h
 obtain⟨k,e,q⟩:=h
 have hl:=pM
 have hs:sizeLine=16777216:=sizeLine_eq
 cases x with
 |non =>
 cases rx
 have e':k=false:=e
 subst e'
 exact truthy_none ⟨H,I,q⟩
 |bl b =>
 cases rx
 have e':k=b:=e
 subst e'
 exact wpAny_truthy_bool ⟨H,I,q⟩
 |int i =>
 obtain⟨t,rfl⟩:=rx
 have e':k=(i != 0):=e
 subst e'
 exact PySem.P.truthy_int ⟨H,I,q⟩
 |str y =>
 obtain⟨t,rfl⟩:=rx
 obtain⟨hy,e'⟩:y.length<=sizeLine/\k=((y.length:Int) != 0):=e
 subst e'
 exact PySem.P.truthy_str (by omega) ⟨H,I.tok _,q⟩
 |byt y =>
 obtain⟨t,rfl⟩:=rx
 obtain⟨hy,e'⟩:y.size<=sizeLine/\k=((y.size:Int) != 0):=e
 subst e'
 exact PySem.W.truthy_bytes (by omega) ⟨H,I.tok _,q⟩
 |ref p =>
 cases rx
 have e':(∃ xs,dR X.K H p xs/\k = !xs.isEmpty)∨(∃ xs,dQ X.K H p xs/\k = !xs.isEmpty)∨∃ gC,H p=some (.dK gC)/\k = !gC.isEmpty:=e
 rcases e' with⟨xs,hx,e'⟩|⟨xs,hx,e'⟩|⟨gC,hx,e'⟩
 ·subst e'
  obtain⟨aD,r,pl,hz⟩:=I.list hx
  have hlen:=r.length
  exact wpAny_truthy_list pl.isList (by simp only[List.size_toArray];omega) ⟨H,I.tok _,by rw[AB r];exact q⟩
 ·subst e'
  obtain⟨aD,r,pl,hz⟩:=I.tuple hx
  have hlen:=r.length
  exact truthy_tuple pl (by simp only[List.size_toArray];omega) ⟨H,I.tok _,by rw[AB r];exact q⟩
 ·subst e'
  obtain⟨hz,hS,vs,r,m⟩:gC.length<=sizeLine/\(p==sysModules)=false/\∃ vs,KV gC vs/\s.heap.DictOf (B6 X.prog X.w) p vs:=I.bH p _ hx
  have hlen:gC.length=vs.length:=Paired.length r
  exact wpAny_truthy_dict hS m (by omega) ⟨H,I.tok _,by rw[KG r];exact q⟩
 |_=>exact(show False from e).elim
theorem QK (ha:PE X a ta)(he:∀ whole,isTrue a X.env whole=(do let v <-whole;standAt a.pos;holding [v] (truthy v))):
 PT X a (fun σ H Q=>ta σ H fun x H'=>∃ k,PD X.K x H' k/\Q k H'):=by
 intro pins s σ H Q I h
 exact isTrue_plain (aV (ha pins s σ H _ I h) fun v s1 ⟨x,H1,I1,r1,q1⟩=>AY pins s1 σ H1 x v Q I1 r1 q1) (he _)
theorem J0:gA X (binaryOp .Add) (fun x y H Q=>∃ i j,x=.str i/\y=.str j/\i.length+j.length<=sizeLine/\Q (.str (i++j)) H):=by
 intro pins s σ H x y v u Q I rx ry h
 obtain⟨i,j,rfl,rfl,hz,q⟩:=h
 obtain⟨t,rfl⟩:=rx
 obtain⟨t',rfl⟩:=ry
 exact add_str (fun t' tk=>⟨.str (i++j),H,I.tok _,⟨_,rfl⟩,q⟩) hz
theorem vals1 {x:V}{us:List Value}(r:aO [x] us):∃ u,us=[u]/\RelV x u:=by
 cases r with
 |cons r1 r2=>cases r2;exact⟨_,rfl,r1⟩
noncomputable def WK (K:PySem.W.Frag)(x:V)(H:Hp)(n:Nat):Prop :=
 match x with
 |.str y=>y.length<=sizeLine/\n=y.length
 |.byt y=>y.size<=sizeLine/\n=y.size
 |.ref p=>(∃ xs,dR K H p xs/\n=xs.length)∨∃ xs,dQ K H p xs/\n=xs.length
 |_=>False
theorem QA:sX X (.builtin "len") (fun xs H Q=>∃ x n,xs=[x]/\WK X.K x H n/\Q (.int n) H):=by
 intro pins s σ H xs us Q I r h
 obtain⟨x,n,rfl,e,q⟩:=h
 obtain⟨u,rfl,rx⟩:=vals1 r
 have hl:=pM
 have hs:sizeLine=16777216:=sizeLine_eq
 cases x with
 |str y =>
 obtain⟨t,rfl⟩:=rx
 obtain⟨hy,e'⟩:y.length<=sizeLine/\n=y.length:=e
 subst e'
 exact len_str (by omega) ⟨.int _,H,I.tok _,⟨_,rfl⟩,q⟩
 |byt y =>
 obtain⟨t,rfl⟩:=rx
 obtain⟨hy,e'⟩:y.size<=sizeLine/\n=y.size:=e
 subst e'
 exact PySem.W.len_bytes (by omega) ⟨.int _,H,I.tok _,⟨_,rfl⟩,q⟩
 |ref p =>
 cases rx
 have e':(∃ xs,dR X.K H p xs/\n=xs.length)∨∃ xs,dQ X.K H p xs/\n=xs.length:=e
 rcases e' with⟨xs,hx,e'⟩|⟨xs,hx,e'⟩
 ·subst e'
  obtain⟨aD,r',pl,hz⟩:=I.list hx
  have hlen:=r'.length
  exact Calls.call_len_list pl.isList (by simp only[List.size_toArray];omega) ⟨.int xs.length,H,I.tok _,⟨_,by simp only[List.size_toArray];rw[hlen]⟩,q⟩
 ·subst e'
  obtain⟨aD,r',pl,hz⟩:=I.tuple hx
  have hlen:=r'.length
  exact len_tuple pl (by simp only[List.size_toArray];omega) ⟨.int xs.length,H,I.tok _,⟨_,by simp only[List.size_toArray];rw[hlen]⟩,q⟩
 |_=>exact(show False from e).elim
end
end L2
namespace L2
open PySem PySem.Spec PyProof.Rows
structure yV (h:Heap)(x dx C:Addr)(mA:Str->Option Value):Prop where
 obj:h.get? x=some (PySem.W.instObj C dx)
 ns:h.Ns1 dx mA
 ne:dx≠x
theorem L9 {h:Heap}{dx:Addr}{mA:Str->Option Value}(n:h.Ns1 dx mA):∃ od,h.get? dx=some od/\∀ name,PySem.W.lookIn name od=some (mA name):=by
 obtain⟨o,es,ep,ho,hd,hk,_,hm⟩:=n
 refine⟨o,ho,fun name=>?_⟩
 have e:=hm name
 unfold nsFind findBy at e
 rw[<-Array.find?_toList]at e
 unfold PySem.W.lookIn
 rw[hd]
 dsimp only
 split
 ·rename_i y q
  rw[q]at e
  exact congrArg some e
 ·rename_i q
  rw[q]at e
  have a:es.toList.any (·.refKey)=false:=by
   rw[List.any_eq_false]
   intro y hy
   obtain⟨z,t,hkey⟩:=hk y (Array.mem_toList_iff.mp hy)
   simp [DictEntry.refKey,hkey]
  have a':¬es.toList.any (·.refKey)=true:=by rw[a];exact Bool.false_ne_true
  rw[if_neg a']
  exact congrArg some e
theorem yV.look {h:Heap}{x dx C:Addr}{mA:Str->Option Value}(I:yV h x dx C mA):∃ od,PySem.W.InstAt h x (PySem.W.instObj C dx) C (some od)/\∀ name,PySem.W.lookIn name od=some (mA name) :=
 let⟨od,ho,hl⟩:=L9 I.ns
 ⟨od,⟨I.obj,rfl,rfl,ho⟩,hl⟩
section
variable {prog:Program}{w:World}{A:Around}{E:Value->Shared->Prop}{s:Shared}{K:PySem.W.Frag}{x dx C f:Addr}{mA:Str->Option Value}{name:Str}{v:Value}
theorem get_map {expr:Bool}{Q:Value->Shared->Prop}(X:K.In s.heap)(I:yV s.heap x dx C mA)(hg:PySem.W.plainGet K C name=true)(hh:PySem.W.hasDictIn K C=true)
 (ha:PySem.W.findIn K (.ref C) name=some none)(hv:mA name=some v)(hv':PySem.W.handedIn v=true)(h:Q v { s with toks:=s.toks+1 }):
 wpAny (model prog w) A (getAttr (.ref x) name expr) Q E s:=by
 obtain⟨od,J,hl⟩:=I.look
 exact PySem.W.get_value X J (PySem.W.plainGet_of hg).1 (PySem.W.findObj_own hh ha rfl (by rw[hl,hv])) hv' h
theorem QU {pl:Sem Bool}{Q:Value×List Value->Shared->Prop}(X:K.In s.heap)(I:yV s.heap x dx C mA)(hg:PySem.W.plainGet K C name=true)
 (hf:PySem.W.findIn K (.ref C) name=some (some (.ref f)))(ht:PySem.W.isFn K (.ref f)=true)(hv:mA name=none)(h:Q (.ref f,[.ref x]) s):
 wpAny (model prog w) A (getMethod (.ref x) name pl) Q E s:=by
 obtain⟨od,J,hl⟩:=I.look
 exact PySem.W.method_fn X J (PySem.W.plainGet_of hg).1 (PySem.W.plainGet_of hg).2 hf (beq_iff_eq.mp ht) (by show(PySem.W.lookIn name od).map (·.isSome)=some false;rw[hl,hv];rfl) h
theorem VO {ns:List Str}{Q:Unit->Shared->Prop}(X:K.In s.heap)(I:yV s.heap x dx C mA)
 (hs:PySem.W.findIn K (.ref C) "__setattr__" = some (some (.builtin "object.__setattr__")))(hp:PySem.W.plainOver K C=true)(ht:PySem.W.takerIn K C name=some none)(hh:PySem.W.hasDictIn K C=true)
 (hw:PySem.Within mA ns)(jH:ns.length<=sizeLine)
 (h:∀ h',yV h' x dx C (fun y=>if y=name then some v else mA y)->Heap.SameBut dx s.heap h'->Q () { s with heap:=h',toks:=s.toks+2 }):
 wpAny (model prog w) A (setAttr (.ref x) name v) Q E s:=by
 obtain⟨od,J,hl⟩:=I.look
 refine PySem.W.set_plain X J hs (PySem.W.osa_open (s:={ s with toks:=s.toks+1 }) (r:=none) X J hp ht fun b=>?_)
 obtain⟨cd,hc,hd'⟩:=PySem.W.any_some hh
 have hx:s.heap.get? x=some ⟨.ref C,some dx,.plain,#[]⟩:=I.obj
 refine wpAny_bind (wpAny_pure (wpAny_bind (wpAny_bind (wpAny_loadPart hx (wpAny_bind (PySem.W.Looks.here (s:={ s with toks:=s.toks+1 }) (PySem.W.looks_clsIn X hc) ?_))))))
 rw[hd']
 refine wpAny_pure (a:=some dx) (wpAny_bind (wpAny_pure (wpAny_bind ?_)))
 refine wpAny_nsSet1 (s:={ s with toks:=s.toks+1 }) I.ns fun h' hn2 hs2=>?_
 obtain⟨oD,esD,epD,hoD,hdD,hcD⟩:=hn2.count (PySem.Within.cons name v hw)
 refine wpAny_bind (wpAny_lookBehind hoD (by rw[hdD];exact pastItsLine_dict (Nat.le_trans hcD (by rw[List.length_cons];omega))) ?_)
 exact wpAny_pure (h _ ⟨(hs2.2 _ (Ne.symm I.ne)).trans I.obj,hn2,I.ne⟩ hs2)
theorem P9 {R:Result->Shared->Prop}{vs:List Value}{kw:List (Str×Value)}(X:K.In s.heap)(hm:PySem.W.makesIn K C=true)
 (hi:PySem.W.findIn K (.ref C) "__init__" = some (some (.ref f)))(hf:PySem.W.typeIn K (.ref f)=some (.type "function"))
 (h:codeAny (model prog w) (A.under (.builtin "type.__call__" ⟨.ref C::vs,kw⟩)) (.call (.ref f) ⟨.ref (s.heap.objs.size+1)::vs,kw⟩) (PySem.W.InitBack (s.heap.objs.size+1) R)
  { s with heap:=(s.heap.push PySem.W.emptyDict).push (PySem.W.instObj C s.heap.objs.size) }):
 codeAny (model prog w) A (.call (.ref C) ⟨vs,kw⟩) R s:=by
 obtain⟨hh,g,d,t,os⟩:=s
 exact PySem.W.make_core (PySem.W.makes_of X hm) (PySem.W.looks_findIn X hi) (fun self=>PySem.W.bind_fn X self hf) (.inl rfl) h
end
noncomputable def gX (f:Str)(v:V):List (Str×V)->List (Str×V)
 |[]=>[(f,v)]
 |(g,x)::r=>if g=f then(g,v)::r else(g,x)::gX f v r
theorem yE (f g:Str)(v:V):∀ fs:List (Str×V),(gX f v fs).lookup g=if g=f then some v else fs.lookup g
 |[]=>by
  show List.lookup g [(f,v)]=_
  by_cases h:g=f
  ·have hb:(g==f)=true:=beq_iff_eq.mpr h
   simp only[List.lookup,hb,if_pos h]
  ·have hb:(g==f)=false:=beq_eq_false_iff_ne.mpr h
   simp only[List.lookup,hb,if_neg h]
 |(k,x)::r=>by
  have ih:=yE f g v r
  rw[show gX f v ((k,x)::r)=(if k=f then(k,v)::r else(k,x)::gX f v r)from rfl]
  by_cases hk:k=f
  ·rw[if_pos hk]
   by_cases h:g=k
   ·have hb:(g==k)=true:=beq_iff_eq.mpr h
    simp only[List.lookup,hb,if_pos (h.trans hk)]
   ·have hb:(g==k)=false:=beq_eq_false_iff_ne.mpr h
    simp only[List.lookup,hb,if_neg (fun e:g=f=>h (e.trans hk.symm))]
  ·rw[if_neg hk]
   by_cases h:g=k
   ·have hb:(g==k)=true:=beq_iff_eq.mpr h
    simp only[List.lookup,hb,if_neg (fun e:g=f=>hk (h.symm.trans e))]
   ·have hb:(g==k)=false:=beq_eq_false_iff_ne.mpr h
    simp only[List.lookup,hb]
    exact ih
theorem uP (f:Str)(v:V):∀ fs:List (Str×V),f∈(gX f v fs).map (·.1)/\∀ g,g∈fs.map (·.1)->g∈(gX f v fs).map (·.1)
 |[]=>⟨by simp [gX],fun g h=>by simp at h⟩
 |(k,x)::r=>by
  obtain⟨i1,i2⟩:=uP f v r
  rw[show gX f v ((k,x)::r)=(if k=f then(k,v)::r else(k,x)::gX f v r)from rfl]
  by_cases hk:k=f
  ·rw[if_pos hk]
   subst hk
   exact⟨by simp,fun g h=>by simpa using h⟩
  ·rw[if_neg hk]
   refine⟨?_,fun g h=>?_⟩
   ·rw[List.map_cons]
    exact List.mem_cons_of_mem _ i1
   ·rw[List.map_cons]at h ⊢
    rcases List.mem_cons.mp h with e|e
    ·exact List.mem_cons.mpr (.inl e)
    ·exact List.mem_cons_of_mem _ (i2 g e)
theorem yJ (f:Str)(v:V):∀ fs:List (Str×V),(gX f v fs).length<=fs.length+1
 |[]=>by simp [gX]
 |(k,x)::r=>by
  have ih:=yJ f v r
  rw[show gX f v ((k,x)::r)=(if k=f then(k,v)::r else(k,x)::gX f v r)from rfl]
  by_cases hk:k=f
  ·rw[if_pos hk,List.length_cons,List.length_cons];omega
  ·rw[if_neg hk,List.length_cons,List.length_cons];omega
theorem rA.some_of {v:V}{o:Option Value}(r:rA (some v) o):∃ u,o=some u/\RelV v u:=by
 cases o with
 |none=>exact(show False from r).elim
 |some u=>exact⟨u,rfl,r⟩
theorem rA.none_of {o:Option Value}(r:rA none o):o=none:=by
 cases o with
 |none=>rfl
 |some u=>exact(show False from r).elim
theorem N3 {v:V}{u:Value}(r:RelV v u):PySem.W.handedIn u=true:=by
 cases v with
 |non=>cases (show u=Value.none from r);rfl
 |bl b=>cases (show u=Value.bool b from r);rfl
 |int i=>obtain⟨t,e⟩:=(show ∃ t,u=Value.int i t from r);cases e;rfl
 |str x=>obtain⟨t,e⟩:=(show ∃ t,u=Value.str x t from r);cases e;rfl
 |byt b=>obtain⟨t,e⟩:=(show ∃ t,u=Value.bytes b t from r);cases e;rfl
 |flt b=>obtain⟨t,e⟩:=(show ∃ t,u=Value.float b t from r);cases e;rfl
 |ref a=>cases (show u=Value.ref a from r);rfl
 |ty n=>cases (show u=Value.type n from r);rfl
section
variable {P:Program}{w:World}{H H':Hp}{h h':Heap}{a C dx:Addr}{fs fs':List (Str×V)}
theorem B5 (bH:fS P w H h)(e:H a=some (.ins C dx fs)):∃ mA,yV h a dx C mA/\(∀ f,rA (fs.lookup f) (mA f))/\PySem.Within mA (fs.map (·.1))/\fs.length<=1000/\H dx=some (.own a):=by
 obtain⟨d,z,ne,ob,mA,n,r,q⟩:=(show iL P w H h a (.ins C dx fs)from bH a _ e)
 exact⟨mA,⟨ob,n,ne⟩,r,q,z,d⟩
end
structure sA (K:PySem.W.Frag)(C:Addr):Prop where
 pg:PySem.W.plainGet K C Str.empty=true
 hd:PySem.W.hasDictIn K C=true
 po:PySem.W.plainOver K C=true
 sa:PySem.W.findIn K (.ref C) "__setattr__" = some (some (.builtin "object.__setattr__"))
theorem sA.get {K:PySem.W.Frag}{C:Addr}(c:sA K C)(f:Str):PySem.W.plainGet K C f=true:=c.pg
noncomputable def pJ (K:PySem.W.Frag)(C:Addr)(f:Str):Prop:=PySem.W.findIn K (.ref C) f=some none
theorem pJ.Dk {K:PySem.W.Frag}{C:Addr}{f:Str}(n:pJ K C f):PySem.W.takerIn K C f=some none:=by
 unfold PySem.W.takerIn
 rw[show PySem.W.findIn K (.ref C) f=some none from n]
 rfl
structure BN (K:PySem.W.Frag)(C:Addr)(m:Str)(f:Addr):Prop where
 at_:PySem.W.findIn K (.ref C) m=some (some (.ref f))
 fn:PySem.W.isFn K (.ref f)=true
 kp:PySem.W.keepIn K (.ref f)=true
section
variable {X:Cx}{pins:List (Addr×Obj)}{σ:St}{H:Hp}{s:Shared}{a C dx:Addr}{fs:List (Str×V)}{f:Str}{v:V}{A:Around}{E:Value->Shared->Prop}
theorem LG {b:Bool}{Q:Value->Shared->Prop}(I:Inv X pins σ H s)(e:H a=some (.ins C dx fs))(c:sA X.K C)(n:pJ X.K C f)(l:fs.lookup f=some v)
 (h:∀ u s',Inv X pins σ H s'->RelV v u->Q u s'):wpAny (model X.prog X.w) A (getAttr (.ref a) f b) Q E s:=by
 obtain⟨mA,O,r,_,_,_⟩:=B5 I.bH e
 obtain⟨u,hu,ru⟩:=rA.some_of (v:=v) (o:=mA f) (by rw[<-l];exact r f)
 exact get_map I.hU O (c.get f) c.hd n hu (N3 ru) (h u _ (I.tok _) ru)
theorem zU {m:Str}{g:Addr}{pl:Sem Bool}{Q:Value×List Value->Shared->Prop}(I:Inv X pins σ H s)(e:H a=some (.ins C dx fs))(c:sA X.K C)(k:BN X.K C m g)(l:fs.lookup m=none)
 (h:Q (.ref g,[.ref a]) s):wpAny (model X.prog X.w) A (getMethod (.ref a) m pl) Q E s:=by
 obtain⟨mA,O,r,_,_,_⟩:=B5 I.bH e
 have hn:mA m=none:=rA.none_of (by rw[<-l];exact r m)
 exact QU I.hU O (c.get m) k.at_ k.fn hn h
theorem J5 {y:V}{u:Value}{Q:Unit->Shared->Prop}(I:Inv X pins σ H s)(e:H a=some (.ins C dx fs))(c:sA X.K C)(n:pJ X.K C f)(hl:fs.length<1000)(ry:RelV y u)
  (h:∀ s',Inv X pins σ (upd H a (.ins C dx (gX f y fs))) s'->Q () s'):wpAny (model X.prog X.w) A (setAttr (.ref a) f u) Q E s:=by
 obtain⟨mA,O,r,wi,_,ho⟩:=B5 I.bH e
 have hz:(fs.map (·.1)).length<=sizeLine:=by rw[List.length_map,sizeLine_eq];omega
 refine VO I.hU O c.sa c.po n.Dk c.hd wi hz fun h' O' sb=>h _ ?_
 have hd:∃ o,h'.get? dx=some o:=let⟨o,_,_,e',_⟩:=O'.ns;⟨o,e'⟩
 refine I.write (x:=a) (e:=dx) (by rw[e];exact True.intro) (.inr ho) (fun b q hb z=>(sb.2 b hb).trans z) hd ?_
 refine⟨by rw[aY O.ne];exact ho,?_,O.ne,O'.obj,_,O'.ns,fun g=>?_,fun g hg=>?_⟩
 ·have:=yJ f y fs;omega
 ·show rA ((gX f y fs).lookup g) (if g=f then some u else mA g)
  rw[yE]
  by_cases q:g=f
  ·rw[if_pos q,if_pos q];exact ry
  ·rw[if_neg q,if_neg q];exact r g
 ·by_cases q:g=f
  ·rw[q];exact(uP f y fs).1
  ·refine(uP f y fs).2 g (wi g fun z=>hg ?_)
   show(if g=f then some u else mA g)=none
   rw[if_neg q];exact z
theorem Inv.made (I:Inv X pins σ H s):Inv X pins σ (upd (upd H s.heap.objs.size (.own (s.heap.objs.size+1))) (s.heap.objs.size+1) (.ins C s.heap.objs.size []))
  { s with heap:=(s.heap.push PySem.W.emptyDict).push (PySem.W.instObj C s.heap.objs.size) }:=by
 have e1:(s.heap.push PySem.W.emptyDict).get? s.heap.objs.size=some PySem.W.emptyDict:=Heap.get?_push_size s.heap rfl
 have e2:((s.heap.push PySem.W.emptyDict).push (PySem.W.instObj C s.heap.objs.size)).get? (s.heap.objs.size+1)=some (PySem.W.instObj C s.heap.objs.size):=by
  have:=Heap.get?_push_size (s.heap.push PySem.W.emptyDict) (o:=PySem.W.instObj C s.heap.objs.size) rfl
  rwa [Heap.size_push]at this
 have e3:(s.heap.push PySem.W.emptyDict).Ns s.heap.objs.size (fun _=>none):=⟨PySem.W.emptyDict,#[],_,e1,rfl,(fun e he=>absurd he (by simp)),fun _=>rfl⟩
 have I1:=I.laid (a:=s.heap.objs.size) (o:=.own (s.heap.objs.size+1)) (h':=s.heap.push PySem.W.emptyDict) (t':=s.toks) (fun b u q=>Heap.get?_push_of_some _ q) (Nat.le_refl _) ⟨_,e1⟩
 refine I1.laid (a:=s.heap.objs.size+1) (o:=.ins C s.heap.objs.size []) (t':=s.toks) (fun b u q=>Heap.get?_push_of_some _ q) (Nat.le_of_eq (Heap.size_push _ _)) ?_
 have ne:s.heap.objs.size≠s.heap.objs.size+1:=Nat.ne_of_lt (Nat.lt_succ_self _)
 refine⟨by rw[aY ne,cY],Nat.zero_le _,ne,e2,fun _=>none,(Heap.Ns1.of_empty e3).at fun o q=>Heap.get?_push_of_some _ q,fun _=>True.intro,fun y hy=>absurd rfl hy⟩
theorem T2 {prog:Program}{w:World}{env:Env}{e:Expr}{f:Str}{pos:Pos}{s:Shared}{Q:Value->Shared->Prop}(hb:attributeBase e f env (eval e env)=eval e env)
 (h:wpAny (model prog w) A (eval e env) (fun o s₁=>wpAny (model prog w) A (getAttr o f true) Q E s₁) E s):wpAny (model prog w) A (eval (.Attribute e f pos) env) Q E s :=
 Attribute_any_ h (by rw[arm_eval_Attribute,hb])
end
noncomputable def Ii (K:PySem.W.Frag)(ta:TE)(f:Str):TE:=fun σ H Q=>ta σ H fun x H1=>∃ a C dx fs v,x=.ref a/\H1 a=some (.ins C dx fs)/\sA K C/\pJ K C f/\fs.lookup f=some v/\Q v H1
noncomputable def Hm (K:PySem.W.Frag)(ta tv:TE)(f:Str):TS:=fun D σ H=>tv σ H fun y H1=>ta σ H1 fun x H2=>∃ a C dx fs,x=.ref a/\H2 a=some (.ins C dx fs)/\sA K C/\pJ K C f/\fs.length<1000 /\
 D.nx σ (upd H2 a (.ins C dx (gX f y fs)))
section
variable {X:Cx}{o e value:Expr}{f:Str}{pos pos' tpos:Pos}{ta tv:TE}
theorem XU (he:PE X e ta)(hb:attributeBase e f X.env (eval e X.env)=eval e X.env):PE X (.Attribute e f pos) (Ii X.K ta f):=by
 intro pins s σ H Q I h
 refine T2 hb (aV (he pins s σ H _ I h) fun u s1 ⟨x,H1,I1,rx,a,C,dx,fs,v,ex,ea,c,n,l,q⟩=>?_)
 subst ex
 obtain rfl:u=Value.ref a:=rx
 exact LG I1 ea c n l fun u' s2 I2 ru=>⟨v,H1,I2,ru,q⟩
theorem ZP (ha:PE X o ta)(hv:PE X value tv)(hs:swapsWith value (some (.Attribute o f pos')) pos.line X.env=pure false):PS X (.Assign [.Attribute o f pos'] value pos) (Hm X.K ta tv f):=by
 intro pins s σ H D I h
 refine plainObj_wpAny_Assign_Attribute (aV (hv pins s σ H _ I h) fun u s1 ⟨y,H1,I1,ry,q⟩=>aV (ha pins s1 σ H1 _ I1 q) fun ov s2 ⟨x,H2,I2,rx,a,C,dx,fs,ex,ea,c,n,l,q2⟩=>?_) hs
 subst ex
 obtain rfl:ov=Value.ref a:=rx
 exact J5 I2 ea c n l ry fun s3 I3=>⟨σ,_,I3,q2⟩
theorem Al {pl:Sem Bool}{m:Str}{apos:Pos}{args:List Expr}{pins:List (Addr×Obj)}{s:Shared}{σ:St}{H:Hp}{Q:Value->Shared->Prop}{te:TE}(he:PE X e te)(I:Inv X pins σ H s)
 (h:te σ H fun x H1=>∃ a C dx fs g,x=.ref a/\H1 a=some (.ins C dx fs)/\sA X.K C/\BN X.K C m g/\fs.lookup m=none /\
  ∀ s1,Inv X pins σ H1 s1->wpAny (model X.prog X.w) X.A (callWith pos (.ref g) [.ref a] (backTo pos (starEach args X.env)) (backToKw pos (keywordEach [] X.env))) Q X.xe s1)
 (ht:eval (.Call (.Attribute e m apos) args [] pos) X.env=(do
  let ov <-eval e X.env
  standAt apos.atName
  let(f,first) <-holding [ov] (getMethod ov m pl)
  callWith pos f first (backTo pos (starEach args X.env)) (backToKw pos (keywordEach [] X.env)))):
 wpAny (model X.prog X.w) X.A (eval (.Call (.Attribute e m apos) args [] pos) X.env) Q X.xe s:=by
 refine PySem.W.methodCall_KW (pl:=pl) (aV (he pins s σ H _ I h) fun u s1 ⟨x,H1,I1,rx,a,C,dx,fs,g,ex,ea,c,k,l,q⟩=>?_) ht
 subst ex
 obtain rfl:u=Value.ref a:=rx
 exact zU I1 ea c k l (q s1 I1)
end
end L2
namespace L2
open PySem PySem.Spec PyProof.Rows
structure cK (k:Nat)(A:Around):Prop where
 hd:A.handled=none
 dp:A.depth+3*k+5<recursionLimit
 un:A.units+16*k+200<cLine
theorem cK.mono {j k:Nat}{A:Around}(r:cK k A)(h:j<=k):cK j A:=⟨r.hd,by have:=r.dp;omega,by have:=r.un;omega⟩
theorem cK.deeper {k:Nat}{A:Around}(r:cK (k+1) A)(env:Env):cK k (A.deeper env) :=
 ⟨r.hd,by have:=r.dp;show A.depth+1+3*k+5<_;omega,by have:=r.un;show A.units+3+16*k+200<_;omega⟩
theorem K0 {A:Around}{C:Addr}{us:List Value}{kw:List (Str×Value)}:(A.under (.builtin "type.__call__" ⟨.ref C::us,kw⟩)).depth=A.depth+1:=by
 first|rfl|simp [Around.under,Code.weight,Code.isCreation,Code.isGuard,Code.isCaller,Code.frames,Code.isFrame,guardIds]
theorem J2 {A:Around}{C:Addr}{us:List Value}{kw:List (Str×Value)}:(A.under (.builtin "type.__call__" ⟨.ref C::us,kw⟩)).units=A.units+1:=by
 first|rfl|simp [Around.under,Code.cUnits,Code.frames,Code.isFrame]
theorem cK.make {k:Nat}{A:Around}(r:cK (k+1) A)(C:Addr)(us:List Value)(kw:List (Str×Value)):cK k (A.under (.builtin "type.__call__" ⟨.ref C::us,kw⟩)) :=
 ⟨r.hd,by have:=r.dp;rw[K0];omega,by have:=r.un;rw[J2];omega⟩
theorem cK.depth {k:Nat}{A:Around}(r:cK k A):A.depth<recursionLimit:=by have:=r.dp;omega
noncomputable def Ge:TA:=fun _ H Q=>Q [] H
noncomputable def Au (ta:TE)(tr:TA):TA:=fun σ H Q=>ta σ H fun x H1=>tr σ H1 fun xs H2=>Q (x::xs) H2
section
variable {X:Cx}{e:Expr}{es:List Expr}{te:TE}{t:TA}{pos:Pos}
theorem NH:PA X [] Ge:=fun _ _ _ _ H Q I h=>Calls.spliced_nil ⟨[],H,I,.nil,h⟩
theorem BY (ha:PE X e te)(hr:PA X es t)(hs:starEach (e::es) X.env=(false,eval e X.env)::starEach es X.env:=by rfl):PA X (e::es) (Au te t):=by
 intro pos pins s σ H Q I h
 rw[hs]
 show wpAny _ _ (spliced ((false,eval e X.env)::backTo pos (starEach es X.env))) _ _ s
 refine Calls.spliced_cons (aV (ha pins s σ H _ I h) fun u s1 ⟨x,H1,I1,r1,q1⟩=>?_)
 exact aV (hr pos pins s1 σ H1 _ I1 q1) fun us s2 ⟨xs,H2,I2,r2,q2⟩=>⟨x::xs,H2,I2,.cons r1 r2,q2⟩
noncomputable def Gc (t:TA):TE:=fun σ H Q=>t σ H fun xs H1=>xs.length<=sizeLine/\∀ p,H1 p=none->Q (.ref p) (upd H1 p (.tup xs))
noncomputable def Hd (t:TA):TE:=fun σ H Q=>t σ H fun xs H1=>xs.length<=sizeLine/\∀ p,H1 p=none->Q (.ref p) (upd H1 p (.lst xs))
theorem YZ {x1}(h:PA X es t):PE X (.Tuple es x1 pos) (Gc t):=by
 intro pins s σ H Q I hq
 refine wpAny_Tuple_spliced (aV (h pos pins s σ H _ I hq) fun us s1 ⟨xs,H1,I1,r,z,q⟩=>⟨by rw[<-r.length];exact z,?_⟩)
 have hf:H1 s1.heap.objs.size=none:=I1.bH.fresh (Nat.le_refl _)
 refine⟨.ref s1.heap.objs.size,upd H1 s1.heap.objs.size (.tup xs),I1.laid (t':=s1.toks) (fun b u e=>Heap.get?_push_of_some _ e) (Nat.le_refl _) ?_,rfl,q _ hf⟩
 exact⟨z,us,r,nX.new _ _⟩
theorem WB (h:PA X es t):PE X (.List es pos) (Hd t):=by
 intro pins s σ H Q I hq
 refine wpAny_List_spliced (aV (h pos pins s σ H _ I hq) fun us s1 ⟨xs,H1,I1,r,z,q⟩=>⟨by rw[<-r.length];exact z,?_⟩)
 have hf:H1 s1.heap.objs.size=none:=I1.bH.fresh (Nat.le_refl _)
 refine⟨.ref s1.heap.objs.size,upd H1 s1.heap.objs.size (.lst xs),I1.laid (t':=s1.toks) (fun b u e=>Heap.get?_push_of_some _ e) (Nat.le_refl _) ?_,rfl,q _ hf⟩
 exact⟨z,us,0,r,Heap.get?_push_size _ rfl⟩
end
noncomputable abbrev Sp:=List V->Hp->VK->XK->Prop
noncomputable abbrev yH:=List Env->Hp->Shared->XK->Value->Shared->Prop
structure rB (P:Program)(w:World)(K:PySem.W.Frag)(mg:Str->Option Value)(base:Heap)(A:Around)(outer:List Env)(s:Shared)(H:Hp):Prop where
 frames:A.frames=some outer
 mod:Mod K mg base
 bs:∀ b o,base.get? b=some o->s.heap.get? b=some o/\H b=none
 bsz:base.objs.size<=s.heap.objs.size
 kB:s.heap.FunFrames base outer
 frf:∀ b∈sJ outer,H b=none
 bH:fS P w H s.heap
 bare:AllBare s.gens
inductive CE (outer:List Env)(P:Program)(w:World)(H:Hp)(s:Shared)(Q:VK)(u:Value)(s':Shared):Prop
 |mk (v:V)(H':Hp)(a:s'.os=s.os)(b:AllBare s'.gens)(c:Un (sJ outer) [] H H' s.heap s'.heap)(d:fS P w H' s'.heap)(r:RelV v u)(q:Q v H')
noncomputable def CR (CX:yH)(outer:List Env)(P:Program)(w:World)(H:Hp)(s:Shared)(Q:VK)(E:XK)(r:Result)(s':Shared):Prop :=
 match r with
 |.ok (.ret u)=>CE outer P w H s Q u s'
 |.ok _=>False
 |.error e=>CX outer H s E e s'
structure eI (P:Program)(w:World)(K:PySem.W.Frag)(mg:Str->Option Value)(base:Heap)(CX:yH)(k:Nat)(f:Addr)(fd:FuncData)(ps:List Str)(sp:Sp):Prop where
 len:∀ vs H Q E,sp vs H Q E->vs.length=ps.length
 run:∀(A:Around)(outer:List Env)(s:Shared)(H:Hp)(args:Args)(us:List Value)(vs:List V)(Q:VK)(E:XK),cK k A->rB P w K mg base A outer s H->BindsTo s fd args (ps.zip us)->aO vs us->sp vs H Q E ->
 codeAny (model P w) A (.call (.ref f) args) (CR CX outer P w H s Q E) s
theorem rB.make {P:Program}{w:World}{K:PySem.W.Frag}{mg:Str->Option Value}{base:Heap}{A:Around}{outer:List Env}{s:Shared}{H:Hp}(e:rB P w K mg base A outer s H)(C:Addr)(us:List Value)(kw:List (Str×Value)):
 rB P w K mg base (A.under (.builtin "type.__call__" ⟨.ref C::us,kw⟩)) outer s H:=⟨by first|exact e.frames|(simpa [Around.under,Code.envs,Code.isFrame,pushEnvs]using e.frames),e.mod,e.bs,e.bsz,e.kB,e.frf,e.bH,e.bare⟩
section
variable {X:Cx}{pins:List (Addr×Obj)}{σ:St}{H:Hp}{s s':Shared}
theorem Inv.K4 (I:Inv X pins σ H s):rB X.prog X.w X.K X.mg X.base X.A X.stack s H :=
 ⟨I.ok.frames,I.ok.mod,I.bs,Nat.le_trans I.ok.bsz I.sz,I.stack,I.IQ,I.bH,I.bare⟩
theorem Inv.after {Q:VK}{u:Value}(I:Inv X pins σ H s)(h:CE X.stack X.prog X.w H s Q u s'):EP X pins σ Q u s':=by
 obtain⟨v,H',os,bare,un,bH,r,q⟩:=h
 obtain⟨hh,g,d,t,os'⟩:=s'
 obtain rfl:os'=s.os:=os
 exact⟨v,H',I.call (h':=hh) (g':=g) (d':=d) (t':=t) (ch:=[]) un bH bare (fun b z=>absurd z (by simp)),r,q⟩
end
noncomputable def Bv (sp:Sp)(dvs:List V)(E:XK)(t:TA):TE:=fun σ H Q=>t σ H fun vs H1=>sp (vs++dvs) H1 Q E
noncomputable def Eg (C:Addr)(m:Str)(sp:Sp)(dvs:List V)(E:XK)(ta:TE)(t:TA):TE:=fun σ H Q=>ta σ H fun x H1=>∃ a dx fs,x=.ref a/\H1 a=some (.ins C dx fs)/\fs.lookup m=none /\
 t σ H1 fun vs H2=>sp (x::(vs++dvs)) H2 Q E
noncomputable def Cf (C:Addr)(sp:Sp)(dvs:List V)(E:XK)(t:TA):TE:=fun σ H Q=>t σ H fun vs H1=>∀ x dx,H1 x=none->H1 dx=none->dx≠x ->
 sp (.ref x::(vs++dvs)) (upd (upd H1 dx (.own x)) x (.ins C dx [])) (fun v H2=>v=.non/\Q (.ref x) H2) E
noncomputable def Binds (K:PySem.W.Frag)(fd:FuncData)(ps:List Str)(ds:List Value):Prop :=
 ∀(s:Shared)(us:List Value),K.In s.heap->(us++ds).length=ps.length->BindsTo s fd ⟨us,[]⟩ (ps.zip (us++ds))
theorem Binds.all {K:PySem.W.Frag}{fd:FuncData}{ps:List Str}(h:∀ us:List Value,us.length=ps.length->bindArgs fd ⟨us,[]⟩=pure (ps.zip us)):Binds K fd ps []:=fun s us _ hl=>by
 rw[List.append_nil]at hl ⊢
 exact .of_eq (h us hl)
noncomputable def nG (CX:yH)(X:Cx)(E:XK):Prop:=∀(pins:List (Addr×Obj))(σ:St)(H:Hp)(s:Shared)(e:Value)(s':Shared),Inv X pins σ H s->CX X.stack H s E e s'->X.xe e s'
section
variable {X:Cx}{CX:yH}{k:Nat}{f C:Addr}{fd:FuncData}{ps:List Str}{sp:Sp}{dvs:List V}{ds:List Value}{E:XK}{x m:Str}{p pos apos:Pos}{e o:Expr}{es:List Expr}{ta:TE}{t:TA}
theorem NZ {pins:List (Addr×Obj)}{σ:St}{H:Hp}{s:Shared}{Q:VK}{us:List Value}{vs:List V}(F:eI X.prog X.w X.K X.mg X.base CX k f fd ps sp)(hr:cK k X.A)(hb:Binds X.K fd ps ds)(hd:aO dvs ds)(hx:nG CX X E)
 (I:Inv X pins σ H s)(r:aO vs us)(h:sp (vs++dvs) H Q E):wpAny (model X.prog X.w) X.A (call (.ref f) us) (EP X pins σ Q) X.xe s:=by
 have r2:aO (vs++dvs) (us++ds):=r.append hd
 have hl:(us++ds).length=ps.length:=by rw[<-r2.length];exact F.len _ _ _ _ h
 refine wpAny_call (codeAny_mono (F.run X.A X.stack s H ⟨us,[]⟩ (us++ds) (vs++dvs) Q E hr I.K4 (hb s us I.hU hl) r2 h) fun r s' hq=>?_)
 cases r with
 |error e=>exact hx pins σ H s e s' I hq
 |ok fl =>
 cases fl with
 |ret u=>exact I.after hq
 |next=>exact False.elim hq
 |brk=>exact False.elim hq
 |cont=>exact False.elim hq
theorem VR (F:eI X.prog X.w X.K X.mg X.base CX k f fd ps sp)(hr:cK k X.A)(hg:Gl X x)(hm:X.mg x=some (.ref f))(hk:PySem.W.keepIn X.K (.ref f)=true)(hb:Binds X.K fd ps ds)(hd:aO dvs ds)(hx:nG CX X E)
 (ha:PA X (e::es) t)(hdb:(x==("__debug__" : Str))=false:=by decide)(he:starEach (e::es) X.env=(false,eval e X.env)::starEach es X.env:=by rfl)(cS:(backTo pos (starEach es X.env)).any (·.1)=false:=by rfl):
 PE X (.Call (.Name x p) (e::es) [] pos) (Bv sp dvs E t):=by
 intro pins s σ H Q I h
 refine wpAny_Call_Name_kw (xR I hg hm ?_ hdb)
 refine PySem.W.callWith_K (h₀:=X.base) I.ok.mod.kin hk (aV (ha pos pins s σ H _ I h) fun us s1 ⟨vs,H1,I1,r,q⟩=>⟨I1.hU,?_⟩) he cS
 exact NZ F hr hb hd hx I1 r q
theorem SM {pl:Sem Bool}(he:PE X o ta)(c:sA X.K C)(hm:BN X.K C m f)(F:eI X.prog X.w X.K X.mg X.base CX k f fd ps sp)(hr:cK k X.A)(hb:Binds X.K fd ps ds)(hd:aO dvs ds)(hx:nG CX X E)(ha:PA X (e::es) t)
 (dZ:starEach (e::es) X.env=(false,eval e X.env)::starEach es X.env:=by rfl)(cS:(backTo pos (starEach es X.env)).any (·.1)=false:=by rfl)
 (ht:eval (.Call (.Attribute o m apos) (e::es) [] pos) X.env=(do
  let ov <-eval o X.env
  standAt apos.atName
  let(f,first) <-holding [ov] (getMethod ov m pl)
  callWith pos f first (backTo pos (starEach (e::es) X.env)) (backToKw pos (keywordEach [] X.env))):=by rfl):
 PE X (.Call (.Attribute o m apos) (e::es) [] pos) (Eg C m sp dvs E ta t):=by
 intro pins s σ H Q I h
 refine PySem.W.methodCall_KW (pl:=pl) (aV (he pins s σ H _ I h) fun u s1 ⟨x,H1,I1,rx,a,dx,fs,ex,ea,l,q⟩=>?_) ht
 subst ex
 obtain rfl:u=Value.ref a:=rx
 refine zU I1 ea c hm l ?_
 refine PySem.W.callWith_K (first:=[.ref a]) (h₀:=X.base) I.ok.mod.kin hm.kp (aV (ha pos pins s1 σ H1 _ I1 q) fun us s2 ⟨vs,H2,I2,r,q2⟩=>⟨I2.hU,?_⟩) dZ cS
 exact NZ (us:=.ref a::us) (vs:=.ref a::vs) F hr hb hd hx I2 (.cons rfl r) q2
structure Mk (K:PySem.W.Frag)(C f:Addr):Prop where
 makes:PySem.W.makesIn K C=true
 init:PySem.W.findIn K (.ref C) "__init__" = some (some (.ref f))
 fn:PySem.W.isFn K (.ref f)=true
 kp:PySem.W.keepIn K (.ref C)=true
theorem PR {pins:List (Addr×Obj)}{σ:St}{H:Hp}{s:Shared}{Q:VK}{us:List Value}{vs:List V}(M:Mk X.K C f)(F:eI X.prog X.w X.K X.mg X.base CX k f fd ps sp)(hr:cK (k+1) X.A)(hb:Binds X.K fd ps ds)(hd:aO dvs ds)
  (hx:nG CX X E)(I:Inv X pins σ H s)(r:aO vs us)
  (h:∀ x dx,H x=none->H dx=none->dx≠x->sp (.ref x::(vs++dvs)) (upd (upd H dx (.own x)) x (.ins C dx [])) (fun v H2=>v=.non/\Q (.ref x) H2) E):
  wpAny (model X.prog X.w) X.A (call (.ref C) us) (EP X pins σ Q) X.xe s:=by
 have hq:=h (s.heap.objs.size+1) s.heap.objs.size (I.bH.fresh (Nat.le_succ _)) (I.bH.fresh (Nat.le_refl _)) (Nat.ne_of_lt (Nat.lt_succ_self _))
 have I2:=Inv.made (C:=C) I
 have r2:aO (V.ref (s.heap.objs.size+1)::(vs++dvs)) (Value.ref (s.heap.objs.size+1)::(us++ds)):=.cons rfl (r.append hd)
 have hl:(Value.ref (s.heap.objs.size+1)::us++ds).length=ps.length:=by
  have e:=r2.length
  rw[F.len _ _ _ _ hq]at e
  exact e.symm
 refine wpAny_call (P9 (f:=f) I.hU M.makes M.init (beq_iff_eq.mp M.fn) (codeAny_mono (F.run _ X.stack _ _ ⟨Value.ref (s.heap.objs.size+1)::us,[]⟩ (Value.ref (s.heap.objs.size+1)::(us++ds)) _ _ E (hr.make C us [])
  (I2.K4.make C us []) (hb _ (Value.ref (s.heap.objs.size+1)::us) I2.hU hl) r2 hq) fun r s' hq'=>?_))
 cases r with
 |error e=>exact hx pins σ _ _ e s' I2 hq'
 |ok fl =>
  cases fl with
  |ret u =>
   obtain⟨v,H',I3,rv,ev,q3⟩:=I2.after hq'
   subst ev
   exact⟨rv,⟨V.ref (s.heap.objs.size+1),H',I3,rfl,q3⟩⟩
  |next=>exact False.elim hq'
  |brk=>exact False.elim hq'
  |cont=>exact False.elim hq'
theorem U0 (M:Mk X.K C f)(F:eI X.prog X.w X.K X.mg X.base CX k f fd ps sp)(hr:cK (k+1) X.A)(hg:Gl X x)(hm:X.mg x=some (.ref C))(hb:Binds X.K fd ps ds)(hd:aO dvs ds)(hx:nG CX X E)
 (ha:PA X (e::es) t)(hdb:(x==("__debug__" : Str))=false:=by decide)(he:starEach (e::es) X.env=(false,eval e X.env)::starEach es X.env:=by rfl)(cS:(backTo pos (starEach es X.env)).any (·.1)=false:=by rfl):
 PE X (.Call (.Name x p) (e::es) [] pos) (Cf C sp dvs E t):=by
 intro pins s σ H Q I h
 refine wpAny_Call_Name_kw (xR I hg hm ?_ hdb)
 refine PySem.W.callWith_K (h₀:=X.base) I.ok.mod.kin M.kp (aV (ha pos pins s σ H _ I h) fun us s1 ⟨vs,H1,I1,r,q⟩=>⟨I1.hU,?_⟩) he cS
 exact PR M F hr hb hd hx I1 r q
end
structure kX (N P:List Str)(sc:Scope):Prop where
 kind:sc.kind=.function
 co:sc.isCoroutine=false
 gen:sc.isGenerator=false
 nd:N.Nodup
 pre:N.take P.length=P
 par:∀ x∈P,sc.names.lookup x=some .local∨sc.names.lookup x=some .cell
 nofree:∀ y∈sc.names,y.2≠.free
theorem CZ {kindOf:Str->Option NameKind}{x:Str}:∀{binds:List (Str×Value)}{m:Str->Option Value},(∀ v,(x,v)∉binds)->bindL kindOf binds m x=m x
 |[],_,_=>rfl
 |(n,v)::r,m,h=>by
  unfold bindL
  rw[CZ fun w hw=>h w (List.mem_cons_of_mem _ hw)]
  split
  ·have:x≠n:=by rintro rfl;exact h v List.mem_cons_self
   simp [this]
  ·rfl
theorem DS {kindOf:Str->Option NameKind}{x:Str}:∀{binds:List (Str×Value)}{m:Str->Option Value},(∀ v,(x,v)∉binds)->bindC kindOf binds m x=m x
 |[],_,_=>rfl
 |(n,v)::r,m,h=>by
  unfold bindC
  rw[DS fun w hw=>h w (List.mem_cons_of_mem _ hw)]
  split
  ·rfl
  ·have:x≠n:=by rintro rfl;exact h v List.mem_cons_self
   simp [this]
theorem DV {kindOf:Str->Option NameKind}{x:Str}{v:Value}:∀{P:List Str}{vs:List Value}{i:Nat}{m:Str->Option Value},P.Nodup->P[i]? = some x->vs[i]? = some v->kindOf x=some .local ->
  bindL kindOf (P.zip vs) m x=some v
 |[],_,_,_,_,h,_,_=>by simp at h
 |_::_,[],_,_,_,_,h,_=>by simp at h
 |p::P,w::vs,0,m,nd,h1,h2,hk=>by
  simp at h1 h2;subst h1;subst h2
  show bindL kindOf ((p,w)::P.zip vs) m p=_
  unfold bindL
  rw[CZ fun v hv=>(List.nodup_cons.mp nd).1 (List.of_mem_zip hv).1,if_pos hk]
  simp
 |p::P,w::vs,i+1,m,nd,h1,h2,hk=>by
  show bindL kindOf ((p,w)::P.zip vs) m x=_
  unfold bindL
  exact DV (i:=i) (List.nodup_cons.mp nd).2 (by simpa using h1) (by simpa using h2) hk
theorem DA {kindOf:Str->Option NameKind}{x:Str}{v:Value}:∀{P:List Str}{vs:List Value}{i:Nat}{m:Str->Option Value},P.Nodup->P[i]? = some x->vs[i]? = some v->kindOf x≠some .local ->
  bindC kindOf (P.zip vs) m x=some v
 |[],_,_,_,_,h,_,_=>by simp at h
 |_::_,[],_,_,_,_,h,_=>by simp at h
 |p::P,w::vs,0,m,nd,h1,h2,hk=>by
  simp at h1 h2;subst h1;subst h2
  show bindC kindOf ((p,w)::P.zip vs) m p=_
  unfold bindC
  rw[DS fun v hv=>(List.nodup_cons.mp nd).1 (List.of_mem_zip hv).1,if_neg hk]
  simp
 |p::P,w::vs,i+1,m,nd,h1,h2,hk=>by
  show bindC kindOf ((p,w)::P.zip vs) m x=_
  unfold bindC
  exact DA (i:=i) (List.nodup_cons.mp nd).2 (by simpa using h1) (by simpa using h2) hk
noncomputable def start (N:List Str)(vs:List V):St:=vs.map some++List.replicate (N.length-vs.length) none
noncomputable def dY (CX:yH)(P:Program)(w:World)(K:PySem.W.Frag)(mg:Str->Option Value)(base:Heap)(N:List Str)(qual:Str)(scope:Scope)(f:Addr)(cd:Value)(A:Around)(outer:List Env)(s:Shared)(H:Hp)(E:XK):Cx where
 prog:=P
 w:=w
 K:=K
 mg:=mg
 base:=base
 A:=A.deeper (envOfC qual scope s.heap.objs.size f cd)
 N:=N
 s₀:=s
 H₀:=H
 env:=envOfC qual scope s.heap.objs.size f cd
 outer:=outer
 stack:=envOfC qual scope s.heap.objs.size f cd::outer
 ex:=[]
 calm:=true
 fn:=fun _=>true
 pn:=[]
 xe:=fun e s'=>wpAny (model P w) (A.deeper (envOfC qual scope s.heap.objs.size f cd)) (leaving (envOfC qual scope s.heap.objs.size f cd) e) (fun _ s''=>CX outer H s E e s'') (fun e' s''=>CX outer H s E e' s'') s'
theorem GD {sc:Scope}{n:Nat}{x:Str}(h:sc.names.lookup x=some .cell):∃ c,(cellsFrom n sc.names []).lookup x=some c:=by
 have q:=PySem.W.cellsFrom_some sc.names n [] (.inl h)
 exact Option.isSome_iff_exists.mp q
theorem LS {CX:yH}{P:Program}{w:World}{K:PySem.W.Frag}{mg:Str->Option Value}{base:Heap}{N ps:List Str}{qual:Str}{scope:Scope}{f:Addr}{cd:Value}{A:Around}{outer:List Env}{s s1:Shared}{H:Hp}{E:XK}{us:List Value}{vs:List V}
  (S:kX N ps scope)(hd:A.handled=none)(e0:rB P w K mg base A outer s H)(hl:vs.length=ps.length)(r:aO vs us)
  (x:InCallC s s.heap.objs.size (bindL (envOfC qual scope s.heap.objs.size f cd).kindOf (ps.zip us) fun _=>none) (cellsFrom (s.heap.objs.size+1) scope.names []) (bindC (envOfC qual scope s.heap.objs.size f cd).kindOf (ps.zip us) fun _=>none) s1):
  Inv (dY CX P w K mg base N qual scope f cd A outer s H E) [] (start N vs) H s1:=by
 have cS:ps.length<=N.length:=by have:=congrArg List.length S.pre;rw[List.length_take]at this;omega
 obtain⟨h1,tk,rfl,hk⟩:=x.done
 have noA:∀ b:Addr,b∉(dY CX P w K mg base N qual scope f cd A outer s H E).ex:=fun b z=>absurd (show b∈([]:List Addr)from z) (by simp)
 refine⟨⟨e0.mod,S.kind,rfl,rfl,Nat.le_refl _,fun y z c h1 h2=>?_,fun y hy=>?_,fun y c _ h=>?_,fun _=>hd,Around.frames_deeper e0.frames,.inr ⟨rfl,rfl⟩,fun b z=>absurd z (noA b),e0.bs,e0.bsz,fun b _ _=>noA b,fun b z=>absurd z (noA b),e0.kB,e0.frf⟩,
  rfl,e0.bare,Un.kept hk,⟨_,x.toInCall.ns,fun i y v h1 h2 h3=>?_⟩,fun y c h=>⟨_,x.cell y c h⟩,e0.bH.fresh (Nat.le_refl _),fun y c h=>?_,fun p hp=>absurd (show p∈([]:List (Addr×Obj))from hp) (by simp),e0.bH.kept hk,?_⟩
 ·exact name_of_addr x.apart (PySem.mem_of_lookup h1) (PySem.mem_of_lookup h2)
 ·have hy:scope.names.lookup y=some .cell∨scope.names.lookup y=some .free:=hy
  rcases hy with hy|hy
  ·exact GD hy
  ·exact absurd rfl (S.nofree _ (PySem.mem_of_lookup hy))
 ·exact Nat.le_of_lt (x.above y c (PySem.mem_of_lookup h))
 ·have hi:i<vs.length:=by
   unfold start at h2
   by_cases hi:i<vs.length
   ·exact hi
   ·rw[List.getElem?_append_right (by simpa using hi)]at h2
    rw[List.getElem?_replicate]at h2
    split at h2<;>cases h2
  have ha:vs[i]? = some v:=by
   unfold start at h2
   rw[List.getElem?_append_left (by simpa using hi),List.getElem?_map]at h2
   cases e:vs[i]? with
   |none=>rw[e]at h2;cases h2
   |some a=>rw[e]at h2;cases h2;rfl
  obtain⟨u,hu,rv⟩:=r.get ha
  have hp:ps[i]? = some y:=by
   rw[<-S.pre,List.getElem?_take_of_lt (by omega)];exact h1
  have ndP:ps.Nodup:=by rw[<-S.pre];exact S.nd.sublist (List.take_sublist _ _)
  refine⟨u,rv,?_⟩
  rcases S.par y (List.mem_of_getElem? hp)with k|k
  ·exact .inl ⟨k,DV ndP hp hu k⟩
  ·obtain⟨c,e⟩:=GD (n:=s.heap.objs.size+1) k
   refine .inr ⟨.inl k,c,e,?_⟩
   have q:=x.cell y c e
   rw[DA ndP hp hu (by show scope.names.lookup y≠_;rw[k];decide)]at q
   exact q
 ·exact e0.bH.fresh (Nat.le_of_lt (x.above y c (PySem.mem_of_lookup h)))
 ·unfold start
  show _=N.length
  rw[List.length_append,List.length_map,List.length_replicate]
  omega
theorem R7 {CX:yH}{P:Program}{w:World}{K:PySem.W.Frag}{mg:Str->Option Value}{base:Heap}{k:Nat}{f:Addr}{name qual:Str}{params:Arguments}{body:List Stmt}{scope:Scope}{dV kV doc pm bD ct oc:Value}{an od:Option Addr}
  {osl:Array (Option Value)}{N ps:List Str}{sp:Sp}(lk:K.lookup f=some ⟨oc,od,.func (PySem.W.fnOf name qual params body scope dV kV doc pm an bD ct),osl⟩)(hcd:PySem.W.codeIn K bD qual=true)(S:kX N ps scope)
  (len:∀ vs H Q E,sp vs H Q E->vs.length=ps.length)
  (hbody:∀(A:Around)(outer:List Env)(s:Shared)(H:Hp)(vs:List V)(Q:VK)(E:XK),cK k (A.deeper (envOfC qual scope s.heap.objs.size f bD))->sp vs H Q E ->
   ∃ t,jI (dY CX P w K mg base N qual scope f bD A outer s H E) body t/\t { nx:=fun _ H'=>Q .non H',rt:=Q } (start N vs) H):
  eI P w K mg base CX (k+1) f (PySem.W.fnOf name qual params body scope dV kV doc pm an bD ct) ps sp:=by
 refine⟨len,fun A outer s H args us vs Q E hr e0 hb r hsp=>?_⟩
 have hl:=len _ _ _ _ hsp
 have KX:K.In s.heap:=e0.mod.kin.keeps fun b o e=>(e0.bs b o e).1
 have lim:s.heap.NoLimit:=e0.mod.nolimit.keeps fun b o e=>(e0.bs b o e).1
 have hkind:∀ y∈ps.zip us,scope.names.lookup y.1=some .local∨(scope.names.lookup y.1=some .cell/\((cellsFrom (s.heap.objs.size+1) scope.names []).lookup y.1).isSome=true):=fun⟨n,v⟩ hy=>by
  rcases S.par n (List.of_mem_zip hy).1 with q|q
  ·exact .inl q
  ·exact .inr ⟨q,PySem.W.cellsFrom_some _ _ _ (.inl q)⟩
 refine codeAny_call_function hr.depth (KX _ _ lk) rfl S.co S.gen rfl (PySem.W.codeRec_of KX hcd) (hb _ _ _ _ ?_)
 refine wpAny_newFunctionEnv_cells S.kind hkind fun env he s1 x=>?_
 subst he
 refine⟨lim.keeps x.toInCall.keep,codeAny_func ?_⟩
 obtain⟨t,ht,hq⟩:=hbody A outer s H vs Q E (hr.deeper _) hsp
 have I:Inv (dY CX P w K mg base N qual scope f bD A outer s H E) [] (start N vs) H s1:=LS S hr.hd e0 hl r x
 refine wpAny_mono (ht [] s1 (start N vs) H _ I hq) (fun fl s' hs=>?_) fun e s' hs=>hs
 have fin:∀{σ':St}{H':Hp}{v:V}{u:Value},Inv (dY CX P w K mg base N qual scope f bD A outer s H E) [] σ' H' s'->RelV v u->Q v H'->CE outer P w H s Q u s' :=
  fun{σ' H' v u} J rv q=>⟨v,H',J.os,J.bare,J.base,J.bH,rv,q⟩
 cases fl with
 |ret u =>
  obtain⟨v,σ',H',J,rv,q⟩:=hs
  exact fin J rv q
 |next =>
  obtain⟨σ',H',J,q⟩:=hs
  exact fin (v:=V.non) (u:=Value.none) J rfl q
 |brk =>
  obtain⟨_,_,_,q⟩:=hs
  exact False.elim q
 |cont =>
  obtain⟨_,_,_,q⟩:=hs
  exact False.elim q
end L2
namespace L2
open PySem PySem.Spec PyProof.Rows
section
variable {X:Cx}{x:Str}{p pos:Pos}{e:Expr}{es:List Expr}{t:TA}{id T:String}{r:List V->Hp->VK->Prop}
noncomputable def YY (r:List V->Hp->VK->Prop)(t:TA):TE:=fun σ H Q=>t σ H fun vs H1=>r vs H1 Q
theorem ER (hc:sX X (.builtin id) r)(hg:Gl X x)(hm:X.mg x=none)(hv:bootBuiltins x=some (.builtin id))(ha:PA X (e::es) t)(hn:x ≠"__name__":=by decide)(hdb:(x==("__debug__" : Str))=false:=by decide)
 (he:starEach (e::es) X.env=(false,eval e X.env)::starEach es X.env:=by rfl)(cS:(backTo pos (starEach es X.env)).any (·.1)=false:=by rfl):PE X (.Call (.Name x p) (e::es) [] pos) (YY r t):=by
 intro pins s σ H Q I h
 refine wpAny_Call_Name_kw (lR I hg hm hv ?_ hn hdb)
 exact PyProof.Rows.callWith_builtin1 (aV (ha pos pins s σ H _ I h) fun us s1 ⟨vs,H1,I1,r1,q1⟩=>hc pins s1 σ H1 vs us Q I1 r1 q1) he cS
theorem L7 (hc:sX X (.type T) r)(hg:Gl X x)(hm:X.mg x=none)(hv:bootBuiltins x=some (.type T))(ha:PA X (e::es) t)(hn:x ≠"__name__":=by decide)(hdb:(x==("__debug__" : Str))=false:=by decide)
 (he:starEach (e::es) X.env=(false,eval e X.env)::starEach es X.env:=by rfl)(cS:(backTo pos (starEach es X.env)).any (·.1)=false:=by rfl):PE X (.Call (.Name x p) (e::es) [] pos) (YY r t):=by
 intro pins s σ H Q I h
 refine wpAny_Call_Name_kw (lR I hg hm hv ?_ hn hdb)
 exact PyProof.Rows.callWith_type1 (aV (ha pos pins s σ H _ I h) fun us s1 ⟨vs,H1,I1,r1,q1⟩=>hc pins s1 σ H1 vs us Q I1 r1 q1) he cS
end
end L2
namespace HT
open PySem PyProof.Rows
section
variable {prog:Program}{w:World}{A:Around}{E:Value->Shared->Prop}{s:Shared}
theorem VC {t b:Addr}{vs ws:List Value}{Q:Value->Shared->Prop}(ht:IsTup s.heap t vs.toArray)(hb:IsTup s.heap b ws.toArray)(hv:vs≠[])
  (h1:ws=[]->Q (.ref t) s)(h2:ws≠[]->Q (.ref s.heap.objs.size) { s with heap:=s.heap.push { cls:=.type "tuple", data:=.seq (vs++ws).toArray } })
  (jH:vs.length+ws.length<=sizeLine):wpAny (model prog w) A (binaryOp .Add (.ref t) (.ref b)) Q E s:=by
 obtain⟨⟨cls,dd,data,sl⟩,ho,hc,n,hd⟩:=id ht
 obtain⟨⟨cls2,dd2,data2,sl2⟩,ho2,hc2,n2,hd2⟩:=id hb
 simp only at hc hd hc2 hd2
 subst hc hd hc2 hd2
 have e:vs.toArray++ws.toArray=(vs++ws).toArray:=by simp
 by_cases hw:ws=[]
 ·exact concat_meets ⟨_,ho,rfl⟩ ⟨_,ho2,rfl⟩ noFill_tuple_add seq_tuple_add PySem.F.slot_tuple_add PySem.F.entry_tuple_add (PySem.F.args_tuple_add_2 _ _)
   (tuple_addW1 t b vs.toArray ws.toArray n n2 dd dd2 sl sl2 (by simpa using hv) (by simp [hw])) ⟨ho,ho2,h1 hw⟩
 ·refine concat_meets ⟨_,ho,rfl⟩ ⟨_,ho2,rfl⟩ noFill_tuple_add seq_tuple_add PySem.F.slot_tuple_add PySem.F.entry_tuple_add (PySem.F.args_tuple_add_2 _ _)
   (tuple_addW2 t b vs.toArray ws.toArray n n2 dd dd2 sl sl2 (by simpa using hv) (by simpa using hw) (by rw[List.size_toArray,List.size_toArray];exact jH)) ⟨ho,ho2,?_⟩
  rw[e]
  exact h2 hw
noncomputable def bX (n d:Nat):Option Int->Nat
 |none=>d
 |some v=>if v<0 then(v+(n:Int)).toNat else min v.toNat n
theorem Y7 (n d:Nat)(hd:d<=n)(o:Option Int):bX n d o<=n:=by
 cases o with
 |none=>exact hd
 |some v =>
 show(if v<0 then(v+(n:Int)).toNat else min v.toNat n)<=n
 by_cases hv:v<0
 ·rw[if_pos hv];omega
 ·rw[if_neg hv];exact Nat.min_le_right _ _
theorem ID (v:Int)(n d:Nat):(if v<0 then max (v+(n:Int)) 0 else min v (n:Int))=((bX n d (some v):Nat):Int):=by
 show(if v<0 then max (v+(n:Int)) 0 else min v (n:Int))=(((if v<0 then(v+(n:Int)).toNat else min v.toNat n):Nat):Int)
 by_cases hv:v<0
 ·simp only[if_pos hv];omega
 ·simp only[if_neg hv];omega
theorem KH (lo hi:Option Int)(n:Nat):Builtin.Slice.sliceAdjust lo hi 1 (n:Int)=(((bX n 0 lo:Nat):Int),((bX n n hi:Nat):Int)):=by
 have h1:¬((1:Int)<0):=by omega
 unfold Builtin.Slice.sliceAdjust
 simp only[h1,if_false]
 refine Prod.ext ?_ ?_
 ·cases lo with
 |none=>rfl
 |some v=>exact ID v n 0
 ·cases hi with
 |none=>rfl
 |some v=>exact ID v n n
theorem J4 (i j:Nat):Builtin.Slice.slicePlaces (i:Int) (j:Int) 1=j-i:=by
 unfold Builtin.Slice.slicePlaces
 have h1:(1:Int)>0:=by omega
 simp only[h1,if_true,Int.ediv_one]
 split<;>omega
theorem AW {v:Value}{o:Option Int}{Q:Option Int->Shared->Prop}(p:IsPart v o)(h:Q o s):wpAny (model prog w) A (Builtin.Slice.slicePartIndex v) Q E s:=by
 cases p with
 |none=>exact slicePart_none h
 |int i t=>exact slicePart_int h
theorem oY {sl:Addr}{vl vu:Value}{lo hi:Option Int}{n:Nat}{Q:Int×Int×Nat->Shared->Prop}(hs:s.heap.IsSliceOf sl vl vu .none)(pl:IsPart vl lo)(pu:IsPart vu hi)
 (h:Q (((bX n 0 lo:Nat):Int),1,bX n n hi-bX n 0 lo) s):wpAny (model prog w) A (Builtin.Slice.sliceApplied (.ref sl) (pure (n:Int))) Q E s:=by
 obtain⟨os,hos,hcs,hds⟩:=id hs
 unfold Builtin.Slice.sliceApplied Builtin.Slice.sliceFields
 refine wpAny_bind (wpAny_bind (wpAny_field hos hds (x:=vl) rfl (wpAny_bind (wpAny_field hos hds (x:=vu) rfl (wpAny_bind (wpAny_field hos hds (x:=.none) rfl (wpAny_pure ?_)))))))
 refine wpAny_bind (slicePart_none ?_)
 show wpAny _ _ (if((1:Int)==0)=true then _ else _) _ _ s
 rw[if_neg (by decide)]
 refine wpAny_bind (AW pl (wpAny_bind (AW pu (wpAny_bind (wpAny_pure ?_)))))
 show wpAny _ _ (match Builtin.Slice.sliceAdjust lo hi 1 (n:Int)with|(lo,hi)=>pure (lo,(1:Int),Builtin.Slice.slicePlaces lo hi 1)) _ _ s
 rw[KH lo hi n]
 show wpAny _ _ (pure (((bX n 0 lo:Nat):Int),(1:Int),Builtin.Slice.slicePlaces ((bX n 0 lo:Nat):Int) ((bX n n hi:Nat):Int) 1)) _ _ s
 rw[J4]
 exact wpAny_pure h
theorem Q7 (xs:Array Value)(i k:Nat):((List.range k).filterMap fun(m:Nat)=>xs[((i:Int)+(m:Int)*1).toNat]?).toArray=((xs.toList.drop i).take k).toArray:=by
 have e:(fun(m:Nat)=>xs[((i:Int)+(m:Int)*1).toNat]?)=fun m=>xs[i+m]?:=by
  funext m
  have:((i:Int)+(m:Int)*1).toNat=i+m:=by omega
  rw[this]
 rw[e]
 have:=pick_run xs i k
 rw[List.filterMap_map]at this
 have e2:((fun x=>xs[x]?)∘fun x=>i+x)=fun m=>xs[i+m]?:=rfl
 rw[e2]at this
 rw[this]
theorem xT {t sl:Addr}{items:Array Value}{vl vu:Value}{lo hi:Option Int}{Q:Value->Shared->Prop}(ht:IsTup s.heap t items)(hs:s.heap.IsSliceOf sl vl vu .none)(pl:IsPart vl lo)(pu:IsPart vu hi)
  (hw:¬(bX items.size 0 lo=0/\bX items.size items.size hi=items.size))
  (h:Q (.ref s.heap.objs.size) { s with heap:=s.heap.push { cls:=.type "tuple", data:=.seq ((items.toList.drop (bX items.size 0 lo)).take (bX items.size items.size hi-bX items.size 0 lo)).toArray } })
  (jH:items.size<=sizeLine):wpAny (model prog w) A (getItem (.ref t) (.ref sl)) Q E s:=by
 have htake:sizeOk (.seq ((items.toList.drop (bX items.size 0 lo)).take (bX items.size items.size hi-bX items.size 0 lo)).toArray):=by
  show((items.toList.drop (bX items.size 0 lo)).take (bX items.size items.size hi-bX items.size 0 lo)).toArray.size<=sizeLine
  rw[List.size_toArray,List.length_take,List.length_drop,Array.length_toList]
  omega
 have hj:bX items.size items.size hi<=items.size:=Y7 _ _ (Nat.le_refl _) hi
 obtain⟨os,hos,hcs,hds⟩:=id hs
 have hTs:s.TypeIs (.ref sl) "slice":=⟨os,hos,hcs⟩
 unfold getItem
 try with_reducible refine wpAny_holding ?_
 first|refine wpAny_bind (wpAny_pure ?_)|skip
 refine wpAny_bind (wpAny_sequenceKey ht.typeIs (by decide) ?_)
 refine wpAny_bind (wpAny_callSpecial?_slot (name:=Str.ofString "__getitem__") ht.typeIs PyProof.Rows.slot_tuple_getitem
  (wpAny_call_entry PyProof.Rows.slot_tuple_getitem ht.typeIs entry_tuple_getitem ?_ (args_tuple_getitem _ _)))
 show wpAny _ _ (Builtin.Tuple.tupleItemsOf (.ref t) >>= _) _ _ s
 refine wpAny_bind (tupleItemsOf_ ht ?_)
 refine wpAny_bind (wpAny_typeOf hTs ?_)
 rw[if_pos (by decide)]
 refine wpAny_bind (oY hs pl pu ?_)
 have hno:¬((((bX items.size 0 lo:Nat):Int)==0&&(1:Int)==1&&(bX items.size items.size hi-bX items.size 0 lo)==items.size)=true):=by
  intro q
  rw[Bool.and_eq_true,Bool.and_eq_true]at q
  have q1:((bX items.size 0 lo:Nat):Int)=0:=eq_of_beq q.1.1
  have q2:bX items.size items.size hi-bX items.size 0 lo=items.size:=eq_of_beq q.2
  exact hw ⟨by omega,by omega⟩
 show wpAny _ _ (if(((bX items.size 0 lo:Nat):Int)==0&&(1:Int)==1&&(bX items.size items.size hi-bX items.size 0 lo)==items.size)=true then _ else _) _ _ s
 rw[if_neg hno,Q7]
 first
  |exact wpAny_bind (m:=Builtin.Tuple.tupleExact _) (wpAny_newObj_type (wpAny_pure ⟨_,rfl,wpAny_pure h⟩) htake)
  |exact wpAny_bind (m:=Builtin.Tuple.tupleExact _) (wpAny_newObj_type (wpAny_bind (wpAny_pure (wpAny_pure ⟨_,rfl,wpAny_pure h⟩))) htake)
  |exact wpAny_bind (wpAny_bind (m:=Builtin.Tuple.tupleExact _) (wpAny_newObj_type (wpAny_pure (wpAny_pure ⟨_,rfl,wpAny_pure h⟩)) htake))
  |exact wpAny_bind (wpAny_bind (m:=Builtin.Tuple.tupleExact _) (wpAny_newObj_type (wpAny_pure ⟨_,rfl,wpAny_pure h⟩) htake))
end
end HT
namespace L2
open PySem PySem.Spec PyProof.Rows
noncomputable abbrev TO:=St->Hp->(Option Int->Hp->Prop)->Prop
noncomputable def PO (X:Cx)(e:Option Expr)(t:TO):Prop :=
 ∀(pins:List (Addr×Obj))(s:Shared)(σ:St)(H:Hp)(Q:Option Int->Hp->Prop),Inv X pins σ H s->t σ H Q ->
 wpAny (model X.prog X.w) X.A (evalPart e X.env) (fun u s'=>∃ o H',Inv X pins σ H' s'/\IsPart u o/\Q o H') X.xe s
noncomputable def S2:TO:=fun _ H Q=>Q none H
noncomputable def Ep (t:TE):TO:=fun σ H Q=>t σ H fun x H1=>∃ i,x=.int i/\Q (some i) H1
section
variable {X:Cx}{e:Expr}{te:TE}{lo hi:Option Expr}{tl th:TO}{pos p2:Pos}
theorem S6:PO X none S2:=by
 intro pins s σ H Q I h
 rw[evalPart_none]
 exact wpAny_pure ⟨none,H,I,.none,h⟩
theorem VA (h:PE X e te):PO X (some e) (Ep te):=by
 intro pins s σ H Q I hw
 rw[evalPart_some]
 refine aV (h pins s σ H _ I hw) fun u s1 ⟨x,H1,I1,r1,q1⟩=>?_
 obtain⟨i,rfl,q⟩:=q1
 obtain⟨t,rfl⟩:=r1
 exact⟨some i,H1,I1,.int i t,q⟩
noncomputable def vS (X:Cx)(r:V->Option Int->Option Int->Hp->VK->Prop):Prop :=
 ∀(pins:List (Addr×Obj))(s:Shared)(σ:St)(H:Hp)(x:V)(v vl vu:Value)(lo hi:Option Int)(sl:Addr)(Q:VK),Inv X pins σ H s->RelV x v->s.heap.IsSliceOf sl vl vu .none->IsPart vl lo->IsPart vu hi->r x lo hi H Q ->
 ∃ T id,typeLookup (.type T) "__getitem__" = pure (some (.builtin id))/\s.TypeIs v T/\wpAny (model X.prog X.w) X.A (getItem v (.ref sl)) (EP X pins σ Q) X.xe s
theorem vS.or {r r':V->Option Int->Option Int->Hp->VK->Prop}(h:vS X r)(h':vS X r'):vS X (fun x lo hi H Q=>r x lo hi H Q∨r' x lo hi H Q):=by
 intro pins s σ H x v vl vu lo hi sl Q I rx hs pl pu q
 rcases q with q|q
 ·exact h pins s σ H x v vl vu lo hi sl Q I rx hs pl pu q
 ·exact h' pins s σ H x v vl vu lo hi sl Q I rx hs pl pu q
noncomputable def Jy (r:V->Option Int->Option Int->Hp->VK->Prop)(te:TE)(tl th:TO):TE:=fun σ H Q=>te σ H fun x H1=>tl σ H1 fun l H2=>th σ H2 fun u H3=>r x l u H3 Q
theorem P6 {r:V->Option Int->Option Int->Hp->VK->Prop}(hr:vS X r)(he:PE X e te)(hl:PO X lo tl)(hu:PO X hi th):PE X (.Subscript e (.Slice lo hi none p2) pos) (Jy r te tl th):=by
 intro pins s σ H Q I h
 refine Subscript_ (aV (he pins s σ H _ I h) fun v s1 ⟨x,H1,I1,r1,q1⟩=>?_)
 refine wpAny_Slice (aV (hl pins s1 σ H1 _ I1 q1) fun vl s2 ⟨l,H2,I2,pl,q2⟩=>aV (hu pins s2 σ H2 _ I2 q2) fun vu s3 ⟨u,H3,I3,pu,q3⟩=>?_)
 rw[evalPart_none]
 refine wpAny_pure ?_
 have I4:Inv X pins σ H3 { s3 with heap:=s3.heap.push { cls:=.type "slice", data:=.fields #[vl,vu,.none] } }:=I3.kept (t':=s3.toks) fun b ob q=>Heap.get?_push_of_some _ q
 obtain⟨T,id,hT,ht,hg⟩:=hr pins { s3 with heap:=s3.heap.push { cls:=.type "slice", data:=.fields #[vl,vu,.none] } } σ H3 x v vl vu l u s3.heap.objs.size Q I4 r1 (Heap.IsSliceOf.new ..) pl pu q3
 show wpAny (model X.prog X.w) X.A (subscriptTail e (.Slice lo hi none p2) v (.ref s3.heap.objs.size)) (EP X pins σ Q) X.xe { s3 with heap:=s3.heap.push { cls:=.type "slice", data:=.fields #[vl,vu,.none] } }
 exact tail_any (ops:=[.ref s3.heap.objs.size,v]) ht hT hg (by with_unfolding_all rfl)
noncomputable def BL (xs:List V)(lo hi:Option Int):List V:=(xs.drop (HT.bX xs.length 0 lo)).take (HT.bX xs.length xs.length hi-HT.bX xs.length 0 lo)
theorem xY (xs:List V)(lo hi:Option Int):(BL xs lo hi).length<=xs.length:=by
 unfold BL
 rw[List.length_take,List.length_drop]
 omega
noncomputable def YS (K:PySem.W.Frag):V->Option Int->Option Int->Hp->VK->Prop:=fun x lo hi H Q=>∃ a xs,x=.ref a/\dQ K H a xs /\
 ¬(HT.bX xs.length 0 lo=0/\HT.bX xs.length xs.length hi=xs.length)/\∀ p,H p=none->Q (.ref p) (upd H p (.tup (BL xs lo hi)))
theorem GV:vS X (YS X.K):=by
 intro pins s σ H x v vl vu lo hi sl Q I rx hs pl pu h
 obtain⟨a,xs,rfl,hx,hw,q⟩:=h
 cases rx
 obtain⟨aD,r,ht,hz⟩:=I.tuple hx
 have hlen:aD.toArray.size=xs.length:=by rw[List.size_toArray];exact r.length.symm
 refine⟨"tuple", _,PyProof.Rows.slot_tuple_getitem.lookup,ht.typeIs,?_⟩
 refine HT.xT ht hs pl pu (by rw[hlen];exact hw) ?_ (by rw[hlen];exact hz)
 rw[hlen]
 refine⟨.ref s.heap.objs.size,_,I.laid (t':=s.toks) (o:=.tup (BL xs lo hi)) (fun b ob q=>Heap.get?_push_of_some _ q) (Nat.le_refl _) ?_,rfl,q _ (I.bH.fresh (Nat.le_refl _))⟩
 exact⟨Nat.le_trans (xY xs lo hi) hz,_,(r.drop (HT.bX xs.length 0 lo)).take (HT.bX xs.length xs.length hi-HT.bX xs.length 0 lo),nX.new _ _⟩
noncomputable def RV (K:PySem.W.Frag):R2:=fun x y H Q=>∃ a b xs ys,x=.ref a/\y=.ref b/\dQ K H a xs/\dQ K H b ys/\xs≠[]/\xs.length+ys.length<=sizeLine /\
 (ys=[]->Q (.ref a) H)/\(ys≠[]->∀ p,H p=none->Q (.ref p) (upd H p (.tup (xs++ys))))
theorem aO.xM {xs:List V}{us:List Value}(r:aO xs us):us=[]↔xs=[]:=by
 cases r with
 |nil=>simp
 |cons _ _=>simp
theorem SX:gA X (binaryOp .Add) (RV X.K):=by
 intro pins s σ H x y v u Q I rx ry h
 obtain⟨a,b,xs,ys,rfl,rfl,ha,hb,hx,hz,q1,q2⟩:=h
 cases rx
 cases ry
 obtain⟨aD,r1,p1,_⟩:=I.tuple ha
 obtain⟨mC,r2,p2,_⟩:=I.tuple hb
 refine HT.VC p1 p2 (fun z=>hx (r1.xM.mp z)) (fun z=>⟨.ref a,H,I,rfl,q1 (r2.xM.mp z)⟩) (fun z=>?_) (by rw[<-r1.length,<-r2.length];exact hz)
 refine⟨.ref s.heap.objs.size,_,I.laid (t':=s.toks) (o:=.tup (xs++ys)) (fun b ob q=>Heap.get?_push_of_some _ q) (Nat.le_refl _) ?_,rfl,q2 (fun w=>z (r2.xM.mpr w)) _ (I.bH.fresh (Nat.le_refl _))⟩
 exact⟨by rw[List.length_append];exact hz,_,r1.append r2,nX.new _ _⟩
end
end L2
namespace L2
open PySem PySem.Spec PyProof.Rows
noncomputable def lG (n:Nat)(i:Int):Option Nat:=if 0<=i then(if i<n then some i.toNat else none)else if -(n:Int)<=i then some (i+n).toNat else none
noncomputable def eJ {α:Type}(xs:List α)(i:Int):Option α:=(lG xs.length i).bind fun j=>xs[j]?
theorem IX {n:Nat}{i:Int}{j:Nat}(h:lG n i=some j):seqIndex? i n=some j/\j<n/\-(n:Int)<=i/\i<n:=by
 unfold lG at h
 by_cases h0:0<=i
 ·rw[if_pos h0]at h
  by_cases h1:i<n
  ·rw[if_pos h1]at h
   have e:i.toNat=j:=Option.some.inj h
   exact⟨by rw[seqIndex_of h0 h1,e],by omega,by omega,h1⟩
  ·rw[if_neg h1]at h;cases h
 ·rw[if_neg h0]at h
  by_cases h1 : -(n:Int)<=i
  ·rw[if_pos h1]at h
   have e:(i+n).toNat=j:=Option.some.inj h
   exact⟨by rw[seqIndex_neg (by omega) h1,e],by omega,h1,by omega⟩
  ·rw[if_neg h1]at h;cases h
theorem BB {α:Type}{xs:List α}{i:Int}{v:α}(h:eJ xs i=some v):∃ j,seqIndex? i xs.length=some j/\xs[j]? = some v/\j<xs.length/\-(xs.length:Int)<=i/\i<xs.length:=by
 unfold eJ at h
 cases e:lG xs.length i with
 |none=>rw[e]at h;cases h
 |some j =>
 rw[e]at h
 obtain⟨h1,h2,h3,h4⟩:=IX e
 exact⟨j,h1,h,h2,h3,h4⟩
theorem dW {α:Type}{xs:List α}{j:Nat}{v:α}(h:xs[j]? = some v):eJ xs (j:Int)=some v:=by
 have hj:j<xs.length:=(List.getElem?_eq_some_iff.mp h).1
 have e:lG xs.length (j:Int)=some j:=by
  unfold lG
  rw[if_pos (by omega),if_pos (by omega)];simp
 unfold eJ;rw[e];exact h
noncomputable def rW (b:Expr):Prop:=∀ o i,subscripted b false o i=operate [o,i] (getItem o i)
noncomputable def uF (X:Cx)(r:R2):Prop :=
 ∀(value slice:Expr)(pins:List (Addr×Obj))(s:Shared)(σ:St)(H:Hp)(x y:V)(v u:Value)(Q:VK),Inv X pins σ H s->RelV x v->RelV y u->r x y H Q ->
 subscripted slice false v u=operate [v,u] (getItem v u)->wpAny (model X.prog X.w) X.A (subscriptTail value slice v u) (EP X pins σ Q) X.xe s
noncomputable def R0 (X:Cx)(id:String)(r:V->List V->Hp->VK->Prop):Prop :=
 ∀(pins:List (Addr×Obj))(s:Shared)(σ:St)(H:Hp)(x:V)(xs:List V)(v:Value)(us:List Value)(Q:VK),Inv X pins σ H s->RelV x v->aO xs us->r x xs H Q ->
 wpAny (model X.prog X.w) X.A (call (.builtin id) (v::us)) (EP X pins σ Q) X.xe s
section
variable {X:Cx}{a b:Expr}{ta tb:TE}{pos:Pos}
theorem uF.or {r r':R2}(h:uF X r)(h':uF X r'):uF X (fun x y H Q=>r x y H Q∨r' x y H Q):=by
 intro value slice pins s σ H x y v u Q I rx ry q hs
 rcases q with q|q
 ·exact h value slice pins s σ H x y v u Q I rx ry q hs
 ·exact h' value slice pins s σ H x y v u Q I rx ry q hs
theorem RU {r:R2}(hr:uF X r)(ha:PE X a ta)(hb:PE X b tb)(hs:rW b):PE X (.Subscript a b pos) (W5 r ta tb):=by
 intro pins s σ H Q I h
 exact Subscript_ (ZN ha hb I h fun v u s2 x y H2 I2 rx ry q=>hr a b pins s2 σ H2 x y v u Q I2 rx ry q (hs _ _))
noncomputable def XR (K:PySem.W.Frag):R2:=fun x y H Q=>∃ p xs i v,x=.ref p/\y=.int i/\dR K H p xs/\eJ xs i=some v/\Q v H
noncomputable def W3 (K:PySem.W.Frag):R2:=fun x y H Q=>∃ p xs i v,x=.ref p/\y=.int i/\dQ K H p xs/\eJ xs i=some v/\Q v H
noncomputable def Ab:R2:=fun x y H Q=>∃ z i c,x=.str z/\y=.int i/\z.length<=sizeLine/\eJ z.cps.toList i=some c/\Q (.str ⟨#[c]⟩) H
theorem VI:uF X (XR X.K):=by
 intro value slice pins s σ H x y v u Q I rx ry h hs
 obtain⟨p,xs,i,z,rfl,rfl,hq,he,q⟩:=h
 cases rx
 obtain⟨t,rfl⟩:=ry
 obtain⟨aD,r,pl,hz⟩:=I.list hq
 obtain⟨j,h1,h2,h3,h4,h5⟩:=BB he
 obtain⟨w,ew,rw'⟩:=r.get h2
 have hl:=r.length
 have hn:=pM
 have fin:EP X pins σ Q w s:=⟨z,H,I,rw',q⟩
 by_cases h0:0<=i
 ·have hj:i.toNat=j:=by
   rw[seqIndex_of h0 h5]at h1
   exact Option.some.inj h1
  exact item_listR pl.isList h0 (by omega) (by rw[hj];simpa using ew) fin hs
 ·have hj:(i+(aD.toArray.size:Int)).toNat=j:=by
   rw[seqIndex_neg (by omega) h4]at h1
   rw[List.size_toArray,<-hl]
   exact Option.some.inj h1
  exact subscriptTail_builtinR (x:=w) pl.isList.typeIs slot_list_getitem.lookup
   (wpAny_getItem_list_neg (Q:=fun r s'=>r=w/\EP X pins σ Q r s') pl.isList (by omega) (by rw[List.size_toArray]<;>omega) (by omega) (by rw[hj];simpa using ew) ⟨rfl,fin⟩) hs
theorem jS:uF X (W3 X.K):=by
 intro value slice pins s σ H x y v u Q I rx ry h hs
 obtain⟨p,xs,i,z,rfl,rfl,hq,he,q⟩:=h
 cases rx
 obtain⟨t,rfl⟩:=ry
 obtain⟨aD,r,pl,hz⟩:=I.tuple hq
 obtain⟨j,h1,h2,h3,h4,h5⟩:=BB he
 obtain⟨w,ew,rw'⟩:=r.get h2
 have hl:=r.length
 have hn:=pM
 have fin:EP X pins σ Q w s:=⟨z,H,I,rw',q⟩
 exact subscriptTail_builtinR (x:=w) pl.typeIs slot_tuple_getitem.lookup
  (getItem_tuple (j:=j) (Q:=fun r s'=>r=w/\EP X pins σ Q r s') pl (by omega) (by omega) (by rw[List.size_toArray,<-hl];exact h1) (by simpa using ew) ⟨rfl,fin⟩) hs
theorem E7:uF X Ab:=by
 intro value slice pins s σ H x y v u Q I rx ry h hs
 obtain⟨z,i,c,rfl,rfl,hz,he,q⟩:=h
 obtain⟨t,rfl⟩:=rx
 obtain⟨t',rfl⟩:=ry
 obtain⟨j,h1,h2,h3,h4,h5⟩:=BB he
 have hl:z.cps.toList.length=z.length:=by simp [Str.length]
 rw[hl]at h1 h4 h5
 have hn:=pM
 exact tail_any (typeIs_str s z t) slot_str_getitem.lookup (getItem_str (c:=c) (by
 have e1:decide (i < -(2 ^ 63:Int))=false:=decide_eq_false (by omega)
 have e2:decide (i ≥ 2 ^ 63)=false:=decide_eq_false (by omega)
 rw[e1,e2,Bool.or_false]) (by rw[h1];simpa using h2) ⟨.str ⟨#[c]⟩,H,I.tok _,⟨_,rfl⟩,q⟩) hs
noncomputable def Fk (K:PySem.W.Frag):R2:=fun x y H Q=>XR K x y H Q∨W3 K x y H Q∨Ab x y H Q
theorem YN:uF X (Fk X.K):=VI.or (jS.or E7)
theorem J8 (aD:List Value)(n j:Nat)(u:Value):Obj.mapSeq (·.setIfInBounds j u) { cls:=.type "list", data:=.seq aD.toArray n } = { cls:=.type "list", data:=.seq (aD.set j u).toArray n }:=by
 simp [Obj.mapSeq]
theorem Inv.lst {pins:List (Addr×Obj)}{σ:St}{H:Hp}{s:Shared}{p:Addr}{xs:List V}(I:Inv X pins σ H s)(h:H p=some (.lst xs)):
 ∃(aD:List Value)(n:Nat),aO xs aD/\s.heap.get? p=some { cls:=.type "list", data:=.seq aD.toArray n }/\xs.length<=sizeLine:=by
 obtain⟨z,aD,n,r,e⟩:=I.bH p _ h
 exact⟨aD,n,r,e,z⟩
theorem Inv.X0 {pins:List (Addr×Obj)}{σ:St}{H:Hp}{s:Shared}{p:Addr}{xs ys:List V}{aD kC:List Value}{n n':Nat}{f:Obj->Obj}(I:Inv X pins σ H s)(h:H p=some (.lst xs))
  (ho:s.heap.get? p=some { cls:=.type "list", data:=.seq aD.toArray n })(hf:f { cls:=.type "list", data:=.seq aD.toArray n } = { cls:=.type "list", data:=.seq kC.toArray n' })(r:aO ys kC)(hz:ys.length<=sizeLine)(t:Nat):
  Inv X pins σ (upd H p (.lst ys)) { s with heap:=s.heap.update p f,toks:=t }:=by
 have e:(s.heap.update p f).get? p=some { cls:=.type "list", data:=.seq kC.toArray n' }:=by
  rw[Heap.get?_update_self f ho (by rw[hf]<;>rfl),hf]
 refine I.write (x:=p) (e:=p) (by rw[h];trivial) (.inl rfl) (fun b u hb q=>(Heap.get?_update_other _ _ (Ne.symm hb)).trans q) ⟨_,e⟩ ?_
 exact⟨hz,kC,n',r,e⟩
noncomputable def Aq:V->V->V->Hp->(Hp->Prop)->Prop:=fun o i v H Q=>∃ p xs k j,o=.ref p/\i=.int k/\H p=some (.lst xs)/\lG xs.length k=some j/\Q (upd H p (.lst (xs.set j v)))
theorem set_list:WN X Aq:=by
 intro pins s σ H o i v ov iv u Q I ro ri rv h
 obtain⟨p,xs,k,j,rfl,rfl,hp,hj,q⟩:=h
 cases ro
 obtain⟨t,rfl⟩:=ri
 obtain⟨aD,n,r,ho,hz⟩:=I.lst hp
 obtain⟨h1,h2,h3,h4⟩:=IX hj
 have hl:=r.length
 have hn:=pM
 have I':Inv X pins σ (upd H p (.lst (xs.set j v))) { s with heap:=s.heap.update p (Obj.mapSeq (·.setIfInBounds j u)) } :=
  I.X0 hp ho (J8 aD n j u) (r.set rv j) (by rw[List.length_set];exact hz) s.toks
 by_cases h0:0<=k
 ·have hk:k.toNat=j:=by
   rw[seqIndex_of h0 h4]at h1
   exact Option.some.inj h1
  exact PySem.W.ki_setAt ho h0 (by omega) (by rw[List.size_toArray,<-hl];exact h4) (by rw[hk];exact⟨_,I',q⟩)
 ·have hk:(k+(aD.toArray.size:Int)).toNat=j:=by
   rw[seqIndex_neg (by omega) h3]at h1
   rw[List.size_toArray,<-hl]
   exact Option.some.inj h1
  exact PySem.W.ki_setBack ho (by omega) (by rw[List.size_toArray,<-hl];exact h3) (by omega) (by rw[hk];exact⟨_,I',q⟩)
theorem FK (lo hi:Option Int)(n:Nat):(sliceBounds lo hi none n).1=((HT.bX n 0 lo:Nat):Int)/\(sliceBounds lo hi none n).2.1=((HT.bX n n hi:Nat):Int)/\(sliceBounds lo hi none n).2.2=1:=by
 refine⟨?_,?_,rfl⟩
 ·cases lo with
 |none=>simp [sliceBounds,HT.bX]
 |some i =>
  simp only[sliceBounds,HT.bX,Option.getD_none,show(1:Int)>0 by decide,if_true]
  by_cases h:i<0
  ·simp only[h,if_true]<;>omega
  ·simp only[h,if_false]<;>omega
 ·cases hi with
 |none=>simp [sliceBounds,HT.bX]
 |some i =>
  simp only[sliceBounds,HT.bX,Option.getD_none,show(1:Int)>0 by decide,if_true]
  by_cases h:i<0
  ·simp only[h,if_true]<;>omega
  ·simp only[h,if_false]<;>omega
theorem DX (aD:List Value)(lo hi:Option Int):slicePick aD.toArray lo hi none=((aD.drop (HT.bX aD.length 0 lo)).take (HT.bX aD.length aD.length hi-HT.bX aD.length 0 lo)).toArray:=by
 obtain⟨h1,h2,h3⟩:=FK lo hi aD.toArray.size
 unfold slicePick
 rw[h1,h2,h3]
 simp only[sliceRange_one,pick_run,List.size_toArray]<;>rfl
noncomputable def X2 (K:PySem.W.Frag):V->Option Int->Option Int->Hp->VK->Prop:=fun x lo hi H Q=>∃ a xs,x=.ref a/\dR K H a xs/\∀ p,H p=none->Q (.ref p) (upd H p (.lst (BL xs lo hi)))
theorem TK:vS X (X2 X.K):=by
 intro pins s σ H x v vl vu lo hi sl Q I rx hs pl pu h
 obtain⟨a,xs,rfl,hx,q⟩:=h
 cases rx
 obtain⟨aD,r,ht,hz⟩:=I.list hx
 have hlen:=r.length
 refine⟨"list", _,slot_list_getitem.lookup,ht.isList.typeIs,?_⟩
 refine wpAny_getItem_list_slice ht.isList hs pl pu .none (by simp) ?_ (by rw[List.size_toArray]<;>omega)
 rw[DX,<-hlen]
 refine⟨.ref s.heap.objs.size,_,I.laid (t':=s.toks) (o:=.lst (BL xs lo hi)) (fun b ob q=>Heap.get?_push_of_some _ q) (Nat.le_refl _) ?_,rfl,q _ (I.bH.fresh (Nat.le_refl _))⟩
 exact⟨Nat.le_trans (xY xs lo hi) hz,_,0,(r.drop (HT.bX xs.length 0 lo)).take (HT.bX xs.length xs.length hi-HT.bX xs.length 0 lo),Heap.get?_push_size _ rfl⟩
theorem EO:gA X (compareOp .NotIn) (fun x y H Q=>∃ i j,x=.str i/\y=.str j/\Q (.bl (!(!(Builtin.Str.occurrences j i 0 j.length 1).isEmpty))) H):=by
 intro pins s σ H x y v u Q I rx ry h
 obtain⟨i,j,rfl,rfl,q⟩:=h
 obtain⟨t,rfl⟩:=rx
 obtain⟨t',rfl⟩:=ry
 exact notIn_str ⟨.bl _,H,I,rfl,q⟩
theorem FN:sX X (.type "list") (fun xs H Q=>∃ p ys,xs=[.ref p]/\(dR X.K H p ys∨dQ X.K H p ys)/\∀ l,H l=none->Q (.ref l) (upd H l (.lst ys))):=by
 intro pins s σ H xs us Q I r h
 obtain⟨p,ys,rfl,hq,q⟩:=h
 obtain⟨u,rfl,rx⟩:=vals1 r
 cases rx
 have fin:∀(aD:List Value),aO ys aD->ys.length<=sizeLine->∀(h':Heap)(c':Nat),(∀ b o',s.heap.get? b=some o'->h'.get? b=some o') ->
   h'.get? s.heap.objs.size=some { cls:=.type "list", dict:=none,data:=.seq aD.toArray c',slots:=#[] }->EP X pins σ Q (.ref s.heap.objs.size) { s with heap:=h' }:=fun aD r' hz h' c' kp e =>
  ⟨.ref s.heap.objs.size,_,I.laid (t':=s.toks) kp (Nat.le_refl _) (show iL X.prog X.w _ h' _ (.lst ys)from⟨hz,aD,c',r',e⟩),rfl,q _ (I.bH.fresh (Nat.le_refl _))⟩
 rcases hq with hq|hq
 ·obtain⟨aD,r',pl,hz⟩:=I.list hq
  have hlen:=r'.length
  obtain⟨o,ho,hc,n,hd⟩:=pl.isList
  exact call_list_seq p (.inl rfl) ho hc hd (fun h' c' kp e=>fin aD r' hz h' c' kp e) (by simp only[List.size_toArray]<;>omega)
 ·obtain⟨aD,r',pl,hz⟩:=I.tuple hq
  have hlen:=r'.length
  obtain⟨o,ho,hc,n,hd⟩:=pl
  exact call_list_seq p (.inr rfl) ho hc hd (fun h' c' kp e=>fin aD r' hz h' c' kp e) (by simp only[List.size_toArray]<;>omega)
theorem uB:sX X (.type "tuple") (fun xs H Q=>∃ p ys,xs=[.ref p]/\((dR X.K H p ys/\∀ l,H l=none->Q (.ref l) (upd H l (.tup ys)))∨(dQ X.K H p ys/\Q (.ref p) H))):=by
 intro pins s σ H xs us Q I r h
 obtain⟨p,ys,rfl,h⟩:=h
 obtain⟨u,rfl,rx⟩:=vals1 r
 cases rx
 rcases h with⟨hq,q⟩|⟨hq,q⟩
 ·obtain⟨aD,r',pl,hz⟩:=I.list hq
  have hlen:=r'.length
  refine call_tuple_list pl.isList (fun h' kp=>?_) (by simp only[List.size_toArray]<;>omega)
  have I1:Inv X pins σ H { s with heap:=h' }:=I.kept (t':=s.toks) kp
  have I2:Inv X pins σ (upd H h'.objs.size (.tup ys)) { s with heap:=h'.push { cls:=.type "tuple", data:=.seq aD.toArray } } :=
   I1.laid (t':=s.toks) (fun b o e=>Heap.get?_push_of_some _ e) (Nat.le_refl _) (show iL X.prog X.w _ _ _ (.tup ys)from⟨hz,aD,r',nX.new _ _⟩)
  exact⟨.ref h'.objs.size,_,I2,rfl,q _ (I1.bH.fresh (Nat.le_refl _))⟩
 ·obtain⟨aD,r',pl,hz⟩:=I.tuple hq
  exact call_tuple_same pl ⟨.ref p,H,I,rfl,q⟩
noncomputable def MP (K:PySem.W.Frag)(T:String)(x:V)(H:Hp):Prop:=match x with
 |.str _=>T ="str"
 |.int _=>T ="int"
 |.ref p=>(T ="list" /\ ∃ xs,dR K H p xs)∨(T ="tuple" /\ ∃ o,K.lookup p=some o/\o.cls=.type "tuple" /\ o.dict=none) ∨
  (T ="dict" /\ ((∃ gC,H p=some (.dK gC))∨∃ gC,H p=some (.dT gC)))∨(T ="set" /\ ∃ S n,H p=some (.set S n))
 |_=>False
theorem NK {pins:List (Addr×Obj)}{σ:St}{H:Hp}{s:Shared}{T:String}{x:V}{v:Value}(I:Inv X pins σ H s)(r:RelV x v)(ty:MP X.K T x H):
  s.TypeIs v T/\∀ a,v=.ref a->∃ ob,s.heap.get? a=some ob/\ob.dict=none:=by
 cases x with
 |str z =>
  obtain⟨t,rfl⟩:=r
  cases (show T ="str" from ty)
  exact⟨typeIs_str s z t,fun _ e=>nomatch e⟩
 |int i =>
  obtain⟨t,rfl⟩:=r
  cases (show T ="int" from ty)
  exact⟨typeIs_int s i t,fun _ e=>nomatch e⟩
 |ref p =>
  cases r
  rcases ty with⟨rfl,xs,hq⟩|⟨rfl,o,hk,hc,hd⟩|⟨rfl,hk⟩|⟨rfl,S,n,hk⟩
  ·obtain⟨aD,_,pl,_⟩:=I.list hq
   refine⟨pl.isList.typeIs,fun a e=>?_⟩
   cases e
   obtain⟨o,n,e,c,hd,_⟩:=pl
   exact⟨o,e,hd⟩
  ·refine⟨⟨o,I.hU p o hk,hc⟩,fun a e=>?_⟩
   cases e
   exact⟨o,I.hU _ o hk,hd⟩
  ·have z:∃ o,s.heap.get? p=some o/\o.ExactDict:=by
    rcases hk with⟨gC,hk⟩|⟨gC,hk⟩
    ·obtain⟨_,_,_,_,o,_,_,e,ex,_⟩:=I.bH p _ hk
     exact⟨o,e,ex⟩
    ·obtain⟨_,_,_,_,o,_,_,e,ex,_⟩:=I.bH p _ hk
     exact⟨o,e,ex⟩
   obtain⟨o,e,ex⟩:=z
   refine⟨⟨o,e,ex.1⟩,fun a e2=>?_⟩
   cases e2
   exact⟨o,e,ex.2.1⟩
  ·obtain⟨o,_,_,_,e,ex,_⟩:=I.bH p _ hk
   refine⟨⟨o,e,ex.1⟩,fun a e2=>?_⟩
   cases e2
   exact⟨o,e,ex.2.1⟩
 |_=>exact False.elim ty
noncomputable def Gq (K:PySem.W.Frag)(T:String)(r:V->List V->Hp->VK->Prop)(to:TE):TE:=fun σ H Q=>to σ H fun x H1=>MP K T x H1/\r x [] H1 Q
noncomputable def Jb (K:PySem.W.Frag)(T:String)(r:V->List V->Hp->VK->Prop)(to:TE)(t:TA):TE:=fun σ H Q=>to σ H fun x H1=>MP K T x H1/\t σ H1 fun xs H2=>r x xs H2 Q
variable {o e:Expr}{es:List Expr}{to:TE}{t:TA}{name:Str}{apos jB:Pos}{T id:String}{r:V->List V->Hp->VK->Prop}
theorem V9 (pa:PlainAttrs T)(slot:Slot T name id)(hty:typeOf (.builtin id)=pure (.type "method_descriptor"))(hm:R0 X id r)(ho:PE X o to)
 (iS:attributeBase o name X.env (eval o X.env)=eval o X.env:=by rfl)(iT:(apos.endLine==jB.line)=true:=by rfl):PE X (.Call (.Attribute o name apos) [] [] jB) (Gq X.K T r to):=by
 intro pins s σ H Q I h
 refine wpAny_Call_method0_late iS iT (aV (ho pins s σ H _ I h) fun v s1 ⟨x,H1,I1,r1,ty,q1⟩=>?_)
 obtain⟨h1,h2⟩:=NK I1 r1 ty
 exact⟨T,id,pa,slot,hty,h1,h2,Calls.callWith_builtin rfl (PySem.evalArgs_none (hm pins s1 σ H1 x [] v [] Q I1 r1 .nil q1))⟩
theorem Ei (pa:PlainAttrs T)(slot:Slot T name id)(hty:typeOf (.builtin id)=pure (.type "method_descriptor"))(hm:R0 X id r)(ho:PE X o to)(ha:PA X (e::es) t)
 (iS:attributeBase o name X.env (eval o X.env)=eval o X.env:=by rfl)
 (tZ:((backTo jB (starEach (e::es) X.env)).all (fun x=>!x.1)&&(backToKw jB (keywordEach [] X.env)).all (fun x=>x.1.isSome)
  && decide ((e::es).length+([]:List Keyword).length+(if([]:List Keyword).isEmpty then 0 else 1)<30))=true:=by rfl)
 (iT:(apos.endLine==jB.line)=true:=by rfl)(hs:starEach (e::es) X.env=(false,eval e X.env)::starEach es X.env:=by rfl)(pY:(backTo jB (starEach es X.env)).any (·.1)=false:=by rfl):
 PE X (.Call (.Attribute o name apos) (e::es) [] jB) (Jb X.K T r to t):=by
 intro pins s σ H Q I h
 refine wpAny_Call_method_late iS tZ iT rfl (aV (ho pins s σ H _ I h) fun v s1 ⟨x,H1,I1,r1,ty,q1⟩=>?_)
 obtain⟨h1,h2⟩:=NK I1 r1 ty
 refine⟨T,id,pa,slot,hty,h1,h2,?_⟩
 have hA:=ha jB pins s1 σ H1 _ I1 q1
 rw[hs]at hA ⊢
 refine Calls.callWith_builtin (by show(false||(backTo jB (starEach es X.env)).any (·.1))=false;rw[pY]<;>rfl) (Calls.evalArgs_plain ?_)
 exact aV hA fun us s2 ⟨vs,H2,I2,r2,q2⟩=>hm pins s2 σ H2 x vs v us Q I2 r1 r2 q2
end
end L2
namespace L2
open PySem PySem.Spec PyProof.Rows
noncomputable def YB (X:Cx)(id:String)(r:V->List V->Hp->VK->Prop):Prop :=
 ∀(pins:List (Addr×Obj))(s:Shared)(σ:St)(H:Hp)(x:V)(xs:List V)(v:Value)(us:List Value)(Q:VK),Inv X pins σ H s->RelV x v->aO xs us->r x xs H Q ->
 wpAny (model X.prog X.w) X.A (call (.builtin id) (v::us)) (EP X pins σ Q) X.xe s
theorem aO.one:∀{x:V}{us:List Value},aO [x] us->∃ u,us=[u]/\RelV x u
 |_,_,.cons r .nil=>⟨_,rfl,r⟩
theorem aO.zero:∀{us:List Value},aO [] us->us=[]
 |_,.nil=>rfl
theorem aO.dropLast {xs:List V}{us:List Value}(h:aO xs us):aO xs.dropLast us.dropLast:=by
 induction h with
 |nil=>exact .nil
 |cons r t ih =>
 cases t with
 |nil=>exact .nil
 |cons q t'=>exact .cons r ih
theorem aO.reverse {xs:List V}{us:List Value}(h:aO xs us):aO xs.reverse us.reverse:=by
 induction h with
 |nil=>exact .nil
 |cons r t ih=>rw[List.reverse_cons,List.reverse_cons];exact aO.append ih (.cons r .nil)
theorem aO.rep {xs:List V}{us:List Value}(h:aO xs us):∀ k:Nat,aO (List.replicate k xs).flatten (List.replicate k us).flatten
 |0=>.nil
 |k+1=>by
  rw[List.replicate_succ,List.replicate_succ,List.flatten_cons,List.flatten_cons]
  exact aO.append h (aO.rep h k)
theorem KE {α:Type}(l:List α):l.eraseIdx (l.length-1)=l.dropLast:=by
 induction l with
 |nil=>rfl
 |cons a r ih =>
  cases r with
  |nil=>rfl
  |cons b r =>
   have e:(a::b::r).length-1=((b::r).length-1)+1:=by
    have h1:(a::b::r).length=r.length+2:=rfl
    have h2:(b::r).length=r.length+1:=rfl
    omega
   rw[e,List.eraseIdx_cons_succ,ih]
   all_goals rfl
theorem foldl_rep (aD:List Value):∀(k:Nat)(acc:List Value),
  List.foldl (fun x1 x2=>x1++x2) acc.toArray (List.replicate k aD.toArray)=(acc++(List.replicate k aD).flatten).toArray
 |0,acc=>by simp
 |k+1,acc=>by
  have e:acc.toArray++aD.toArray=(acc++aD).toArray:=by simp
  have e2:(acc++aD)++(List.replicate k aD).flatten=acc++(List.replicate (k+1) aD).flatten:=by
   rw[List.replicate_succ,List.flatten_cons,List.append_assoc]
  rw[<-e2,<-foldl_rep aD k (acc++aD),<-e,List.replicate_succ,List.foldl_cons]
section
variable {X:Cx}{pins:List (Addr×Obj)}{σ:St}{H:Hp}{s:Shared}{l b:Addr}{xs ys zs:List V}
theorem Inv.K1 {aD kC:List Value}{n:Nat}{f:Array Value->Array Value}{t':Nat}(I:Inv X pins σ H s)(hH:H l=some (.lst xs))
 (e:s.heap.get? l=some { cls:=.type "list", data:=.seq aD.toArray n })(hf:f aD.toArray=kC.toArray)(hv:aO ys kC)(hz:ys.length<=sizeLine):
 Inv X pins σ (upd H l (.lst ys)) { s with heap:=s.heap.update l (Obj.mapSeq f),toks:=t' }:=by
 have q:=PySem.IsL.update e f
 rw[hf]at q
 refine I.write (x:=l) (e:=l) (by rw[hH];exact trivial) (.inl rfl) (fun b' u hb hu=>(Heap.get?_update_other s.heap (Obj.mapSeq f) (Ne.symm hb)).trans hu) ⟨_,q⟩ ?_
 exact⟨hz,kC,_,hv,q⟩
theorem Inv.QF {aD:List Value}{t':Nat}(I:Inv X pins σ H s)(hv:aO ys aD)(hz:ys.length<=sizeLine):
 Inv X pins σ (upd H s.heap.objs.size (.lst ys)) { s with heap:=s.heap.push { cls:=.type "list", data:=.seq aD.toArray },toks:=t' } :=
 I.laid (fun _ _ q=>Heap.get?_push_of_some _ q) (Nat.le_refl _) ⟨hz,aD,0,hv,Heap.get?_push_size _ rfl⟩
theorem Inv.fresh (I:Inv X pins σ H s):H s.heap.objs.size=none:=I.bH.fresh (Nat.le_refl _)
theorem Inv.sY (I:Inv X pins σ H s)(hH:H l=some (.lst xs)):xs.length<=sizeLine/\∃(aD:List Value)(n:Nat),aO xs aD/\xs.length=aD.length/\s.heap.get? l=some { cls:=.type "list", data:=.seq aD.toArray n }:=by
 obtain⟨z,aD,n,r,e⟩:=I.bH l _ hH
 exact⟨z,aD,n,r,r.length,e⟩
theorem zF {n:Nat}(h:n<=sizeLine):Builtin.List.listTooLong n=false:=by
 unfold Builtin.List.listTooLong
 exact decide_eq_false (by omega)
end
section
variable {X:Cx}
noncomputable def UZ:V->List V->Hp->VK->Prop:=fun x vs H Q=>∃ l xs y,x=.ref l/\vs=[y]/\H l=some (.lst xs)/\xs.length<sizeLine/\Q .non (upd H l (.lst (xs++[y])))
theorem qI:YB X "list.append" UZ:=by
 intro pins s σ H x vs v us Q I rx rv h
 obtain⟨l,xs,y,rfl,rfl,hH,hz,q⟩:=h
 cases rx
 obtain⟨u,rfl,ru⟩:=rv.one
 obtain⟨z,aD,n,r,hl,e⟩:=I.sY hH
 refine call_meets F.slot_list_append ⟨_,e,rfl⟩ F.entry_list_append (F.args_list_append_2 _ _) (PySem.list_append l aD.toArray n u (by rw[List.size_toArray];omega)) ⟨e,?_⟩
 refine⟨.non,_,I.K1 (kC:=aD++[u]) hH e (by simp) (r.append (.cons ru .nil)) ?_,rfl,q⟩
 rw[List.length_append,List.length_singleton]
 omega
noncomputable def TU:V->List V->Hp->VK->Prop:=fun x vs H Q=>∃ l b xs zs,x=.ref l/\vs=[.ref b]/\H l=some (.lst xs)/\H b=some (.lst zs)/\xs.length+zs.length<=sizeLine/\Q .non (upd H l (.lst (xs++zs)))
theorem vM:YB X "list.extend" TU:=by
 intro pins s σ H x vs v us Q I rx rv h
 obtain⟨l,b,xs,zs,rfl,rfl,hH,hB,hz,q⟩:=h
 cases rx
 obtain⟨u,rfl,ru⟩:=rv.one
 cases ru
 obtain⟨z,aD,n,r,hl,e⟩:=I.sY hH
 obtain⟨z2,mC,n2,r2,hl2,e2⟩:=I.sY hB
 have jH:aD.toArray.size+mC.toArray.size<=sizeLine:=by rw[List.size_toArray,List.size_toArray];omega
 have hlong:¬(!aD.toArray.isEmpty&&Builtin.List.listTooLong (aD.toArray.size+mC.toArray.size))=true:=by
  rw[zF jH,Bool.and_false]
  exact Bool.false_ne_true
 refine call_meets F.slot_list_extend ⟨_,e,rfl⟩ F.entry_list_extend (F.args_list_extend_2 _ _)
  (AutoSeq1.list_extend_list_list_0 l aD.toArray n b mC.toArray n2 hlong (by rw[List.size_toArray];omega) (by omega)) ⟨e,e2,?_⟩
 refine⟨.non,_,I.K1 (kC:=aD++mC) hH e (by simp) (r.append r2) ?_,rfl,q⟩
 rw[List.length_append]
 omega
noncomputable def Hn:V->List V->Hp->VK->Prop:=fun x vs H Q=>∃ l xs y,x=.ref l/\vs=[]/\H l=some (.lst xs)/\xs[xs.length-1]? = some y/\Q y (upd H l (.lst xs.dropLast))
theorem GI:YB X "list.pop" Hn:=by
 intro pins s σ H x vs v us Q I rx rv h
 obtain⟨l,xs,y,rfl,rfl,hH,hy,q⟩:=h
 cases rx
 have hus:=rv.zero
 subst hus
 obtain⟨z,aD,n,r,hl,e⟩:=I.sY hH
 obtain⟨u,hu,ru⟩:=r.get hy
 have hy':aD.toArray[aD.toArray.size-1]? = some u:=by
  show aD.toArray[aD.length-1]? = some u
  rw[<-Array.getElem?_toList,<-hl]
  exact hu
 refine call_meets F.slot_list_pop ⟨_,e,rfl⟩ F.entry_list_pop (F.args_list_pop_1 _) (MeetsSeq.list_pop_last l aD.toArray n u hy' (by rw[List.size_toArray];omega)) ⟨e,?_⟩
 refine⟨y,_,I.K1 (kC:=aD.dropLast) hH e ?_ r.dropLast ?_,ru,q⟩
 ·show aD.toArray.eraseIdxIfInBounds (aD.toArray.size-1)=aD.dropLast.toArray
  rw[List.size_toArray,List.eraseIdxIfInBounds_toArray,KE]
 ·rw[List.length_dropLast]
  omega
noncomputable def VT:R2:=fun x y H Q=>∃ l b xs zs,x=.ref l/\y=.ref b/\H l=some (.lst xs)/\H b=some (.lst zs)/\xs.length+zs.length<=sizeLine/\∀ p,H p=none->Q (.ref p) (upd H p (.lst (xs++zs)))
theorem ZD:gA X (binaryOp .Add) VT:=by
 intro pins s σ H x y v u Q I rx ry h
 obtain⟨l,b,xs,zs,rfl,rfl,hH,hB,hz,q⟩:=h
 cases rx
 cases ry
 obtain⟨z,aD,n,r,hl,e⟩:=I.sY hH
 obtain⟨z2,mC,n2,r2,hl2,e2⟩:=I.sY hB
 refine PySem.P.add_list e e2 ?_ (by rw[List.size_toArray,List.size_toArray];omega)
 have ea:aD.toArray++mC.toArray=(aD++mC).toArray:=by simp
 rw[ea]
 exact⟨.ref _,_,I.QF (t':=s.toks) (r.append r2) (by rw[List.length_append];omega),rfl,q _ I.fresh⟩
noncomputable def Y5:R2:=fun x y H Q=>∃ l k xs,x=.ref l/\y=.int k/\H l=some (.lst xs)/\-(2 ^ 63)<=k/\k<2 ^ 63/\xs.length*k.toNat<=sizeLine /\
 ∀ p,H p=none->Q (.ref p) (upd H p (.lst (List.replicate k.toNat xs).flatten))
theorem len_rep {α:Type}(xs:List α)(k:Nat):(List.replicate k xs).flatten.length=k*xs.length:=by
 induction k with
 |zero=>simp
 |succ k ih=>rw[List.replicate_succ,List.flatten_cons,List.length_append,ih,Nat.succ_mul,Nat.add_comm]
theorem VU:gA X (binaryOp .Mult) Y5:=by
 intro pins s σ H x y v u Q I rx ry h
 obtain⟨l,k,xs,rfl,rfl,hH,h1,h2,hz,q⟩:=h
 cases rx
 obtain⟨t,rfl⟩:=ry
 obtain⟨z,aD,n,r,hl,e⟩:=I.sY hH
 have hlen:aD.toArray.size*k.toNat<=sizeLine:=by rw[List.size_toArray,<-hl];exact hz
 have hcap:¬aD.toArray.size*k.toNat>(2 ^ 63-1) / 8:=by
  have:(sizeLine:Nat)<=(2 ^ 63-1) / 8:=by decide
  omega
 have mD:¬(!Builtin.List.listFitsIndex k)=true:=by
  rw[fitsIndex_both h1 h2]
  exact Bool.false_ne_true
 have hlong:¬Builtin.List.listTooLong (aD.toArray.size*k.toNat)=true:=by
  rw[zF hlen]
  exact Bool.false_ne_true
 have hnew:List.foldl (fun x1 x2=>x1++x2) #[] (List.replicate (if aD.toArray.isEmpty=true then 0 else k.toNat) aD.toArray)=(List.replicate k.toNat aD).flatten.toArray:=by
  have f0:∀ m:Nat,List.foldl (fun x1 x2=>x1++x2) #[] (List.replicate m aD.toArray)=(List.replicate m aD).flatten.toArray:=fun m=>by
   have:=foldl_rep aD m []
   rw[List.nil_append]at this
   exact this
  rw[f0]
  cases aD with
  |nil=>simp
  |cons a r'=>rw[if_neg (by simp)]
 refine wpAny_binaryOp_repeat_ref (T :="list") (U :="int") (by decide) ⟨_,e,rfl⟩ (fun s'=>typeIs_int s' k t) noFill_list_mul F.fills_int_mul F.slot_int_rmul repeat_list F.slot_int_index.lookup
  (call_meets F.slot_int_rmul (typeIs_int s k t) F.entry_int_rmul (F.args_int_rmul_2 _ _) (int___rmul___int_list k t l aD.toArray n)
   ⟨e,rfl,⟨_,e,rfl⟩,call_meets F.slot_list_mul ⟨_,e,rfl⟩ F.entry_list_mul (F.args_list_mul_2 _ _) (AutoListH.list___mul___list_int_3 l aD.toArray n k t mD hcap hlong) ⟨e,?_⟩⟩)
 rw[hnew]
 exact⟨.ref _,_,I.QF (t':=s.toks) (r.rep k.toNat) (by rw[len_rep,Nat.mul_comm];exact hz),rfl,q _ I.fresh⟩
end
end L2
namespace Att
open PySem PySem.W PySem.Calls PyProof.Rows
theorem AZ {P:Params}{h:Heap}:∀(ns:List Int)(vs:List Value),WellAll P h vs (ns.map WData.int)->IntsAre vs ns:=by
 intro ns
 induction ns with
 |nil =>
 intro vs w
 rw[List.map_nil]at w
 cases w
 exact .nil
 |cons n ns ih =>
 intro vs w
 rw[List.map_cons]at w
 cases w with
 |cons a b =>
  cases a
  exact .cons _ _ (ih _ b)
theorem MH {l:OpenLaw}{n:Nat}(hn:l.most=some n){P:Params}{h:Heap}{args:List WData}{vals:List Value}
  (hpre:l.row.toRowW.claim.pre args=true)(hwl:WellAll P h vals args):
  ∃ a vs ns,vals=[Value.ref a]/\args=[WData.list (ns.map WData.int)]/\h.get? a=some { cls:=.type "list", data:=.seq vs.toArray }/\IntsAre vs ns/\ns.length<=n:=by
 have hsh:WShape.hasAll [] args [.list .int]=true:=(pre_splitW hpre).1
 have hc:l.pre.holds [] { args:=args }=true:=(pre_splitW hpre).2
 obtain⟨d,r,rfl,h1,h2⟩:=hasAllW_cons hsh
 obtain rfl:=hasAllW_nil h2
 obtain⟨xs,rfl,h3⟩:=hasW_list h1
 obtain⟨ns,rfl⟩:=items_int h3
 have hlen:ns.length<=n:=by
  unfold OpenLaw.pre at hc
  have h4:(WTm.not (.lt (.lit (.int (n:Int))) (.len (.arg 0)))).holds [] { args:=[.list (ns.map .int)] }=true:=by
   have h4:=(holds_andW hc).1
   rw[hn]at h4
   exact h4
  have h5:=condW_of h4 (w_not (w_lt w_lit (w_len_list (w_arg rfl))))
  rw[List.length_map]at h5
  refine Nat.le_of_not_lt fun q=>?_
  have q':(n:Int)<((ns.length:Nat):Int):=by omega
  first
   |(rw[decide_eq_true q']at h5;exact absurd h5 (by decide))
   |(simp at h5;omega)
 cases hwl with
 |cons w1 w2 =>
  cases w2
  cases w1 with
  |list ho zN=>exact⟨_,_,ns,rfl,rfl,ho,AZ ns _ zN,hlen⟩
theorem NW (l:OpenLaw)(args:List WData):l.row.toRowW.claim.post args (.bool true) args=true :=
 postW_of (r:=l.row.toRowW) (X:=(true==true))
 (show WShape.has [] (.bool true) .bool=true by first|rfl|decide|simp [WShape.has,WShape.arms,WShape.armsAll])
 (show(WTm.eq .res (.lit (.bool true))).value [] { args:=args,res:=some (.bool true),after:=args }=some (.bool (true==true))from w_eq_bool (w_res rfl) w_lit) rfl
theorem HM {l:OpenLaw}{n:Nat}{q:Program}{loose:List Str}{XP:(Str->Option Value)->Heap->Prop}{YP:World->Heap->Prop}{d:DefRec}
 (hn:l.most=some n)(hdf:d.params.defaults=[])
 (call:∀(w:World)(s₀ s₁:Shared)(mg mb:Str->Option Value)(fa:Addr)(o:Obj)(pm cd doc:Value)(a:Addr)(vs:List Value)(ns:List Int),
  Ground q loose [] XP w s₀ mg mb s₁.heap->YP w s₁.heap ->
  s₁.heap.get? fa=some o->o.data=.func (docDef d.name d.params d.body d.scope pm cd doc)->s₁.heap.CodeRec cd d.name->mg d.name=some (.ref fa) ->
  s₁.heap.get? a=some { cls:=.type "list", data:=.seq vs.toArray }->IntsAre vs ns->ns.length<=n->s₁.gens = #[] ->
  codeAny (model l.prog w) callerA (.call (.ref fa) ⟨[.ref a],[]⟩) (fun r s'=>r=.ok (.ret (.bool true))/\OldK s₁.heap s'.heap/\s'.os=s₁.os/\AllBare s'.gens) s₁):
 WalkO q loose XP YP l.row.toRowW d [] (fun f vs=>PySem.call f vs):=by
 intro w s₀ s₁ mg mb G Y fa o pm cd doc dV kV ho hd hcd hD hmg hg args vals as hpre hlay hrd hwl hlo
 obtain rfl:dV=.none:=Dflts.none hD hdf
 obtain rfl:kV=.none:=Dflts.noKw hD
 obtain⟨a,vs,ns,rfl,rfl,hobj,hints,hlen⟩:=MH hn hpre hwl
 refine enter_call (codeAny_mono (call w s₀ s₁ mg mb fa o pm cd doc a vs ns G Y ho (fd_plain hd) hcd hmg hobj hints hlen hg) fun r s' hq=>?_)
 obtain⟨rfl,h2,h3,h4⟩:=hq
 exact⟨.inl ⟨.bool true,.bool true,[],rfl,fun _=>rfl,.bool true,NW l _,fun _=>⟨List.Pairwise.nil,fun _ hm=>(nomatch hm)⟩⟩,h2,h3,h4⟩
end Att
namespace L2
open PySem PySem.Spec PyProof.Rows
theorem C5:∀{vs:List Value}{ns:List Int},IntsAre vs ns->aO (ns.map V.int) vs
 |_,_,.nil=>.nil
 |_,_,.cons n t h=>.cons ⟨t,rfl⟩ (C5 h)
end L2
namespace L2
open PySem PySem.Spec PyProof.Rows
noncomputable def jW (s:Stmt):Arguments:=match s with
 |.FunctionDef _ a _ _ _ _ _ _ _ _=>a
 |_=>{ posonlyargs:=[],args:=[],vararg:=none,kwonlyargs:=[],kw_defaults:=[],kwarg:=none,defaults:=[] }
noncomputable def eH (s:Stmt):List Stmt:=match s with
 |.FunctionDef _ _ b _ _ _ _ _ _ _=>b
 |_=>[]
noncomputable def aJ (s:Stmt):Scope:=match s with
 |.FunctionDef _ _ _ _ _ _ sc _ _ _=>sc
 |_=>{ kind:=.function,names:=[],isGenerator:=false,isCoroutine:=false }
noncomputable abbrev dB:yH:=fun _ _ _ _ _ _=>False
noncomputable abbrev E0:XK:=fun _ _ _=>False
theorem D0 {X:Cx}:nG dB X E0:=fun _ _ _ _ _ _ _ h=>h.elim
structure vF (K:PySem.W.Frag)(x qual:Str)(st:Stmt)(f:Addr)(fd:FuncData):Prop where
 ex:∃(oc:Value)(od:Option Addr)(kV doc pm:Value)(an:Option Addr)(bD ct:Value)(osl:Array (Option Value)),
 fd=PySem.W.fnOf x qual (jW st) (eH st) (aJ st) .none kV doc pm an bD ct/\K.lookup f=some ⟨oc,od,.func fd,osl⟩/\PySem.W.codeIn K bD qual=true
 kp:PySem.W.keepIn K (.ref f)=true
section
variable {P:Program}{w:World}{K:PySem.W.Frag}{mg:Str->Option Value}{base:Heap}
theorem vF.ok {x qual:Str}{st:Stmt}{f:Addr}{fd:FuncData}{N ps:List Str}{k:Nat}{sp:Sp}(F:vF K x qual st f fd)(S:kX N ps (aJ st))(len:∀ vs H Q E,sp vs H Q E->vs.length=ps.length)
 (hbody:∀(bD:Value)(A:Around)(outer:List Env)(s:Shared)(H:Hp)(vs:List V)(Q:VK)(E:XK),cK k (A.deeper (envOfC qual (aJ st) s.heap.objs.size f bD))->sp vs H Q E ->
  ∃ t,jI (dY dB P w K mg base N qual (aJ st) f bD A outer s H E).gT (eH st) t/\t { nx:=fun _ H'=>Q .non H',rt:=Q } (start N vs) H):eI P w K mg base dB (k+1) f fd ps sp:=by
 obtain⟨oc,od,kV,doc,pm,an,bD,ct,osl,rfl,lk,hcd⟩:=F.ex
 refine R7 lk hcd S len fun A outer s H vs Q E hr hsp=>?_
 obtain⟨t,h,q⟩:=hbody bD A outer s H vs Q E hr hsp
 exact⟨t,h.gT,q⟩
theorem vF.binds {x qual:Str}{st:Stmt}{f:Addr}{fd:FuncData}{ps:List Str}(F:vF K x qual st f fd)
 (h:∀(kV doc pm:Value)(an:Option Addr)(bD ct:Value)(us:List Value),us.length=ps.length->bindArgs (PySem.W.fnOf x qual (jW st) (eH st) (aJ st) .none kV doc pm an bD ct) ⟨us,[]⟩=pure (ps.zip us)):Binds K fd ps []:=by
 obtain⟨oc,od,kV,doc,pm,an,bD,ct,osl,rfl,lk,hcd⟩:=F.ex
 exact .all (h kV doc pm an bD ct)
theorem AV {x qual:Str}{st:Stmt}{f:Addr}{oc:Value}{od an:Option Addr}{osl:Array (Option Value)}{kV doc pm bD ct:Value}(l:K.lookup f=some ⟨oc,od,.func (PySem.W.fnOf x qual (jW st) (eH st) (aJ st) .none kV doc pm an bD ct),osl⟩)
 (c:PySem.W.codeIn K bD qual=true)(k:PySem.W.keepIn K (.ref f)=true):vF K x qual st f (PySem.W.fnOf x qual (jW st) (eH st) (aJ st) .none kV doc pm an bD ct):=⟨⟨oc,od,kV,doc,pm,an,bD,ct,osl,rfl,l,c⟩,k⟩
end
theorem OC {n:Nat}(h:n<=1000):n<sizeLine:=Nat.lt_of_le_of_lt h (by decide)
section
variable {X:Cx}
theorem pv (i:Nat){x:Str}{pos:Pos}(hN:X.N[i]? = some x:=by rfl)(hv:RP X.env.scope x:=by first|exact Or.inl rfl|exact Or.inr (Or.inl rfl)|exact Or.inr (Or.inr rfl))(hd:(x==("__debug__" : Str))=false:=by decide)
 (hcd:(x==("__classdict__" : Str))=false:=by decide):PE X (.Name x pos) (QP i):=L0 hN hv hd hcd
end
end L2
end
section
namespace L3
inductive D where
 |non|bl (b:Bool)|int (i:Int)|str (x:List Nat)|tup (ds:List D)|ref (a:Nat)|cM (ks vs:List D)|bF (ds:List D)|exc (c:Nat)
structure CK where
 c:Nat
 ln:Nat
 col:Nat
 q:List Nat
inductive MO where
 |lst (ds:List D)
 |dic (ks vs:List D)
 /-- an instance of the class of this name: aD attributes -/
 |ins (c:List Nat)(fs:List (List Nat×D))
 /-- a dict that is filled: aD keys are tuples of texts and of such tuples -/
 |tab (ks vs:List D)
 /-- a def that was made in a def: aD number, what it caught -/
 |fn (f:Nat)(cs:List D)
 /-- the table of a code -/
 |cod (κ:CK)
noncomputable abbrev aA:=Nat->Option MO
noncomputable def put (st:aA)(a:Nat)(o:MO):aA:=fun b=>if b=a then some o else st b
inductive sI where
 |add|sub|mul|fdiv|mod|pow
inductive oZ where
 |eq|ne|lt|le|gt|ge|is_|isnot|in_|iU
inductive Ty where
 |int|str|bool|list|tuple|dict|err (c:Nat)
inductive BI where
 |len|all|any|max|min|sum|abs|list|tuple|int|str|bool|pZ|sorted
inductive MT where
 |append|extend|pop|index|count|join|split|get|insert|remove
inductive IK where
 |range|zip|enum|rev|items|keys|values
inductive Ex where
 |c (d:D)|v (i:Nat)
 |tup (es:List Ex)|lst (es:List Ex)
 |bin (op:sI)(a b:Ex)|neg (a:Ex)
 |cmp (op:oZ)(a b:Ex)|chain (op op':oZ)(a b c:Ex)
 |and_ (a b:Ex)|or_ (a b:Ex)|not_ (a:Ex)|ite (c a b:Ex)
 |call (f:Nat)(es:List Ex)|bi (f:BI)(es:List Ex)|isi (a:Ex)(ts:List Ty)
 |cC (m:MT)(o:Ex)(es:List Ex)
 |ix (a b:Ex)|sl (a:Ex)(lo hi:List Ex)
 /-- f(g(..)), g what is walked on the spot -/
 |bit (f:BI)(k:IK)(es:List Ex)
 |comp (n:Nat)(aL:List Nat)(tg:List Nat)(one:Bool)(k:Option IK)(aD:List Ex)(ifs:List Ex)(elt:Ex)
 |dic (ks vs:List Ex)
 /-- o.f of an instance of the class c; C(..), f aD __init__; o.m(..), f the def -/
 |fld (c f:List Nat)(o:Ex)|mk (c:List Nat)(f:Nat)(es:List Ex)|mcl (c m:List Nat)(f:Nat)(o:Ex)(es:List Ex)
 /-- {}; k in d; d[k] -/
 |cv (i:Nat)(es:List Ex)|callL (f:Nat)(es:List Ex)(g:Nat)(aL:List Nat)(κ:CK)
 |dnew|d1 (k v:Ex)|din (neg:Bool)(k d:Ex)|dix (d k:Ex)
inductive Tg where
 |nm (i:Nat)|tp (is:List Nat)|ix (o i:Ex)|fl (c f:List Nat)(o:Ex)|dk (o i:Ex)
inductive Sx where
 |ex (e:Ex)|asg (t:Tg)(e:Ex)|aug (i:Nat)(op:sI)(e:Ex)
 |iff (c:Ex)(a b:List Sx)|whl (c:Ex)(b:List Sx)|iD (t:Tg)(k:Option IK)(aD:List Ex)(b:List Sx)
 |ret (e:Ex)|brk|cnt|pass|rais (c:Nat)(es:List Ex)
 |tryy (b:List Sx)(c:Nat)(n:Option Nat)(h:List Sx)
structure Fn where
 np:Nat
 nl:Nat
 body:List Sx
structure Prog where
 fns:Nat->Option Fn
 /-- class c is class c' or stands under it -/
 sub:Nat->Nat->Bool
noncomputable abbrev St:=List (Option D)
noncomputable abbrev VK:=D->aA->Prop
noncomputable abbrev XK:=Nat->aA->Prop
noncomputable abbrev aW:=Nat->List D->aA->VK->XK->Prop
noncomputable abbrev bI:Nat:=16777216
noncomputable abbrev lO:Nat:=80
def W (x:String):List Nat:=x.toList.map Char.toNat
noncomputable def Ext (st aB:aA):Prop:=∀ a o,st a=some o->aB a=some o
noncomputable def dO (σ:St)(i:Nat)(Q:D->Prop):Prop:=match σ[i]? with
 |some (some d)=>Q d
 |_=>False
noncomputable def oJ (σ:St):List Nat->(List D->Prop)->Prop
 |[],Q=>Q []
 |i::is,Q=>dO σ i fun d=>oJ σ is fun ds=>Q (d::ds)
noncomputable def vX:D->aA->(Nat->Nat->List D->Prop)->Prop
 |.ref a,st,K=>match st a with
  |some (.fn f cs)=>K a f cs
  |_=>False
 |_,_,_=>False
noncomputable def del (st:aA)(a:Nat):aA:=fun b=>if b=a then none else st b
mutual
noncomputable def bG:D->D->Bool
 |.non,.non=>true
 |.bl a,.bl b=>a==b
 |.bl a,.int b=>(if a then 1 else 0)==b
 |.int a,.bl b=>a==(if b then 1 else 0)
 |.int a,.int b=>a==b
 |.str a,.str b=>a==b
 |.tup as,.tup bs=>gF as bs
 |_,_=>false
noncomputable def gF:List D->List D->Bool
 |[],[]=>true
 |a::as,b::bs=>bG a b&&gF as bs
 |_,_=>false
end
mutual
noncomputable def bR:D->Bool
 |.non=>true
 |.bl _=>true
 |.int _=>true
 |.str _=>true
 |.tup ds=>bV ds
 |_=>false
noncomputable def bV:List D->Bool
 |[]=>true
 |d::ds=>bR d&&bV ds
end
mutual
noncomputable def cQ:D->Nat
 |.tup ds=>cX ds+1
 |_=>0
noncomputable def cX:List D->Nat
 |[]=>0
 |d::ds=>max (cQ d) (cX ds)
end
noncomputable def plain (d:D):Prop:=bR d=true/\cQ d<=lO
noncomputable def sG (ds:List D):Prop:=bV ds=true/\cX ds<=lO
noncomputable def RC:Option MO->Bool
 |some (.lst ds)=>bV ds&&decide (cX ds<=lO)
 |_=>false
mutual
noncomputable def fM (st:aA):D->Bool
 |.non=>true
 |.bl _=>true
 |.int _=>true
 |.str _=>true
 |.tup ds=>fT st ds
 |.ref a=>RC (st a)
 |.bF ds=>bV ds&&decide (cX ds<=lO)
 |_=>false
noncomputable def fT (st:aA):List D->Bool
 |[]=>true
 |d::ds=>fM st d&&fT st ds
end
noncomputable def DH:Option MO->Option MO->Bool
 |some (.lst xs),some (.lst ys)=>gF xs ys
 |_,_=>false
mutual
noncomputable def bN (st:aA):D->D->Bool
 |.non,.non=>true
 |.bl a,.bl b=>a==b
 |.bl a,.int b=>(if a then 1 else 0)==b
 |.int a,.bl b=>a==(if b then 1 else 0)
 |.int a,.int b=>a==b
 |.str a,.str b=>a==b
 |.tup as,.tup bs=>iO st as bs
 |.ref a,.ref b=>DH (st a) (st b)
 |.bF xs,.ref b=>DH (some (.lst xs)) (st b)
 |.ref a,.bF ys=>DH (st a) (some (.lst ys))
 |.bF xs,.bF ys=>gF xs ys
 |_,_=>false
noncomputable def iO (st:aA):List D->List D->Bool
 |[],[]=>true
 |a::as,b::bs=>bN st a b&&iO st as bs
 |_,_=>false
end
noncomputable def plainS (st:aA)(d:D):Prop:=fM st d=true/\cQ d<=lO
noncomputable def dJ (st:aA)(ds:List D):Prop:=fT st ds=true/\cX ds<=lO
noncomputable def RG (x y:D)(st:aA)(P:Bool->Prop):Prop:=plainS st x/\plainS st y/\P (bN st x y)
noncomputable def occurs (x:List Nat):List Nat->Bool
 |[]=>x.isEmpty
 |c::r=>x.isPrefixOf (c::r)||occurs x r
noncomputable def bY (st:aA)(a:Nat)(K:List D->Prop):Prop:=match st a with
 |some (.lst ds)=>K ds
 |_=>False
noncomputable def cT {α:Type}(o:Option α)(K:α->Prop):Prop:=match o with
 |some x=>K x
 |none=>False
noncomputable def dH (st:aA)(a:Nat)(K:List D->Prop)(M:List D->List D->Prop):Prop:=match st a with
 |some (.lst ds)=>K ds
 |some (.dic ks vs)=>M ks vs
 |_=>False
noncomputable def EU:D->D->aA->(Bool->Prop)->Prop
 |x,.tup ds,st,P=>plainS st x/\dJ st ds/\P (ds.any fun d=>bN st d x)
 |x,.ref a,st,P=>dH st a (fun ds=>plainS st x/\dJ st ds/\P (ds.any fun d=>bN st d x)) fun ks _=>plain x/\sG ks/\P (ks.any fun d=>bG d x)
 |.str w,.cM ks _,_,P=>P (ks.any fun d=>bG d (.str w))
 |x,.bF ds,st,P=>plainS st x/\dJ st ds/\P (ds.any fun d=>bN st d x)
 |.str w,.str z,_,P=>P (occurs w z)
 |_,_,_,_=>False
noncomputable def tL (f:Int->Int->Bool):D->D->(Bool->Prop)->Prop
 |.int i,.int j,P=>P (f i j)
 |_,_,_=>False
noncomputable def D1:D->Bool
 |.non=>true
 |_=>false
noncomputable def O9 (b:Bool):D->Bool
 |.bl c=>c==b
 |_=>false
noncomputable def zX:D->D->(Bool->Prop)->Prop
 |x,.non,P=>P (D1 x)
 |x,.bl b,P=>P (O9 b x)
 |_,_,_=>False
noncomputable def cV:oZ->D->D->aA->(Bool->Prop)->Prop
 |.eq,x,y,st,P=>RG x y st P
 |.ne,x,y,st,P=>RG x y st fun b=>P (!b)
 |.lt,x,y,_,P=>tL (fun i j=>decide (i<j)) x y P
 |.le,x,y,_,P=>tL (fun i j=>decide (i<=j)) x y P
 |.gt,x,y,_,P=>tL (fun i j=>decide (j<i)) x y P
 |.ge,x,y,_,P=>tL (fun i j=>decide (j<=i)) x y P
 |.is_,x,y,_,P=>zX x y P
 |.isnot,x,y,_,P=>zX x y fun b=>P (!b)
 |.in_,x,y,st,P=>EU x y st P
 |.iU,x,y,st,P=>EU x y st fun b=>P (!b)
noncomputable def nI (i:Int):Prop:=-18446744073709551616<i/\i<18446744073709551616
noncomputable def fR (ds:List D)(st:aA)(Q:VK):Prop:=ds.length<=bI/\∀ p,st p=none->Q (.ref p) (put st p (.lst ds))
noncomputable def gZ:sI->D->D->aA->VK->Prop
 |.add,.int i,.int j,st,Q=>Q (.int (i+j)) st
 |.add,.str a,.str b,st,Q=>a.length+b.length<=bI/\Q (.str (a++b)) st
 |.add,.tup a,.tup b,st,Q=>a.length+b.length<=bI/\Q (.tup (a++b)) st
 |.add,.ref a,.ref b,st,Q=>bY st a fun xs=>bY st b fun ys=>fR (xs++ys) st Q
 |.sub,.int i,.int j,st,Q=>Q (.int (i-j)) st
 |.mul,.int i,.int j,st,Q=>(nI i∨nI j)/\Q (.int (i*j)) st
 |.mul,.ref a,.int k,st,Q=>bY st a fun xs=>xs.length*k.toNat<=bI/\(-9223372036854775808<=k/\k<9223372036854775808)/\fR (List.replicate k.toNat xs).flatten st Q
 |.mul,.tup xs,.int k,st,Q=>(0<xs.length/\xs.length<=1000/\1<=k/\k<1000)/\Q (.tup (List.replicate k.toNat xs).flatten) st
 |.fdiv,.int i,.int j,st,Q=>(0<j/\j<1073741824)/\Q (.int (i / j)) st
 |.mod,.int i,.int j,st,Q=>0<j/\Q (.int (i % j)) st
 |.pow,.int i,.int j,st,Q=>(0<=j/\j<=1000000/\i.natAbs<18446744073709551616)/\Q (.int (i ^ j.toNat)) st
 |_,_,_,_,_=>False
noncomputable def vI:D->aA->VK->Prop
 |.int i,st,Q=>Q (.int (-i)) st
 |_,_,_=>False
noncomputable def dA:List (List Nat×D)->List Nat->Option D
 |[],_=>none
 |(g,d)::r,f=>if g=f then some d else dA r f
noncomputable def pD (f:List Nat)(d:D):List (List Nat×D)->List (List Nat×D)
 |[]=>[(f,d)]
 |(g,x)::r=>if g=f then(g,d)::r else(g,x)::pD f d r
noncomputable def lF (st:aA)(a:Nat)(K:List Nat->List (List Nat×D)->Prop):Prop:=match st a with
 |some (.ins c fs)=>K c fs
 |_=>False
noncomputable def tabAt (st:aA)(a:Nat)(K:List D->List D->Prop):Prop:=match st a with
 |some (.tab ks vs)=>K ks vs
 |_=>False
noncomputable def rF (c f:List Nat):D->aA->VK->Prop
 |.ref a,st,Q=>lF st a fun c' fs=>c'=c/\cT (dA fs f) fun d=>Q d st
 |_,_,_=>False
noncomputable def A8 (c f:List Nat)(v:D):D->aA->(aA->Prop)->Prop
 |.ref a,st,Q=>lF st a fun c' fs=>c'=c/\fs.length<900/\Q (put st a (.ins c (pD f v fs)))
 |_,_,_=>False
mutual
noncomputable def iC:D->Bool
 |.str _=>true
 |.bl _=>true
 |.tup ds=>iN ds
 |_=>false
noncomputable def iN:List D->Bool
 |[]=>true
 |d::ds=>iC d&&iN ds
end
noncomputable def keyed:D->Prop
 |.tup ds=>iN ds=true/\cX ds<=7
 |_=>False
noncomputable def kO:List D->List D->D->Option D
 |k::ks,v::vs,x=>if bG k x then some v else kO ks vs x
 |_,_,_=>none
noncomputable def tT (x:D):D->aA->(Bool->Prop)->Prop
 |.ref a,st,P=>tabAt st a fun ks _=>keyed x/\P (ks.any fun k=>bG k x)
 |_,_,_=>False
noncomputable def rE (x:D):D->aA->VK->Prop
 |.ref a,st,Q=>tabAt st a fun ks vs=>keyed x/\cT (kO ks vs x) fun d=>Q d st
 |_,_,_=>False
noncomputable def yN (x v:D):D->aA->(aA->Prop)->Prop
 |.ref a,st,Q=>tabAt st a fun ks vs=>keyed x/\(ks.any fun k=>bG k x)=false/\ks.length<10000/\Q (put st a (.tab (ks++[x]) (vs++[v])))
 |_,_,_=>False
noncomputable def CC (c m:List Nat):D->aA->Prop
 |.ref a,st=>lF st a fun c' fs=>c'=c/\dA fs m=none
 |_,_=>False
noncomputable def dM:D->aA->(Bool->Prop)->Prop
 |.non,_,P=>P false
 |.bl b,_,P=>P b
 |.int i,_,P=>P (i != 0)
 |.str x,_,P=>x.length<=bI/\P (!x.isEmpty)
 |.tup ds,_,P=>P (!ds.isEmpty)
 |.ref a,st,P=>dH st a (fun ds=>P (!ds.isEmpty)) fun ks _=>P (!ks.isEmpty)
 |.bF ds,_,P=>P (!ds.isEmpty)
 |_,_,_=>False
noncomputable def gP (sub:Nat->Nat->Bool):D->aA->Ty->(Bool->Prop)->Prop
 |.non,_,_,P=>P false
 |.bl _,_,.bool,P=>P true
 |.bl _,_,.int,P=>P true
 |.bl _,_,_,P=>P false
 |.int _,_,.int,P=>P true
 |.int _,_,_,P=>P false
 |.str _,_,.str,P=>P true
 |.str _,_,_,P=>P false
 |.tup _,_,.tuple,P=>P true
 |.tup _,_,_,P=>P false
 |.ref a,st,.list,P=>dH st a (fun _=>P true) fun _ _=>P false
 |.ref a,st,.dict,P=>dH st a (fun _=>P false) fun _ _=>P true
 |.ref a,st,_,P=>dH st a (fun _=>P false) fun _ _=>P false
 |.bF _,_,.list,P=>P true
 |.bF _,_,_,P=>P false
 |.exc c,_,.err c',P=>P (sub c c')
 |_,_,_,_=>False
noncomputable def tN (sub:Nat->Nat->Bool)(d:D)(st:aA):List Ty->(Bool->Prop)->Prop
 |[],_=>False
 |[t],P=>gP sub d st t P
 |t::u::ts,P=>gP sub d st t fun b=>if b=true then P true else tN sub d st (u::ts) P
noncomputable def lG (n:Nat)(i:Int):Option Nat:=if 0<=i then(if i<n then some i.toNat else none)else if -(n:Int)<=i then some (i+n).toNat else none
noncomputable def eJ {α:Type}(xs:List α)(i:Int):Option α:=(lG xs.length i).bind fun j=>xs[j]?
noncomputable def tK:List D->List D->D->Option D
 |k::ks,v::vs,x=>if bG k x then some v else tK ks vs x
 |_,_,_=>none
noncomputable def lZ:D->D->aA->VK->Prop
 |.tup ds,.int i,st,Q=>cT (eJ ds i) fun d=>Q d st
 |.bF ds,.int i,st,Q=>cT (eJ ds i) fun d=>Q d st
 |.str z,.int i,st,Q=>z.length<=bI/\cT (eJ z i) fun c=>Q (.str [c]) st
 |.cM ks vs,.str w,st,Q=>cT (tK ks vs (.str w)) fun d=>Q d st
 |.ref a,y,st,Q=>dH st a (fun ds=>match y with
  |.int i=>cT (eJ ds i) fun d=>Q d st
  |_=>False) fun ks vs=>plain y/\sG ks/\cT (tK ks vs y) fun d=>Q d st
 |_,_,_,_=>False
noncomputable def bX (n d:Nat):Option Int->Nat
 |none=>d
 |some v=>if v<0 then(v+(n:Int)).toNat else min v.toNat n
noncomputable def cut {α:Type}(xs:List α)(lo hi:Option Int):List α:=(xs.drop (bX xs.length 0 lo)).take (bX xs.length xs.length hi-bX xs.length 0 lo)
noncomputable def mU:List D->(Option Int->Prop)->Prop
 |[],P=>P none
 |[.int i],P=>P (some i)
 |_,_=>False
noncomputable def AG:D->Option Int->Option Int->aA->VK->Prop
 |.tup ds,lo,hi,st,Q=>Q (.tup (cut ds lo hi)) st
 |.ref a,lo,hi,st,Q=>bY st a fun ds=>∀ p,st p=none->Q (.ref p) (put st p (.lst (cut ds lo hi)))
 |_,_,_,_,_=>False
noncomputable def dN:D->aA->(List Nat->List D->Prop)->Prop
 |.tup ds,_,K=>K [] ds
 |.ref a,st,K=>bY st a fun ds=>K [a] ds
 |.bF ds,_,K=>K [] ds
 |_,_,_=>False
noncomputable def mR:D->aA->(List Nat->List D->Prop)->Prop
 |.tup ds,_,K=>K [] ds
 |.str x,_,K=>x.length<=bI/\K [] (x.map fun c=>.str [c])
 |.ref a,st,K=>bY st a fun ds=>K [a] ds
 |.bF ds,_,K=>K [] ds
 |_,_,_=>False
noncomputable def zip2:List D->List D->List D
 |x::xs,y::ys=>.tup [x,y]::zip2 xs ys
 |_,_=>[]
noncomputable def RM:Nat->List D->List D
 |_,[]=>[]
 |i,x::xs=>.tup [.int i,x]::RM (i+1) xs
noncomputable def kD (lo:Int)(n:Nat):List D:=(List.range n).map fun k=>.int (lo+(k:Nat))
noncomputable def mM (hi:Int)(n:Nat):List D:=(List.range n).map fun k=>.int (hi-(k:Nat))
noncomputable def dX (i:Int):Prop:=-4611686018427387904<=i/\i<4611686018427387904
noncomputable def fK:Option IK->List D->aA->(List Nat->List D->Prop)->Prop
 |none,[x],st,P=>mR x st P
 |some .range,[.int j],_,P=>dX j/\P [] (kD 0 j.toNat)
 |some .range,[.int i,.int j],_,P=>dX i/\dX j/\P [] (kD i (j-i).toNat)
 |some .range,[.int i,.int j,.int c],_,P=>c = -1/\dX i/\dX j/\P [] (mM i (i-j).toNat)
 |some .zip,[.ref a,.ref b],st,P=>bY st a fun xs=>bY st b fun ys=>P [a,b] (zip2 xs ys)
 |some .enum,[.ref a],st,P=>bY st a fun xs=>P [a] (RM 0 xs)
 |some .rev,[x],st,P=>dN x st fun as xs=>P as xs.reverse
 |_,_,_,_=>False
noncomputable def boolsOf:List D->Option (List Bool)
 |[]=>some []
 |.bl b::r=>(boolsOf r).map (b :: ·)
 |_=>none
noncomputable def intsOf:List D->Option (List Int)
 |[]=>some []
 |.int i::r=>(intsOf r).map (i :: ·)
 |_=>none
noncomputable def nS:D->aA->(Nat->Prop)->Prop
 |.tup ds,_,P=>P ds.length
 |.str x,_,P=>x.length<=bI/\P x.length
 |.ref a,st,P=>dH st a (fun ds=>P ds.length) fun ks _=>P ks.length
 |.bF ds,_,P=>P ds.length
 |_,_,_=>False
noncomputable def YD:Int->List Int->Int
 |m,[]=>m
 |m,i::r=>YD (if i>m then i else m) r
noncomputable def ZY:Int->List Int->Int
 |m,[]=>m
 |m,i::r=>ZY (if i<m then i else m) r
noncomputable def eE:BI->List D->aA->VK->Prop
 |.all,xs,st,Q=>cT (boolsOf xs) fun bs=>Q (.bl (bs.all id)) st
 |.any,xs,st,Q=>cT (boolsOf xs) fun bs=>Q (.bl (bs.any id)) st
 |.max,xs,st,Q=>cT (intsOf xs) fun is=>match is with
  |i::r=>Q (.int (YD i r)) st
  |[]=>False
 |.min,xs,st,Q=>cT (intsOf xs) fun is=>match is with
  |i::r=>Q (.int (ZY i r)) st
  |[]=>False
 |.sum,xs,st,Q=>cT (intsOf xs) fun is=>Q (.int is.sum) st
 |.list,xs,st,Q=>fR xs st Q
 |.tuple,xs,st,Q=>xs.length<=bI/\Q (.tup xs) st
 |_,_,_,_=>False
noncomputable def strsOf:List D->Option (List (List Nat))
 |[]=>some []
 |.str w::r=>(strsOf r).map (w :: ·)
 |_=>none
noncomputable def vB:List (List Nat)->List (List Nat)->Nat
 |_,[]=>0
 |seen,w::r=>(if seen.any (·== w)then 0 else 1)+vB (seen++[w]) r
noncomputable def gB:BI->List D->aA->VK->Prop
 |.len,[d],st,Q=>nS d st fun n=>Q (.int (n:Nat)) st
 |.pZ,[.tup ds],st,Q=>cT (strsOf ds) fun ws=>ws.length<4000/\Q (.int (vB [] ws:Nat)) st
 |.max,[.int i,.int j],st,Q=>Q (.int (if j>i then j else i)) st
 |.min,[.int i,.int j],st,Q=>Q (.int (if j<i then j else i)) st
 |.abs,[.int i],st,Q=>Q (.int (if i<0 then -i else i)) st
 |.int,[.int i],st,Q=>Q (.int i) st
 |.int,[.bl b],st,Q=>Q (.int (if b then 1 else 0)) st
 |.bool,[.int i],st,Q=>Q (.bl (i != 0)) st
 |.bool,[.bl b],st,Q=>Q (.bl b) st
 |f,[d],st,Q=>dN d st fun _ xs=>eE f xs st Q
 |_,_,_,_=>False
noncomputable def vV:D->aA->(List D->Prop)->Prop
 |.tup ds,_,K=>K ds
 |.ref a,st,K=>bY st a K
 |_,_,_=>False
noncomputable def findD (st:aA)(d:D):List D->Option Nat
 |[]=>none
 |e::r=>if bN st e d=true then some 0 else(findD st d r).map (·+ 1)
noncomputable def iQ:MT->D->List D->aA->VK->Prop
 |.append,.ref a,[d],st,Q=>bY st a fun xs=>xs.length<bI/\Q .non (put st a (.lst (xs++[d])))
 |.extend,.ref a,[d],st,Q=>bY st a fun xs=>vV d st fun ys=>xs.length+ys.length<=bI/\Q .non (put st a (.lst (xs++ys)))
 |.pop,.ref a,[],st,Q=>bY st a fun xs=>cT (xs[xs.length-1]?) fun d=>Q d (put st a (.lst xs.dropLast))
 |.index,x,[d],st,Q=>dN x st fun _ ds=>plainS st d/\dJ st ds/\cT (findD st d ds) fun i=>Q (.int (i:Nat)) st
 |_,_,_,_,_=>False
noncomputable def vE:MT->D->aA->Prop
 |.append,.ref a,st=>bY st a fun _=>True
 |.extend,.ref a,st=>bY st a fun _=>True
 |.pop,.ref a,st=>bY st a fun _=>True
 |.index,x,st=>dN x st fun _ _=>True
 |_,_,_=>False
noncomputable def jE:Bool->List Nat->D->St->(St->Prop)->Prop
 |true,[i],x,σ,P=>P (σ.set i (some x))
 |false,is,.tup ds,σ,P=>ds.length=is.length/\P ((is.zip ds).foldl (fun σ p=>σ.set p.1 (some p.2)) σ)
 |_,_,_,_,_=>False
noncomputable def iP (g:aA->Prop)(turn:D->aA->(Option D->aA->Prop)->Prop):List D->List D->aA->(List D->aA->Prop)->Prop
 |[],acc,st,R=>g st/\R acc st
 |x::xs,acc,st,R=>g st/\acc.length<bI/\turn x st fun o aB=>iP g turn xs (match o with|none=>acc|some d=>acc++[d]) aB R
noncomputable def same (as:List Nat)(st aB:aA):Prop:=∀ a∈as,aB a=st a
mutual
noncomputable def aG (C:aW)(sub:Nat->Nat->Bool)(E:XK):Ex->St->aA->VK->Prop
 |.c d,_,st,Q=>Q d st
 |.v i,σ,st,Q=>dO σ i fun d=>Q d st
 |.tup es,σ,st,Q=>bE C sub E es σ st fun ds aB=>Q (.tup ds) aB
 |.lst es,σ,st,Q=>bE C sub E es σ st fun ds aB=>fR ds aB Q
 |.bin op a b,σ,st,Q=>aG C sub E a σ st fun x aC=>aG C sub E b σ aC fun y aF=>gZ op x y aF Q
 |.neg a,σ,st,Q=>aG C sub E a σ st fun x aC=>vI x aC Q
 |.cmp op a b,σ,st,Q=>aG C sub E a σ st fun x aC=>aG C sub E b σ aC fun y aF=>cV op x y aF fun k=>Q (.bl k) aF
 |.chain op op' a b c,σ,st,Q=>aG C sub E a σ st fun x aC=>aG C sub E b σ aC fun y aF=>cV op x y aF fun k =>
  if k=true then aG C sub E c σ aF fun z bB=>cV op' y z bB fun k=>Q (.bl k) bB else Q (.bl false) aF
 |.and_ a b,σ,st,Q=>aG C sub E a σ st fun x aC=>dM x aC fun k=>if k=true then aG C sub E b σ aC Q else Q x aC
 |.or_ a b,σ,st,Q=>aG C sub E a σ st fun x aC=>dM x aC fun k=>if k=true then Q x aC else aG C sub E b σ aC Q
 |.not_ a,σ,st,Q=>aG C sub E a σ st fun x aC=>dM x aC fun k=>Q (.bl (!k)) aC
 |.ite c a b,σ,st,Q=>aG C sub E c σ st fun x aC=>dM x aC fun k=>if k=true then aG C sub E a σ aC Q else aG C sub E b σ aC Q
 |.call f es,σ,st,Q=>bE C sub E es σ st fun ds aB=>C f ds aB Q E
 |.bi f es,σ,st,Q=>bE C sub E es σ st fun ds aB=>gB f ds aB Q
 |.isi a ts,σ,st,Q=>aG C sub E a σ st fun x aC=>tN sub x aC ts fun k=>Q (.bl k) aC
 |.cC m o es,σ,st,Q=>aG C sub E o σ st fun x aC=>vE m x aC/\bE C sub E es σ aC fun ds aF=>iQ m x ds aF Q
 |.ix a b,σ,st,Q=>aG C sub E a σ st fun x aC=>aG C sub E b σ aC fun y aF=>lZ x y aF Q
 |.sl a lo hi,σ,st,Q=>aG C sub E a σ st fun x aC=>bE C sub E lo σ aC fun ls aF=>mU ls fun l=>bE C sub E hi σ aF fun hs bB=>mU hs fun h=>AG x l h bB Q
 |.bit f k es,σ,st,Q=>bE C sub E es σ st fun ds aC=>fK (some k) ds aC fun _ xs=>eE f xs aC Q
 |.comp n aL tg one k aD ifs elt,σ,st,Q=>bE C sub E aD σ st fun ds aC=>fK k ds aC fun as xs =>
  iP (same as aC) (fun x aF K=>jE one tg x (List.replicate n none++aL.map fun i=>(σ[i]?).getD none) fun σ' =>
  gD C sub E ifs σ' aF fun b bB=>if b=true then aG C sub E elt σ' bB fun d dI=>K (some d) dI else K none bB) xs [] aC fun ds fY=>fR ds fY Q
 |.dic _ _,_,_,_=>False
 |.fld c f o,σ,st,Q=>aG C sub E o σ st fun x aC=>rF c f x aC Q
 |.mk c f es,σ,st,Q=>bE C sub E es σ st fun ds aC=>∀ p,aC p=none->C f (.ref p::ds) (put aC p (.ins c [])) (fun d aF=>d=.non/\Q (.ref p) aF) E
 |.mcl c m f o es,σ,st,Q=>aG C sub E o σ st fun x aC=>CC c m x aC/\bE C sub E es σ aC fun ds aF=>C f (x::ds) aF Q E
 |.cv i es,σ,st,Q=>dO σ i fun d=>vX d st (fun _ _ _=>True)/\bE C sub E es σ st fun ds aB=>vX d aB fun a f cs=>C f (cs++ds) (del aB a) (fun d2 aF=>Q d2 (put aF a (.fn f cs))) (fun c aF=>E c (put aF a (.fn f cs)))
 |.callL f es g aL κ,σ,st,Q=>bE C sub E es σ st fun ds aC=>(∃ P,aC P=some (.cod κ))/\oJ σ aL fun cs=>∀ a,aC a=none->C f (ds++[.ref a]) (put aC a (.fn g cs)) (fun d aF=>Q d (del aF a)) (fun c aF=>E c (del aF a))
 |.dnew,σ,st,Q=>∀ p,st p=none->Q (.ref p) (put st p (.tab [] []))
 |.d1 k v,σ,st,Q=>∀ p,st p=none->aG C sub E k σ (put st p (.tab [] [])) fun x aC=>aG C sub E v σ aC fun y aF=>yN x y (.ref p) aF fun bB=>Q (.ref p) bB
 |.din neg k d,σ,st,Q=>aG C sub E k σ st fun x aC=>aG C sub E d σ aC fun y aF=>tT x y aF fun b=>Q (.bl (if neg=true then !b else b)) aF
 |.dix d k,σ,st,Q=>aG C sub E d σ st fun y aC=>aG C sub E k σ aC fun x aF=>rE x y aF Q
noncomputable def bE (C:aW)(sub:Nat->Nat->Bool)(E:XK):List Ex->St->aA->(List D->aA->Prop)->Prop
 |[],_,st,Q=>Q [] st
 |e::es,σ,st,Q=>aG C sub E e σ st fun d aB=>bE C sub E es σ aB fun ds aX=>Q (d::ds) aX
/-- all tests, one after another -/
noncomputable def gD (C:aW)(sub:Nat->Nat->Bool)(E:XK):List Ex->St->aA->(Bool->aA->Prop)->Prop
 |[],_,st,Q=>Q true st
 |e::es,σ,st,Q=>aG C sub E e σ st fun d aB=>dM d aB fun k=>if k=true then gD C sub E es σ aB Q else Q false aB
end
structure fW where
 nx:St->aA->Prop
 rt:D->aA->Prop
 bk:St->aA->Prop
 ct:St->aA->Prop
 ex:Nat->St->aA->Prop
noncomputable def notRef:D->Prop
 |.ref _=>False
 |_=>True
noncomputable def yY:D->D->D->aA->(aA->Prop)->Prop
 |.ref a,.int k,v,st,Q=>bY st a fun xs=>cT (lG xs.length k) fun j=>Q (put st a (.lst (xs.set j v)))
 |_,_,_,_,_=>False
noncomputable def lL (C:aW)(sub:Nat->Nat->Bool)(E:XK):Tg->D->St->aA->(St->aA->Prop)->Prop
 |.nm i,d,σ,st,Q=>Q (σ.set i (some d)) st
 |.tp is,d,σ,st,Q=>jE false is d σ fun σ'=>Q σ' st
 |.ix o i,d,σ,st,Q=>aG C sub E o σ st fun x aC=>aG C sub E i σ aC fun y aF=>yY x y d aF fun bB=>Q σ bB
 |.fl c f o,d,σ,st,Q=>aG C sub E o σ st fun x aC=>A8 c f d x aC fun aF=>Q σ aF
 |.dk o i,d,σ,st,Q=>aG C sub E o σ st fun x aC=>aG C sub E i σ aC fun y aF=>yN y d x aF fun bB=>Q σ bB
noncomputable def vU (g:aA->Prop)(turn:D->(St->aA->Prop)->St->aA->Prop)(N:St->aA->Prop):List D->St->aA->Prop
 |[],σ,st=>g st/\N σ st
 |x::xs,σ,st=>g st/\turn x (vU g turn N xs) σ st
noncomputable def nJ (turn:(St->aA->Prop)->St->aA->Prop):Nat->St->aA->Prop
 |0,_,_=>False
 |n+1,σ,st=>turn (nJ turn n) σ st
noncomputable def GK (n:Option Nat)(o:Option D)(σ:St):St:=match n with
 |some i=>σ.set i o
 |none=>σ
noncomputable def Fz (sub:Nat->Nat->Bool)(c:Nat)(n:Option Nat)(P:fW)(h:fW->St->aA->Prop):fW :=
 ⟨P.nx,P.rt,P.bk,P.ct,fun c' σ' aB=>if sub c' c=true then
 h ⟨fun σ2 aF=>P.nx (GK n none σ2) aF,P.rt,fun _ _=>False,fun _ _=>False,fun _ _ _=>False⟩ (GK n (some (.exc c')) σ') aB else P.ex c' σ' aB⟩
noncomputable def E2:aW:=fun _ _ _ _ _=>False
mutual
noncomputable def wpS (C:aW)(sub:Nat->Nat->Bool):Sx->fW->St->aA->Prop
 |.ex e,P,σ,st=>aG C sub (fun c aB=>P.ex c σ aB) e σ st fun _ aB=>P.nx σ aB
 |.asg t e,P,σ,st=>aG C sub (fun c aB=>P.ex c σ aB) e σ st fun d aB=>lL C sub (fun c aB=>P.ex c σ aB) t d σ aB P.nx
 |.aug i op e,P,σ,st=>dO σ i fun x=>aG C sub (fun c aB=>P.ex c σ aB) e σ st fun y aB=>notRef x/\gZ op x y aB fun d aX=>P.nx (σ.set i (some d)) aX
 |.iff c a b,P,σ,st=>aG C sub (fun c aB=>P.ex c σ aB) c σ st fun d aB=>dM d aB fun k=>if k=true then cL C sub a P σ aB else cL C sub b P σ aB
 |.whl c b,P,σ,st=>∃ n,nJ (fun next σ st=>aG C sub (fun c aB=>P.ex c σ aB) c σ st fun d aB=>dM d aB fun k =>
  if k=true then cL C sub b { P with nx:=next,ct:=next,bk:=P.nx } σ aB else P.nx σ aB) n σ st
 |.iD t k aD b,P,σ,st=>bE C sub (fun c aB=>P.ex c σ aB) aD σ st fun ds aC=>fK k ds aC fun as xs=>vU (same as aC) (fun x next σ st=>lL C sub (fun c aB=>P.ex c σ aB) t x σ st fun σ' aB=>cL C sub b { P with nx:=next,ct:=next,bk:=P.nx } σ' aB) P.nx xs σ aC
 |.ret e,P,σ,st=>aG C sub (fun c aB=>P.ex c σ aB) e σ st P.rt
 |.brk,P,σ,st=>P.bk σ st
 |.cnt,P,σ,st=>P.ct σ st
 |.pass,P,σ,st=>P.nx σ st
 |.rais c es,P,σ,st=>bE C sub (fun c aB=>P.ex c σ aB) es σ st fun _ aB=>P.ex c σ aB
 |.tryy b c n h,P,σ,st=>cL C sub b (Fz sub c n P fun P' σ' aB=>cL E2 sub h P' σ' aB) σ st
noncomputable def cL (C:aW)(sub:Nat->Nat->Bool):List Sx->fW->St->aA->Prop
 |[],P,σ,st=>P.nx σ st
 |s::ss,P,σ,st=>wpS C sub s { P with nx:=cL C sub ss P } σ st
end
noncomputable def start (np nl:Nat)(ds:List D):St:=ds.map some++List.replicate (nl-np) none
noncomputable def aM (G:Prog):Nat->aW
 |0=>fun _ _ _ _ _=>False
 |k+1=>fun f ds st Q E=>match G.fns f with
 |none=>False
 |some fn=>ds.length=fn.np/\cL (aM G k) G.sub fn.body ⟨fun _ aB=>Q .non aB,Q,fun _ _=>False,fun _ _=>False,fun c _ aB=>E c aB⟩ (start fn.np fn.nl ds) st
end L3
end
section
namespace L3
theorem qQ {σ:St}{i:Nat}{Q Q':D->Prop}(h:∀ d,Q d->Q' d):dO σ i Q->dO σ i Q':=by
 unfold dO;split
 ·exact h _
 ·exact id
theorem AU {σ:St}:∀{is:List Nat}{Q Q':List D->Prop},(∀ d,Q d->Q' d)->oJ σ is Q->oJ σ is Q'
 |[],_,_,h=>h _
 |_::_,_,_,h=>qQ fun _=>AU fun _=>h _
theorem O4 {d:D}{st:aA}{K K':Nat->Nat->List D->Prop}(h:∀ a f cs,K a f cs->K' a f cs):vX d st K->vX d st K':=by
 cases d<;>first|exact id|skip
 unfold vX
 simp only
 split
 ·exact h _ _ _
 ·exact id
theorem lS {st:aA}{a:Nat}{K K':List D->Prop}{M M':List D->List D->Prop}(h:∀ ds,K ds->K' ds)(h':∀ ks vs,M ks vs->M' ks vs):dH st a K M->dH st a K' M':=by
 unfold dH;split
 ·exact h _
 ·exact h' _ _
 ·exact id
theorem dD {st:aA}{a:Nat}{K K':List D->Prop}(h:∀ ds,K ds->K' ds):bY st a K->bY st a K':=by
 unfold bY;split
 ·exact h _
 ·exact id
theorem dU {α:Type}{o:Option α}{K K':α->Prop}(h:∀ x,K x->K' x):cT o K->cT o K':=by
 unfold cT;split
 ·exact h _
 ·exact id
theorem iG {d:D}{st:aA}{P P':Bool->Prop}(h:∀ b,P b->P' b):dM d st P->dM d st P':=by
 unfold dM;split
 all_goals first|exact h _|exact id|exact(fun x=>⟨x.1,h _ x.2⟩)|exact lS (fun _=>h _) fun _ _=>h _
theorem mY {ds:List D}{st:aA}{Q Q':VK}(h:∀ d st,Q d st->Q' d st):fR ds st Q->fR ds st Q':=fun x=>⟨x.1,fun p hp=>h _ _ (x.2 p hp)⟩
theorem CP {op:sI}{x y:D}{st:aA}{Q Q':VK}(h:∀ d st,Q d st->Q' d st):gZ op x y st Q->gZ op x y st Q':=by
 unfold gZ
 split
 all_goals first|exact h _ _|exact id|exact(fun z=>⟨z.1,h _ _ z.2⟩)|exact dD (fun _=>dD fun _=>mY h)|exact dD (fun _ z=>⟨z.1,z.2.1,mY h z.2.2⟩)
theorem LP {x:D}{st:aA}{Q Q':VK}(h:∀ d st,Q d st->Q' d st):vI x st Q->vI x st Q':=by
 unfold vI;split
 ·exact h _ _
 ·exact id
theorem EN {x y:D}{st:aA}{P P':Bool->Prop}(h:∀ b,P b->P' b):RG x y st P->RG x y st P':=fun z=>⟨z.1,z.2.1,h _ z.2.2⟩
theorem E9 {x y:D}{st:aA}{P P':Bool->Prop}(h:∀ b,P b->P' b):EU x y st P->EU x y st P':=by
 unfold EU
 split
 all_goals first|exact(fun z=>⟨z.1,z.2.1,h _ z.2.2⟩)|exact h _|exact id|exact lS (fun _ z=>⟨z.1,z.2.1,h _ z.2.2⟩) fun _ _ z=>⟨z.1,z.2.1,h _ z.2.2⟩
theorem qG {f:Int->Int->Bool}{x y:D}{P P':Bool->Prop}(h:∀ b,P b->P' b):tL f x y P->tL f x y P':=by
 unfold tL;split
 ·exact h _
 ·exact id
theorem E3 {x y:D}{P P':Bool->Prop}(h:∀ b,P b->P' b):zX x y P->zX x y P':=by
 unfold zX
 split
 all_goals first|exact h _|exact id
theorem uY {op:oZ}{x y:D}{st:aA}{P P':Bool->Prop}(h:∀ b,P b->P' b):cV op x y st P->cV op x y st P':=by
 cases op
 ·exact EN h
 ·exact EN fun b=>h (!b)
 ·exact qG h
 ·exact qG h
 ·exact qG h
 ·exact qG h
 ·exact E3 h
 ·exact E3 fun b=>h (!b)
 ·exact E9 h
 ·exact E9 fun b=>h (!b)
theorem A6 {sub:Nat->Nat->Bool}{x:D}{st:aA}{t:Ty}{P P':Bool->Prop}(h:∀ b,P b->P' b):gP sub x st t P->gP sub x st t P':=by
 unfold gP
 split
 all_goals first|exact h _|exact id|exact lS (fun _=>h _) fun _ _=>h _
theorem CF {sub:Nat->Nat->Bool}{x:D}{st:aA}{P P':Bool->Prop}(h:∀ b,P b->P' b):∀{ts:List Ty},tN sub x st ts P->tN sub x st ts P'
 |[]=>id
 |[t]=>A6 h
 |t::u::ts=>by
  unfold tN
  refine A6 fun b=>?_
  split
  ·exact h _
  ·exact CF h
theorem Q3 {x y:D}{st:aA}{Q Q':VK}(h:∀ d st,Q d st->Q' d st):lZ x y st Q->lZ x y st Q':=by
 unfold lZ
 split
 all_goals first|exact id|exact dU (fun _=>h _ _)|exact(fun z=>⟨z.1,dU (fun _=>h _ _) z.2⟩)|exact(fun z=>⟨z.1,z.2.1,dU (fun _=>h _ _) z.2.2⟩)|skip
 refine lS (fun _=>?_) (fun _ _ z=>⟨z.1,z.2.1,dU (fun _=>h _ _) z.2.2⟩)
 split
 ·exact dU fun _=>h _ _
 ·exact id
theorem AN {ds:List D}{P P':Option Int->Prop}(h:∀ o,P o->P' o):mU ds P->mU ds P':=by
 unfold mU;split
 all_goals first|exact h _|exact id
theorem Q8 {x:D}{lo hi:Option Int}{st:aA}{Q Q':VK}(h:∀ d st,Q d st->Q' d st):AG x lo hi st Q->AG x lo hi st Q':=by
 unfold AG
 split
 ·exact h _ _
 ·exact dD fun _ z p hp=>h _ _ (z p hp)
 ·exact id
theorem J3 {d:D}{st:aA}{K K':List Nat->List D->Prop}(h:∀ as xs,K as xs->K' as xs):mR d st K->mR d st K':=by
 unfold mR
 split
 all_goals first|exact h _ _|exact id|exact(fun z=>⟨z.1,h _ _ z.2⟩)|exact dD (fun _=>h _ _)
theorem wI {d:D}{st:aA}{K K':List Nat->List D->Prop}(h:∀ as xs,K as xs->K' as xs):dN d st K->dN d st K':=by
 unfold dN
 split
 all_goals first|exact h _ _|exact id|exact dD (fun _=>h _ _)
theorem uX {k:Option IK}{ds:List D}{st:aA}{P P':List Nat->List D->Prop}(h:∀ as xs,P as xs->P' as xs):fK k ds st P->fK k ds st P':=by
 unfold fK
 split
 ·exact J3 h
 ·exact fun z=>⟨z.1,h _ _ z.2⟩
 ·exact fun z=>⟨z.1,z.2.1,h _ _ z.2.2⟩
 ·exact fun z=>⟨z.1,z.2.1,z.2.2.1,h _ _ z.2.2.2⟩
 ·exact dD fun _=>dD fun _=>h _ _
 ·exact dD fun _=>h _ _
 ·exact wI fun _ _=>h _ _
 ·exact id
theorem NN {d:D}{st:aA}{P P':Nat->Prop}(h:∀ n,P n->P' n):nS d st P->nS d st P':=by
 unfold nS
 split
 all_goals first|exact h _|exact id|exact(fun z=>⟨z.1,h _ z.2⟩)|exact lS (fun _=>h _) fun _ _=>h _
theorem yP {f:BI}{xs:List D}{st:aA}{Q Q':VK}(h:∀ d st,Q d st->Q' d st):eE f xs st Q->eE f xs st Q':=by
 unfold eE
 split
 all_goals first|exact id|exact mY h|exact(fun z=>⟨z.1,h _ _ z.2⟩)|exact dU (fun _=>h _ _)|skip
 all_goals refine dU fun is=>?_
 all_goals cases is
 all_goals first|exact id|exact h _ _
theorem OX {f:BI}{ds:List D}{st:aA}{Q Q':VK}(h:∀ d st,Q d st->Q' d st):gB f ds st Q->gB f ds st Q':=by
 unfold gB
 split
 all_goals first|exact id|exact h _ _|exact NN (fun _=>h _ _)|exact wI (fun _ _=>yP h)|exact dU (fun _ z=>⟨z.1,h _ _ z.2⟩)
theorem NS {d:D}{st:aA}{K K':List D->Prop}(h:∀ xs,K xs->K' xs):vV d st K->vV d st K':=by
 unfold vV
 split
 all_goals first|exact h _|exact id|exact dD h
theorem K3 {m:MT}{o:D}{ds:List D}{st:aA}{Q Q':VK}(h:∀ d st,Q d st->Q' d st):iQ m o ds st Q->iQ m o ds st Q':=by
 unfold iQ
 split
 ·exact dD fun _ z=>⟨z.1,h _ _ z.2⟩
 ·exact dD fun _=>NS fun _ z=>⟨z.1,h _ _ z.2⟩
 ·exact dD fun _=>dU fun _=>h _ _
 ·exact wI fun _ _ z=>⟨z.1,z.2.1,dU (fun _=>h _ _) z.2.2⟩
 ·exact id
theorem AL {one:Bool}{tg:List Nat}{x:D}{σ:St}{P P':St->Prop}(h:∀ σ,P σ->P' σ):jE one tg x σ P->jE one tg x σ P':=by
 unfold jE
 split
 ·exact h _
 ·exact fun z=>⟨z.1,h _ z.2⟩
 ·exact id
theorem AA {g:aA->Prop}{turn qU:D->aA->(Option D->aA->Prop)->Prop}{R R':List D->aA->Prop}
 (ht:∀ x st K K',(∀ o st,K o st->K' o st)->turn x st K->qU x st K')(h:∀ ds st,R ds st->R' ds st):∀{xs acc:List D}{st:aA},iP g turn xs acc st R->iP g qU xs acc st R'
 |[],_,_,z=>⟨z.1,h _ _ z.2⟩
 |_::_,_,_,z=>⟨z.1,z.2.1,ht _ _ _ _ (fun _ _ y=>AA ht h y) z.2.2⟩
theorem A4 {st:aA}{a:Nat}{K K':List Nat->List (List Nat×D)->Prop}(h:∀ c fs,K c fs->K' c fs):lF st a K->lF st a K':=by
 unfold lF;split
 ·exact h _ _
 ·exact id
theorem tE {st:aA}{a:Nat}{K K':List D->List D->Prop}(h:∀ c fs,K c fs->K' c fs):tabAt st a K->tabAt st a K':=by
 unfold tabAt;split
 ·exact h _ _
 ·exact id
theorem MM {c f:List Nat}{x:D}{st:aA}{Q Q':VK}(h:∀ d st,Q d st->Q' d st):rF c f x st Q->rF c f x st Q':=by
 unfold rF;split
 ·exact A4 fun _ _ z=>⟨z.1,dU (fun _=>h _ _) z.2⟩
 ·exact id
theorem OV {c f:List Nat}{v x:D}{st:aA}{Q Q':aA->Prop}(h:∀ st,Q st->Q' st):A8 c f v x st Q->A8 c f v x st Q':=by
 unfold A8;split
 ·exact A4 fun _ _ z=>⟨z.1,z.2.1,h _ z.2.2⟩
 ·exact id
theorem NV {x y:D}{st:aA}{P P':Bool->Prop}(h:∀ b,P b->P' b):tT x y st P->tT x y st P':=by
 unfold tT;split
 ·exact tE fun _ _ z=>⟨z.1,h _ z.2⟩
 ·exact id
theorem MK {x y:D}{st:aA}{Q Q':VK}(h:∀ d st,Q d st->Q' d st):rE x y st Q->rE x y st Q':=by
 unfold rE;split
 ·exact tE fun _ _ z=>⟨z.1,dU (fun _=>h _ _) z.2⟩
 ·exact id
theorem FT {x v y:D}{st:aA}{Q Q':aA->Prop}(h:∀ st,Q st->Q' st):yN x v y st Q->yN x v y st Q':=by
 unfold yN;split
 ·exact tE fun _ _ z=>⟨z.1,z.2.1,z.2.2.1,h _ z.2.2.2⟩
 ·exact id
noncomputable def bL (C C':aW):Prop:=∀ f ds st Q Q' E E',(∀ d st,Q d st->Q' d st)->(∀ c st,E c st->E' c st)->C f ds st Q E->C' f ds st Q' E'
mutual
theorem aS {C C':aW}{sub}{E E':XK}(hC:bL C C')(hE:∀ c st,E c st->E' c st):∀(e:Ex){σ:St}{st:aA}{Q Q':VK},(∀ d st,Q d st->Q' d st)->aG C sub E e σ st Q->aG C' sub E' e σ st Q'
 |.c d,σ,st,Q,Q',h=>by exact h _ _
 |.v i,σ,st,Q,Q',h=>by exact qQ fun d=>h _ _
 |.tup es,σ,st,Q,Q',h=>by exact cG hC hE es fun _ _=>h _ _
 |.lst es,σ,st,Q,Q',h=>by exact cG hC hE es fun _ _=>mY h
 |.bin op a b,σ,st,Q,Q',h=>by exact aS hC hE a fun _ _=>aS hC hE b fun _ _=>CP h
 |.neg a,σ,st,Q,Q',h=>by
  exact aS hC hE a fun _ _=>LP h
 |.cmp op a b,σ,st,Q,Q',h=>by exact aS hC hE a fun _ _=>aS hC hE b fun _ _=>uY fun _=>h _ _
 |.chain op op' a b c,σ,st,Q,Q',h=>by
  refine aS hC hE a fun _ _=>aS hC hE b fun _ _=>uY fun k=>?_
  split
  ·exact aS hC hE c fun _ _=>uY fun _=>h _ _
  ·exact h _ _
 |.and_ a b,σ,st,Q,Q',h=>by
  refine aS hC hE a fun _ _=>iG fun k=>?_
  split
  ·exact aS hC hE b h
  ·exact h _ _
 |.or_ a b,σ,st,Q,Q',h=>by
  refine aS hC hE a fun _ _=>iG fun k=>?_
  split
  ·exact h _ _
  ·exact aS hC hE b h
 |.not_ a,σ,st,Q,Q',h=>by exact aS hC hE a fun _ _=>iG fun k=>h _ _
 |.ite c a b,σ,st,Q,Q',h=>by
  refine aS hC hE c fun _ _=>iG fun k=>?_
  split
  ·exact aS hC hE a h
  ·exact aS hC hE b h
 |.call f es,σ,st,Q,Q',h=>by exact cG hC hE es fun _ _=>hC _ _ _ _ _ _ _ h hE
 |.bi f es,σ,st,Q,Q',h=>by exact cG hC hE es fun _ _=>OX h
 |.isi a ts,σ,st,Q,Q',h=>by exact aS hC hE a fun _ _=>CF fun _=>h _ _
 |.cC m o es,σ,st,Q,Q',h=>by exact aS hC hE o fun _ _ z=>⟨z.1,cG hC hE es (fun _ _=>K3 h) z.2⟩
 |.ix a b,σ,st,Q,Q',h=>by exact aS hC hE a fun _ _=>aS hC hE b fun _ _=>Q3 h
 |.sl a lo hi,σ,st,Q,Q',h=>by exact aS hC hE a fun _ _=>cG hC hE lo fun _ _=>AN fun _=>cG hC hE hi fun _ _=>AN fun _=>Q8 h
 |.bit f k es,σ,st,Q,Q',h=>by exact cG hC hE es fun _ _=>uX fun _ _=>yP h
 |.comp n aL tg one k aD ifs elt,σ,st,Q,Q',h=>by
  refine cG hC hE aD fun d aC=>uX fun as xs=>?_
  intro z
  refine AA (fun x st K K' hK=>?_) (fun _ _=>mY h) z
  refine AL fun σ'=>DM hC hE ifs fun b st=>?_
  split
  ·exact aS hC hE elt fun _ _=>hK _ _
  ·exact hK _ _
 |.dic _ _,σ,st,Q,Q',h=>by exact id
 |.fld c f o,σ,st,Q,Q',h=>by exact aS hC hE o fun _ _=>MM h
 |.mk c f es,σ,st,Q,Q',h=>by exact cG hC hE es fun _ _ z p hp=>hC _ _ _ _ _ _ _ (fun _ _ y=>⟨y.1,h _ _ y.2⟩) hE (z p hp)
 |.mcl c m f o es,σ,st,Q,Q',h=>by exact aS hC hE o fun _ _ z=>⟨z.1,cG hC hE es (fun _ _=>hC _ _ _ _ _ _ _ h hE) z.2⟩
 |.cv i es,σ,st,Q,Q',h=>by exact qQ fun _ z=>⟨z.1,cG hC hE es (fun _ _=>O4 fun _ _ _=>hC _ _ _ _ _ _ _ (fun _ _=>h _ _) (fun _ _=>hE _ _)) z.2⟩
 |.callL f es g aL κ,σ,st,Q,Q',h=>by exact cG hC hE es fun _ _ z=>⟨z.1,AU (fun _ y a ha=>hC _ _ _ _ _ _ _ (fun _ _=>h _ _) (fun _ _=>hE _ _) (y a ha)) z.2⟩
 |.dnew,σ,st,Q,Q',h=>by exact fun z p hp=>h _ _ (z p hp)
 |.d1 k v,σ,st,Q,Q',h=>by exact fun z p hp=>aS hC hE k (fun _ _=>aS hC hE v fun _ _=>FT fun _=>h _ _) (z p hp)
 |.din neg k d,σ,st,Q,Q',h=>by exact aS hC hE k fun _ _=>aS hC hE d fun _ _=>NV fun _=>h _ _
 |.dix d k,σ,st,Q,Q',h=>by exact aS hC hE d fun _ _=>aS hC hE k fun _ _=>MK h
theorem cG {C C':aW}{sub}{E E':XK}(hC:bL C C')(hE:∀ c st,E c st->E' c st):∀(es:List Ex){σ:St}{st:aA}{Q Q':List D->aA->Prop},(∀ d st,Q d st->Q' d st)->bE C sub E es σ st Q->bE C' sub E' es σ st Q'
 |[],σ,st,Q,Q',h=>by exact h _ _
 |e::es,σ,st,Q,Q',h=>by exact aS hC hE e fun _ _=>cG hC hE es fun _ _=>h _ _
theorem DM {C C':aW}{sub}{E E':XK}(hC:bL C C')(hE:∀ c st,E c st->E' c st):∀(es:List Ex){σ:St}{st:aA}{Q Q':Bool->aA->Prop},(∀ d st,Q d st->Q' d st)->gD C sub E es σ st Q->gD C' sub E' es σ st Q'
 |[],σ,st,Q,Q',h=>by exact h _ _
 |e::es,σ,st,Q,Q',h=>by
  refine aS hC hE e fun _ _=>iG fun k=>?_
  split
  ·exact DM hC hE es h
  ·exact h _ _
end
structure fW.Le (P P':fW):Prop where
 nx:∀ σ st,P.nx σ st->P'.nx σ st
 rt:∀ d st,P.rt d st->P'.rt d st
 bk:∀ σ st,P.bk σ st->P'.bk σ st
 ct:∀ σ st,P.ct σ st->P'.ct σ st
 ex:∀ c σ st,P.ex c σ st->P'.ex c σ st
theorem N6 {o i v:D}{st:aA}{Q Q':aA->Prop}(h:∀ st,Q st->Q' st):yY o i v st Q->yY o i v st Q':=by
 unfold yY
 split
 ·exact dD fun _=>dU fun _=>h _
 ·exact id
theorem tM {C C':aW}{sub}{E E':XK}(hC:bL C C')(hE:∀ c st,E c st->E' c st){d:D}{Q Q':St->aA->Prop}(h:∀ σ st,Q σ st->Q' σ st):∀(t:Tg){σ:St}{st:aA},lL C sub E t d σ st Q->lL C' sub E' t d σ st Q'
 |.nm i,_,_=>by exact h _ _
 |.tp is,_,_=>by exact AL fun _=>h _ _
 |.ix o i,_,_=>by exact aS hC hE o fun _ _=>aS hC hE i fun _ _=>N6 fun _=>h _ _
 |.fl c f o,_,_=>by exact aS hC hE o fun _ _=>OV fun _=>h _ _
 |.dk o i,_,_=>by exact aS hC hE o fun _ _=>aS hC hE i fun _ _=>FT fun _=>h _ _
theorem DL {g:aA->Prop}{turn qU:D->(St->aA->Prop)->St->aA->Prop}{N N':St->aA->Prop}
 (ht:∀ x M M' σ st,(∀ σ st,M σ st->M' σ st)->turn x M σ st->qU x M' σ st)(h:∀ σ st,N σ st->N' σ st):∀{xs:List D}{σ:St}{st:aA},vU g turn N xs σ st->vU g qU N' xs σ st
 |[],_,_,z=>⟨z.1,h _ _ z.2⟩
 |_::_,_,_,z=>⟨z.1,ht _ _ _ _ _ (fun _ _=>DL ht h) z.2⟩
theorem yL {turn qU:(St->aA->Prop)->St->aA->Prop}(ht:∀ M M' σ st,(∀ σ st,M σ st->M' σ st)->turn M σ st->qU M' σ st):∀{n:Nat}{σ:St}{st:aA},nJ turn n σ st->nJ qU n σ st
 |0,_,_,z=>z
 |n+1,_,_,z=>ht _ _ _ _ (fun _ _=>yL ht) z
theorem HL:bL E2 E2:=fun _ _ _ _ _ _ _ _ _ x=>x
mutual
theorem wpS_mono {C C':aW}{sub}(hC:bL C C'):∀(s:Sx){P P':fW}{σ:St}{st:aA},P.Le P'->wpS C sub s P σ st->wpS C' sub s P' σ st
 |.ex e,P,P',σ,st,h=>by exact aS hC (fun _ _=>h.ex _ _ _) e fun _ _=>h.nx _ _
 |.asg t e,P,P',σ,st,h=>by exact aS hC (fun _ _=>h.ex _ _ _) e fun _ _=>tM hC (fun _ _=>h.ex _ _ _) h.nx t
 |.aug i op e,P,P',σ,st,h=>by
  exact qQ fun x=>aS hC (fun _ _=>h.ex _ _ _) e fun _ _ z=>⟨z.1,CP (fun _ _=>h.nx _ _) z.2⟩
 |.iff c a b,P,P',σ,st,h=>by
  refine aS hC (fun _ _=>h.ex _ _ _) c fun _ _=>iG fun k=>?_
  split
  ·exact gS hC a h
  ·exact gS hC b h
 |.whl c b,P,P',σ,st,h=>by
  rintro⟨n,z⟩
  refine⟨n,yL (fun M M' σ st hM=>aS hC (fun _ _=>h.ex _ _ _) c fun _ _=>iG fun k=>?_) z⟩
  split
  ·exact gS hC b ⟨hM,h.rt,h.nx,hM,h.ex⟩
  ·exact h.nx _ _
 |.iD t k aD b,P,P',σ,st,h=>by
  refine cG hC (fun _ _=>h.ex _ _ _) aD fun _ _=>uX fun as xs=>?_
  exact DL (fun x M M' σ st hM=>tM hC (fun _ _=>h.ex _ _ _) (fun _ _=>gS hC b (P:={ P with nx:=M,ct:=M,bk:=P.nx }) (P':={ P' with nx:=M',ct:=M',bk:=P'.nx }) ⟨hM,h.rt,h.nx,hM,h.ex⟩) t) h.nx
 |.ret e,P,P',σ,st,h=>by exact aS hC (fun _ _=>h.ex _ _ _) e h.rt
 |.brk,P,P',σ,st,h=>by exact h.bk _ _
 |.cnt,P,P',σ,st,h=>by exact h.ct _ _
 |.pass,P,P',σ,st,h=>by exact h.nx _ _
 |.rais c es,P,P',σ,st,h=>by exact cG hC (fun _ _=>h.ex _ _ _) es fun _ _=>h.ex _ _ _
 |.tryy b c n hh,P,P',σ,st,h=>by
  refine gS hC b ⟨h.nx,h.rt,h.bk,h.ct,fun c' σ st=>?_⟩
  show(if sub c' c=true then _ else _)->(if sub c' c=true then _ else _)
  split
  ·exact gS HL hh ⟨fun _ _=>h.nx _ _,h.rt,fun _ _=>id,fun _ _=>id,fun _ _ _=>id⟩
  ·exact h.ex _ _ _
theorem gS {C C':aW}{sub}(hC:bL C C'):∀(ss:List Sx){P P':fW}{σ:St}{st:aA},P.Le P'->cL C sub ss P σ st->cL C' sub ss P' σ st
 |[],P,P',σ,st,h=>by exact h.nx _ _
 |s::ss,P,P',σ,st,h=>by exact wpS_mono hC s ⟨fun _ _=>gS hC ss h,h.rt,h.bk,h.ct,h.ex⟩
end
theorem lE (G:Prog):∀{j k:Nat},j<=k->bL (aM G j) (aM G k)
 |0,k,_=>fun _ _ _ _ _ _ _ _ _ x=>x.elim
 |j+1,0,h=>by omega
 |j+1,k+1,h=>fun f ds st Q Q' E E' hQ hE=>by
  simp only[aM]
  split
  ·exact id
  ·have hj:j<=k:=by omega
   exact fun z=>⟨z.1,gS (lE G hj) _ (P:=⟨fun _ aB=>Q .non aB,Q,fun _ _=>False,fun _ _=>False,fun c _ aB=>E c aB⟩) (P':=⟨fun _ aB=>Q' .non aB,Q',fun _ _=>False,fun _ _=>False,fun c _ aB=>E' c aB⟩) ⟨fun _ _=>hQ _ _,hQ,fun _ _=>id,fun _ _=>id,fun _ _ _=>hE _ _⟩ z.2⟩
end L3
end
section
namespace L3
section
variable {C:aW}{sub:Nat->Nat->Bool}{E:XK}{σ:St}{st:aA}{Q:VK}{P:Bool->Prop}{e a b c:Ex}{es:List Ex}{x y:D}{i j:Int}{u v:List Nat}{ds xs ys ks vs:List D}{p q:Nat}{K:List D->Prop}{M:List D->List D->Prop}
theorem aE {R:fW}:cL C sub [] R σ st=R.nx σ st:=rfl
theorem M7 {R:fW}{s:Sx}{ss:List Sx}:cL C sub (s::ss) R σ st=wpS C sub s { R with nx:=cL C sub ss R } σ st:=rfl
theorem fI {R:fW}{s:Sx}{ss:List Sx}(h:wpS C sub s { R with nx:=cL C sub ss R } σ st):cL C sub (s::ss) R σ st:=h
theorem gQ (h:st p=some (.lst ds)):dH st p K M=K ds:=by unfold dH;rw[h]
theorem aK (h:st p=some (.lst ds)):bY st p K=K ds:=by unfold bY;rw[h]
theorem bQ {α:Type}{x:α}{K:α->Prop}:cT (some x) K=K x:=rfl
theorem OA {α:Type}{K:α->Prop}:cT none K=False:=rfl
theorem Y6 {d:D}{r:St}{R:D->Prop}:dO (some d::r) 0 R=R d:=rfl
theorem XH {o:Option D}{r:St}{n:Nat}{R:D->Prop}:dO (o::r) (n+1) R=dO r n R:=rfl
theorem bA {o:MO}:put st p o p=some o:=by unfold put;rw[if_pos rfl]
theorem bK {o:MO}(h:q≠p):put st p o q=st q:=by unfold put;rw[if_neg h]
theorem BR {o u:MO}(h:st p=none)(h':st q=some u):put st p o q=some u:=by
 rw[bK];exact h'
 intro e;rw[e,h]at h';cases h'
theorem UB:dM .non st P=P false:=rfl
theorem V3 {k:Bool}:dM (.bl k) st P=P k:=rfl
theorem SS:dM (.int i) st P=P (i != 0):=rfl
theorem U4:dM (.tup ds) st P=P (!ds.isEmpty):=rfl
theorem IC:dM (.ref p) st P=dH st p (fun ds=>P (!ds.isEmpty)) fun ks _=>P (!ks.isEmpty):=rfl
theorem PQ:dM (.bF ds) st P=P (!ds.isEmpty):=rfl
theorem Y4:cV .eq x y st P=(plainS st x/\plainS st y/\P (bN st x y)):=rfl
theorem ZH:cV .ne x y st P=(plainS st x/\plainS st y/\P (!bN st x y)):=rfl
theorem YO:cV .lt (.int i) (.int j) st P=P (decide (i<j)):=rfl
theorem ZQ:cV .le (.int i) (.int j) st P=P (decide (i<=j)):=rfl
theorem cmp_gt:cV .gt (.int i) (.int j) st P=P (decide (j<i)):=rfl
theorem W9:cV .ge (.int i) (.int j) st P=P (decide (j<=i)):=rfl
theorem TY:cV .is_ x .non st P=P (D1 x):=rfl
theorem TH {k:Bool}:cV .is_ x (.bl k) st P=P (O9 k x):=rfl
theorem O2:cV .isnot x .non st P=P (!D1 x):=rfl
theorem O0 {k:Bool}:cV .isnot x (.bl k) st P=P (!O9 k x):=rfl
theorem KQ:cV .in_ x (.tup ds) st P=(plainS st x/\dJ st ds/\P (ds.any fun d=>bN st d x)):=rfl
theorem HE {w:List Nat}:cV .in_ (.str w) (.cM ks vs) st P=P (ks.any fun d=>bG d (.str w)):=rfl
theorem LF:cV .in_ (.str u) (.str v) st P=P (occurs u v):=rfl
theorem HB:cV .iU x (.tup ds) st P=(plainS st x/\dJ st ds/\P (!ds.any fun d=>bN st d x)):=rfl
theorem HN:cV .iU x (.ref p) st P=dH st p (fun ds=>plainS st x/\dJ st ds/\P (!ds.any fun d=>bN st d x)) fun ks _=>plain x/\sG ks/\P (!ks.any fun d=>bG d x):=rfl
theorem GF {w:List Nat}:cV .iU (.str w) (.cM ks vs) st P=P (!ks.any fun d=>bG d (.str w)):=rfl
theorem HD:cV .iU (.str u) (.str v) st P=P (!occurs u v):=rfl
theorem add_int:gZ .add (.int i) (.int j) st Q=Q (.int (i+j)) st:=rfl
theorem add_str:gZ .add (.str u) (.str v) st Q=(u.length+v.length<=bI/\Q (.str (u++v)) st):=rfl
theorem U9:gZ .add (.tup xs) (.tup ys) st Q=(xs.length+ys.length<=bI/\Q (.tup (xs++ys)) st):=rfl
theorem JM:gZ .add (.ref p) (.ref q) st Q=bY st p fun xs=>bY st q fun ys=>fR (xs++ys) st Q:=rfl
theorem sub_int:gZ .sub (.int i) (.int j) st Q=Q (.int (i-j)) st:=rfl
theorem mul_int:gZ .mul (.int i) (.int j) st Q=((nI i∨nI j)/\Q (.int (i*j)) st):=rfl
theorem SR:gZ .mul (.tup xs) (.int i) st Q=((0<xs.length/\xs.length<=1000/\1<=i/\i<1000)/\Q (.tup (List.replicate i.toNat xs).flatten) st):=rfl
theorem P0:gZ .fdiv (.int i) (.int j) st Q=((0<j/\j<1073741824)/\Q (.int (i / j)) st):=rfl
theorem mod_int:gZ .mod (.int i) (.int j) st Q=(0<j/\Q (.int (i % j)) st):=rfl
theorem pow_int:gZ .pow (.int i) (.int j) st Q=((0<=j/\j<=1000000/\i.natAbs<18446744073709551616)/\Q (.int (i ^ j.toNat)) st):=rfl
theorem neg_int:vI (.int i) st Q=Q (.int (-i)) st:=rfl
theorem UQ {t:Ty}:tN sub x st [t] P=gP sub x st t P:=rfl
theorem SG {t t':Ty}{ts:List Ty}:tN sub x st (t::t'::ts) P=gP sub x st t fun b=>if b=true then P true else tN sub x st (t'::ts) P:=rfl
theorem jS:lZ (.tup ds) (.int i) st Q=cT (eJ ds i) fun d=>Q d st:=rfl
theorem HY:lZ (.bF ds) (.int i) st Q=cT (eJ ds i) fun d=>Q d st:=rfl
theorem E7:lZ (.str u) (.int i) st Q=(u.length<=bI/\cT (eJ u i) fun c=>Q (.str [c]) st):=rfl
theorem UY {w:List Nat}:lZ (.cM ks vs) (.str w) st Q=cT (tK ks vs (.str w)) fun d=>Q d st:=rfl
theorem gM (h:st p=some (.lst ds)):lZ (.ref p) (.int i) st Q=cT (eJ ds i) fun d=>Q d st:=by
 show dH st p _ _=_
 rw[gQ h]
theorem dW {α:Type}{xs:List α}{n:Nat}(h:n<xs.length):eJ xs (n:Int)=xs[n]?:=by
 unfold eJ lG
 rw[if_pos (by omega),if_pos (by omega)]
 simp
theorem Hc {α:Type}{x:α}{r:List α}:eJ (x::r) 0=some x:=dW (n:=0) (by simp)
theorem Hg {α:Type}{x y:α}{r:List α}:eJ (x::y::r) 1=some y:=dW (n:=1) (by simp)
theorem Gm {α:Type}{x y z:α}{r:List α}:eJ (x::y::z::r) 2=some z:=dW (n:=2) (by simp)
theorem Fx {α:Type}{x y z w:α}{r:List α}:eJ (x::y::z::w::r) 3=some w:=dW (n:=3) (by simp)
theorem Im {α:Type}{x y z w t:α}{r:List α}:eJ (x::y::z::w::t::r) 4=some t:=dW (n:=4) (by simp)
theorem WT {R:Option Int->Prop}:mU [] R=R none:=rfl
theorem Y0 {R:Option Int->Prop}:mU [.int i] R=R (some i):=rfl
theorem GV {lo hi:Option Int}:AG (.tup ds) lo hi st Q=Q (.tup (cut ds lo hi)) st:=rfl
theorem Z8 {lo hi:Option Int}:AG (.ref p) lo hi st Q=bY st p fun ds=>∀ p,st p=none->Q (.ref p) (put st p (.lst (cut ds lo hi))):=rfl
theorem Di {α:Type}{d:α}{ds:List α}:cut (d::ds) (some 1) none=ds:=by simp [cut,bX]
theorem wU {α:Type}{xs:List α}{lo hi:Option Int}:(cut xs lo hi).length<=xs.length:=by simp only[cut,List.length_take,List.length_drop];omega
theorem UH {R:List Nat->List D->Prop}:fK none [x] st R=mR x st R:=rfl
theorem PY {R:List Nat->List D->Prop}:mR (.tup ds) st R=R [] ds:=rfl
theorem QO {R:List Nat->List D->Prop}:mR (.str u) st R=(u.length<=bI/\R [] (u.map fun c=>.str [c])):=rfl
theorem pR {R:List Nat->List D->Prop}:mR (.ref p) st R=bY st p fun ds=>R [p] ds:=rfl
theorem NT {R:List Nat->List D->Prop}:mR (.bF ds) st R=R [] ds:=rfl
theorem rO {R:List Nat->List D->Prop}:dN (.tup ds) st R=R [] ds:=rfl
theorem BM {R:List Nat->List D->Prop}:dN (.ref p) st R=bY st p fun ds=>R [p] ds:=rfl
theorem QY {R:List Nat->List D->Prop}:dN (.bF ds) st R=R [] ds:=rfl
theorem JY {R:List Nat->List D->Prop}:fK (some .range) [.int j] st R=(dX j/\R [] (kD 0 j.toNat)):=rfl
theorem LI {R:List Nat->List D->Prop}:fK (some .range) [.int i,.int j] st R=(dX i/\dX j/\R [] (kD i (j-i).toNat)):=rfl
theorem A2 {R:List Nat->List D->Prop}{c:Int}:fK (some .range) [.int i,.int j,.int c] st R=(c = -1/\dX i/\dX j/\R [] (mM i (i-j).toNat)):=rfl
theorem UW {R:List Nat->List D->Prop}:fK (some .rev) [x] st R=dN x st fun as xs=>R as xs.reverse:=rfl
theorem LR:gB .len [x] st Q=nS x st fun n=>Q (.int (n:Nat)) st:=rfl
theorem U2 {R:Nat->Prop}:nS (.tup ds) st R=R ds.length:=rfl
theorem FA {R:Nat->Prop}:nS (.bF ds) st R=R ds.length:=rfl
theorem len_str {R:Nat->Prop}:nS (.str u) st R=(u.length<=bI/\R u.length):=rfl
theorem JF {R:Nat->Prop}:nS (.ref p) st R=dH st p (fun ds=>R ds.length) fun ks _=>R ks.length:=rfl
theorem M8:gB .all [x] st Q=dN x st fun _ xs=>eE .all xs st Q:=rfl
theorem MA:gB .any [x] st Q=dN x st fun _ xs=>eE .any xs st Q:=rfl
theorem Ae:gB .max [x] st Q=dN x st fun _ xs=>eE .max xs st Q:=by cases x<;>rfl
theorem ZO:gB .min [x] st Q=dN x st fun _ xs=>eE .min xs st Q:=by cases x<;>rfl
theorem Z3:gB .sum [x] st Q=dN x st fun _ xs=>eE .sum xs st Q:=by cases x<;>rfl
theorem IV:gB .list [x] st Q=dN x st fun _ xs=>eE .list xs st Q:=rfl
theorem GL:gB .tuple [x] st Q=dN x st fun _ xs=>eE .tuple xs st Q:=rfl
theorem CW {ds:List D}:gB .pZ [.tup ds] st Q=cT (strsOf ds) fun ws=>ws.length<4000/\Q (.int (vB [] ws:Nat)) st:=rfl
theorem SU:gB .max [.int i,.int j] st Q=Q (.int (if j>i then j else i)) st:=rfl
theorem ZM:gB .int [.int i] st Q=Q (.int i) st:=rfl
theorem UM {k:Bool}:gB .int [.bl k] st Q=Q (.int (if k then 1 else 0)) st:=rfl
theorem V1:eE .all xs st Q=cT (boolsOf xs) fun bs=>Q (.bl (bs.all id)) st:=rfl
theorem W7:eE .any xs st Q=cT (boolsOf xs) fun bs=>Q (.bl (bs.any id)) st:=rfl
theorem V7:eE .sum xs st Q=cT (intsOf xs) fun is=>Q (.int is.sum) st:=rfl
theorem U1:eE .list xs st Q=fR xs st Q:=rfl
theorem QM:eE .tuple xs st Q=(xs.length<=bI/\Q (.tup xs) st):=rfl
theorem VD:vV (.tup ds) st K=K ds:=rfl
theorem TB:vV (.ref p) st K=bY st p K:=rfl
theorem A1:vE .append (.ref p) st=bY st p fun _=>True:=rfl
theorem J6:vE .extend (.ref p) st=bY st p fun _=>True:=rfl
theorem UC:vE .pop (.ref p) st=bY st p fun _=>True:=rfl
theorem vK {x:D}:vE .index x st=dN x st fun _ _=>True:=rfl
theorem zD {x d:D}:iQ .index x [d] st Q=dN x st fun _ ds=>plainS st d/\dJ st ds/\cT (findD st d ds) fun i=>Q (.int (i:Nat)) st:=rfl
theorem qI:iQ .append (.ref p) [x] st Q=bY st p fun xs=>xs.length<bI/\Q .non (put st p (.lst (xs++[x]))):=rfl
theorem vM:iQ .extend (.ref p) [x] st Q=bY st p fun xs=>vV x st fun ys=>xs.length+ys.length<=bI/\Q .non (put st p (.lst (xs++ys))):=rfl
theorem GI:iQ .pop (.ref p) [] st Q=bY st p fun xs=>cT (xs[xs.length-1]?) fun d=>Q d (put st p (.lst xs.dropLast)):=rfl
theorem JL {R:aA->Prop}:yY (.ref p) (.int i) x st R=bY st p fun xs=>cT (lG xs.length i) fun j=>R (put st p (.lst (xs.set j x))):=rfl
theorem Y8 {n:Nat}{R:St->Prop}:jE true [n] x σ R=R (σ.set n (some x)):=rfl
theorem NA {is:List Nat}{R:St->Prop}:jE false is (.tup ds) σ R=(ds.length=is.length/\R ((is.zip ds).foldl (fun σ p=>σ.set p.1 (some p.2)) σ)):=by cases is<;>rfl
end
theorem Ext.refl {st:aA}:Ext st st:=fun _ _ h=>h
theorem Ext.trans {a b c:aA}(h:Ext a b)(h':Ext b c):Ext a c:=fun x o e=>h' x o (h x o e)
theorem Ext.new {st:aA}{p:Nat}{o:MO}(h:st p=none):Ext st (put st p o):=fun a u e=>BR h e
end L3
end
section
namespace L3
theorem EY {st aB:aA}:same [] st aB:=fun _ h=>nomatch h
theorem comp_map {g:aA->Prop}{turn:D->aA->(Option D->aA->Prop)->Prop}{R:List D->aA->Prop}(f:D->D):∀(xs acc:List D)(st:aA),
  (∀ aB,Ext st aB->g aB)->(∀ x∈xs,∀ aB (K:Option D->aA->Prop),Ext st aB->(∀ aX,Ext aB aX->K (some (f x)) aX)->turn x aB K) ->
  acc.length+xs.length<=bI->(∀ aB,Ext st aB->R (acc++xs.map f) aB)->iP g turn xs acc st R
 |[],acc,st,hg,_,_,hR=>⟨hg st .refl,by simpa using hR st .refl⟩
 |x::xs,acc,st,hg,ht,hl,hR=>by
  refine⟨hg st .refl,by simp at hl;omega,ht x (by simp) st _ .refl fun aX h''=>?_⟩
  refine comp_map f xs (acc++[f x]) aX (fun aB h=>hg aB (h''.trans h)) (fun y hy aB K h=>ht y (by simp [hy]) aB K (h''.trans h)) (by simp at hl ⊢;omega) fun aB h=>?_
  simpa using hR aB (h''.trans h)
mutual
theorem zK {st:aA}:∀ d:D,bR d=true->fM st d=true
 |.non,_=>rfl
 |.bl _,_=>rfl
 |.int _,_=>rfl
 |.str _,_=>rfl
 |.tup ds,h=>by simp only[bR]at h;simp only[fM];exact qN ds h
 |.ref _,h=>by simp [bR]at h
 |.cM _ _,h=>by simp [bR]at h
 |.bF _,h=>by simp [bR]at h
 |.exc _,h=>by simp [bR]at h
theorem qN {st:aA}:∀ ds:List D,bV ds=true->fT st ds=true
 |[],_=>rfl
 |d::ds,h=>by
  simp only[bV,Bool.and_eq_true]at h
  simp only[fT,Bool.and_eq_true]
  exact⟨zK d h.1,qN ds h.2⟩
end
theorem plain.s {d:D}(h:plain d){st:aA}:plainS st d:=⟨zK d h.1,h.2⟩
theorem sG.s {ds:List D}(h:sG ds){st:aA}:dJ st ds:=⟨qN ds h.1,h.2⟩
theorem C4 {x:List Nat}:plain (.str x):=⟨rfl,Nat.zero_le _⟩
theorem DF {i:Int}:plain (.int i):=⟨rfl,Nat.zero_le _⟩
theorem ED {b:Bool}:plain (.bl b):=⟨rfl,Nat.zero_le _⟩
theorem C9:plain .non:=⟨rfl,Nat.zero_le _⟩
theorem tQ {x:List Nat}{st:aA}:plainS st (.str x):=C4.s
theorem KR {i:Int}{st:aA}:plainS st (.int i):=DF.s
theorem M0 {b:Bool}{st:aA}:plainS st (.bl b):=ED.s
theorem K6 {st:aA}:plainS st .non:=C9.s
theorem mV:∀ xs:List (List Nat),sG (xs.map .str)
 |[]=>⟨rfl,Nat.zero_le _⟩
 |x::xs=>by
  have h:=mV xs
  exact⟨by simp only[List.map_cons,bV,bR,Bool.true_and];exact h.1,by simp only[List.map_cons,cX,cQ];exact Nat.max_le.mpr ⟨Nat.zero_le _,h.2⟩⟩
theorem gH {st:aA}{x y:List Nat}:bN st (.str x) (.str y)=(x==y):=by simp only[bN]
theorem TV {st:aA}{x y:Int}:bN st (.int x) (.int y)=(x==y):=by simp only[bN]
theorem W4 {st:aA}{x y:Bool}:bN st (.bl x) (.bl y)=(x==y):=by simp only[bN]
theorem S8 {x y:List Nat}:bG (.str x) (.str y)=(x==y):=by simp only[bG]
theorem sR {st:aA}(x:List Nat):∀ xs:List (List Nat),((xs.map D.str).any fun d=>bN st d (.str x))=xs.contains x
 |[]=>rfl
 |y::xs=>by
  simp only[List.map_cons,List.any_cons,gH,sR x xs,List.contains_cons]
  congr 1
  exact Bool.beq_comm
end L3
end
section
namespace L3
open PySem PySem.Spec PyProof.Rows L2
mutual
noncomputable def oO (w:World):D->Int
 |.str x=>hashStr w ⟨x.toArray⟩
 |.bl b=>reduceHash (if b=true then 1 else 0)
 |.tup ds=>reduceHash (Builtin.Tuple.tupleHashOf (fV w ds))
 |_=>0
noncomputable def fV (w:World):List D->List Int
 |[]=>[]
 |d::ds=>oO w d::fV w ds
end
mutual
noncomputable def qL:D->Nat
 |.tup ds=>iV ds+1
 |_=>1
noncomputable def iV:List D->Nat
 |[]=>0
 |d::ds=>qL d+iV ds
end
noncomputable def Hw (w:World)(x:D×Addr×Value):DictEntry:=⟨oO w x.1,.ref x.2.1,x.2.2⟩
noncomputable def KI (a:Addr)(xs:List (D×Addr×Value))(w:World)(h:Heap):Prop:=∃ o es ep,h.get? a=some o/\o.ExactDict/\o.data=.dict es ep/\es.toList=xs.map (Hw w)
noncomputable def GB (a:Addr)(xs:List (D×Addr×Value)):HO:=.ext fun _ w h=>KI a xs w h
noncomputable def clsAt (K:PySem.W.Frag)(c:List Nat)(C:Addr):Prop:=PySem.W.nsIn K mainGlobals ⟨c.toArray⟩=some (some (.ref C))
theorem clsAt.inj {K:PySem.W.Frag}{c:List Nat}{C C':Addr}(h:clsAt K c C)(h':clsAt K c C'):C=C':=by
 have:=h.symm.trans h'
 injection this with e;injection e with e;injection e
end L3
end
section
namespace L3
open PySem PySem.Spec PyProof.Rows L2
structure jF where
 params:Arguments
 body:Expr
 scope:Scope
 aL:List Str
 ps:List Str
 q:Str
noncomputable def Ec (e:Expr)(aL ps:List Str)(q:Str):jF:=match e with
 |.Lambda params body scope _=>⟨params,body,scope,aL,ps,q⟩
 |e=>⟨{ posonlyargs:=[],args:=[],vararg:=none,kwonlyargs:=[],kw_defaults:=[],kwarg:=none,defaults:=[] },e,{ kind:=.function,names:=[],isGenerator:=false,isCoroutine:=false },aL,ps,q⟩
noncomputable def Bq (s:Stmt):Expr:=match s with
 |.Return (some (.Subscript (.Call _ as _ _) _ _)) _=>as.getD 2 (.Name "" ⟨0,0,0,0⟩)
 |.Return (some (.Call _ as _ _)) _=>as.getD 2 (.Name "" ⟨0,0,0,0⟩)
 |.Assign _ (.Call _ as _ _) _=>as.getD 2 (.Name "" ⟨0,0,0,0⟩)
 |_=>.Name "" ⟨0,0,0,0⟩
noncomputable abbrev bd (n:Nat):Stmt:=PySem.Challenge.pw_leastloss_k03_holds.main.body.getD n (.Pass ⟨0,0,0,0⟩)
noncomputable def gL:jF:=Ec (Bq ((eH (bd 43)).getD 7 (.Pass ⟨0,0,0,0⟩))) ["row"] ["held"] "holds.<locals>.<lambda>"
noncomputable def LT:Nat->Option jF
 |37=>some gL
 |_=>none
end L3
end
section
namespace L3
open PySem PySem.Spec PyProof.Rows L2
noncomputable def kQ (K:PySem.W.Frag)(H:Hp)(a:Addr)(vs:List V):Prop :=
 (∃ o,H a=some (.frz o (.lst vs)))∨∃(o:Obj)(aD:Array Value)(n:Nat),K.lookup a=some o/\o.cls=.type "list" /\ o.dict=none/\o.data=.seq aD n/\aD.size<=sizeLine/\aO vs aD.toList
theorem kQ.sq {K:PySem.W.Frag}{H:Hp}{a:Addr}{vs:List V}:kQ K H a vs->dR K H a vs
 |.inl ⟨o,h⟩=>.inl (.inr ⟨o,h⟩)
 |.inr h=>.inr h
noncomputable def qR:PyData->D
 |.bool b=>.bl b
 |.int i=>.int i
 |.str x=>.str x.cps.toList
 |_=>.non
noncomputable def mL:PyData->Bool
 |.none=>true
 |.bool _=>true
 |.int _=>true
 |.str _=>true
 |_=>false
noncomputable def VX (K:PySem.W.Frag)(a:Addr)(ks vs:List D):Prop:=∃ T:List (Str×PyData),KTD.tabLook KTD.flatLooks (fun b=>K.lookup b) a T=true/\(T.all fun p=>mL p.2)=true/\ks=T.map (fun p=>.str p.1.cps.toList)/\vs=T.map (fun p=>qR p.2)
mutual
inductive Rep (K:PySem.W.Frag)(H:Hp):D->V->Prop where
 |non:Rep K H .non .non
 |bl (b:Bool):Rep K H (.bl b) (.bl b)
 |int (i:Int):Rep K H (.int i) (.int i)
 |str (x:List Nat):Rep K H (.str x) (.str ⟨x.toArray⟩)
 |tup {ds:List D}{a:Addr}{vs:List V}(h:dQ K H a vs)(r:aH K H ds vs):Rep K H (.tup ds) (.ref a)
 |ref (a:Addr):Rep K H (.ref a) (.ref a)
 |bF {ds:List D}{a:Addr}{vs:List V}(h:kQ K H a vs)(r:aH K H ds vs):Rep K H (.bF ds) (.ref a)
 |cM {ks vs:List D}{a:Addr}(h:VX K a ks vs):Rep K H (.cM ks vs) (.ref a)
inductive aH (K:PySem.W.Frag)(H:Hp):List D->List V->Prop where
 |nil:aH K H [] []
 |cons {d:D}{v:V}{ds:List D}{vs:List V}(h:Rep K H d v)(r:aH K H ds vs):aH K H (d::ds) (v::vs)
end
noncomputable def gK (K:PySem.W.Frag)(H:Hp)(fs:List (List Nat×D))(ws:List (Str×V)):Prop:=ws.map (·.1)=fs.map (fun p=>(⟨p.1.toArray⟩:Str))/\aH K H (fs.map (·.2)) (ws.map (·.2))
noncomputable def bears:HO->Bool
 |.lst _=>true
 |.ins _ _ _=>true
 |.ext _=>true
 |.tbl _=>true
 |.frz _ (.frz _ _)=>true
 |_=>false
noncomputable def LL (oc:Obj)(q:Str):Prop:=∃ vs t,oc.data=.fields vs/\vs[1]? = some (.str q t)
inductive iB (H:Hp)(a:Addr)(clos:List (Str×Addr)):List Str->List V->Prop where
 |nil:iB H a clos [] []
 |cons {x:Str}{xs:List Str}{v:V}{vs:List V}(cl:Addr)(o:Obj)(u:Value)(l:clos.lookup x=some cl)(k:H cl=some (.frz o (.own a))) (d:o.data=.cell (some u)) (r:RelV v u) (t:iB H a clos xs vs):iB H a clos (x::xs) (v::vs)
theorem iB.of {H H':Hp}{a:Addr}{clos:List (Str×Addr)}{xs:List Str}{vs:List V}(h:iB H a clos xs vs)(k:∀ b o,H b=some (.frz o (.own a))->H' b=some (.frz o (.own a))):iB H' a clos xs vs:=by
 induction h with
 |nil=>exact .nil
 |cons cl o u l q d r t ih=>exact .cons cl o u l (k _ _ q) d r ih
inductive RZ (H:Hp)(a:Addr)(f:Nat)(vs:List V):Prop where
 |mk (T:jF)(clos:List (Str×Addr))(pm ctv:Value)(c':Addr)(oc:Obj)(ne:a≠0)(t:LT f=some T)(e:H a=some (.frz (PySem.W.kla_obj "<lambda>" T.q T.params T.body T.scope clos pm c' ctv) (.frz (PySem.W.kla_obj "<lambda>" T.q T.params T.body T.scope clos pm c' ctv) (.own a))))(ec:H c'=some (.frz oc (.own 0)))(co:LL oc T.q)
 (inj:∀ x y c,clos.lookup x=some c->clos.lookup y=some c->x=y)(dom:∀ x c,clos.lookup x=some c->x∈T.aL)(cap:iB H a clos T.aL vs):RZ H a f vs
noncomputable def K2 (K:PySem.W.Frag)(H:Hp)(a:Addr)(κ:CK):Prop :=
 PySem.W.codeHdIn K κ.c a=true/\(H a=some (.tbl #[])∨∃ c' oc,H a=some (.tbl #[rawInt κ.ln,rawInt κ.col,.ref c'])/\H c'=some (.frz oc (.own 0))/\LL oc ⟨κ.q.toArray⟩)
noncomputable def rG (K:PySem.W.Frag)(H:Hp)(a:Addr):MO->Prop
 |.lst ds=>∃ vs,H a=some (.lst vs)/\aH K H ds vs
 |.dic _ _=>False
 |.ins c fs=>∃ C dx ws,clsAt K c C/\H a=some (.ins C dx ws)/\gK K H fs ws
 |.tab ks vs=>∃(xs:List (D×Addr×Value))(ws:List V),H a=some (GB a xs)/\(a==sysModules)=false/\xs.map (·.1)=ks/\(xs.map (·.1)).Nodup/\aH K H ks (xs.map fun x=>.ref x.2.1)/\(∀ x∈xs,keyed x.1)/\aO ws (xs.map (·.2.2))/\aH K H vs ws
 |.fn f cs=>∃ vs,RZ H a f vs/\aH K H cs vs
 |.cod κ=>K2 K H a κ
noncomputable def aQ (K:PySem.W.Frag)(st:aA)(H:Hp):Prop:=∀ a o,st a=some o->rG K H a o
noncomputable def Step (H:Hp)(st:aA)(H':Hp)(aB:aA):Prop:=∀ a o,H a=some o->st a=none->H' a=some o/\aB a=none
theorem Step.refl {H:Hp}{st:aA}:Step H st H st:=fun _ _ h n=>⟨h,n⟩
theorem Step.trans {H H1 H2:Hp}{st aC aF:aA}(a:Step H st H1 aC)(b:Step H1 aC H2 aF):Step H st H2 aF:=fun x o h n=>let⟨h1,n1⟩:=a x o h n;b x o h1 n1
section
variable {K:PySem.W.Frag}{H H' H1:Hp}{st aB aC:aA}{a p:Addr}{d:D}{v:V}{ds:List D}{vs:List V}
theorem rG.bears {m:MO}(h:rG K H a m):∃ o,H a=some o/\L3.bears o=true:=by
 cases m with
 |lst ds=>obtain⟨vs,q,_⟩:=h;exact⟨_,q,rfl⟩
 |dic _ _=>exact h.elim
 |ins c fs=>obtain⟨_,_,_,_,q,_⟩:=h;exact⟨_,q,rfl⟩
 |tab ks vs=>obtain⟨_,_,q,_⟩:=h;exact⟨_,q,rfl⟩
 |fn f cs=>obtain⟨_,⟨_,_,_,_,_,_,_,_,q⟩,_⟩:=h;exact⟨_,q,rfl⟩
 |cod κ=>obtain⟨_,q|⟨_,_,q,_⟩⟩:=h<;>exact⟨_,q,rfl⟩
theorem aQ.sQ (ok:aQ K st H){o:HO}(h:H a=some o)(n:L3.bears o=false):st a=none:=by
 cases e:st a with
 |none=>rfl
 |some u =>
 obtain⟨o',e1,e2⟩:=(ok a u e).bears
 rw[h]at e1;cases e1
 rw[n]at e2;cases e2
theorem aQ.fresh (ok:aQ K st H)(h:H a=none):st a=none:=by
 cases e:st a with
 |none=>rfl
 |some u =>
 obtain⟨o',e1,e2⟩:=(ok a u e).bears
 rw[h]at e1;cases e1
theorem tI (ok:aQ K st H)(s:Step H st H' aB)(h:dQ K H a vs):dQ K H' a vs:=by
 rcases h with(h|⟨o,h⟩)|h
 ·exact .inl (.inl (s a _ h (ok.sQ h rfl)).1)
 ·exact .inl (.inr ⟨o,(s a _ h (ok.sQ h rfl)).1⟩)
 ·exact .inr h
theorem qK (ok:aQ K st H)(s:Step H st H' aB)(h:kQ K H a vs):kQ K H' a vs:=by
 rcases h with⟨o,h⟩|h
 ·exact .inl ⟨o,(s a _ h (ok.sQ h rfl)).1⟩
 ·exact .inr h
mutual
theorem Rep.step (ok:aQ K st H)(s:Step H st H' aB):∀{d:D}{v:V},Rep K H d v->Rep K H' d v
 |_,_,.non=>.non
 |_,_,.bl b=>.bl b
 |_,_,.int i=>.int i
 |_,_,.str x=>.str x
 |_,_,.tup h r=>.tup (tI ok s h) (aH.step ok s r)
 |_,_,.ref a=>.ref a
 |_,_,.bF h r=>.bF (qK ok s h) (aH.step ok s r)
 |_,_,.cM h=>.cM h
theorem aH.step (ok:aQ K st H)(s:Step H st H' aB):∀{ds:List D}{vs:List V},aH K H ds vs->aH K H' ds vs
 |_,_,.nil=>.nil
 |_,_,.cons h r=>.cons (Rep.step ok s h) (aH.step ok s r)
end
theorem M1 (ok:aQ K st H)(s:Step H st H' aB){c:Addr}{clos:List (Str×Addr)}{xs:List Str}{vs:List V}(h:iB H c clos xs vs):iB H' c clos xs vs:=by
 induction h with
 |nil=>exact .nil
 |cons cl o u l k d r t ih=>exact .cons cl o u l (s _ _ k (ok.sQ k rfl)).1 d r ih
theorem rG.step (ok:aQ K st H)(s:Step H st H' aB){m:MO}(h:rG K H a m)(e:H' a=H a):rG K H' a m:=by
 cases m with
 |lst ds=>obtain⟨vs,q,r⟩:=h;exact⟨vs,e.trans q,r.step ok s⟩
 |dic _ _=>exact h
 |ins c fs=>obtain⟨C,dx,ws,q,q2,q3,r⟩:=h;exact⟨C,dx,ws,q,e.trans q2,q3,r.step ok s⟩
 |tab ks vs=>obtain⟨xs,ws,q,q0,q1,q2,q3,q4,q5,r⟩:=h;exact⟨xs,ws,e.trans q,q0,q1,q2,q3.step ok s,q4,q5,r.step ok s⟩
 |fn f cs =>
 obtain⟨vs,⟨T,clos,pm,ctv,c',oc,ne0,t,q,ec,co,inj,dom,cap⟩,r⟩:=h
 exact⟨vs,⟨T,clos,pm,ctv,c',oc,ne0,t,e.trans q,(s _ _ ec (ok.sQ ec rfl)).1,co,inj,dom,M1 ok s cap⟩,r.step ok s⟩
 |cod κ =>
 obtain⟨q0,q|⟨c',oc,q,ec,co⟩⟩:=h
 ·exact⟨q0,.inl (e.trans q)⟩
 ·exact⟨q0,.inr ⟨c',oc,e.trans q,(s _ _ ec (ok.sQ ec rfl)).1,co⟩⟩
theorem aH.length:∀{ds:List D}{vs:List V},aH K H ds vs->ds.length=vs.length
 |_,_,.nil=>rfl
 |_,_,.cons _ r=>by simp [aH.length r]
theorem aH.get:∀{ds:List D}{vs:List V}{i:Nat}{d:D},aH K H ds vs->ds[i]? = some d->∃ v,vs[i]? = some v/\Rep K H d v
 |_,_,_,_,.nil,e=>by simp at e
 |_,_,0,_,.cons h _,e=>by simp at e;subst e;exact⟨_,rfl,h⟩
 |_,_,i+1,d,.cons _ r,e=>by
  obtain⟨v,e1,e2⟩:=aH.get (i:=i) (d:=d) r (by simpa using e)
  exact⟨v,by simpa using e1,e2⟩
theorem aH.append:∀{ds es:List D}{vs us:List V},aH K H ds vs->aH K H es us->aH K H (ds++es) (vs++us)
 |_,_,_,_,.nil,s=>s
 |_,_,_,_,.cons h r,s=>.cons h (aH.append r s)
theorem aH.take:∀{ds:List D}{vs:List V}(n:Nat),aH K H ds vs->aH K H (ds.take n) (vs.take n)
 |_,_,0,_=>by simp;exact .nil
 |_,_,_+1,.nil=>by simp;exact .nil
 |_,_,n+1,.cons h r=>by simp only[List.take_succ_cons];exact .cons h (aH.take n r)
theorem aH.drop:∀{ds:List D}{vs:List V}(n:Nat),aH K H ds vs->aH K H (ds.drop n) (vs.drop n)
 |_,_,0,r=>by simpa using r
 |_,_,_+1,.nil=>by simp;exact .nil
 |_,_,n+1,.cons _ r=>by simp only[List.drop_succ_cons];exact aH.drop n r
theorem aH.set (h:Rep K H d v):∀{ds:List D}{vs:List V}(i:Nat),aH K H ds vs->aH K H (ds.set i d) (vs.set i v)
 |_,_,_,.nil=>by simp;exact .nil
 |_,_,0,.cons _ r=>by simp only[List.set_cons_zero];exact .cons h r
 |_,_,i+1,.cons q r=>by simp only[List.set_cons_succ];exact .cons q (aH.set h i r)
theorem aH.dropLast {ds:List D}{vs:List V}(r:aH K H ds vs):aH K H ds.dropLast vs.dropLast:=by
 rw[List.dropLast_eq_take,List.dropLast_eq_take,r.length]
 exact r.take _
theorem aH.reverse:∀{ds:List D}{vs:List V},aH K H ds vs->aH K H ds.reverse vs.reverse
 |_,_,.nil=>by simp;exact .nil
 |_,_,.cons h r=>by simp only[List.reverse_cons];exact(aH.reverse r).append (.cons h .nil)
inductive QD (K:PySem.W.Frag)(H:Hp)(st:aA)(R:VK)(v:V)(H':Hp):Prop where
 |mk (d:D)(aB:aA)(s:Step H st H' aB)(ok:aQ K aB H')(r:Rep K H' d v)(q:R d aB):QD K H st R v H'
inductive Fi (K:PySem.W.Frag)(H:Hp)(st:aA)(R:List D->aA->Prop)(vs:List V)(H':Hp):Prop where
 |mk (ds:List D)(aB:aA)(s:Step H st H' aB)(ok:aQ K aB H')(r:aH K H' ds vs)(q:R ds aB):Fi K H st R vs H'
inductive QX (K:PySem.W.Frag)(H:Hp)(st:aA)(R:aA->Prop)(H':Hp):Prop where
 |mk (aB:aA)(s:Step H st H' aB)(ok:aQ K aB H')(q:R aB):QX K H st R H'
theorem QD.here {R:VK}(ok:aQ K st H)(r:Rep K H d v)(h:R d st):QD K H st R v H:=⟨d,st,.refl,ok,r,h⟩
theorem QD.after {R:VK}(s:Step H st H1 aC)(h:QD K H1 aC R v H'):QD K H st R v H':=let⟨d,aB,s',ok,r,q⟩:=h;⟨d,aB,s.trans s',ok,r,q⟩
theorem pI {o:HO}(hp:H p=none):Step H st (upd H p o) st:=fun a u h n=>by
 have e:a≠p:=fun e=>by rw[e,hp]at h;cases h
 exact⟨by rw[aY e];exact h,n⟩
theorem nM {o:HO}{m:MO}(hp:H p=none):Step H st (upd H p o) (put st p m):=fun a u h n=>by
 have e:a≠p:=fun e=>by rw[e,hp]at h;cases h
 exact⟨by rw[aY e];exact h,by rw[bK e];exact n⟩
theorem aQ.new {o:HO}(ok:aQ K st H)(hp:H p=none):aQ K st (upd H p o):=fun a u e=>by
 have ne:a≠p:=fun z=>by obtain⟨o',q,_⟩:=(ok a u e).bears;rw[z,hp]at q;cases q
 exact(ok a u e).step ok (pI (st:=st) hp) (aY ne)
theorem aQ.WM {o:HO}{m:MO}(ok:aQ K st H)(hp:H p=none)(r:rG K (upd H p o) p m):aQ K (put st p m) (upd H p o):=fun a u e=>by
 have s:Step H st (upd H p o) (put st p m):=nM hp
 by_cases ha:a=p
 ·subst ha
  rw[bA]at e;cases e
  exact r
 ·rw[bK ha]at e
  exact(ok a u e).step ok s (aY ha)
theorem aQ.fR (ok:aQ K st H)(hp:H p=none)(r:aH K H ds vs):aQ K (put st p (.lst ds)) (upd H p (.lst vs)):=fun a u e=>by
 have s:Step H st (upd H p (.lst vs)) (put st p (.lst ds)):=nM hp
 by_cases ha:a=p
 ·subst ha
  rw[bA]at e;cases e
  exact⟨vs,cY,r.step ok s⟩
 ·rw[bK ha]at e
  exact(ok a u e).step ok s (aY ha)
theorem QD.EX {R:VK}(ok:aQ K st H)(r:aH K H ds vs)(hp:H p=none)(h:R (.tup ds) st):QD K H st R (.ref p) (upd H p (.tup vs)) :=
 ⟨.tup ds,st,pI hp,ok.new hp,.tup (dQ.of cY) (r.step ok (pI (st:=st) hp)),h⟩
theorem QD.fR {R:VK}(ok:aQ K st H)(r:aH K H ds vs)(hp:H p=none)(h:∀ p,st p=none->R (.ref p) (put st p (.lst ds))):QD K H st R (.ref p) (upd H p (.lst vs)) :=
 ⟨.ref p,put st p (.lst ds),nM hp,ok.fR hp r,.ref p,h p (ok.fresh hp)⟩
theorem aQ.lst (ok:aQ K st H)(h:st a=some (.lst ds)):∃ vs,H a=some (.lst vs)/\aH K H ds vs:=ok a _ h
theorem kT {o:HO}{m m':MO}(h:st a=some m):Step H st (upd H a o) (put st a m'):=fun b u hb n=>by
 have e:b≠a:=fun e=>by rw[e,h]at n;cases n
 exact⟨by rw[aY e];exact hb,by rw[bK e];exact n⟩
theorem aQ.set (ok:aQ K st H){m:MO}(h:st a=some m)(r:aH K H ds vs):aQ K (put st a (.lst ds)) (upd H a (.lst vs)):=fun b u e=>by
 have s:Step H st (upd H a (.lst vs)) (put st a (.lst ds)):=kT h
 by_cases ha:b=a
 ·subst ha
  rw[bA]at e;cases e
  exact⟨vs,cY,r.step ok s⟩
 ·rw[bK ha]at e
  exact(ok b u e).step ok s (aY ha)
theorem aQ.GK {o:HO}{m m':MO}(ok:aQ K st H)(h:st a=some m)(r:rG K (upd H a o) a m'):aQ K (put st a m') (upd H a o):=fun b u e=>by
 have s:Step H st (upd H a o) (put st a m'):=kT h
 by_cases ha:b=a
 ·subst ha
  rw[bA]at e;cases e
  exact r
 ·rw[bK ha]at e
  exact(ok b u e).step ok s (aY ha)
theorem QD.set {R:VK}(ok:aQ K st H){m:MO}(h:st a=some m)(r:aH K H ds vs)(rd:Rep K H d v)(q:R d (put st a (.lst ds))):QD K H st R v (upd H a (.lst vs)) :=
 ⟨d,put st a (.lst ds),kT h,ok.set h r,rd.step ok (kT (m':=.lst ds) h),q⟩
end
noncomputable def cZ (K:PySem.W.Frag)(H:Hp)(σd:St)(σ:L2.St):Prop:=σd.length=σ.length/\∀(i:Nat)(d:D),σd[i]? = some (some d)->∃ v,σ[i]? = some (some v)/\Rep K H d v
theorem cZ.step {K:PySem.W.Frag}{H H':Hp}{st aB:aA}{σd:St}{σ:L2.St}(r:cZ K H σd σ)(ok:aQ K st H)(s:Step H st H' aB):cZ K H' σd σ :=
 ⟨r.1,fun i d e=>let⟨v,e1,e2⟩:=r.2 i d e;⟨v,e1,e2.step ok s⟩⟩
theorem cZ.set {K:PySem.W.Frag}{H:Hp}{σd:St}{σ:L2.St}{d:D}{v:V}(r:cZ K H σd σ)(i:Nat)(h:Rep K H d v):cZ K H (σd.set i (some d)) (σ.set i (some v)):=by
 refine⟨by simpa using r.1,fun j e hj=>?_⟩
 by_cases q:j=i
 ·subst q
  by_cases hl:j<σd.length
  ·rw[List.getElem?_set_self hl]at hj
   cases hj
   exact⟨v,by rw[List.getElem?_set_self (by rw[<-r.1];exact hl)],h⟩
  ·rw[List.getElem?_eq_none (by simp;omega)]at hj;cases hj
 ·rw[List.getElem?_set_ne (Ne.symm q)]at hj
  obtain⟨u,e1,e2⟩:=r.2 j e hj
  exact⟨u,by rw[List.getElem?_set_ne (Ne.symm q)];exact e1,e2⟩
noncomputable abbrev X1:=St->aA->VK->Prop
inductive bM (K:PySem.W.Frag)(te:X1)(σ:L2.St)(H:Hp)(Q:L2.VK):Prop where
 |mk (σd:St)(st:aA)(R:VK)(r:cZ K H σd σ)(ok:aQ K st H)(q:te σd st R)(hq:∀ v H',QD K H st R v H'->Q v H'):bM K te σ H Q
inductive jT (K:PySem.W.Frag)(te:St->aA->(List D->aA->Prop)->Prop)(σ:L2.St)(H:Hp)(Q:List V->Hp->Prop):Prop where
 |mk (σd:St)(st:aA)(R:List D->aA->Prop)(r:cZ K H σd σ)(ok:aQ K st H)(q:te σd st R)(hq:∀ vs H',Fi K H st R vs H'->Q vs H'):jT K te σ H Q
inductive iR (K:PySem.W.Frag)(te:X1)(σ:L2.St)(H:Hp)(Q:Bool->Hp->Prop):Prop where
 |mk (σd:St)(st:aA)(R:Bool->aA->Prop)(r:cZ K H σd σ)(ok:aQ K st H)(q:te σd st (fun d aB=>dM d aB fun b=>R b aB))(hq:∀(b:Bool) H',QX K H st (R b) H'->Q b H'):iR K te σ H Q
theorem _root_.L2.PE.imp {X:Cx}{e:Expr}{t t':L2.TE}(i:∀ σ H Q,t' σ H Q->t σ H Q)(h:PE X e t):PE X e t':=fun pins s σ H Q I q=>h pins s σ H Q I (i σ H Q q)
theorem _root_.L2.PT.imp {X:Cx}{e:Expr}{t t':L2.TT}(i:∀ σ H Q,t' σ H Q->t σ H Q)(h:PT X e t):PT X e t':=fun pins s σ H Q I q=>h pins s σ H Q I (i σ H Q q)
theorem _root_.L2.PW.imp {X:Cx}{e:Expr}{t t':L2.TT}(i:∀ σ H Q,t' σ H Q->t σ H Q)(h:PW X e t):PW X e t':=fun wh pins s σ H Q I q=>h wh pins s σ H Q I (i σ H Q q)
theorem _root_.L2.PA.imp {X:Cx}{es:List Expr}{t t':L2.TA}(i:∀ σ H Q,t' σ H Q->t σ H Q)(h:PA X es t):PA X es t':=fun pos pins s σ H Q I q=>h pos pins s σ H Q I (i σ H Q q)
theorem _root_.L2.PS.imp {X:Cx}{e:Stmt}{t t':L2.TS}(i:∀ D σ H,t' D σ H->t D σ H)(h:PS X e t):PS X e t':=fun pins s σ H D I q=>h pins s σ H D I (i D σ H q)
theorem _root_.L2.jI.imp {X:Cx}{e:List Stmt}{t t':L2.TS}(i:∀ D σ H,t' D σ H->t D σ H)(h:jI X e t):jI X e t':=fun pins s σ H D I q=>h pins s σ H D I (i D σ H q)
end L3
end
section
namespace L3
open PySem PySem.Spec PyProof.Rows L2
theorem fH:sizeLine=bI:=sizeLine_eq
section
variable {X:Cx}{C:aW}{sub:Nat->Nat->Bool}{E:XK}{a b c e:Expr}{x y z:Ex}{pos:Pos}
theorem sC {d:D}{v:V}(h:PE X e (tC v))(r:∀ H,Rep X.K H d v):PE X e (bM X.K (aG C sub E (.c d))) :=
 h.imp fun σ H Q ⟨σd,st,R,_,ok,q,hq⟩=>by
 exact hq v H (.here ok (r H) q)
theorem KD {i:Nat}(h:PE X e (QP i)):PE X e (bM X.K (aG C sub E (.v i))) :=
 h.imp fun σ H Q ⟨σd,st,R,r,ok,q,hq⟩=>by
 have q:dO σd i (fun d=>R d st):=q
 unfold dO at q
 split at q
 ·rename_i d ed
  obtain⟨v,e1,e2⟩:=r.2 i d ed
  exact⟨v,e1,hq v H (.here ok e2 q)⟩
 ·exact q.elim
theorem Es:PA X [] (jT X.K (bE C sub E [])) :=
 NH.imp fun σ H Q ⟨σd,st,R,r,ok,q,hq⟩=>by
 exact hq [] H ⟨[],st,.refl,ok,.nil,q⟩
theorem YF {es:List Expr}{xs:List Ex}(h:PE X e (bM X.K (aG C sub E x)))(hs:PA X es (jT X.K (bE C sub E xs)))
 (dZ:starEach (e::es) X.env=(false,eval e X.env)::starEach es X.env):PA X (e::es) (jT X.K (bE C sub E (x::xs))) :=
 (BY h hs dZ).imp fun σ H Q ⟨σd,st,R,r,ok,q,hq⟩=>by
 refine⟨σd,st,_,r,ok,q,fun v H1 ⟨d,aC,s1,aN,r1,q1⟩=>?_⟩
 refine⟨σd,aC,_,r.step ok s1,aN,q1,fun vs H2 ⟨ds,aF,s2,bO,r2,q2⟩=>?_⟩
 exact hq _ _ ⟨d::ds,aF,s1.trans s2,bO,.cons (r1.step aN s2) r2,q2⟩
theorem pB:∀(xs:List Ex){σ:St}{st:aA}{R:List D->aA->Prop},bL C C->bE C sub E xs σ st R->bE C sub E xs σ st (fun ds aB=>ds.length=xs.length/\R ds aB)
 |[],σ,st,R,_,h=>by exact⟨rfl,h⟩
 |x::xs,σ,st,R,hC,h=>by
  refine aS hC (fun _ _ z=>z) x (fun d aB h'=>?_) h
  exact cG hC (fun _ _ z=>z) xs (fun ds aX z=>⟨by simp [z.1],z.2⟩) (pB xs hC h')
theorem De {es:List Expr}{xs:List Ex}{k:Nat}(hC:bL C C)(hs:PA X es (jT X.K (bE C sub E xs)))(hl:xs.length<=bI):PE X (.Tuple es k pos) (bM X.K (aG C sub E (.tup xs))) :=
 (YZ hs).imp fun σ H Q ⟨σd,st,R,r,ok,q,hq⟩=>by
 refine⟨σd,st,_,r,ok,pB xs hC q,fun vs H1 ⟨ds,aC,s1,aN,r1,l1,q1⟩=>⟨?_,fun p hp=>?_⟩⟩
 ·rw[fH,<-r1.length,l1];exact hl
 ·exact hq _ _ (.after s1 (.EX aN r1 hp q1))
theorem Ba {es:List Expr}{xs:List Ex}(hs:PA X es (jT X.K (bE C sub E xs))):PE X (.List es pos) (bM X.K (aG C sub E (.lst xs))) :=
 (WB hs).imp fun σ H Q ⟨σd,st,R,r,ok,q,hq⟩=>by
 refine⟨σd,st,_,r,ok,q,fun vs H1 ⟨ds,aC,s1,aN,r1,q1⟩=>⟨?_,fun p hp=>?_⟩⟩
 ·rw[fH,<-r1.length];exact q1.1
 ·exact hq _ _ (.after s1 (.fR aN r1 hp q1.2))
theorem two {r:R2}{te tf:X1}{σ:L2.St}{H:Hp}{Q:L2.VK}{σd:St}{st:aA}{W:D->D->aA->Prop}{R:VK}
 (sr:cZ X.K H σd σ)(ok:aQ X.K st H)(q:te σd st fun d aC=>tf σd aC fun d' aF=>W d d' aF)(hq:∀ v H',QD X.K H st R v H'->Q v H')
 (op:∀ d d' v v' H2 aF,aQ X.K aF H2->Rep X.K H2 d v->Rep X.K H2 d' v'->W d d' aF->r v v' H2 (QD X.K H2 aF R))
 (mono:∀ v v' H (Q Q':L2.VK),(∀ v H,Q v H->Q' v H)->r v v' H Q->r v v' H Q'):W5 r (bM X.K te) (bM X.K tf) σ H Q:=by
 refine⟨σd,st,_,sr,ok,q,fun v H1 ⟨d,aC,s1,aN,r1,q1⟩=>?_⟩
 refine⟨σd,aC,_,sr.step ok s1,aN,q1,fun v' H2 ⟨d',aF,s2,bO,r2,q2⟩=>?_⟩
 refine mono _ _ _ _ _ (fun u H' z=>hq u H' (.after (s1.trans s2) z)) (op d d' v v' H2 aF bO (r1.step aN s2) r2 q2)
theorem EL {g:Int->Int->V}(v v':V)(H:Hp)(Q Q':L2.VK)(h:∀ v H,Q v H->Q' v H)(z:ES g v v' H Q):ES g v v' H Q':=let⟨i,j,e,e',q⟩:=z;⟨i,j,e,e',h _ _ q⟩
theorem wY {P:Int->Int->Prop}{g:Int->Int->V}(v v':V)(H:Hp)(Q Q':L2.VK)(h:∀ v H,Q v H->Q' v H)(z:rI P g v v' H Q):rI P g v v' H Q':=let⟨i,j,e,e',p,q⟩:=z;⟨i,j,e,e',p,h _ _ q⟩
end
end L3
end
section
namespace L3
open PySem PySem.Spec PyProof.Rows L2
theorem zE:fillsNumberSlot (.type "tuple") "mul" = pure false:=by kernel_rfl
theorem FG:seqRepeat? (.type "tuple")=pure (some (.builtin "tuple.__mul__")):=by kernel_rfl
theorem BE (a:Int)(t:Tok)(l:Addr)(items:Array Value)(n:Nat)(dd:Option Addr)(sl:Array (Option Value)):
 Meets (Builtin.«int.__rmul__» ⟨[.int a t,.ref l],[]⟩) (fun _ R s=>s.heap.get? l=some { cls:=.type "tuple", dict:=dd,data:=.seq items n,slots:=sl }/\R (.ok (.ret Value.notImplemented)) s) :=
 .of_wp fun prog w A R s h=>by obtain⟨hp,g,d,tk,os⟩:=s;obtain⟨hl,h⟩:=h;wp_walk;exact⟨_,rfl,h⟩
section
variable {prog:Program}{w:World}{A:Around}{E:Value->Shared->Prop}{s:Shared}
theorem FO {l:Addr}{items:Array Value}{n:Nat}{dd:Option Addr}{sl:Array (Option Value)}{k:Int}{t:Tok}{Q:PySem.Fin->Shared->Prop}(hl:s.heap.get? l=some { cls:=.type "tuple", dict:=dd,data:=.seq items n,slots:=sl })
  (h1:1<=k)(h2:k<1000)(hm:0<items.size)(hm2:items.size<=1000)(mQ:k=1->Q (.done (.ret (.ref l))) s)
  (h:Q (.done (.ret (.ref s.heap.objs.size))) { s with heap:=s.heap.push { cls:=.type "tuple", data:=.seq ((List.replicate k.toNat items).foldl (·++ ·) #[]) } }):
  wpAny (model prog w) A (Builtin.«tuple.__mul__» ⟨[.ref l,.int k t],[]⟩) Q E s:=by
 have hT:s.TypeIs (.ref l) "tuple":=⟨_,hl,rfl⟩
 unfold Builtin.«tuple.__mul__»
 wp_walk
 rw[if_neg (by simp;omega)]
 show wpAny _ _ (Builtin.Tuple.tupleItemsOf (.ref l) >>= _) _ _ s
 refine wpAny_bind (wpAny_tupleItemsOf hl rfl ?_)
 have hne:items.isEmpty=false:=by
  rw[Array.isEmpty_eq_false_iff];intro z;rw[z]at hm;simp at hm
 have jp:wpAny (model prog w) A (if(decide (k<=0)||items.isEmpty)=true then do
     let __do_lift <-Builtin.Tuple.tupleExact #[]
     ret __do_lift
    else
     have __do_jp:=fun(__r:Unit) =>
      have __do_jp:=fun(__r:Unit)=>do
       let __do_lift <-
        Builtin.Tuple.tupleExact (List.foldl (fun x1 x2=>x1++x2) #[] (List.replicate k.toNat items))
       ret __do_lift;
      if Builtin.Tuple.tupleTooMany (↑items.size*k)=true then do
       let __r <-unsupported "tuple.__mul__:memory"
       __do_jp __r
      else __do_jp ();
     if ↑items.size*k>(2 ^ 63-1) / 8 then do
      rule "tuple.repeat.no-memory"
      let __do_lift <-newExc (Value.type "MemoryError") []
      let __r <-raiseNew __do_lift
      __do_jp __r
     else __do_jp ()) Q E s:=by
  rw[if_neg (by rw[hne];simp;omega)]
  have hmul:(items.size:Int)*k<=1000*1000:=Int.mul_le_mul (by omega) (by omega) (by omega) (by decide)
  have hmul0:0<=(items.size:Int)*k:=Int.mul_nonneg (by omega) (by omega)
  dsimp only
  rw[if_neg (by omega),if_neg (by simp [Builtin.Tuple.tupleTooMany,sizeLine_eq];omega)]
  wp_walk
  have jH:¬(List.foldl (fun x1 x2=>x1++x2) #[] (List.replicate k.toNat items)).size>sizeLine:=by
   have e1:=foldl_rep items.toList k.toNat []
   rw[List.nil_append]at e1
   have e2:List.foldl (fun x1 x2=>x1++x2) #[] (List.replicate k.toNat items)=(List.replicate k.toNat items.toList).flatten.toArray:=by simpa using e1
   rw[e2,List.size_toArray,List.length_flatten,List.map_replicate,List.sum_replicate_nat,Array.length_toList,sizeLine_eq]
   have:k.toNat*items.size<=1000*1000:=Nat.mul_le_mul (by omega) hm2
   omega
  rw[if_neg jH]
  wp_walk
  exact h
 show wpAny _ _ (if(items.isEmpty||k==1)=true then _ else _) _ _ s
 by_cases hk:k=1
 ·subst hk
  rw[if_pos (by simp)]
  wp_walk
  exact mQ rfl
 ·rw[if_neg (by rw[hne];simpa using hk)]
  exact jp
end
noncomputable def RY (K:PySem.W.Frag):R2:=fun x y H Q=>∃(a:Addr)(k:Int)(xs:List V),x=.ref a/\y=.int k/\dQ K H a xs/\0<xs.length/\xs.length<=1000/\1<=k/\k<1000/\(k=1->Q (.ref a) H)/\∀ p,H p=none->Q (.ref p) (upd H p (.tup (List.replicate k.toNat xs).flatten))
theorem SQ {X:Cx}:gA X (binaryOp .Mult) (RY X.K):=by
 intro pins s σ H x y v u Q I rx ry h
 obtain⟨a,k,xs,rfl,rfl,hH,h0,h00,h1,h2,mQ,q⟩:=h
 cases rx
 obtain⟨t,rfl⟩:=ry
 obtain⟨aD,r,⟨⟨cls,dd,data,sl⟩,ho,hc,n,hd⟩,z⟩:=I.tuple hH
 simp only at hc hd
 subst hc hd
 have hl:xs.length=aD.length:=r.length
 have hnew:List.foldl (fun x1 x2=>x1++x2) #[] (List.replicate k.toNat aD.toArray)=(List.replicate k.toNat aD).flatten.toArray:=by
  have:=foldl_rep aD k.toNat []
  rw[List.nil_append]at this
  exact this
 refine wpAny_binaryOp_repeat_ref (T :="tuple") (U :="int") (by decide) ⟨_,ho,rfl⟩ (fun s'=>typeIs_int s' k t) zE PySem.F.fills_int_mul PySem.F.slot_int_rmul FG PySem.F.slot_int_index.lookup
  (call_meets PySem.F.slot_int_rmul (typeIs_int s k t) PySem.F.entry_int_rmul (PySem.F.args_int_rmul_2 _ _) (BE k t a aD.toArray n dd sl)
   ⟨ho,rfl,⟨_,ho,rfl⟩,wpAny_call_entry PySem.F.slot_tuple_mul ⟨_,ho,rfl⟩ PySem.F.entry_tuple_mul (FO ho h1 h2 (by simpa [<-hl]using h0) (by simpa [<-hl]using h00) (fun e=>?_) ?_) (PySem.F.args_tuple_mul_2 _ _)⟩)
 ·exact⟨_,rfl,.ref a,H,I,rfl,mQ e⟩
 ·refine⟨_,rfl,.ref s.heap.objs.size,_,I.laid (a:=s.heap.objs.size) (o:=.tup (List.replicate k.toNat xs).flatten) (t':=s.toks) (fun b u e=>Heap.get?_push_of_some _ e) (Nat.le_refl _) ?_,rfl,q _ (I.bH.fresh (Nat.le_refl _))⟩
  refine⟨by rw[len_rep,sizeLine_eq];have:k.toNat*xs.length<=1000*1000:=Nat.mul_le_mul (by omega) h00;omega,_,r.rep k.toNat,?_⟩
  rw[hnew]
  exact nX.new s.heap _
end L3
end
section
namespace L3
open PySem PySem.Spec PyProof.Rows L2
section
variable {X:Cx}
theorem UI {prog:Program}{w:World}{A:Around}{E:Value->Shared->Prop}{s:Shared}{t b:Addr}{ws:List Value}{Q:Value->Shared->Prop}(ht:IsTup s.heap t #[])(hb:IsTup s.heap b ws.toArray)
  (h:Q (.ref b) s):wpAny (model prog w) A (binaryOp .Add (.ref t) (.ref b)) Q E s:=by
 obtain⟨⟨cls,dd,data,sl⟩,ho,hc,n,hd⟩:=id ht
 obtain⟨⟨cls2,dd2,data2,sl2⟩,ho2,hc2,n2,hd2⟩:=id hb
 simp only at hc hd hc2 hd2
 subst hc hd hc2 hd2
 exact concat_meets ⟨_,ho,rfl⟩ ⟨_,ho2,rfl⟩ noFill_tuple_add seq_tuple_add PySem.F.slot_tuple_add PySem.F.entry_tuple_add (PySem.F.args_tuple_add_2 _ _)
  (tuple_addW0 t b #[] ws.toArray n n2 dd dd2 sl sl2 (by simp)) ⟨ho,ho2,h⟩
noncomputable def RF (K:PySem.W.Frag):R2:=fun x y H Q=>∃ a b ys,x=.ref a/\y=.ref b/\dQ K H a []/\dQ K H b ys/\Q (.ref b) H
theorem TQ:gA X (binaryOp .Add) (RF X.K):=by
 intro pins s σ H x y v u Q I rx ry h
 obtain⟨a,b,ys,rfl,rfl,ha,hb,q⟩:=h
 cases rx
 cases ry
 obtain⟨aD,r1,p1,_⟩:=I.tuple ha
 obtain⟨mC,r2,p2,_⟩:=I.tuple hb
 have e:aD=[]:=r1.xM.mpr rfl
 subst e
 exact UI p1 p2 ⟨.ref b,H,I,rfl,q⟩
noncomputable def Dp:R2:=fun x y H Q=>∃ i j,x=.str i/\y=.str j/\i.length+j.length<=sizeLine/\Q (.str (i++j)) H
noncomputable abbrev RO (K:PySem.W.Frag):R2:=fun x y H Q=>ES (fun i j=>.int (i+j)) x y H Q∨Dp x y H Q∨RV K x y H Q∨RF K x y H Q∨VT x y H Q
theorem TF:gA X (binaryOp .Add) (RO X.K):=gA.or VV (gA.or J0 (gA.or SX (gA.or TQ ZD)))
noncomputable abbrev RS (K:PySem.W.Frag):R2:=fun x y H Q=>rI KP (fun i j=>.int (i*j)) x y H Q∨Y5 x y H Q∨RY K x y H Q
theorem UG:gA X (binaryOp .Mult) (RS X.K):=gA.or V2 (gA.or VU SQ)
noncomputable def ZJ:sI->Operator
 |.add=>.Add|.sub=>.Sub|.mul=>.Mult|.fdiv=>.FloorDiv|.mod=>.Mod|.pow=>.Pow
noncomputable def J1 (K:PySem.W.Frag):sI->R2
 |.add=>RO K
 |.sub=>ES fun i j=>.int (i-j)
 |.mul=>RS K
 |.fdiv=>rI ZW fun i j=>.int (i / j)
 |.mod=>rI (fun _ j=>0<j) fun i j=>.int (i % j)
 |.pow=>rI XS fun i j=>.int (i ^ j.toNat)
theorem Z2:∀ op:sI,gA X (binaryOp (ZJ op)) (J1 X.K op)
 |.add=>TF
 |.sub=>WO
 |.mul=>UG
 |.fdiv=>U3
 |.mod=>YM
 |.pow=>WD
theorem LQ {K:PySem.W.Frag}:∀(op:sI)(v v':V)(H:Hp)(Q Q':L2.VK),(∀ v H,Q v H->Q' v H)->J1 K op v v' H Q->J1 K op v v' H Q'
 |.add,v,v',H,Q,Q',h,z=>by
  rcases z with z|⟨i,j,e,e',l,q⟩|⟨a,b,xs,ys,e,e',s,s',n,l,q,q'⟩|⟨a,b,ys,e,e',s,s',q⟩|⟨l,b,xs,zs,e,e',s,s',n,q⟩
  ·exact .inl (EL _ _ _ _ _ h z)
  ·exact .inr (.inl ⟨i,j,e,e',l,h _ _ q⟩)
  ·exact .inr (.inr (.inl ⟨a,b,xs,ys,e,e',s,s',n,l,fun z=>h _ _ (q z),fun z p hp=>h _ _ (q' z p hp)⟩))
  ·exact .inr (.inr (.inr (.inl ⟨a,b,ys,e,e',s,s',h _ _ q⟩)))
  ·exact .inr (.inr (.inr (.inr ⟨l,b,xs,zs,e,e',s,s',n,fun p hp=>h _ _ (q p hp)⟩)))
 |.sub,v,v',H,Q,Q',h,z=>EL _ _ _ _ _ h z
 |.mul,v,v',H,Q,Q',h,z=>by
  rcases z with z|⟨l,k,xs,e,e',s,b1,b2,b3,q⟩|⟨l,k,xs,e,e',s,b1,b2,b3,b4,q0,q⟩
  ·exact .inl (wY _ _ _ _ _ h z)
  ·exact .inr (.inl ⟨l,k,xs,e,e',s,b1,b2,b3,fun p hp=>h _ _ (q p hp)⟩)
  ·exact .inr (.inr ⟨l,k,xs,e,e',s,b1,b2,b3,b4,fun z=>h _ _ (q0 z),fun p hp=>h _ _ (q p hp)⟩)
 |.fdiv,v,v',H,Q,Q',h,z=>wY _ _ _ _ _ h z
 |.mod,v,v',H,Q,Q',h,z=>wY _ _ _ _ _ h z
 |.pow,v,v',H,Q,Q',h,z=>wY _ _ _ _ _ h z
end
section
variable {K:PySem.W.Frag}{H:Hp}{st:aA}{R:VK}
theorem Rep.int_inv {i:Int}{v:V}(r:Rep K H (.int i) v):v=.int i:=by cases r;rfl
theorem Rep.str_inv {x:List Nat}{v:V}(r:Rep K H (.str x) v):v=.str ⟨x.toArray⟩:=by cases r;rfl
theorem Rep.eO {b:Bool}{v:V}(r:Rep K H (.bl b) v):v=.bl b:=by cases r;rfl
theorem Rep.eU {v:V}(r:Rep K H .non v):v=.non:=by cases r;rfl
theorem Rep.bZ {a:Addr}{v:V}(r:Rep K H (.ref a) v):v=.ref a:=by cases r;rfl
theorem Rep.bJ {ds:List D}{v:V}(r:Rep K H (.tup ds) v):∃ a vs,v=.ref a/\dQ K H a vs/\aH K H ds vs:=by cases r with|tup h r=>exact⟨_,_,rfl,h,r⟩
theorem Rep.FU {ks vs:List D}{v:V}(r:Rep K H (.cM ks vs) v):∃ a,v=.ref a/\VX K a ks vs:=by cases r with|cM h=>exact⟨_,rfl,h⟩
theorem Rep.jO {ds:List D}{v:V}(r:Rep K H (.bF ds) v):∃ a vs,v=.ref a/\kQ K H a vs/\aH K H ds vs:=by cases r with|bF h r=>exact⟨_,_,rfl,h,r⟩
theorem dG {a:Nat}{P:List D->Prop}(h:bY st a P):∃ ds,st a=some (.lst ds)/\P ds:=by
 unfold bY at h
 split at h
 ·rename_i ds e;exact⟨ds,e,h⟩
 ·exact h.elim
theorem qA {a:Nat}{P:List D->Prop}{M:List D->List D->Prop}(ok:aQ K st H)(h:dH st a P M):∃ ds,st a=some (.lst ds)/\P ds:=by
 unfold dH at h
 split at h
 ·rename_i ds e;exact⟨ds,e,h⟩
 ·rename_i e;exact(ok _ _ e).elim
 ·exact h.elim
theorem eB {α:Type}{o:Option α}{P:α->Prop}(h:cT o P):∃ x,o=some x/\P x:=by
 unfold cT at h
 split at h
 ·exact⟨_,rfl,h⟩
 ·exact h.elim
theorem UD (x y:List Nat):(⟨x.toArray⟩:Str)++⟨y.toArray⟩=⟨(x++y).toArray⟩:=by
 show Str.mk _=Str.mk _
 simp
theorem aH.nil_inv {vs:List V}(r:aH K H [] vs):vs=[]:=by cases r;rfl
theorem aH.flat {ds:List D}{vs:List V}(r:aH K H ds vs):∀ k:Nat,aH K H (List.replicate k ds).flatten (List.replicate k vs).flatten
 |0=>.nil
 |k+1=>by simp only[List.replicate_succ,List.flatten_cons];exact r.append (aH.flat r k)
theorem LW {op:sI}{d d':D}{v v':V}(ok:aQ K st H)(r:Rep K H d v)(r':Rep K H d' v')(h:gZ op d d' st R):J1 K op v v' H (QD K H st R):=by
 unfold gZ at h
 split at h
 ·cases r.int_inv;cases r'.int_inv
  exact .inl ⟨_,_,rfl,rfl,.here ok (.int _) h⟩
 ·rename_i a b
  cases r.str_inv;cases r'.str_inv
  refine .inr (.inl ⟨_,_,rfl,rfl,?_,?_⟩)
  ·rw[fH];simpa [Str.length]using h.1
  ·rw[UD];exact .here ok (.str _) h.2
 ·rename_i ds es
  obtain⟨a,vs,rfl,s1,q1⟩:=r.bJ
  obtain⟨b,us,rfl,s2,q2⟩:=r'.bJ
  cases ds with
  |nil =>
   cases q1.nil_inv
   exact .inr (.inr (.inr (.inl ⟨a,b,us,rfl,rfl,s1,s2,.here ok r' (by simpa using h.2)⟩)))
  |cons d ds =>
   refine .inr (.inr (.inl ⟨a,b,vs,us,rfl,rfl,s1,s2,?_,?_,fun e=>?_,fun _ p hp=>.EX ok (q1.append q2) hp h.2⟩))
   ·intro e;subst e;cases q1
   ·rw[fH,<-q1.length,<-q2.length];exact h.1
   ·subst e
    cases q2
    exact .here ok r (by simpa using h.2)
 ·rename_i a b
  cases r.bZ;cases r'.bZ
  obtain⟨xs,e1,h⟩:=dG h
  obtain⟨ys,e2,h⟩:=dG h
  obtain⟨vs,g1,q1⟩:=ok.lst e1
  obtain⟨us,g2,q2⟩:=ok.lst e2
  refine .inr (.inr (.inr (.inr ⟨a,b,vs,us,rfl,rfl,g1,g2,?_,fun p hp=>.fR ok (q1.append q2) hp h.2⟩)))
  rw[fH,<-q1.length,<-q2.length];simpa using h.1
 ·cases r.int_inv;cases r'.int_inv
  exact⟨_,_,rfl,rfl,.here ok (.int _) h⟩
 ·cases r.int_inv;cases r'.int_inv
  exact .inl ⟨_,_,rfl,rfl,h.1.imp (fun z=>z) (fun z=>z),.here ok (.int _) h.2⟩
 ·rename_i a k
  cases r.bZ;cases r'.int_inv
  obtain⟨xs,e1,h1,h2,h⟩:=dG h
  obtain⟨vs,g1,q1⟩:=ok.lst e1
  refine .inr (.inl ⟨a,k,vs,rfl,rfl,g1,by omega,by omega,?_,fun p hp=>.fR ok (q1.flat _) hp h.2⟩)
  rw[fH,<-q1.length];exact h1
 ·rename_i xs k
  obtain⟨a,vs,rfl,f,g⟩:=r.bJ
  cases r'.int_inv
  obtain⟨⟨c1,c2,c3,c4⟩,h⟩:=h
  refine .inr (.inr ⟨a,k,vs,rfl,rfl,f,by rw[<-g.length];exact c1,by rw[<-g.length];exact c2,c3,c4,fun e=>?_,fun p hp=>.EX ok (g.flat _) hp h⟩)
  subst e
  have e1:(List.replicate (1:Int).toNat xs).flatten=xs:=by simp
  rw[e1]at h
  exact .here ok r h
 ·cases r.int_inv;cases r'.int_inv
  exact⟨_,_,rfl,rfl,h.1,.here ok (.int _) h.2⟩
 ·cases r.int_inv;cases r'.int_inv
  exact⟨_,_,rfl,rfl,h.1,.here ok (.int _) h.2⟩
 ·cases r.int_inv;cases r'.int_inv
  exact⟨_,_,rfl,rfl,h.1,.here ok (.int _) h.2⟩
 ·exact h.elim
end
section
variable {X:Cx}{C:aW}{sub:Nat->Nat->Bool}{E:XK}{a b c e:Expr}{x y z:Ex}{pos:Pos}
theorem Ds {op:sI}(ha:PE X a (bM X.K (aG C sub E x)))(hb:PE X b (bM X.K (aG C sub E y))):PE X (.BinOp a (ZJ op) b pos) (bM X.K (aG C sub E (.bin op x y))) :=
 (Ez (Z2 op) ha hb).imp fun σ H Q ⟨σd,st,R,r,ok,q,hq⟩=>by
 exact two (W:=fun d d' aF=>gZ op d d' aF R) r ok q hq (fun d d' v v' H2 aF bO r1 r2 h=>LW bO r1 r2 h) (LQ op)
theorem Em (ha:PE X a (bM X.K (aG C sub E x))):PE X (.UnaryOp .USub a pos) (bM X.K (aG C sub E (.neg x))) :=
 (Ce Aa ha).imp fun σ H Q ⟨σd,st,R,r,ok,q,hq⟩=>by
 refine⟨σd,st,_,r,ok,q,fun v H1 ⟨d,aC,s1,aN,r1,q1⟩=>?_⟩
 have q1:vI d aC R:=q1
 unfold vI at q1
 split at q1
 ·cases r1.int_inv
  exact⟨_,rfl,hq _ _ (.after s1 (.here aN (.int _) q1))⟩
 ·exact q1.elim
noncomputable def Ho (d:D)(st:aA):Option Bool:=match d with
 |.non=>some false
 |.bl b=>some b
 |.int i=>some (i != 0)
 |.str x=>if x.length<=bI then some (!x.isEmpty)else none
 |.tup ds=>some (!ds.isEmpty)
 |.ref a=>match st a with
  |some (.lst ds)=>some (!ds.isEmpty)
  |some (.dic ks _)=>some (!ks.isEmpty)
  |some _=>none
  |none=>none
 |.bF ds=>some (!ds.isEmpty)
 |_=>none
theorem tO {d:D}{st:aA}{P:Bool->Prop}:dM d st P↔∃ k,Ho d st=some k/\P k:=by
 cases d with
 |str x =>
  show(x.length<=bI/\P (!x.isEmpty))↔∃ k,(if x.length<=bI then some (!x.isEmpty)else none)=some k/\P k
  split
  ·rename_i h;exact⟨fun z=>⟨_,rfl,z.2⟩,fun⟨k,e,q⟩=>⟨h,by cases e;exact q⟩⟩
  ·rename_i h;exact⟨fun z=>(h z.1).elim,fun⟨k,e,q⟩=>by cases e⟩
 |ref a =>
  show dH st a _ _↔∃ k,(match st a with|some (.lst ds)=>some (!ds.isEmpty)|some (.dic ks _)=>some (!ks.isEmpty)|some _=>none|none=>none)=some k/\P k
  unfold dH
  cases st a with
  |none=>exact⟨fun z=>z.elim,fun⟨k,e,q⟩=>by cases e⟩
  |some o=>cases o with
   |lst ds=>exact⟨fun z=>⟨_,rfl,z⟩,fun⟨k,e,q⟩=>by cases e;exact q⟩
   |dic ks vs=>exact⟨fun z=>⟨_,rfl,z⟩,fun⟨k,e,q⟩=>by cases e;exact q⟩
   |ins _ _=>exact⟨fun z=>z.elim,fun⟨k,e,q⟩=>by cases e⟩
   |tab _ _=>exact⟨fun z=>z.elim,fun⟨k,e,q⟩=>by cases e⟩
   |fn _ _=>exact⟨fun z=>z.elim,fun⟨k,e,q⟩=>by cases e⟩
   |cod _=>exact⟨fun z=>z.elim,fun⟨k,e,q⟩=>by cases e⟩
 |cM _ _=>exact⟨fun z=>z.elim,fun⟨k,e,q⟩=>by cases e⟩
 |exc _=>exact⟨fun z=>z.elim,fun⟨k,e,q⟩=>by cases e⟩
 |_=>exact⟨fun z=>⟨_,rfl,z⟩,fun⟨k,e,q⟩=>by cases e;exact q⟩
theorem hJ {α:Type}(x:List α):(!x.isEmpty)=(((x.length:Nat):Int) != 0):=by
 cases x with
 |nil=>rfl
 |cons a r =>
 simp only[List.isEmpty_cons,Bool.not_false,List.length_cons]
 symm
 rw[bne_iff_ne];omega
theorem qD {K:PySem.W.Frag}{H:Hp}{st:aA}{d:D}{v:V}{P:Bool->Prop}(ok:aQ K st H)(r:Rep K H d v)(h:dM d st P):∃ k,PD K v H k/\P k:=by
 unfold dM at h
 split at h
 ·cases r.eU;exact⟨_,rfl,h⟩
 ·cases r.eO;exact⟨_,rfl,h⟩
 ·cases r.int_inv;exact⟨_,rfl,h⟩
 ·rename_i x P
  cases r.str_inv
  refine⟨_,⟨by rw[fH];simpa [Str.length]using h.1,?_⟩,h.2⟩
  rw[hJ];simp [Str.length]
 ·obtain⟨a,vs,rfl,s1,q1⟩:=r.bJ
  refine⟨_,.inr (.inl ⟨vs,s1,?_⟩),h⟩
  rw[hJ,hJ,q1.length]
 ·cases r.bZ
  obtain⟨ds,e,h⟩:=qA ok h
  obtain⟨vs,g,q⟩:=ok.lst e
  refine⟨_,.inl ⟨vs,dR.of g,?_⟩,h⟩
  rw[hJ,hJ,q.length]
 ·obtain⟨a,vs,rfl,s1,q1⟩:=r.jO
  refine⟨_,.inl ⟨vs,s1.sq,?_⟩,h⟩
  rw[hJ,hJ,q1.length]
 ·exact h.elim
theorem PB (h:PE X e (bM X.K (aG C sub E x)))(he:∀ whole,isTrue e X.env whole=(do let v <-whole;standAt e.pos;holding [v] (truthy v))):PT X e (iR X.K (aG C sub E x)) :=
 (QK h he).imp fun σ H Q ⟨σd,st,R,r,ok,q,hq⟩=>by
 refine⟨σd,st,_,r,ok,q,fun v H1 ⟨d,aC,s1,aN,r1,q1⟩=>?_⟩
 obtain⟨k,t,z⟩:=qD aN r1 q1
 exact⟨k,t,hq _ _ ⟨aC,s1,aN,z⟩⟩
theorem V4 (h:PT X e (iR X.K (aG C sub E x))):PT X (.UnaryOp .Not e pos) (iR X.K (aG C sub E (.not_ x))) :=
 (XM h).imp fun σ H Q ⟨σd,st,R,r,ok,q,hq⟩=>by
 exact⟨σd,st,fun b aB=>R (!b) aB,r,ok,q,fun b H1 z=>hq _ _ z⟩
theorem Bu (h:PE X e (bM X.K (aG C sub E x))):PE X (.UnaryOp .Not e pos) (bM X.K (aG C sub E (.not_ x))):=by
 intro pins s σ H Q I ⟨σd,st,R,r,ok,q,hq⟩
 refine UnaryOp_ (aV (h pins s σ H _ I ⟨σd,st,_,r,ok,q,fun v H' z=>z⟩) fun u s1 ⟨v,H1,I1,rv,d,aC,st1s,aN,r1,q1⟩=>?_)
 obtain⟨k,t,z⟩:=qD aN r1 q1
 exact not_of (aV (AY pins s1 σ H1 v u (fun b H'=>Q (.bl (!b)) H') I1 rv ⟨k,t,hq _ _ (.after st1s (.here aN (.bl _) z))⟩) fun b s2 ⟨H2,I2,w⟩=>⟨.bl (!b),H2,I2,rfl,w⟩)
theorem WJ {op:BoolOp}(h:PT X e (iR X.K (aG C sub E x))):PW X (.BoolOp op [e] pos) (iR X.K (aG C sub E x)):=by
 cases op
 ·exact VB h
 ·exact X3 h
theorem V5 {rest:List Expr}(hC:bL C C)(ha:PT X a (iR X.K (aG C sub E x)))(hb:PW X (.BoolOp .And (b::rest) pos) (iR X.K (aG C sub E y))):PW X (.BoolOp .And (a::b::rest) pos) (iR X.K (aG C sub E (.and_ x y))) :=
 (Y2 ha hb).imp fun σ H Q ⟨σd,st,R,r,ok,q,hq⟩=>by
 refine⟨σd,st,fun k aC=>if k=true then aG C sub E y σd aC (fun d aB=>dM d aB fun b=>R b aB)else R false aC,r,ok,aS hC (fun _ _ z=>z) x (fun d aC z=>?_) q,fun k H1 ⟨aC,s1,aN,z⟩=>?_⟩
 ·rw[tO]at z ⊢
  obtain⟨k,t,z⟩:=z
  refine⟨k,t,?_⟩
  cases k with
  |true=>exact z
  |false =>
  have z':dM d aC fun b=>R b aC:=z
  rw[tO]at z'
  obtain⟨k',t',z'⟩:=z'
  rw[t]at t';cases t'
  exact z'
 ·cases k with
  |true=>exact⟨σd,aC,R,r.step ok s1,aN,z,fun k H2 ⟨aF,s2,bO,w⟩=>hq _ _ ⟨aF,s1.trans s2,bO,w⟩⟩
  |false=>exact hq _ _ ⟨aC,s1,aN,z⟩
theorem By {rest:List Expr}(hC:bL C C)(ha:PT X a (iR X.K (aG C sub E x)))(hb:PW X (.BoolOp .Or (b::rest) pos) (iR X.K (aG C sub E y))):PW X (.BoolOp .Or (a::b::rest) pos) (iR X.K (aG C sub E (.or_ x y))) :=
 (Ek ha hb).imp fun σ H Q ⟨σd,st,R,r,ok,q,hq⟩=>by
 refine⟨σd,st,fun k aC=>if k=true then R true aC else aG C sub E y σd aC (fun d aB=>dM d aB fun b=>R b aB),r,ok,aS hC (fun _ _ z=>z) x (fun d aC z=>?_) q,fun k H1 ⟨aC,s1,aN,z⟩=>?_⟩
 ·rw[tO]at z ⊢
  obtain⟨k,t,z⟩:=z
  refine⟨k,t,?_⟩
  cases k with
  |false=>exact z
  |true =>
  have z':dM d aC fun b=>R b aC:=z
  rw[tO]at z'
  obtain⟨k',t',z'⟩:=z'
  rw[t]at t';cases t'
  exact z'
 ·cases k with
  |false=>exact⟨σd,aC,R,r.step ok s1,aN,z,fun k H2 ⟨aF,s2,bO,w⟩=>hq _ _ ⟨aF,s1.trans s2,bO,w⟩⟩
  |true=>exact hq _ _ ⟨aC,s1,aN,z⟩
theorem Dw {rest:List Expr}(ha:PE X a (bM X.K (aG C sub E x)))(hb:PE X (.BoolOp .And (b::rest) pos) (bM X.K (aG C sub E y))):PE X (.BoolOp .And (a::b::rest) pos) (bM X.K (aG C sub E (.and_ x y))):=by
 intro pins s σ H Q I ⟨σd,st,R,r,ok,q,hq⟩
 refine BoolOp_and (aV (ha pins s σ H _ I ⟨σd,st,_,r,ok,q,fun v H' z=>z⟩) fun u s1 ⟨v,H1,I1,rv,d,aC,st1s,aN,r1,q1⟩=>?_)
 obtain⟨k,t,z⟩:=qD aN r1 q1
 refine aV (AY pins s1 σ H1 v u (fun b H'=>b=k/\H'=H1) I1 rv ⟨k,t,rfl,rfl⟩) fun b s2 ⟨H2,I2,e,e'⟩=>?_
 subst e e'
 cases b with
 |true=>exact hb pins s2 σ H2 Q I2 ⟨σd,aC,R,r.step ok st1s,aN,z,fun v H' w=>hq _ _ (.after st1s w)⟩
 |false=>exact⟨v,H2,I2,rv,hq _ _ (.after st1s (.here aN r1 z))⟩
theorem Gu {rest:List Expr}(ha:PE X a (bM X.K (aG C sub E x)))(hb:PE X (.BoolOp .Or (b::rest) pos) (bM X.K (aG C sub E y))):PE X (.BoolOp .Or (a::b::rest) pos) (bM X.K (aG C sub E (.or_ x y))):=by
 intro pins s σ H Q I ⟨σd,st,R,r,ok,q,hq⟩
 refine BoolOp_or (aV (ha pins s σ H _ I ⟨σd,st,_,r,ok,q,fun v H' z=>z⟩) fun u s1 ⟨v,H1,I1,rv,d,aC,st1s,aN,r1,q1⟩=>?_)
 obtain⟨k,t,z⟩:=qD aN r1 q1
 refine aV (AY pins s1 σ H1 v u (fun b H'=>b=k/\H'=H1) I1 rv ⟨k,t,rfl,rfl⟩) fun b s2 ⟨H2,I2,e,e'⟩=>?_
 subst e e'
 cases b with
 |false=>exact hb pins s2 σ H2 Q I2 ⟨σd,aC,R,r.step ok st1s,aN,z,fun v H' w=>hq _ _ (.after st1s w)⟩
 |true=>exact⟨v,H2,I2,rv,hq _ _ (.after st1s (.here aN r1 z))⟩
theorem As {op:BoolOp}(h:PE X e (bM X.K (aG C sub E x))):PE X (.BoolOp op [e] pos) (bM X.K (aG C sub E x)):=YE h
end
end L3
end
section
namespace L3
open PySem PySem.Spec PyProof.Rows L2 PySem.SeqAt
mutual
theorem tX:∀ d:D,bR d=true->bG d d=true
 |.non,_=>rfl
 |.bl b,_=>by simp [bG]
 |.int i,_=>by simp [bG]
 |.str x,_=>by simp [bG]
 |.tup ds,h=>by simp only[bR]at h;simp only[bG];exact jN ds h
 |.ref _,h=>by simp [bR]at h
 |.cM _ _,h=>by simp [bR]at h
 |.bF _,h=>by simp [bR]at h
 |.exc _,h=>by simp [bR]at h
theorem jN:∀ ds:List D,bV ds=true->gF ds ds=true
 |[],_=>rfl
 |d::ds,h=>by
  simp only[bV,Bool.and_eq_true]at h
  simp only[gF,Bool.and_eq_true]
  exact⟨tX d h.1,jN ds h.2⟩
end
theorem lV:∀{ds:List D}{d:D},bV ds=true->d∈ds->bR d=true
 |e::ds,d,h,m=>by
  simp only[bV,Bool.and_eq_true]at h
  rcases List.mem_cons.mp m with rfl|m
  ·exact h.1
  ·exact lV h.2 m
theorem iF:∀{ds:List D}{d:D},d∈ds->cQ d<=cX ds
 |e::ds,d,m=>by
  simp only[cX]
  rcases List.mem_cons.mp m with rfl|m
  ·omega
  ·have:=iF m;omega
theorem tH:∀{ds es:List D}(e:Nat->Bool),(∀ j d d',ds[j]? = some d->es[j]? = some d'->e j=bG d d')->((List.range (min ds.length es.length)).all e&&ds.length==es.length)=gF ds es
 |[],[],e,h=>by simp [gF]
 |[],_::_,e,h=>by simp [gF]
 |_::_,[],e,h=>by simp [gF]
 |d::ds,d'::es,e,h=>by
  have ih:=tH (fun j=>e (j+1)) fun j x x' e1 e2=>h (j+1) x x' (by simpa using e1) (by simpa using e2)
  have h0:=h 0 d d' rfl rfl
  simp only[gF,List.length_cons,Nat.add_min_add_right,List.range_succ_eq_map,List.all_cons,List.all_map,Function.comp_def]
  rw[<-ih,h0]
  have hl:(ds.length+1==es.length+1)=(ds.length==es.length):=by simp
  rw[hl,Bool.and_assoc]
theorem MV {ds es:List D}(e:Nat->Bool)(hl:ds.length=es.length)(h:∀ j d d',ds[j]? = some d->es[j]? = some d'->e j=bG d d'):(List.range ds.length).all e=gF ds es:=by
 rw[<-tH e h,<-hl];simp
theorem ET:∀{ds es:List D},ds.length≠es.length->gF ds es=false
 |[],[],h=>(h rfl).elim
 |[],_::_,h=>rfl
 |_::_,[],h=>rfl
 |d::ds,d'::es,h=>by simp only[gF,ET (ds:=ds) (es:=es) (by simpa using h),Bool.and_false]
section
variable {X:Cx}{pins:List (Addr×Obj)}{σ:L2.St}{H:Hp}{s:Shared}{st:aA}
theorem aO.at {vs:List V}{aD:List Value}(r:aO vs aD){j:Nat}(h:j<aD.toArray.size):∃ v,vs[j]? = some v/\RelV v aD.toArray[j]:=by
 have hl:=r.length
 have hj:j<vs.length:=by simp at h;omega
 obtain⟨u,e1,e2⟩:=aO.get r (List.getElem?_eq_getElem hj)
 refine⟨vs[j],List.getElem?_eq_getElem hj,?_⟩
 rw[List.getElem?_eq_some_iff]at e1
 obtain⟨h1,e1⟩:=e1
 simp only[List.getElem_toArray,e1]
 exact e2
theorem aH.get' {K:PySem.W.Frag}:∀{ds:List D}{vs:List V}{i:Nat}{v:V},aH K H ds vs->vs[i]? = some v->∃ d,ds[i]? = some d/\Rep K H d v
 |_,_,_,_,.nil,e=>by simp at e
 |_,_,0,_,.cons h _,e=>by simp at e;subst e;exact⟨_,rfl,h⟩
 |_,_,i+1,v,.cons _ r,e=>by
  obtain⟨d,e1,e2⟩:=aH.get' (i:=i) (v:=v) r (by simpa using e)
  exact⟨d,by simpa using e1,e2⟩
theorem xC (I:Inv X pins σ H s):∀(n:Nat){d d':D}{v:V},cQ d<=n->bR d=true->bR d'=true->Rep X.K H d v->Rep X.K H d' v->d=d':=by
 intro n
 induction n with
 |zero =>
 intro d d' v hn p p' r r'
 cases r<;>cases r'<;>first|rfl|(simp [bR]at p;done)|(simp [bR]at p';done)|(simp [cQ]at hn;done)
 |succ n ih =>
 intro d d' v hn p p' r r'
 cases r<;>cases r'<;>first|rfl|(simp [bR]at p;done)|(simp [bR]at p';done)|skip
 rename_i ds a vs h r es us r' h'
 cases I.qO h h'
 have go:∀(ds es:List D)(vs:List V),cX ds<=n->bV ds=true->bV es=true->aH X.K H ds vs->aH X.K H es vs->ds=es:=by
  intro ds
  induction ds with
  |nil=>intro es vs _ _ _ r r';cases r;cases r';rfl
  |cons d ds ihs =>
  intro es vs hd pp pp' r r'
  cases r with
  |cons r1 r2=>cases r' with
   |cons r1' r2' =>
   simp only[cX]at hd
   simp only[bV,Bool.and_eq_true]at pp pp'
   rw[ih (by omega) pp.1 pp'.1 r1 r1',ihs _ _ (by omega) pp.2 pp'.2 r2 r2']
 rw[go ds es vs (by simp only[cQ]at hn;omega) (by simpa [bR]using p) (by simpa [bR]using p') r r']
noncomputable def uC (A:Around)(s:Shared)(u u':Value)(b:Bool):Prop:=RcAt A s u u' b/\EqAt A s u u' b/\RcNeAt A s u u' (!b)
noncomputable def mT:D->Bool
 |.non=>true
 |.bl _=>true
 |.int _=>true
 |.str _=>true
 |_=>false
theorem GN (x y:List Nat):((⟨x.toArray⟩:Str)==⟨y.toArray⟩)=(x==y):=by
 rw[<-str_beq]
theorem sZ {K:PySem.W.Frag}{H:Hp}{A:Around}{s:Shared}{d d':D}{v v':V}{u u':Value}(p:mT d=true)(p':mT d'=true)(r:Rep K H d v)(rv:RelV v u)(r':Rep K H d' v')(aZ:RelV v' u'):uC A s u u' (bG d d'):=by
 cases d with
 |non=>cases d' with
  |non =>
   cases r.eU;cases rv
   cases r'.eU;cases aZ
   exact⟨RcAt.none_none,EqAt.same _,RcNeAt.none_none⟩
  |bl b' =>
   cases r.eU;cases rv
   cases r'.eO;cases aZ
   simp only[bG]
   exact⟨RcAt.none_bool _,EqAt.none_bool _,RcNeAt.none_bool _⟩
  |int i' =>
   cases r.eU;cases rv
   cases r'.int_inv;obtain⟨_,rfl⟩:=aZ
   simp only[bG]
   exact⟨RcAt.none_int _ _,EqAt.none_int _ _,RcNeAt.none_int _ _⟩
  |str x' =>
   cases r.eU;cases rv
   cases r'.str_inv;obtain⟨_,rfl⟩:=aZ
   simp only[bG]
   exact⟨RcAt.none_str _ _,EqAt.none_str _ _,RcNeAt.none_str _ _⟩
  |_=>cases p'
 |bl b=>cases d' with
  |non =>
   cases r.eO;cases rv
   cases r'.eU;cases aZ
   simp only[bG]
   exact⟨RcAt.bool_none _,EqAt.bool_none _,RcNeAt.bool_none _⟩
  |bl b' =>
   cases r.eO;cases rv
   cases r'.eO;cases aZ
   simp only[bG]
   exact⟨RcAt.bool_bool _ _,EqAt.bool_bool _ _,RcNeAt.bool_bool _ _⟩
  |int i' =>
   cases r.eO;cases rv
   cases r'.int_inv;obtain⟨_,rfl⟩:=aZ
   simp only[bG]
   exact⟨RcAt.bool_int _ _ _,EqAt.bool_int _ _ _,RcNeAt.bool_int _ _ _⟩
  |str x' =>
   cases r.eO;cases rv
   cases r'.str_inv;obtain⟨_,rfl⟩:=aZ
   simp only[bG]
   exact⟨RcAt.bool_str _ _ _,EqAt.bool_str _ _ _,RcNeAt.bool_str _ _ _⟩
  |_=>cases p'
 |int i=>cases d' with
  |non =>
   cases r.int_inv;obtain⟨_,rfl⟩:=rv
   cases r'.eU;cases aZ
   simp only[bG]
   exact⟨RcAt.int_none _ _,EqAt.int_none _ _,RcNeAt.int_none _ _⟩
  |bl b' =>
   cases r.int_inv;obtain⟨_,rfl⟩:=rv
   cases r'.eO;cases aZ
   simp only[bG]
   exact⟨RcAt.int_bool _ _ _,EqAt.int_bool _ _ _,RcNeAt.int_bool _ _ _⟩
  |int i' =>
   cases r.int_inv;obtain⟨_,rfl⟩:=rv
   cases r'.int_inv;obtain⟨_,rfl⟩:=aZ
   simp only[bG]
   exact⟨RcAt.int_int _ _ _ _,EqAt.int_int _ _ _ _,RcNeAt.int_int _ _ _ _⟩
  |str x' =>
   cases r.int_inv;obtain⟨_,rfl⟩:=rv
   cases r'.str_inv;obtain⟨_,rfl⟩:=aZ
   simp only[bG]
   exact⟨RcAt.int_str _ _ _ _,EqAt.int_str _ _ _ _,RcNeAt.int_str _ _ _ _⟩
  |_=>cases p'
 |str x=>cases d' with
  |non =>
   cases r.str_inv;obtain⟨_,rfl⟩:=rv
   cases r'.eU;cases aZ
   simp only[bG]
   exact⟨RcAt.str_none _ _,EqAt.str_none _ _,RcNeAt.str_none _ _⟩
  |bl b' =>
   cases r.str_inv;obtain⟨_,rfl⟩:=rv
   cases r'.eO;cases aZ
   simp only[bG]
   exact⟨RcAt.str_bool _ _ _,EqAt.str_bool _ _ _,RcNeAt.str_bool _ _ _⟩
  |int i' =>
   cases r.str_inv;obtain⟨_,rfl⟩:=rv
   cases r'.int_inv;obtain⟨_,rfl⟩:=aZ
   simp only[bG]
   exact⟨RcAt.str_int _ _ _ _,EqAt.str_int _ _ _ _,RcNeAt.str_int _ _ _ _⟩
  |str x' =>
   cases r.str_inv;obtain⟨_,rfl⟩:=rv
   cases r'.str_inv;obtain⟨_,rfl⟩:=aZ
   have e:bG (.str x) (.str x')=((⟨x.toArray⟩:Str)==⟨x'.toArray⟩):=by rw[GN];simp only[bG]
   rw[e]
   exact⟨RcAt.str_str _ _ _ _,EqAt.str_str _ _ _ _,RcNeAt.str_str _ _ _ _⟩
  |_=>cases p'
 |_=>cases p
theorem fP {K:PySem.W.Frag}{H:Hp}{A:Around}{s:Shared}{l:Addr}{aD:Array Value}{d':D}{v':V}{u':Value}(hl:s.heap.IsTuple l aD)(hu:A.units<cLine)(p':mT d'=true)(r':Rep K H d' v')(aZ:RelV v' u'):uC A s (.ref l) u' false/\uC A s u' (.ref l) false:=by
 cases d' with
 |non =>
 cases r'.eU;cases aZ
 exact⟨⟨RcAt.tuple_none hl hu,EqAt.tuple_none hl hu,RcNeAt.tuple_none hl hu⟩,⟨RcAt.none_tuple hl hu,EqAt.none_tuple hl hu,RcNeAt.none_tuple hl hu⟩⟩
 |bl b =>
 cases r'.eO;cases aZ
 exact⟨⟨RcAt.tuple_bool _ hl hu,EqAt.tuple_bool _ hl hu,RcNeAt.tuple_bool _ hl hu⟩,⟨RcAt.bool_tuple _ hl hu,EqAt.bool_tuple _ hl hu,RcNeAt.bool_tuple _ hl hu⟩⟩
 |int i =>
 cases r'.int_inv;obtain⟨_,rfl⟩:=aZ
 exact⟨⟨RcAt.tuple_int _ _ hl hu,EqAt.tuple_int _ _ hl hu,RcNeAt.tuple_int _ _ hl hu⟩,⟨RcAt.int_tuple _ _ hl hu,EqAt.int_tuple _ _ hl hu,RcNeAt.int_tuple _ _ hl hu⟩⟩
 |str x =>
 cases r'.str_inv;obtain⟨_,rfl⟩:=aZ
 exact⟨⟨RcAt.tuple_str _ _ hl hu,EqAt.tuple_str _ _ hl hu,RcNeAt.tuple_str _ _ hl hu⟩,⟨RcAt.str_tuple _ _ hl hu,EqAt.str_tuple _ _ hl hu,RcNeAt.str_tuple _ _ hl hu⟩⟩
 |_=>cases p'
theorem kL {K:PySem.W.Frag}{H:Hp}{A:Around}{s:Shared}{l:Addr}{aD:Array Value}{d':D}{v':V}{u':Value}(hl:s.heap.IsList l aD)(hu:A.units<cLine)(p':mT d'=true)(r':Rep K H d' v')(aZ:RelV v' u'):uC A s (.ref l) u' false/\uC A s u' (.ref l) false:=by
 cases d' with
 |non =>
 cases r'.eU;cases aZ
 exact⟨⟨RcAt.list_none hl hu,EqAt.list_none hl hu,RcNeAt.list_none hl hu⟩,⟨RcAt.none_list hl hu,EqAt.none_list hl hu,RcNeAt.none_list hl hu⟩⟩
 |bl b =>
 cases r'.eO;cases aZ
 exact⟨⟨RcAt.list_bool _ hl hu,EqAt.list_bool _ hl hu,RcNeAt.list_bool _ hl hu⟩,⟨RcAt.bool_list _ hl hu,EqAt.bool_list _ hl hu,RcNeAt.bool_list _ hl hu⟩⟩
 |int i =>
 cases r'.int_inv;obtain⟨_,rfl⟩:=aZ
 exact⟨⟨RcAt.list_int _ _ hl hu,EqAt.list_int _ _ hl hu,RcNeAt.list_int _ _ hl hu⟩,⟨RcAt.int_list _ _ hl hu,EqAt.int_list _ _ hl hu,RcNeAt.int_list _ _ hl hu⟩⟩
 |str x =>
 cases r'.str_inv;obtain⟨_,rfl⟩:=aZ
 exact⟨⟨RcAt.list_str _ _ hl hu,EqAt.list_str _ _ hl hu,RcNeAt.list_str _ _ hl hu⟩,⟨RcAt.str_list _ _ hl hu,EqAt.str_list _ _ hl hu,RcNeAt.str_list _ _ hl hu⟩⟩
 |_=>cases p'
theorem E8 (I:Inv X pins σ H s){A:Around}{a b:Addr}{vs us:List V}{b0:Bool}(e:Nat->Bool)(ha:dQ X.K H a vs)(hb:dQ X.K H b us)(hu:A.units<cLine)(hs:a=b->b0=true)
  (he:∀ j v v' u u',vs[j]? = some v->us[j]? = some v'->RelV v u->RelV v' u'->EqAt A.in1 s u u' (e j))(hb0:((List.range (min vs.length us.length)).all e&&vs.length==us.length)=b0):uC A s (.ref a) (.ref b) b0:=by
 obtain⟨aD,r1,p1,_⟩:=I.tuple ha
 obtain⟨jts,r2,p2,_⟩:=I.tuple hb
 have l1:aD.toArray.size=vs.length:=by rw[List.size_toArray];exact r1.length.symm
 have l2:jts.toArray.size=us.length:=by rw[List.size_toArray];exact r2.length.symm
 have hi:∀ j (h1:j<aD.toArray.size)(h2:j<jts.toArray.size),EqAt A.in1 s aD.toArray[j] jts.toArray[j] (e j):=fun j h1 h2=>by
  obtain⟨v,e1,q1⟩:=aO.at r1 h1
  obtain⟨v',e2,q2⟩:=aO.at r2 h2
  exact he j v v' _ _ e1 e2 q1 q2
 have rc:RcAt A s (.ref a) (.ref b) b0:=by
  have:=RcAt.tuples (e:=e) p1 p2 hu hi
  rw[l1,l2,hb0]at this
  exact this
 have rn:RcNeAt A s (.ref a) (.ref b) (!b0):=by
  have:=RcNeAt.tuples (e:=e) p1 p2 hu hi
  rw[l1,l2,hb0]at this
  exact this
 refine⟨rc,?_,rn⟩
 by_cases q:a=b
 ·rw[hs q,q];exact EqAt.same _
 ·exact EqAt.of_refs q rc
theorem OZ (I:Inv X pins σ H s){A:Around}{a b:Addr}{vs us:List V}{b0:Bool}(e:Nat->Bool)(ha:dR X.K H a vs)(hb:dR X.K H b us)(hu:A.units<cLine)(hs:a=b->b0=true)
  (he:∀ j v v' u u',vs[j]? = some v->us[j]? = some v'->RelV v u->RelV v' u'->EqAt A.in1 s u u' (e j))(hn:vs.length≠us.length->b0=false)(hb0:vs.length=us.length->(List.range vs.length).all e=b0):uC A s (.ref a) (.ref b) b0:=by
 obtain⟨aD,r1,p1,_⟩:=I.list ha
 obtain⟨jts,r2,p2,_⟩:=I.list hb
 have l1:aD.toArray.size=vs.length:=by rw[List.size_toArray];exact r1.length.symm
 have l2:jts.toArray.size=us.length:=by rw[List.size_toArray];exact r2.length.symm
 have hi:∀ j (h1:j<aD.toArray.size)(h2:j<jts.toArray.size),EqAt A.in1 s aD.toArray[j] jts.toArray[j] (e j):=fun j h1 h2=>by
  obtain⟨v,e1,q1⟩:=aO.at r1 h1
  obtain⟨v',e2,q2⟩:=aO.at r2 h2
  exact he j v v' _ _ e1 e2 q1 q2
 have both:RcAt A s (.ref a) (.ref b) b0/\RcNeAt A s (.ref a) (.ref b) (!b0):=by
  by_cases hl:vs.length=us.length
  ·have:=RcAt.lists (e:=e) p1.isList p2.isList (by rw[l1,l2,hl]) hu hi
   have rn:=RcNeAt.lists (e:=e) p1.isList p2.isList (by rw[l1,l2,hl]) hu hi
   rw[l1,hb0 hl]at this rn
   exact⟨this,rn⟩
  ·rw[hn hl]
   have hz:(aD.toArray.size != jts.toArray.size)=true:=by rw[l1,l2,bne_iff_ne];exact hl
   exact⟨RcAt.lists_lengths p1.isList p2.isList hz hu,RcNeAt.lists_lengths p1.isList p2.isList hz hu⟩
 refine⟨both.1,?_,both.2⟩
 by_cases q:a=b
 ·rw[hs q,q];exact EqAt.same _
 ·exact EqAt.of_refs q both.1
theorem rN {d:D}(p:bR d=true):mT d=true∨∃ ds,d=.tup ds:=by
 cases d<;>first|exact .inl rfl|exact .inr ⟨_,rfl⟩|cases p
theorem Iz (I:Inv X pins σ H s):∀(n:Nat){d d':D}{A:Around}{v v':V}{u u':Value},cQ d<=n->bR d=true->bR d'=true->Rep X.K H d v->RelV v u->Rep X.K H d' v'->RelV v' u'->A.units+n+2<cLine ->
  uC A s u u' (bG d d'):=by
 intro n
 induction n with
 |zero =>
  intro d d' A v v' u u' hn p p' r rv r' aZ hu
  have iE:A.units<cLine:=by omega
  rcases rN p with q|⟨ds,rfl⟩
  ·rcases rN p' with q'|⟨iI,rfl⟩
   ·exact sZ q q' r rv r' aZ
   ·obtain⟨b,us,rfl,h2,q2⟩:=r'.bJ
    cases aZ
    obtain⟨aD,r1,p1,_⟩:=I.tuple h2
    have:=(fP p1 iE q r rv).2
    have e:bG d (.tup iI)=false:=by cases d<;>first|rfl|cases q
    rw[e];exact this
  ·simp only[cQ]at hn;omega
 |succ n ih =>
  intro d d' A v v' u u' hn p p' r rv r' aZ hu
  have iE:A.units<cLine:=by omega
  rcases rN p with q|⟨ds,rfl⟩
  ·rcases rN p' with q'|⟨iI,rfl⟩
   ·exact sZ q q' r rv r' aZ
   ·obtain⟨b,us,rfl,h2,q2⟩:=r'.bJ
    cases aZ
    obtain⟨aD,r1,p1,_⟩:=I.tuple h2
    have:=(fP p1 iE q r rv).2
    have e:bG d (.tup iI)=false:=by cases d<;>first|rfl|cases q
    rw[e];exact this
  ·obtain⟨a,vs,rfl,h1,q1⟩:=r.bJ
   cases rv
   rcases rN p' with q'|⟨iI,rfl⟩
   ·obtain⟨aD,r1,p1,_⟩:=I.tuple h1
    have:=(fP p1 iE q' r' aZ).1
    have e:bG (.tup ds) d'=false:=by cases d'<;>first|rfl|cases q'
    rw[e];exact this
   ·obtain⟨b,us,rfl,h2,q2⟩:=r'.bJ
    cases aZ
    have pd:bV ds=true:=by simpa [bR]using p
    have pd':bV iI=true:=by simpa [bR]using p'
    have e0:bG (.tup ds) (.tup iI)=gF ds iI:=by simp only[bG]
    rw[e0]
    refine E8 I (fun j=>match ds[j]?,iI[j]? with|some x,some y=>bG x y|_,_=>true) h1 h2 iE (fun e=>?_) (fun j v v' u u' e1 e2 rv aZ=>?_) ?_
    ·subst e
     have:=xC I (cQ (.tup ds)) (Nat.le_refl _) p p' r r'
     cases this
     exact jN ds pd
    ·obtain⟨x,f1,g1⟩:=aH.get' q1 e1
     obtain⟨y,f2,g2⟩:=aH.get' q2 e2
     simp only[f1,f2]
     have hx:=iF (List.mem_of_getElem? f1)
     simp only[cQ]at hn
     exact(ih (by omega) (lV pd (List.mem_of_getElem? f1)) (lV pd' (List.mem_of_getElem? f2)) g1 rv g2 aZ (by simp only[Around.in1_units];omega)).2.1
    ·rw[<-q1.length,<-q2.length]
     exact tH _ fun j x y e1 e2=>by simp only[e1,e2]
end
end L3
end
section
namespace L3
open PySem PySem.Spec PyProof.Rows L2 PySem.SeqAt
noncomputable def pN (st:aA):D->Option (List D)
 |.ref a=>match st a with
  |some (.lst xs)=>some xs
  |_=>none
 |.bF xs=>some xs
 |_=>none
theorem kinds {st:aA}{d:D}(p:fM st d=true):mT d=true∨(∃ ds,d=.tup ds/\fT st ds=true)∨∃ xs,pN st d=some xs/\bV xs=true/\cX xs<=lO:=by
 cases d with
 |tup ds=>exact .inr (.inl ⟨ds,rfl,by simpa [fM]using p⟩)
 |ref a =>
  simp only[fM]at p
  cases q:st a with
  |none=>rw[q]at p;cases p
  |some o=>cases o with
   |lst xs =>
    rw[q]at p
    simp only[RC,Bool.and_eq_true,decide_eq_true_eq]at p
    exact .inr (.inr ⟨xs,by simp [pN,q],p⟩)
   |dic _ _=>rw[q]at p;cases p
   |ins _ _=>rw[q]at p;cases p
   |tab _ _=>rw[q]at p;cases p
   |fn _ _=>rw[q]at p;cases p
   |cod _=>rw[q]at p;cases p
 |bF xs =>
  simp only[fM,Bool.and_eq_true,decide_eq_true_eq]at p
  exact .inr (.inr ⟨xs,rfl,p⟩)
 |cM _ _=>cases p
 |exc _=>cases p
 |_=>exact .inl rfl
theorem AQ {st:aA}{d d':D}{xs ys:List D}(h:pN st d=some xs)(h':pN st d'=some ys):bN st d d'=gF xs ys:=by
 cases d with
 |ref a =>
  simp only[pN]at h
  split at h
  ·rename_i zs e
   cases h
   cases d' with
   |ref b =>
    simp only[pN]at h'
    split at h'
    ·rename_i ws e'
     cases h'
     simp only[bN,e,e',DH]
    ·cases h'
   |bF ws=>cases h';simp only[bN,e,DH]
   |_=>cases h'
  ·cases h
 |bF zs =>
  cases h
  cases d' with
  |ref b =>
   simp only[pN]at h'
   split at h'
   ·rename_i ws e'
    cases h'
    simp only[bN,e',DH]
   ·cases h'
  |bF ws=>cases h';simp only[bN]
  |_=>cases h'
 |_=>cases h
theorem AF {st:aA}{d d':D}{xs:List D}(h:pN st d=some xs)(p:mT d'=true):bN st d d'=false/\bN st d' d=false:=by
 cases d<;>first|(cases h;done)|skip
 all_goals (cases d'<;>first|(cases p;done)|exact⟨rfl,rfl⟩|(simp [bN];done))
theorem FI {st:aA}{d:D}{ds xs:List D}(h:pN st d=some xs):bN st d (.tup ds)=false/\bN st (.tup ds) d=false:=by
 cases d<;>first|(cases h;done)|exact⟨rfl,rfl⟩|(simp [bN];done)
theorem A3 {st:aA}{d d':D}(p:mT d=true)(p':mT d'=true):bN st d d'=bG d d':=by
 cases d<;>first|(cases p;done)|skip
 all_goals (cases d'<;>first|(cases p';done)|rfl|(simp [bN,bG];done))
theorem GH {st:aA}{d:D}{ds:List D}(p:mT d=true):bN st d (.tup ds)=false/\bN st (.tup ds) d=false:=by
 cases d<;>first|(cases p;done)|exact⟨rfl,rfl⟩|(simp [bN];done)
theorem fL {st:aA}:∀{ds:List D}{d:D},fT st ds=true->d∈ds->fM st d=true
 |e::ds,d,h,m=>by
  simp only[fT,Bool.and_eq_true]at h
  rcases List.mem_cons.mp m with rfl|m
  ·exact h.1
  ·exact fL h.2 m
theorem EZ {st:aA}:∀{ds es:List D}(e:Nat->Bool),(∀ j d d',ds[j]? = some d->es[j]? = some d'->e j=bN st d d')->((List.range (min ds.length es.length)).all e&&ds.length==es.length)=iO st ds es
 |[],[],e,h=>by simp [iO]
 |[],_::_,e,h=>by simp [iO]
 |_::_,[],e,h=>by simp [iO]
 |d::ds,d'::es,e,h=>by
  have ih:=EZ (fun j=>e (j+1)) fun j x x' e1 e2=>h (j+1) x x' (by simpa using e1) (by simpa using e2)
  have h0:=h 0 d d' rfl rfl
  simp only[iO,List.length_cons,Nat.add_min_add_right,List.range_succ_eq_map,List.all_cons,List.all_map,Function.comp_def]
  rw[<-ih,h0]
  have hl:(ds.length+1==es.length+1)=(ds.length==es.length):=by simp
  rw[hl,Bool.and_assoc]
section
variable {X:Cx}{pins:List (Addr×Obj)}{σ:L2.St}{H:Hp}{s:Shared}{st:aA}
theorem fA {K:PySem.W.Frag}{d:D}{v:V}{xs:List D}(ok:aQ K st H)(h:pN st d=some xs)(r:Rep K H d v):∃ a vs,v=.ref a/\dR K H a vs/\aH K H xs vs:=by
 cases r with
 |ref a =>
 simp only[pN]at h
 split at h
 ·rename_i zs e
  cases h
  obtain⟨vs,g,q⟩:=ok.lst e
  exact⟨a,vs,rfl,dR.of g,q⟩
 ·cases h
 |bF f q=>cases h;exact⟨_,_,rfl,f.sq,q⟩
 |_=>cases h
theorem pQ (I:Inv X pins σ H s):∀{ds es:List D}{vs:List V},bV ds=true->bV es=true->aH X.K H ds vs->aH X.K H es vs->ds=es
 |_,_,_,_,_,.nil,.nil=>rfl
 |_,_,_,p,p',.cons h r,.cons h' r'=>by
  simp only[bV,Bool.and_eq_true]at p p'
  rw[xC I _ (Nat.le_refl _) p.1 p'.1 h h',pQ I p.2 p'.2 r r']
theorem B3 (I:Inv X pins σ H s){a:Addr}{vs us:List V}(h:dR X.K H a vs)(h':dQ X.K H a us):False:=by
 obtain⟨aD,_,p1,_⟩:=I.list h
 obtain⟨jts,_,p2,_⟩:=I.tuple h'
 exact ne_of_list_tuple p1.isList p2 rfl
theorem U7 (I:Inv X pins σ H s)(ok:aQ X.K st H):∀(n:Nat){d d':D}{v:V},cQ d<=n->fM st d=true->fM st d'=true->Rep X.K H d v->Rep X.K H d' v->bN st d d'=true:=by
 intro n
 induction n with
 |zero =>
  intro d d' v hn p p' r r'
  rcases kinds p with q|⟨ds,rfl,q⟩|⟨xs,q,q1,q2⟩
  ·rcases kinds p' with q'|⟨iI,rfl,q'⟩|⟨ys,q',q1',q2'⟩
   ·rw[A3 q q']
    have pd:bR d=true:=by cases d<;>first|rfl|cases q
    have pd':bR d'=true:=by cases d'<;>first|rfl|cases q'
    rw[xC I _ (Nat.le_refl _) pd pd' r r']
    exact tX d' pd'
   ·obtain⟨a,vs,rfl,_⟩:=r'.bJ
    cases r<;>cases q
   ·obtain⟨a,vs,rfl,_⟩:=fA ok q' r'
    cases r<;>cases q
  ·simp only[cQ]at hn;omega
  ·obtain⟨a,vs,rfl,f1,g1⟩:=fA ok q r
   rcases kinds p' with q'|⟨iI,rfl,q'⟩|⟨ys,q',q1',q2'⟩
   ·cases r'<;>cases q'
   ·obtain⟨b,us,e,f2,g2⟩:=r'.bJ
    cases e
    exact(B3 I f1 f2).elim
   ·obtain⟨b,us,e,f2,g2⟩:=fA ok q' r'
    cases e
    cases I.oV f1 f2
    rw[AQ q q',pQ I q1 q1' g1 g2]
    exact jN _ q1'
 |succ n ih =>
  intro d d' v hn p p' r r'
  rcases kinds p with q|⟨ds,rfl,q⟩|⟨xs,q,q1,q2⟩
  ·rcases kinds p' with q'|⟨iI,rfl,q'⟩|⟨ys,q',q1',q2'⟩
   ·rw[A3 q q']
    have pd:bR d=true:=by cases d<;>first|rfl|cases q
    have pd':bR d'=true:=by cases d'<;>first|rfl|cases q'
    rw[xC I _ (Nat.le_refl _) pd pd' r r']
    exact tX d' pd'
   ·obtain⟨a,vs,rfl,_⟩:=r'.bJ
    cases r<;>cases q
   ·obtain⟨a,vs,rfl,_⟩:=fA ok q' r'
    cases r<;>cases q
  ·obtain⟨a,vs,rfl,f1,g1⟩:=r.bJ
   rcases kinds p' with q'|⟨iI,rfl,q'⟩|⟨ys,q',q1',q2'⟩
   ·cases r'<;>cases q'
   ·obtain⟨b,us,e,f2,g2⟩:=r'.bJ
    cases e
    cases I.qO f1 f2
    simp only[cQ]at hn
    have go:∀(ds es:List D)(vs:List V),cX ds<=n->fT st ds=true->fT st es=true->aH X.K H ds vs->aH X.K H es vs->iO st ds es=true:=by
     intro ds
     induction ds with
     |nil=>intro es vs _ _ _ r r';cases r;cases r';rfl
     |cons d ds ihs =>
      intro es vs hd pp pp' r r'
      cases r with
      |cons r1 r2=>cases r' with
       |cons r1' r2' =>
        simp only[cX]at hd
        simp only[fT,Bool.and_eq_true]at pp pp'
        simp only[iO,Bool.and_eq_true]
        exact⟨ih (by omega) pp.1 pp'.1 r1 r1',ihs _ _ (by omega) pp.2 pp'.2 r2 r2'⟩
    simp only[bN]
    exact go ds iI vs (by omega) q q' g1 g2
   ·obtain⟨b,us,e,f2,g2⟩:=fA ok q' r'
    cases e
    exact(B3 I f2 f1).elim
  ·obtain⟨a,vs,rfl,f1,g1⟩:=fA ok q r
   rcases kinds p' with q'|⟨iI,rfl,q'⟩|⟨ys,q',q1',q2'⟩
   ·cases r'<;>cases q'
   ·obtain⟨b,us,e,f2,g2⟩:=r'.bJ
    cases e
    exact(B3 I f1 f2).elim
   ·obtain⟨b,us,e,f2,g2⟩:=fA ok q' r'
    cases e
    cases I.oV f1 f2
    rw[AQ q q',pQ I q1 q1' g1 g2]
    exact jN _ q1'
theorem mJ {A:Around}{l b:Addr}{aD jts:Array Value}(hl:s.heap.IsList l aD)(hb:s.heap.IsTuple b jts)(hu:A.units<cLine):uC A s (.ref l) (.ref b) false/\uC A s (.ref b) (.ref l) false :=
 ⟨⟨RcAt.list_tuple hl hb hu,EqAt.list_tuple hl hb hu,RcNeAt.list_tuple hl hb hu⟩,⟨RcAt.tuple_list hb hl hu,EqAt.tuple_list hb hl hu,RcNeAt.tuple_list hb hl hu⟩⟩
theorem MN (I:Inv X pins σ H s){A:Around}{a b:Addr}{vs us:List V}{xs ys:List D}(f1:dR X.K H a vs)(g1:aH X.K H xs vs)(f2:dR X.K H b us)(g2:aH X.K H ys us)(p1:bV xs=true)(d1:cX xs<=lO)(p2:bV ys=true)
  (hu:A.units+85<cLine):uC A s (.ref a) (.ref b) (gF xs ys):=by
 refine OZ I (fun j=>match xs[j]?,ys[j]? with|some x,some y=>bG x y|_,_=>true) f1 f2 (by omega) (fun e=>?_) (fun j v v' u u' e1 e2 rv aZ=>?_) (fun h=>?_) (fun h=>?_)
 ·subst e
  cases I.oV f1 f2
  rw[pQ I p1 p2 g1 g2]
  exact jN _ p2
 ·obtain⟨x,h1,k1⟩:=aH.get' g1 e1
  obtain⟨y,h2,k2⟩:=aH.get' g2 e2
  simp only[h1,h2]
  have hx:=iF (List.mem_of_getElem? h1)
  have hD:lO=80:=rfl
  exact(Iz I lO (by omega) (lV p1 (List.mem_of_getElem? h1)) (lV p2 (List.mem_of_getElem? h2)) k1 rv k2 aZ (by simp only[Around.in1_units];omega)).2.1
 ·exact ET (by rw[g1.length,g2.length];exact h)
 ·rw[<-g1.length]
  exact MV _ (by rw[g1.length,g2.length];exact h) fun j x y e1 e2=>by simp only[e1,e2]
theorem LC (I:Inv X pins σ H s)(ok:aQ X.K st H):∀(n:Nat){d d':D}{A:Around}{v v':V}{u u':Value},cQ d<=n->fM st d=true->fM st d'=true->Rep X.K H d v->RelV v u->Rep X.K H d' v'->RelV v' u'->A.units+n+85<cLine ->
  uC A s u u' (bN st d d'):=by
 intro n
 induction n with
 |zero =>
  intro d d' A v v' u u' hn p p' r rv r' aZ hu
  have iE:A.units<cLine:=by omega
  rcases kinds p with q|⟨ds,rfl,q⟩|⟨xs,q,q1,q2⟩
  ·rcases kinds p' with q'|⟨iI,rfl,q'⟩|⟨ys,q',q1',q2'⟩
   ·rw[A3 q q'];exact sZ q q' r rv r' aZ
   ·obtain⟨b,us,rfl,h2,g2⟩:=r'.bJ
    cases aZ
    obtain⟨aD,r1,p1,_⟩:=I.tuple h2
    rw[(GH q).1]
    exact(fP p1 iE q r rv).2
   ·obtain⟨b,us,rfl,h2,g2⟩:=fA ok q' r'
    cases aZ
    obtain⟨aD,r1,p1,_⟩:=I.list h2
    rw[(AF q' q).2]
    exact(kL p1.isList iE q r rv).2
  ·simp only[cQ]at hn;omega
  ·obtain⟨a,vs,rfl,f1,g1⟩:=fA ok q r
   cases rv
   obtain⟨aD,r1,p1,_⟩:=I.list f1
   rcases kinds p' with q'|⟨iI,rfl,q'⟩|⟨ys,q',q1',q2'⟩
   ·rw[(AF q q').1]
    exact(kL p1.isList iE q' r' aZ).1
   ·obtain⟨b,us,rfl,h2,g2⟩:=r'.bJ
    cases aZ
    obtain⟨jts,r2,p2,_⟩:=I.tuple h2
    rw[(FI q).1]
    exact(mJ p1.isList p2 iE).1
   ·obtain⟨b,us,rfl,h2,g2⟩:=fA ok q' r'
    cases aZ
    rw[AQ q q']
    exact MN I f1 g1 h2 g2 q1 q2 q1' (by omega)
 |succ n ih =>
  intro d d' A v v' u u' hn p p' r rv r' aZ hu
  have iE:A.units<cLine:=by omega
  rcases kinds p with q|⟨ds,rfl,q⟩|⟨xs,q,q1,q2⟩
  ·rcases kinds p' with q'|⟨iI,rfl,q'⟩|⟨ys,q',q1',q2'⟩
   ·rw[A3 q q'];exact sZ q q' r rv r' aZ
   ·obtain⟨b,us,rfl,h2,g2⟩:=r'.bJ
    cases aZ
    obtain⟨aD,r1,p1,_⟩:=I.tuple h2
    rw[(GH q).1]
    exact(fP p1 iE q r rv).2
   ·obtain⟨b,us,rfl,h2,g2⟩:=fA ok q' r'
    cases aZ
    obtain⟨aD,r1,p1,_⟩:=I.list h2
    rw[(AF q' q).2]
    exact(kL p1.isList iE q r rv).2
  ·obtain⟨a,vs,rfl,f1,g1⟩:=r.bJ
   cases rv
   obtain⟨aD,r1,p1,_⟩:=I.tuple f1
   rcases kinds p' with q'|⟨iI,rfl,q'⟩|⟨ys,q',q1',q2'⟩
   ·rw[(GH q').2]
    exact(fP p1 iE q' r' aZ).1
   ·obtain⟨b,us,rfl,h2,g2⟩:=r'.bJ
    cases aZ
    have e0:bN st (.tup ds) (.tup iI)=iO st ds iI:=by simp only[bN]
    refine E8 I (fun j=>match ds[j]?,iI[j]? with|some x,some y=>bN st x y|_,_=>true) f1 h2 iE (fun e=>?_) (fun j v v' u u' e1 e2 rv aZ=>?_) ?_
    ·subst e
     exact U7 I ok _ (Nat.le_refl _) p p' r r'
    ·obtain⟨x,k1,l1⟩:=aH.get' g1 e1
     obtain⟨y,k2,l2⟩:=aH.get' g2 e2
     simp only[k1,k2]
     have hx:=iF (List.mem_of_getElem? k1)
     simp only[cQ]at hn
     exact(ih (by omega) (fL q (List.mem_of_getElem? k1)) (fL q' (List.mem_of_getElem? k2)) l1 rv l2 aZ (by simp only[Around.in1_units];omega)).2.1
    ·rw[<-g1.length,<-g2.length,e0]
     exact EZ _ fun j x y e1 e2=>by simp only[e1,e2]
   ·obtain⟨b,us,rfl,h2,g2⟩:=fA ok q' r'
    cases aZ
    obtain⟨jts,r2,p2,_⟩:=I.list h2
    rw[(FI q').2]
    exact(mJ p2.isList p1 iE).2
  ·obtain⟨a,vs,rfl,f1,g1⟩:=fA ok q r
   cases rv
   obtain⟨aD,r1,p1,_⟩:=I.list f1
   rcases kinds p' with q'|⟨iI,rfl,q'⟩|⟨ys,q',q1',q2'⟩
   ·rw[(AF q q').1]
    exact(kL p1.isList iE q' r' aZ).1
   ·obtain⟨b,us,rfl,h2,g2⟩:=r'.bJ
    cases aZ
    obtain⟨jts,r2,p2,_⟩:=I.tuple h2
    rw[(FI q).1]
    exact(mJ p1.isList p2 iE).1
   ·obtain⟨b,us,rfl,h2,g2⟩:=fA ok q' r'
    cases aZ
    rw[AQ q q']
    exact MN I f1 g1 h2 g2 q1 q2 q1' (by omega)
end
end L3
end
section
namespace L3
open PySem PySem.Spec PyProof.Rows L2 PySem.SeqAt
mutual
inductive iH (h:Heap):D->Value->Prop where
 |str (x:List Nat)(t:Tok):iH h (.str x) (.str ⟨x.toArray⟩ t)
 |bl (b:Bool):iH h (.bl b) (.bool b)
 |tup {ds:List D}{a:Addr}{o:Obj}{aD:Array Value}{n:Nat}(e:h.get? a=some o)(c:o.cls=.type "tuple")(d:o.data=.seq aD n)(r:fE h ds aD.toList):iH h (.tup ds) (.ref a)
inductive fE (h:Heap):List D->List Value->Prop where
 |nil:fE h [] []
 |cons {d:D}{ds:List D}{v:Value}{vs:List Value}(r:iH h d v)(rs:fE h ds vs):fE h (d::ds) (v::vs)
end
section
variable {h h':Heap}
theorem iH.str_inv {d:D}{x:Str}{t:Tok}(q:iH h d (.str x t)):∃ y,d=.str y/\x=⟨y.toArray⟩:=by
 cases q;exact⟨_,rfl,rfl⟩
theorem iH.eO {d:D}{b:Bool}(q:iH h d (.bool b)):d=.bl b:=by
 cases q;rfl
theorem iH.bZ {d:D}{a:Addr}(q:iH h d (.ref a)):∃ ds o aD n,d=.tup ds/\h.get? a=some o/\o.cls=.type "tuple" /\ o.data=.seq aD n/\fE h ds aD.toList:=by
 cases q with|tup e c d r=>exact⟨_,_,_,_,rfl,e,c,d,r⟩
mutual
theorem iH.inj:∀{x y:D}{v:Value},iH h x v->iH h y v->x=y
 |_,y,_,.str x t,q=>by
  obtain⟨z,rfl,e⟩:=q.str_inv
  have:x.toArray=z.toArray:=congrArg Str.cps e
  have:x=z:=by simpa using this
  rw[this]
 |_,y,_,.bl b,q=>q.eO.symm
 |_,y,_,.tup e c d r,q=>by
  obtain⟨ds,o,aD,n,rfl,e',c',d',r'⟩:=q.bZ
  rw[e]at e';cases e'
  rw[d]at d'
  injection d' with d1 d2
  subst d1
  rw[fE.inj r r']
theorem fE.inj:∀{xs ys:List D}{vs:List Value},fE h xs vs->fE h ys vs->xs=ys
 |_,_,_,.nil,q=>by cases q;rfl
 |_,_,_,.cons r rs,q=>by cases q with|cons r' rs'=>rw[iH.inj r r',fE.inj rs rs']
end
mutual
theorem iH.keeps {b:Addr}{ob:Obj}{es:Array DictEntry}{ep:Nat}(ho:h.get? b=some ob)(hd:ob.data=.dict es ep)(hs:Heap.SameBut b h h'):∀{x:D}{v:Value},iH h x v->iH h' x v
 |_,_,.str x t=>.str x t
 |_,_,.bl b=>.bl b
 |_,_,@iH.tup _ ds a o aD n e c d r=>.tup (by
  have ne:a≠b:=by
   intro z
   rw[z,ho]at e;cases e
   rw[hd]at d;cases d
  exact(hs.2 a ne).trans e) c d (fE.keeps ho hd hs r)
theorem fE.keeps {b:Addr}{ob:Obj}{es:Array DictEntry}{ep:Nat}(ho:h.get? b=some ob)(hd:ob.data=.dict es ep)(hs:Heap.SameBut b h h'):∀{xs:List D}{vs:List Value},fE h xs vs->fE h' xs vs
 |_,_,.nil=>.nil
 |_,_,.cons r rs=>.cons (iH.keeps ho hd hs r) (fE.keeps ho hd hs rs)
end
theorem fE.length:∀{xs:List D}{vs:List Value},fE h xs vs->xs.length=vs.length
 |_,_,.nil=>rfl
 |_,_,.cons _ rs=>by simp [fE.length rs]
theorem fE.get:∀{xs:List D}{vs:List Value}{j:Nat}{v:Value},fE h xs vs->vs[j]? = some v->∃ x,xs[j]? = some x/\iH h x v
 |_,_,_,_,.nil,e=>by simp at e
 |_,_,0,_,.cons r _,e=>by simp at e;subst e;exact⟨_,rfl,r⟩
 |_,_,j+1,v,.cons _ rs,e=>by
  obtain⟨x,e1,e2⟩:=fE.get (j:=j) (v:=v) rs (by simpa using e)
  exact⟨x,by simpa using e1,e2⟩
end
theorem uA (w:World):∀ a b:List D,fV w (a++b)=fV w a++fV w b
 |[],b=>by simp [fV]
 |d::a,b=>by simp [fV,uA w a b]
theorem uI:∀ a b:List D,iV (a++b)=iV a+iV b
 |[],b=>by simp [iV]
 |d::a,b=>by simp [iV,uI a b,Nat.add_assoc]
theorem IZ {prog:Program}{w:World}{b:Bool}{A:Around}{E:Value->Shared->Prop}{s:Shared}{Q:Int->Shared->Prop}(hu:A.units<cLine)(h:Q (oO w (.bl b)) { s with toks:=s.toks+qL (.bl b) }):wpAny (model prog w) A (pyHash (.bool b)) Q E s:=by
 refine PySem.W.pyHash_slot (T :="bool") rfl PySem.F.slot_bool_hash PySem.F.entry_int_hash (PySem.F.args_int_hash_1 _) (beq_builtin_none _) (.inr hu) ?_
 cases b
 ·exact(show wpAny _ _ (do ret (<-mkInt 0)) _ _ s from wpAny_bind (wpAny_mkInt (wpAny_pure ⟨_,_,rfl,h⟩)))
 ·exact(show wpAny _ _ (do ret (<-mkInt 1)) _ _ s from wpAny_bind (wpAny_mkInt (wpAny_pure ⟨_,_,rfl,h⟩)))
theorem SK {prog:Program}{w:World}:∀(n:Nat){d:D}{v:Value}{A:Around}{E:Value->Shared->Prop}{s:Shared}{Q:Int->Shared->Prop},cQ d<=n->iH s.heap d v->A.units+n<cLine->Q (oO w d) { s with toks:=s.toks+qL d } ->
  wpAny (model prog w) A (pyHash v) Q E s:=by
 intro n
 induction n with
 |zero =>
  intro d v A E s Q hn hk hu h
  cases hk with
  |str x t =>
   simp only[oO,qL]at h
   exact(strKind prog w).pyHash (k:=⟨x.toArray⟩) (strKind_is _ _ _ _) h
  |bl b=>exact IZ (by omega) h
  |tup e c dd r=>simp only[cQ]at hn;omega
 |succ n ih =>
  intro d v A E s Q hn hk hu h
  cases hk with
  |str x t =>
   simp only[oO,qL]at h
   exact(strKind prog w).pyHash (k:=⟨x.toArray⟩) (strKind_is _ _ _ _) h
  |bl b=>exact IZ (by omega) h
  |@tup ds a o items m ho c hd hi =>
   have hT:s.TypeIs (.ref a) "tuple":=⟨o,ho,c⟩
   simp only[cQ]at hn
   simp only[oO,qL]at h
   unfold pyHash
   first|unfold pyHashByItsType|skip
   first|refine wpAny_bind (wpAny_cRoomFor_or (.inr (by omega)) ?_)|skip
   refine wpAny_bind (wpAny_specialOf hT PySem.F.slot_tuple_hash.lookup ?_)
   show wpAny _ _ (if(some (Value.builtin "tuple.__hash__")==some Value.none)=true then _ else _) Q E s
   rw[if_neg (by rw[beq_builtin_none];exact Bool.false_ne_true)]
   refine wpAny_bind (wpAny_specialOf hT PySem.F.slot_tuple_hash.lookup ?_)
   show wpAny _ _ (callSpecialIfBoundUnlessNone? (.ref a) "__hash__" _ >>= _) Q E s
   refine wpAny_bind (wpAny_callSpecialIfBoundUnlessNone?_slot hT PySem.F.slot_tuple_hash (wpAny_call_entry PySem.F.slot_tuple_hash hT PySem.F.entry_tuple_hash ?_ (PySem.F.args_tuple_hash_1 _)))
   show wpAny _ _ (Builtin.Tuple.tupleItemsOf (.ref a) >>= _) _ _ s
   refine wpAny_bind (wpAny_tupleItemsOf ho hd ?_)
   refine wpAny_bind ?_
   rw[<-Array.forIn_toList]
   refine wpAny_forIn_list _
    (fun rest (b:Array Int) s'=>∃ done left,ds=done++left/\fE s.heap left rest/\b.toList=fV w done/\s' = { s with toks:=s.toks+iV done })
    _ ?_ ?_ _ _ ⟨[],ds,rfl,hi,rfl,rfl⟩
   ·rintro x rest b s' ⟨done,left,e0,hl,hb,rfl⟩
    cases hl with
    |@cons k ks' _ _ h1 hl' =>
     have hdep:cQ k<=cX ds:=iF (by rw[e0];simp)
     refine wpAny_bind (ih (s:={ s with toks:=s.toks+iV done }) (d:=k) (by omega) h1 (by simp only[Around.in1_units];omega) ?_)
     have e1:iV (done++[k])=iV done+qL k:=by rw[uI];simp [iV]
     have e2:fV w (done++[k])=fV w done++[oO w k]:=by rw[uA];simp [fV]
     first
      |exact wpAny_pure ⟨done++[k],ks',by simp [e0],hl',by simp [hb,e2],by simp [e1,Nat.add_assoc]⟩
      |exact wpAny_bind (wpAny_pure (wpAny_pure ⟨done++[k],ks',by simp [e0],hl',by simp [hb,e2],by simp [e1,Nat.add_assoc]⟩))
   ·rintro b s' ⟨done,left,e0,hl,hb,rfl⟩
    cases hl
    rw[List.append_nil]at e0
    subst e0
    show wpAny _ _ (retInt (Builtin.Tuple.tupleHashOf b.toList)) _ _ _
    rw[hb]
    refine wpAny_ret_mkInt ?_
    show wpAny _ _ (if(decide (-(2:Int) ^ 63<=Builtin.Tuple.tupleHashOf (fV w ds))&&decide (Builtin.Tuple.tupleHashOf (fV w ds)<2 ^ 63))=true then _ else _) Q E _
    unfold reduceHash at h
    by_cases hr:(decide (-(2:Int) ^ 63<=Builtin.Tuple.tupleHashOf (fV w ds))&&decide (Builtin.Tuple.tupleHashOf (fV w ds)<2 ^ 63))=true
    ·rw[if_pos hr]
     rw[if_pos hr]at h
     exact wpAny_pure (by simpa [Nat.add_assoc]using h)
    ·rw[if_neg hr]
     rw[if_neg hr]at h
     exact wpAny_bind (wpAny_rule (wpAny_pure (by simpa [Nat.add_assoc]using h)))
mutual
theorem GJ:∀ d:D,iC d=true->bR d=true
 |.str _,_=>rfl
 |.tup ds,h=>by simp only[iC]at h;simp only[bR];exact wK ds h
 |.non,h=>by cases h
 |.bl _,_=>rfl
 |.int _,h=>by cases h
 |.ref _,h=>by cases h
 |.cM _ _,h=>by cases h
 |.bF _,h=>by cases h
 |.exc _,h=>by cases h
theorem wK:∀ ds:List D,iN ds=true->bV ds=true
 |[],_=>rfl
 |d::ds,h=>by
  simp only[iN,Bool.and_eq_true]at h
  simp only[bV,Bool.and_eq_true]
  exact⟨GJ d h.1,wK ds h.2⟩
end
mutual
theorem MS:∀ x y:D,iC x=true->iC y=true->bG x y=true->x=y
 |.str a,y,_,_,e=>by
  cases y with
  |str b=>simp only[bG,beq_iff_eq]at e;rw[e]
  |_=>simp [bG]at e
 |.bl a,y,_,h',e=>by
  cases y with
  |bl b=>simp only[bG,beq_iff_eq]at e;rw[e]
  |int _=>cases h'
  |_=>simp [bG]at e
 |.tup as,y,h,h',e=>by
  cases y with
  |tup bs=>simp only[bG]at e;simp only[iC]at h h';rw[JJ as bs h h' e]
  |_=>simp [bG]at e
 |.non,_,h,_,_=>by cases h
 |.int _,_,h,_,_=>by cases h
 |.ref _,_,h,_,_=>by cases h
 |.cM _ _,_,h,_,_=>by cases h
 |.bF _,_,h,_,_=>by cases h
 |.exc _,_,h,_,_=>by cases h
theorem JJ:∀ xs ys:List D,iN xs=true->iN ys=true->gF xs ys=true->xs=ys
 |[],[],_,_,_=>rfl
 |[],_::_,_,_,e=>by cases e
 |_::_,[],_,_,e=>by cases e
 |x::xs,y::ys,h,h',e=>by
  simp only[gF,Bool.and_eq_true]at e
  simp only[iN,Bool.and_eq_true]at h h'
  rw[MS x y h.1 h'.1 e.1,JJ xs ys h.2 h'.2 e.2]
end
noncomputable instance decD:DecidableEq D:=fun a b=>Classical.propDecidable (a=b)
theorem BW {x y:D}(h:iC x=true)(h':iC y=true):bG x y=decide (x=y):=by
 by_cases e:x=y
 ·subst e;rw[tX x (GJ x h)];simp
 ·rw[decide_eq_false e]
  cases q:bG x y with
  |false=>rfl
  |true=>exact(e (MS x y h h' q)).elim
theorem Bo:∀(n:Nat){x y:D}{u v:Value}{A:Around}{s:Shared},cQ x<=n->iH s.heap x u->iH s.heap y v->iC x=true->A.units+n+2<cLine->EqAt A s u v (bG x y):=by
 intro n
 induction n with
 |zero =>
  intro x y u v A s hn hx hy ht hu
  have iE:A.units<cLine:=by omega
  cases hx with
  |str a t =>
   cases hy with
   |str b t' =>
    have e:bG (.str a) (.str b)=((⟨a.toArray⟩:Str)==⟨b.toArray⟩):=by rw[GN];simp only[bG]
    rw[e]
    exact EqAt.str_str _ _ _ _
   |tup e c d r =>
    simp only[bG]
    exact EqAt.str_tuple _ _ (show s.heap.IsTuple _ _ from⟨_,e,c,_,d⟩) iE
   |bl b =>
    simp only[bG]
    exact EqAt.str_bool _ _ _
  |bl a =>
   cases hy with
   |str b t' =>
    simp only[bG]
    exact EqAt.bool_str _ _ _
   |bl b=>exact EqAt.bool_bool _ _
   |tup e c d r =>
    simp only[bG]
    exact EqAt.bool_tuple _ (show s.heap.IsTuple _ _ from⟨_,e,c,_,d⟩) iE
  |tup e c d r=>simp only[cQ]at hn;omega
 |succ n ih =>
  intro x y u v A s hn hx hy ht hu
  have iE:A.units<cLine:=by omega
  cases hx with
  |str a t =>
   cases hy with
   |str b t' =>
    have e:bG (.str a) (.str b)=((⟨a.toArray⟩:Str)==⟨b.toArray⟩):=by rw[GN];simp only[bG]
    rw[e]
    exact EqAt.str_str _ _ _ _
   |tup e c d r =>
    simp only[bG]
    exact EqAt.str_tuple _ _ (show s.heap.IsTuple _ _ from⟨_,e,c,_,d⟩) iE
   |bl b =>
    simp only[bG]
    exact EqAt.str_bool _ _ _
  |bl a =>
   cases hy with
   |str b t' =>
    simp only[bG]
    exact EqAt.bool_str _ _ _
   |bl b=>exact EqAt.bool_bool _ _
   |tup e c d r =>
    simp only[bG]
    exact EqAt.bool_tuple _ (show s.heap.IsTuple _ _ from⟨_,e,c,_,d⟩) iE
  |@tup ds a o aD m e c d r =>
   have hp1:s.heap.IsTuple a aD:=⟨_,e,c,_,d⟩
   cases hy with
   |str b t' =>
    simp only[bG]
    exact EqAt.tuple_str _ _ hp1 iE
   |bl b =>
    simp only[bG]
    exact EqAt.tuple_bool _ hp1 iE
   |@tup es b o' jts m' e' c' d' r' =>
    have jU:s.heap.IsTuple b jts:=⟨_,e',c',_,d'⟩
    have e0:bG (.tup ds) (.tup es)=gF ds es:=by simp only[bG]
    rw[e0]
    have hts:iN ds=true:=by simpa [iC]using ht
    by_cases q:a=b
    ·subst q
     rw[e]at e';cases e'
     rw[d]at d';injection d' with d1 d2;subst d1
     rw[fE.inj r r',jN es (wK es (by rw[<-fE.inj r r'];exact hts))]
     exact EqAt.same _
    ·refine EqAt.of_refs q ?_
     have l1:aD.size=ds.length:=by rw[<-Array.length_toList];exact r.length.symm
     have l2:jts.size=es.length:=by rw[<-Array.length_toList];exact r'.length.symm
     have:=RcAt.tuples (e:=fun j=>match ds[j]?,es[j]? with|some x,some y=>bG x y|_,_=>true) hp1 jU iE (fun j h1 h2=>by
      obtain⟨x,f1,g1⟩:=r.get (j:=j) (v:=aD[j]) (by simp [h1])
      obtain⟨y,f2,g2⟩:=r'.get (j:=j) (v:=jts[j]) (by simp [h2])
      simp only[f1,f2]
      have hx:=iF (List.mem_of_getElem? f1)
      simp only[cQ]at hn
      have htx:iC x=true:=by
       have:∀(l:List D)(x:D),iN l=true->x∈l->iC x=true:=by
        intro l
        induction l with
        |nil=>intro x _ hm;cases hm
        |cons z l ihl =>
         intro x hh hm
         simp only[iN,Bool.and_eq_true]at hh
         rcases List.mem_cons.mp hm with rfl|hm
         ·exact hh.1
         ·exact ihl x hh.2 hm
       exact this ds x hts (List.mem_of_getElem? f1)
      exact ih (by omega) g1 g2 htx (by simp only[Around.in1_units];omega))
     rw[l1,l2,tH _ fun j x y e1 e2=>by simp only[e1,e2]]at this
     exact this
theorem OY {prog:Program}{w:World}:∀(n:Nat){d:D}{v:Value}{A:Around}{E:Value->Shared->Prop}{s:Shared}{Q:Bool->Shared->Prop},cQ d<=n->iH s.heap d v->Q true s->wpAny (model prog w) A (eqIsQuiet n v) Q E s:=by
 intro n
 induction n with
 |zero =>
  intro d v A E s Q hn hk h
  cases hk with
  |str x t=>rw[eqIsQuiet_byValue _ rfl];exact wpAny_pure h
  |bl b=>rw[eqIsQuiet_byValue _ rfl];exact wpAny_pure h
  |tup e c dd r=>simp only[cQ]at hn;omega
 |succ n ih =>
  intro d v A E s Q hn hk h
  cases hk with
  |str x t=>rw[eqIsQuiet_byValue _ rfl];exact wpAny_pure h
  |bl b=>rw[eqIsQuiet_byValue _ rfl];exact wpAny_pure h
  |@tup ds a o items m ho c hd hi =>
   have hT:s.TypeIs (.ref a) "tuple":=⟨o,ho,c⟩
   simp only[cQ]at hn
   unfold eqIsQuiet
   refine wpAny_bind (wpAny_specialOf hT PySem.F.slot_tuple_eq.lookup ?_)
   show wpAny _ _ (isInstance (.ref a) (.type "tuple") >>= _) _ _ s
   refine wpAny_bind (wpAny_isInstance hT isSubtype_tuple_tuple ?_)
   simp only[Bool.not_true,Bool.false_eq_true,if_false]
   refine wpAny_bind (wpAny_seqItems ho hd ?_)
   refine wpAny_bind ?_
   show wpAny _ _ (forIn items _ _) _ _ s
   rw[<-Array.forIn_toList]
   refine wpAny_forIn_list _ (fun rest r s'=>r.1=none/\s'=s/\∃ ks,fE s.heap ks rest/\cX ks<=n) _ ?_ ?_ _ _ ⟨rfl,rfl,ds,hi,by omega⟩
   ·rintro v rest r s' ⟨hr,rfl,ks,hks,hdep⟩
    cases hks with
    |@cons k ks' _ _ h1 h2 =>
     simp only[cX]at hdep
     refine wpAny_bind (ih (d:=k) (by omega) h1 ?_)
     simp only[Bool.not_true,Bool.false_eq_true,if_false]
     exact wpAny_pure ⟨rfl,rfl,ks',h2,by omega⟩
   ·rintro⟨r1,r2⟩ s' ⟨hr,rfl,_⟩
    simp only at hr
    subst hr
    exact wpAny_pure h
theorem keyed.aR {d:D}(h:keyed d):cQ d<=8:=by
 cases d with
 |tup ds=>have:=h.2;simp only[cQ];omega
 |_=>exact h.elim
theorem keyed.txt {d:D}(h:keyed d):iC d=true:=by
 cases d with
 |tup ds=>simp only[iC];exact h.1
 |_=>exact h.elim
noncomputable def xP (prog:Program)(w:World):HeapKind prog w D where
 is:=fun h d a=>keyed d/\iH h d (.ref a)
 hash:=oO w
 draws:=qL
 room:=fun A=>A.units+12<cLine
 inj:=fun hx hy=>hx.2.inj hy.2
 keeps:=fun x ho hd hs=>⟨x.1,x.2.keeps ho hd hs⟩
 pyHash:=fun hu hk h=>SK 8 hk.1.aR hk.2 (by omega) h
 eqBool:=fun{A E s x y a b Q} hu hx hy h=>by
  have:=Bo 8 hx.1.aR hx.2 hy.2 hx.1.txt (A:=A) (by omega) prog w E Q
  rw[BW hx.1.txt hy.1.txt]at this
  exact this h
 quiet:=fun hk h=>OY 8 hk.1.aR hk.2 h
end L3
end
section
namespace L3
open PySem PySem.Spec PyProof.Rows L2 PySem.SeqAt
noncomputable def mN (X:Cx)(op:CmpOp)(W:D->D->aA->(Bool->Prop)->Prop):Prop :=
 ∀(pins:List (Addr×Obj))(s:Shared)(σ:L2.St)(H:Hp)(st:aA)(d d':D)(v v':V)(u u':Value)(P:Bool->Prop),Inv X pins σ H s->aQ X.K st H->Rep X.K H d v->RelV v u->Rep X.K H d' v'->RelV v' u'->W d d' st P ->
 wpAny (model X.prog X.w) X.A (compareOp op u u') (fun r s'=>∃ k,r=.bool k/\P k/\Inv X pins σ H s') X.xe s
theorem AJ (w:List Nat):∀ z:List Nat,occurs w z=true↔∃ i,i+w.length<=z.length/\(z.drop i).take w.length=w
 |[]=>by
  unfold occurs
  constructor
  ·intro h;rw[List.isEmpty_iff]at h;subst h;exact⟨0,by simp,by simp⟩
  ·rintro⟨i,h,_⟩;rw[List.isEmpty_iff];exact List.length_eq_zero_iff.mp (by simp only[List.length_nil]at h;omega)
 |c::r=>by
  unfold occurs
  rw[Bool.or_eq_true,AJ w r,List.isPrefixOf_iff_prefix]
  constructor
  ·rintro(h|⟨i,h1,h2⟩)
   ·exact⟨0,by have:=h.length_le;omega,by rw[List.drop_zero];exact(List.prefix_iff_eq_take.mp h).symm⟩
   ·exact⟨i+1,by simp;omega,by simpa using h2⟩
  ·rintro⟨i,h1,h2⟩
   cases i with
   |zero=>exact .inl (by rw[List.drop_zero]at h2;rw[List.prefix_iff_eq_take];exact h2.symm)
   |succ i=>exact .inr ⟨i,by simp at h1;omega,by simpa using h2⟩
theorem CN (w z:List Nat):(!(Builtin.Str.occurrences ⟨z.toArray⟩ ⟨w.toArray⟩ 0 (⟨z.toArray⟩:Str).length 1).isEmpty)=occurs w z:=by
 rw[Bool.eq_iff_iff,PySem.StrLaws.found_iff,AJ]
 refine⟨fun⟨i,h1,h2⟩=>⟨i,by simpa [Str.length]using h1,?_⟩,fun⟨i,h1,h2⟩=>⟨i,by simpa [Str.length]using h1,?_⟩⟩
 ·unfold Builtin.Str.subAt at h2
  have:=eq_of_beq h2
  simp only[Str.length,List.size_toArray]at this
  have e:=congrArg Array.toList this
  simp only[Array.toList_extract,List.extract_eq_take_drop,Nat.add_sub_cancel_left]at e
  exact e
 ·unfold Builtin.Str.subAt
  rw[beq_iff_eq]
  simp only[Str.length,List.size_toArray]
  apply Array.toList_inj.mp
  simp only[Array.toList_extract,List.extract_eq_take_drop,Nat.add_sub_cancel_left]
  exact h2
section
variable {X:Cx}{C:aW}{sub:Nat->Nat->Bool}{E:XK}{a b c e:Expr}{x y z:Ex}{pos:Pos}
theorem Hv (hu:X.A.units+180<cLine):mN X .Eq (cV .eq):=by
 intro pins s σ H st d d' v v' u u' P I ok r rv r' aZ ⟨p,p',q⟩
 have hD:lO=80:=rfl
 exact(LC I ok 80 (by have:=p.2;omega) p.1 p'.1 r rv r' aZ (by omega)).1 _ _ _ _ ⟨_,rfl,q,I⟩
theorem Iu (hu:X.A.units+180<cLine):mN X .NotEq (cV .ne):=by
 intro pins s σ H st d d' v v' u u' P I ok r rv r' aZ ⟨p,p',q⟩
 have hD:lO=80:=rfl
 exact(LC I ok 80 (by have:=p.2;omega) p.1 p'.1 r rv r' aZ (by omega)).2.2 _ _ _ _ ⟨_,rfl,q,I⟩
theorem D3 {op:CmpOp}{o:oZ}{f:Int->Int->Bool}(hW:∀ d d' st P,cV o d d' st P=tL f d d' P)
  (rule:∀(i j:Int)(t u:Tok)(Q:Value->Shared->Prop)(s:Shared),Q (.bool (f i j)) s->wpAny (model X.prog X.w) X.A (compareOp op (.int i t) (.int j u)) Q X.xe s):mN X op (cV o):=by
 intro pins s σ H st d d' v v' u u' P I ok r rv r' aZ q
 rw[hW]at q
 unfold tL at q
 split at q
 ·cases r.int_inv;cases r'.int_inv
  obtain⟨t,rfl⟩:=rv
  obtain⟨t',rfl⟩:=aZ
  exact rule _ _ _ _ _ _ ⟨_,rfl,q,I⟩
 ·exact q.elim
theorem Hl:mN X .Lt (cV .lt):=D3 (fun _ _ _ _=>rfl) fun _ _ _ _ _ _ h=>lt_int h
theorem Ha:mN X .LtE (cV .le):=D3 (fun _ _ _ _=>rfl) fun _ _ _ _ _ _ h=>le_int h
theorem Gr:mN X .Gt (cV .gt):=D3 (fun _ _ _ _=>rfl) fun _ _ _ _ _ _ h=>gt_int h
theorem Gb:mN X .GtE (cV .ge):=D3 (fun _ _ _ _=>rfl) fun _ _ _ _ _ _ h=>ge_int h
theorem L8 {pins:List (Addr×Obj)}{s:Shared}{σ:L2.St}{H:Hp}{a:Addr}{vs us:List V}(I:Inv X pins σ H s)(h:H a=some (.lst vs))(f:kQ X.K H a us):False:=by
 rcases f with⟨o,e⟩|⟨o,_,_,e,_⟩
 ·rw[h]at e;cases e
 ·have:=(I.bs a o (I.ok.mod.kin a o e)).2
  rw[h]at this;cases this
theorem FX {pins:List (Addr×Obj)}{s:Shared}{σ:L2.St}{H:Hp}{st:aA}(I:Inv X pins σ H s)(ok:aQ X.K st H):∀(n:Nat){d d':D}{v:V},cQ d<=n->fM st d=true->fM st d'=true->Rep X.K H d v->Rep X.K H d' v->d=d':=by
 have lists:∀{d d':D}{v:V}{xs ys:List D},pN st d=some xs->pN st d'=some ys->bV xs=true->bV ys=true->Rep X.K H d v->Rep X.K H d' v->d=d':=by
  intro d d' v xs ys q q' p p' r r'
  cases r with
  |ref a=>cases r' with
   |ref _=>rfl
   |bF f g =>
    simp only[pN]at q
    split at q
    ·rename_i e
     obtain⟨vs,h,_⟩:=ok.lst e
     exact(L8 I h f).elim
    ·cases q
   |_=>cases q'
  |bF f g=>cases r' with
   |ref _ =>
    simp only[pN]at q'
    split at q'
    ·rename_i e
     obtain⟨vs,h,_⟩:=ok.lst e
     exact(L8 I h f).elim
    ·cases q'
   |bF f' g' =>
    cases q;cases q'
    cases I.oV f.sq f'.sq
    rw[pQ I p p' g g']
   |_=>cases q'
  |_=>cases q
 intro n
 induction n with
 |zero =>
  intro d d' v hn p p' r r'
  rcases kinds p with q|⟨ds,rfl,q⟩|⟨xs,q,q1,q2⟩
  ·cases r<;>cases r'<;>first|rfl|(cases q;done)|skip
  ·simp only[cQ]at hn;omega
  ·obtain⟨a,vs,rfl,f1,g1⟩:=fA ok q r
   rcases kinds p' with q'|⟨iI,rfl,q'⟩|⟨ys,q',q1',q2'⟩
   ·cases r'<;>cases q'
   ·obtain⟨b,us,e,f2,g2⟩:=r'.bJ
    cases e
    exact(B3 I f1 f2).elim
   ·exact lists q q' q1 q1' r r'
 |succ n ih =>
  intro d d' v hn p p' r r'
  rcases kinds p with q|⟨ds,rfl,q⟩|⟨xs,q,q1,q2⟩
  ·cases r<;>cases r'<;>first|rfl|(cases q;done)|skip
  ·obtain⟨a,vs,rfl,f1,g1⟩:=r.bJ
   rcases kinds p' with q'|⟨iI,rfl,q'⟩|⟨ys,q',q1',q2'⟩
   ·cases r'<;>cases q'
   ·obtain⟨b,us,e,f2,g2⟩:=r'.bJ
    cases e
    cases I.qO f1 f2
    simp only[cQ]at hn
    have go:∀(ds es:List D)(vs:List V),cX ds<=n->fT st ds=true->fT st es=true->aH X.K H ds vs->aH X.K H es vs->ds=es:=by
     intro ds
     induction ds with
     |nil=>intro es vs _ _ _ r r';cases r;cases r';rfl
     |cons d ds ihs =>
      intro es vs hd pp pp' r r'
      cases r with
      |cons r1 r2=>cases r' with
       |cons r1' r2' =>
        simp only[cX]at hd
        simp only[fT,Bool.and_eq_true]at pp pp'
        rw[ih (by omega) pp.1 pp'.1 r1 r1',ihs _ _ (by omega) pp.2 pp'.2 r2 r2']
    rw[go ds iI vs (by omega) q q' g1 g2]
   ·obtain⟨b,us,e,f2,g2⟩:=fA ok q' r'
    cases e
    exact(B3 I f2 f1).elim
  ·obtain⟨a,vs,rfl,f1,g1⟩:=fA ok q r
   rcases kinds p' with q'|⟨iI,rfl,q'⟩|⟨ys,q',q1',q2'⟩
   ·cases r'<;>cases q'
   ·obtain⟨b,us,e,f2,g2⟩:=r'.bJ
    cases e
    exact(B3 I f1 f2).elim
   ·exact lists q q' q1 q1' r r'
theorem DN {pins:List (Addr×Obj)}{s:Shared}{σ:L2.St}{H:Hp}{st:aA}(I:Inv X pins σ H s)(ok:aQ X.K st H){ds:List D}{vs:List V}{aD:List Value}{d:D}{v:V}{u:Value}{A:Around}
  (g:aH X.K H ds vs)(r:aO vs aD)(p:dJ st ds)(pd:plainS st d)(rd:Rep X.K H d v)(rv:RelV v u)(hu:A.units+178<cLine):
  ∃ e:Value->Bool,(∀ y,y∈aD.toArray->EqAt A.in1 s y u (e y))/\aD.toArray.any e=ds.any fun d'=>bN st d' d:=by
 classical
 have hD:lO=80:=rfl
 have item:∀(d':D)(v':V)(y:Value),d'∈ds->Rep X.K H d' v'->RelV v' y->EqAt A.in1 s y u (bN st d' d):=fun d' v' y m r' aZ=>by
  have h1:=iF m
  have h2:=p.2
  exact(LC I ok 80 (by omega) (fL p.1 m) pd.1 r' aZ rd rv (by simp only[Around.in1_units];omega)).2.1
 let e:Value->Bool:=fun y=>decide (∃ d' v',d'∈ds/\Rep X.K H d' v'/\RelV v' y/\bN st d' d=true)
 have he:∀(d':D)(v':V)(y:Value),d'∈ds->Rep X.K H d' v'->RelV v' y->e y=bN st d' d:=fun d' v' y m r' aZ=>by
  show decide _=_
  cases q:bN st d' d with
  |true=>exact decide_eq_true ⟨d',v',m,r',aZ,q⟩
  |false =>
   refine decide_eq_false fun⟨d2,v2,m2,r2,rv2,q2⟩=>?_
   cases RelV.inj aZ rv2
   have:=FX I ok _ (Nat.le_refl _) (fL p.1 m) (fL p.1 m2) r' r2
   subst this
   rw[q]at q2;cases q2
 refine⟨e,fun y hy=>?_,?_⟩
 ·obtain⟨j,hj,rfl⟩:=Array.mem_iff_getElem.mp hy
  obtain⟨v',e1,e2⟩:=aO.at r hj
  obtain⟨d',e3,e4⟩:=aH.get' g e1
  rw[he d' v' _ (List.mem_of_getElem? e3) e4 e2]
  exact item d' v' _ (List.mem_of_getElem? e3) e4 e2
 ·have go:∀(es:List D)(vs:List V)(aD:List Value),(∀ d∈es,d∈ds)->aH X.K H es vs->aO vs aD->aD.any e=es.any fun d'=>bN st d' d:=by
   intro es
   induction es with
   |nil=>intro vs aD _ g r;cases g;cases r;rfl
   |cons d1 es ih =>
    intro vs aD hm g r
    cases g with
    |cons g1 g2=>cases r with
     |cons r1 r2 =>
      simp only[List.any_cons]
      rw[he d1 _ _ (hm d1 (by simp)) g1 r1,ih _ _ (fun d m=>hm d (by simp [m])) g2 r2]
  rw[List.any_toArray]
  exact go ds vs aD (fun _ m=>m) g r
theorem LO (k x:Str):(decide (k=x))=(x.cps.toList==k.cps.toList):=by
 by_cases h:k=x
 ·subst h;simp
 ·rw[decide_eq_false h]
  symm
  refine beq_eq_false_iff_ne.mpr fun e=>h ?_
  obtain⟨⟨k⟩⟩:=k
  obtain⟨⟨x⟩⟩:=x
  have e:x=k:=e
  subst e;rfl
theorem BX {pins:List (Addr×Obj)}{s:Shared}{σ:L2.St}{H:Hp}{a:Addr}{T:List (Str×PyData)}(I:Inv X pins σ H s)(h:KTD.tabLook KTD.flatLooks (fun b=>X.K.lookup b) a T=true):KTD.Here s.heap s.heap a (T.map fun p=>(p.1,KTD.Dat.flat p.2)) :=
 ⟨(KTD.tab_of_look (fun d v=>KTD.flat_of_looks) (fun a o e=>I.hU a o e) h).text,fun _ _ e=>e⟩
theorem HW (k:List Nat):∀(T:List (Str×PyData)),KTD.inKeys (⟨k.toArray⟩:Str) (T.map fun p=>(p.1,KTD.Dat.flat p.2))=(T.map fun p=>D.str p.1.cps.toList).any fun d=>bG d (.str k)
 |[]=>rfl
 |(x,d)::T=>by
  show(decide ((⟨k.toArray⟩:Str)=x)||KTD.inKeys _ _)=((x.cps.toList==k)||_)
  rw[HW k T,LO]
theorem VZ (hu:X.A.units+180<cLine):mN X .In (cV .in_)/\mN X .NotIn (cV .iU):=by
 have main:∀(neg:Bool)(pins:List (Addr×Obj))(s:Shared)(σ:L2.St)(H:Hp)(st:aA)(d d':D)(v v':V)(u u':Value)(P:Bool->Prop),Inv X pins σ H s->aQ X.K st H->Rep X.K H d v->RelV v u->Rep X.K H d' v'->RelV v' u' ->
   EU d d' st (fun b=>P (if neg then !b else b))->wpAny (model X.prog X.w) X.A (compareOp (if neg then .NotIn else .In) u u') (fun r s'=>∃ k,r=.bool k/\P k/\Inv X pins σ H s') X.xe s:=by
  intro neg pins s σ H st d d' v v' u u' P I ok r rv r' aZ q
  have lst:∀(a:Addr)(vs:List V)(ds:List D),dR X.K H a vs->aH X.K H ds vs->plainS st d->dJ st ds->P (if neg then !(ds.any fun d'=>bN st d' d)else ds.any fun d'=>bN st d' d) ->
    wpAny (model X.prog X.w) X.A (compareOp (if neg then .NotIn else .In) u (.ref a)) (fun r s'=>∃ k,r=.bool k/\P k/\Inv X pins σ H s') X.xe s:=by
   intro a vs ds f g pd ps q
   obtain⟨aD,r1,p1,_⟩:=I.list f
   obtain⟨e,he,ha⟩:=DN I ok g r1 ps pd r rv (A:=X.A) (by omega)
   rw[<-ha]at q
   cases neg with
   |true=>exact notIn_listAt e p1.isList he ⟨_,rfl,q,I⟩
   |false=>exact in_listAt e p1.isList he ⟨_,rfl,q,I⟩
  unfold EU at q
  split at q
  ·obtain⟨a,vs,rfl,f,g⟩:=r'.bJ
   cases aZ
   obtain⟨aD,r1,p1,_⟩:=I.tuple f
   obtain⟨pd,ps,q⟩:=q
   obtain⟨e,he,ha⟩:=DN I ok g r1 ps pd r rv (A:=X.A) (by omega)
   rw[<-ha]at q
   cases neg with
   |true=>exact notIn_tupleAt e p1 he ⟨_,rfl,q,I⟩
   |false=>exact in_tupleAt e p1 he ⟨_,rfl,q,I⟩
  ·cases r'.bZ
   cases aZ
   obtain⟨ds,e1,pd,ps,q⟩:=qA ok q
   obtain⟨vs,g1,g2⟩:=ok.lst e1
   exact lst _ vs ds (dR.of g1) g2 pd ps q
  ·obtain⟨a,rfl,T,h1,_,h2,_⟩:=r'.FU
   cases aZ
   cases r.str_inv
   obtain⟨t,rfl⟩:=rv
   rw[h2,<-HW]at q
   cases neg with
   |true=>exact KTD.notin_text (BX I h1) ⟨_,rfl,q,I.tok _⟩
   |false=>exact KTD.in_text (BX I h1) ⟨_,rfl,q,I.tok _⟩
  ·obtain⟨a,vs,rfl,f,g⟩:=r'.jO
   cases aZ
   exact lst a vs _ f.sq g q.1 q.2.1 q.2.2
  ·cases r.str_inv;cases r'.str_inv
   cases neg with
   |true =>
    refine aV (EO (X:=X) pins s σ H _ _ _ _ (fun v H'=>H'=H/\∃ k,v=.bl k/\P k) I rv aZ ⟨_,_,rfl,rfl,rfl,_,rfl,?_⟩) fun r s1 ⟨v,H',I1,r1,e,k,e',q'⟩=>?_
    ·rw[CN];exact q
    ·subst e e';cases r1;exact⟨k,rfl,q',I1⟩
   |false =>
    refine aV (M3 (X:=X) pins s σ H _ _ _ _ (fun v H'=>H'=H/\∃ k,v=.bl k/\P k) I rv aZ ⟨_,_,rfl,rfl,rfl,_,rfl,?_⟩) fun r s1 ⟨v,H',I1,r1,e,k,e',q'⟩=>?_
    ·rw[CN];exact q
    ·subst e e';cases r1;exact⟨k,rfl,q',I1⟩
  ·exact q.elim
 exact⟨fun pins s σ H st d d' v v' u u' P I ok r rv r' aZ q=>main false pins s σ H st d d' v v' u u' P I ok r rv r' aZ q,fun pins s σ H st d d' v v' u u' P I ok r rv r' aZ q=>main true pins s σ H st d d' v v' u u' P I ok r rv r' aZ q⟩
theorem CJ {K:PySem.W.Frag}{H:Hp}{d:D}{v:V}{u:Value}(r:Rep K H d v)(rv:RelV v u):(u==Value.none)=D1 d:=by
 rw[rv.PN]
 cases r<;>rfl
theorem XT:mN X .Is (cV .is_)/\mN X .IsNot (cV .isnot):=by
 constructor
 ·intro pins s σ H st d d' v v' u u' P I ok r rv r' aZ q
  have q:zX d d' P:=q
  unfold zX at q
  split at q
  ·cases r'.eU;cases aZ
   exact is_none_gen ⟨_,rfl,by rw[CJ r rv];exact q,I⟩
  ·rename_i b
   cases r'.eO;cases aZ
   cases r with
   |bl c=>cases rv;exact is_bool ⟨_,rfl,q,I⟩
   |non=>cases rv;exact wpAny_is_other rfl (by intro z;cases z) ⟨_,rfl,q,I⟩
   |int i=>obtain⟨t,rfl⟩:=rv;exact wpAny_is_other rfl (by intro z;cases z) ⟨_,rfl,q,I⟩
   |str z=>obtain⟨t,rfl⟩:=rv;exact wpAny_is_other rfl (by intro z;cases z) ⟨_,rfl,q,I⟩
   |tup _ _=>cases rv;exact wpAny_is_other rfl (by intro z;cases z) ⟨_,rfl,q,I⟩
   |ref _=>cases rv;exact wpAny_is_other rfl (by intro z;cases z) ⟨_,rfl,q,I⟩
   |bF _ _=>cases rv;exact wpAny_is_other rfl (by intro z;cases z) ⟨_,rfl,q,I⟩
   |cM _=>cases rv;exact wpAny_is_other rfl (by intro z;cases z) ⟨_,rfl,q,I⟩
  ·exact q.elim
 ·intro pins s σ H st d d' v v' u u' P I ok r rv r' aZ q
  have q:zX d d' (fun b=>P (!b)):=q
  unfold zX at q
  split at q
  ·cases r'.eU;cases aZ
   exact isnot_none_gen ⟨_,rfl,by rw[CJ r rv];exact q,I⟩
  ·rename_i b
   cases r'.eO;cases aZ
   cases r with
   |bl c=>cases rv;exact isnot_bool ⟨_,rfl,q,I⟩
   |non=>cases rv;exact wpAny_isNot_other rfl (by intro z;cases z) ⟨_,rfl,q,I⟩
   |int i=>obtain⟨t,rfl⟩:=rv;exact wpAny_isNot_other rfl (by intro z;cases z) ⟨_,rfl,q,I⟩
   |str z=>obtain⟨t,rfl⟩:=rv;exact wpAny_isNot_other rfl (by intro z;cases z) ⟨_,rfl,q,I⟩
   |tup _ _=>cases rv;exact wpAny_isNot_other rfl (by intro z;cases z) ⟨_,rfl,q,I⟩
   |ref _=>cases rv;exact wpAny_isNot_other rfl (by intro z;cases z) ⟨_,rfl,q,I⟩
   |bF _ _=>cases rv;exact wpAny_isNot_other rfl (by intro z;cases z) ⟨_,rfl,q,I⟩
   |cM _=>cases rv;exact wpAny_isNot_other rfl (by intro z;cases z) ⟨_,rfl,q,I⟩
  ·exact q.elim
noncomputable def nN:oZ->CmpOp
 |.eq=>.Eq|.ne=>.NotEq|.lt=>.Lt|.le=>.LtE|.gt=>.Gt|.ge=>.GtE|.is_=>.Is|.isnot=>.IsNot|.in_=>.In|.iU=>.NotIn
theorem DY (hu:X.A.units+180<cLine):∀ o:oZ,mN X (nN o) (cV o)
 |.eq=>Hv hu
 |.ne=>Iu hu
 |.lt=>Hl
 |.le=>Ha
 |.gt=>Gr
 |.ge=>Gb
 |.is_=>XT.1
 |.isnot=>XT.2
 |.in_=>(VZ hu).1
 |.iU=>(VZ hu).2
theorem Dl {o:oZ}(hu:X.A.units+180<cLine)(ha:PE X a (bM X.K (aG C sub E x)))(hb:PE X b (bM X.K (aG C sub E y)))(hm:behindInMarks (nN o) b=false):PE X (.Compare a [nN o] [b] pos) (bM X.K (aG C sub E (.cmp o x y))):=by
 intro pins s σ H Q I ⟨σd,st,R,r,ok,q,hq⟩
 refine wpAny_Compare1 (aV (ha pins s σ H _ I ⟨σd,st,_,r,ok,q,fun v H' z=>z⟩) fun u s1 ⟨v,H1,I1,rv,d,aC,cW,aN,r1,q1⟩ =>
 aV (hb pins s1 σ H1 _ I1 ⟨σd,aC,_,r.step ok cW,aN,q1,fun v H' z=>z⟩) fun u' s2 ⟨v',H2,I2,aZ,d',aF,gW,bO,r2,q2⟩ =>
 aV (DY hu o pins s2 σ H2 aF d d' v v' u u' _ I2 bO (r1.step aN gW) rv r2 aZ q2) fun w s3 ⟨k,e,q3,I3⟩=>?_) hm
 subst e
 exact⟨.bl k,H2,I3,rfl,hq _ _ (.after (cW.trans gW) (.here bO (.bl k) q3))⟩
theorem XB {o:oZ}(hu:X.A.units+180<cLine)(ha:PE X a (bM X.K (aG C sub E x)))(hb:PE X b (bM X.K (aG C sub E y)))(hm:behindInMarks (nN o) b=false):PT X (.Compare a [nN o] [b] pos) (iR X.K (aG C sub E (.cmp o x y))):=by
 intro pins s σ H Q I ⟨σd,st,R,r,ok,q,hq⟩
 refine wpAny_isTrue_Compare1 (aV (ha pins s σ H _ I ⟨σd,st,_,r,ok,q,fun v H' z=>z⟩) fun u s1 ⟨v,H1,I1,rv,d,aC,cW,aN,r1,q1⟩ =>
 aV (hb pins s1 σ H1 _ I1 ⟨σd,aC,_,r.step ok cW,aN,q1,fun v H' z=>z⟩) fun u' s2 ⟨v',H2,I2,aZ,d',aF,gW,bO,r2,q2⟩ =>
 aV (DY hu o pins s2 σ H2 aF d d' v v' u u' _ I2 bO (r1.step aN gW) rv r2 aZ q2) fun w s3 ⟨k,e,q3,I3⟩=>?_) hm
 subst e
 exact wpAny_truthy_bool ⟨H2,I3,hq _ _ ⟨aF,cW.trans gW,bO,q3⟩⟩
theorem U6 {o o':oZ}(hu:X.A.units+180<cLine)(ha:PE X a (bM X.K (aG C sub E x)))(hb:PE X b (bM X.K (aG C sub E y)))(hc:PE X c (bM X.K (aG C sub E z)))(hm:lastMarks [nN o,nN o'] [b,c]=false):
 PE X (.Compare a [nN o,nN o'] [b,c] pos) (bM X.K (aG C sub E (.chain o o' x y z))):=by
 intro pins s σ H Q I ⟨σd,st,R,r,ok,q,hq⟩
 refine Compare_chain (aV (ha pins s σ H _ I ⟨σd,st,_,r,ok,q,fun v H' z=>z⟩) fun u s1 ⟨v,H1,I1,rv,d,aC,cW,aN,r1,q1⟩ =>
 chain_link (aV (hb pins s1 σ H1 _ I1 ⟨σd,aC,_,r.step ok cW,aN,q1,fun v H' z=>z⟩) fun u' s2 ⟨v',H2,I2,aZ,d',aF,gW,bO,r2,q2⟩ =>
 aV (DY hu o pins s2 σ H2 aF d d' v v' u u' _ I2 bO (r1.step aN gW) rv r2 aZ q2) fun w s3 ⟨k,e,q3,I3⟩=>?_)) hm
 subst e
 refine wpAny_truthy_bool ?_
 cases k with
 |false=>exact ite_ff ⟨.bl false,H2,I3,rfl,hq _ _ (.after (cW.trans gW) (.here bO (.bl _) q3))⟩
 |true =>
 refine ite_tt (chain_last (aV (hc pins s3 σ H2 _ I3 ⟨σd,aF,_,(r.step ok cW).step aN gW,bO,q3,fun v H' z=>z⟩) fun u3 s4 ⟨v3,H4,I4,rv3,d3,dI,s4s,JX,r4,q4⟩ =>
  aV (DY hu o' pins s4 σ H4 dI d' d3 v' v3 u' u3 _ I4 JX (r2.step bO s4s) aZ r4 rv3 q4) fun w s5 ⟨k,e,q5,I5⟩=>?_))
 subst e
 exact⟨.bl k,H4,I5,rfl,hq _ _ (.after ((cW.trans gW).trans s4s) (.here JX (.bl k) q5))⟩
end
end L3
end
section
namespace L3
open PySem PySem.Spec PyProof.Rows PyProof.V L2
section
variable {X:Cx}{C:aW}{sub:Nat->Nat->Bool}{E:XK}{a b c e:Expr}{x y z:Ex}{pos:Pos}
theorem X5 (n:Nat)(i:Int):L2.lG n i=lG n i:=rfl
theorem BG {K:PySem.W.Frag}{H:Hp}{ds:List D}{vs:List V}{i:Int}{d:D}(r:aH K H ds vs)(h:eJ ds i=some d):∃ v,L2.eJ vs i=some v/\Rep K H d v:=by
 unfold eJ at h
 unfold L2.eJ
 rw[X5,<-r.length]
 cases e:lG ds.length i with
 |none=>rw[e]at h;cases h
 |some j =>
 rw[e]at h
 obtain⟨v,e1,e2⟩:=r.get (i:=j) h
 exact⟨v,e1,e2⟩
noncomputable def ZG (K:PySem.W.Frag):R2:=fun x y H Q=>∃(p:Addr)(T:List (Str×PyData))(k:Str)(d:PyData),x=.ref p/\y=.str k/\KTD.tabLook KTD.flatLooks (fun b=>K.lookup b) p T=true/\KTD.datumAt k T=some d/\mL d=true/\∀ v u,RelV v u->Flat u d->Q v H
noncomputable def LB (K:PySem.W.Frag):R2:=fun x y H Q=>Fk K x y H Q∨ZG K x y H Q
theorem tF {k:Str}{d:PyData}:∀{T:List (Str×PyData)},KTD.datumAt k T=some d->KTD.datumAt k (T.map fun p=>(p.1,KTD.Dat.flat p.2))=some (.flat d)
 |[],h=>by cases h
 |(x,e)::T,h=>by
  show(if decide (k=x)=true then some (KTD.Dat.flat e)else _)=_
  have h:(if decide (k=x)=true then some e else KTD.datumAt k T)=some d:=h
  by_cases c:decide (k=x)=true
  ·rw[if_pos c]at h ⊢;cases h;rfl
  ·rw[if_neg c]at h ⊢;exact tF h
theorem Bz {X:Cx}:uF X (ZG X.K):=by
 intro value slice pins s σ H x y v u Q I rx ry h hs
 obtain⟨p,T,k,d,rfl,rfl,hT,hd,hsd,q⟩:=h
 cases rx
 obtain⟨t,rfl⟩:=ry
 have hh:=BX I hT
 refine subscriptTail_builtin_flat hh.typeIs slot_dict_getitem.lookup ?_ hs
 unfold getItem
 try with_reducible refine wpAny_holding ?_
 refine wpAny_bind (wpAny_sequenceKey hh.typeIs (by decide) ?_)
 refine wpAny_bind (wpAny_callSpecial?_slot (name:=Str.ofString "__getitem__") hh.typeIs slot_dict_getitem
  (wpAny_call_entry slot_dict_getitem hh.typeIs entry_dict_getitem ?_ (args_dict_getitem _ _)))
 show wpAny _ _ (dictGet p (.str k t) >>= _) _ _ s
 refine wpAny_bind (KTD.dictGet_text hh (fun d' v ha hv=>?_) fun hn=>?_)
 ·rw[tF hd]at ha
  cases ha
  have hv:Flat v d:=hv
  refine wpAny_pure ⟨v,rfl,wpAny_pure ⟨Flat.notRef hv,?_⟩⟩
  obtain⟨w,rw'⟩:∃ w,RelV w v:=by
   cases d with
   |none=>cases Flat.none_inv hv;exact⟨.non,rfl⟩
   |bool b=>cases Flat.bool_inv hv;exact⟨.bl b,rfl⟩
   |int i=>obtain⟨t,rfl⟩:=Flat.int_inv hv;exact⟨.int i,⟨t,rfl⟩⟩
   |str x=>obtain⟨t,rfl⟩:=Flat.str_inv hv;exact⟨.str x,⟨t,rfl⟩⟩
   |_=>cases hsd
  exact⟨w,H,I.tok _,rw',q w v rw' hv⟩
 ·rw[tF hd]at hn;cases hn
theorem XJ {X:Cx}:uF X (LB X.K):=YN.or Bz
theorem M5 {K:PySem.W.Frag}(v v':V)(H:Hp)(Q Q':L2.VK)(h:∀ v H,Q v H->Q' v H)(z:LB K v v' H Q):LB K v v' H Q':=by
 rcases z with z|⟨p,T,k,d,e,e',e1,e2,e3,q⟩
 ·refine .inl ?_
  rcases z with⟨p,xs,i,v,e,e',s,t,q⟩|⟨p,xs,i,v,e,e',s,t,q⟩|⟨z,i,c,e,e',s,t,q⟩
  ·exact .inl ⟨p,xs,i,v,e,e',s,t,h _ _ q⟩
  ·exact .inr (.inl ⟨p,xs,i,v,e,e',s,t,h _ _ q⟩)
  ·exact .inr (.inr ⟨z,i,c,e,e',s,t,h _ _ q⟩)
 ·exact .inr ⟨p,T,k,d,e,e',e1,e2,e3,fun v u r f=>h _ _ (q v u r f)⟩
theorem EK {k:List Nat}{d:D}:∀{T:List (Str×PyData)},(T.all fun p=>mL p.2)=true->tK (T.map fun p=>.str p.1.cps.toList) (T.map fun p=>qR p.2) (.str k)=some d->∃ e,KTD.datumAt (⟨k.toArray⟩:Str) T=some e/\mL e=true/\d=qR e
 |[],_,h=>by cases h
 |(x,e)::T,a,h=>by
  simp only[List.all_cons,Bool.and_eq_true]at a
  have h:(if(x.cps.toList==k)=true then some (qR e)else tK (T.map fun p=>.str p.1.cps.toList) (T.map fun p=>qR p.2) (.str k))=some d:=h
  show ∃ e',(if decide ((⟨k.toArray⟩:Str)=x)=true then some e else KTD.datumAt _ T)=some e'/\_
  rw[LO]
  by_cases c:(x.cps.toList==k)=true
  ·rw[if_pos c]at h;cases h
   exact⟨e,if_pos c,a.1,rfl⟩
  ·rw[if_neg c]at h
   obtain⟨e',h1,h2⟩:=EK a.2 h
   exact⟨e',(if_neg c).trans h1,h2⟩
theorem PK {K:PySem.W.Frag}{H:Hp}{e:PyData}{v:V}{u:Value}(s:mL e=true)(r:RelV v u)(f:Flat u e):Rep K H (qR e) v:=by
 cases e with
 |none=>cases Flat.none_inv f;cases RelV.inj r (show RelV .non .none from rfl);exact .non
 |bool b=>cases Flat.bool_inv f;cases RelV.inj r (show RelV (.bl b) (.bool b)from rfl);exact .bl b
 |int i=>obtain⟨t,rfl⟩:=Flat.int_inv f;cases RelV.inj r (show RelV (.int i) (.int i t)from⟨t,rfl⟩);exact .int i
 |str x=>obtain⟨t,rfl⟩:=Flat.str_inv f;cases RelV.inj r (show RelV (.str x) (.str x t)from⟨t,rfl⟩);exact .str x.cps.toList
 |_=>cases s
theorem P1 {K:PySem.W.Frag}{H:Hp}{st:aA}{R:VK}{d d':D}{v v':V}(ok:aQ K st H)(r:Rep K H d v)(r':Rep K H d' v')(h:lZ d d' st R):LB K v v' H (QD K H st R):=by
 unfold lZ at h
 split at h
 ·obtain⟨a,vs,rfl,f,g⟩:=r.bJ
  cases r'.int_inv
  obtain⟨d,e,q⟩:=eB h
  obtain⟨v,e1,e2⟩:=BG g e
  exact .inl (.inr (.inl ⟨a,vs,_,v,rfl,rfl,f,e1,.here ok e2 q⟩))
 ·obtain⟨a,vs,rfl,f,g⟩:=r.jO
  cases r'.int_inv
  obtain⟨d,e,q⟩:=eB h
  obtain⟨v,e1,e2⟩:=BG g e
  exact .inl (.inl ⟨a,vs,_,v,rfl,rfl,f.sq,e1,.here ok e2 q⟩)
 ·cases r.str_inv
  cases r'.int_inv
  obtain⟨l,h⟩:=h
  obtain⟨c,e,q⟩:=eB h
  exact .inl (.inr (.inr ⟨_,_,c,rfl,rfl,by rw[fH];simpa [Str.length]using l,e,.here ok (.str [c]) q⟩))
 ·obtain⟨a,rfl,T,h1,h2,h3,h4⟩:=r.FU
  cases r'.str_inv
  obtain⟨d,e,q⟩:=eB h
  rw[h3,h4]at e
  obtain⟨e',e1,e2,rfl⟩:=EK h2 e
  exact .inr ⟨a,T,_,e',rfl,rfl,h1,e1,e2,fun v u r f=>.here ok (PK e2 r f) q⟩
 ·cases r.bZ
  obtain⟨ds,e,q⟩:=qA ok h
  obtain⟨vs,g1,g2⟩:=ok.lst e
  split at q
  ·cases r'.int_inv
   obtain⟨d,e,q⟩:=eB q
   obtain⟨v,e1,e2⟩:=BG g2 e
   exact .inl (.inl ⟨_,vs,_,v,rfl,rfl,dR.of g1,e1,.here ok e2 q⟩)
  ·exact q.elim
 ·exact h.elim
theorem Gf (ha:PE X a (bM X.K (aG C sub E x)))(hb:PE X b (bM X.K (aG C sub E y)))(hp:rW b):PE X (.Subscript a b pos) (bM X.K (aG C sub E (.ix x y))) :=
 (RU XJ ha hb hp).imp fun σ H Q ⟨σd,st,R,r,ok,q,hq⟩=>by
 exact two (W:=fun d d' aF=>lZ d d' aF R) r ok q hq (fun d d' v v' H2 aF bO r1 r2 h=>P1 bO r1 r2 h) M5
theorem uM {prog:Program}{w:World}{A:Around}{E:Value->Shared->Prop}{s:Shared}{t sl:Addr}{items:Array Value}{vl vu:Value}{lo hi:Option Int}{Q:Value->Shared->Prop}(ht:IsTup s.heap t items)(hs:s.heap.IsSliceOf sl vl vu .none)(pl:IsPart vl lo)(pu:IsPart vu hi)
  (hw:HT.bX items.size 0 lo=0/\HT.bX items.size items.size hi=items.size)(h:Q (.ref t) s):wpAny (model prog w) A (getItem (.ref t) (.ref sl)) Q E s:=by
 obtain⟨os,hos,hcs,hds⟩:=id hs
 have hTs:s.TypeIs (.ref sl) "slice":=⟨os,hos,hcs⟩
 unfold getItem
 try with_reducible refine wpAny_holding ?_
 first|refine wpAny_bind (wpAny_pure ?_)|skip
 refine wpAny_bind (wpAny_sequenceKey ht.typeIs (by decide) ?_)
 refine wpAny_bind (wpAny_callSpecial?_slot (name:=Str.ofString "__getitem__") ht.typeIs PyProof.Rows.slot_tuple_getitem
  (wpAny_call_entry PyProof.Rows.slot_tuple_getitem ht.typeIs entry_tuple_getitem ?_ (args_tuple_getitem _ _)))
 show wpAny _ _ (Builtin.Tuple.tupleItemsOf (.ref t) >>= _) _ _ s
 refine wpAny_bind (tupleItemsOf_ ht ?_)
 refine wpAny_bind (wpAny_typeOf hTs ?_)
 rw[if_pos (by decide)]
 refine wpAny_bind (HT.oY hs pl pu ?_)
 have hyes:(((HT.bX items.size 0 lo:Nat):Int)==0&&(1:Int)==1&&(HT.bX items.size items.size hi-HT.bX items.size 0 lo)==items.size)=true:=by
  rw[hw.1,hw.2];simp
 show wpAny _ _ (if(((HT.bX items.size 0 lo:Nat):Int)==0&&(1:Int)==1&&(HT.bX items.size items.size hi-HT.bX items.size 0 lo)==items.size)=true then _ else _) _ _ s
 rw[if_pos hyes]
 have hex:∀{Q:Bool->Shared->Prop},Q true s->wpAny (model prog w) A.in1 (Builtin.Tuple.tupleIsExact (.ref t)) Q E s:=fun h=>by
  unfold Builtin.Tuple.tupleIsExact
  exact wpAny_bind (wpAny_typeOf ht.typeIs (wpAny_pure h))
 refine wpAny_bind (hex ?_)
 rw[if_pos rfl]
 exact wpAny_bind (wpAny_rule (wpAny_pure ⟨_,rfl,wpAny_pure h⟩))
theorem NF (n d:Nat)(o:Option Int):HT.bX n d o=bX n d o:=rfl
theorem aH.cut {K:PySem.W.Frag}{H:Hp}{ds:List D}{vs:List V}(r:aH K H ds vs)(lo hi:Option Int):aH K H (cut ds lo hi) (cut vs lo hi):=by
 unfold L3.cut
 rw[r.length]
 exact(r.drop _).take _
noncomputable def YA (K:PySem.W.Frag):V->Option Int->Option Int->Hp->L2.VK->Prop:=fun x lo hi H Q=>∃ a xs,x=.ref a/\dQ K H a xs/\(HT.bX xs.length 0 lo=0/\HT.bX xs.length xs.length hi=xs.length)/\Q (.ref a) H
theorem UE:vS X (YA X.K):=by
 intro pins s σ H x v vl vu lo hi sl Q I rx hs pl pu h
 obtain⟨a,xs,rfl,hx,hw,q⟩:=h
 cases rx
 obtain⟨aD,r,ht,hz⟩:=I.tuple hx
 have hlen:aD.toArray.size=xs.length:=by rw[List.size_toArray];exact r.length.symm
 refine⟨"tuple", _,PyProof.Rows.slot_tuple_getitem.lookup,ht.typeIs,?_⟩
 exact uM ht hs pl pu (by rw[hlen];exact hw) ⟨.ref a,H,I,rfl,q⟩
noncomputable abbrev ZU (K:PySem.W.Frag):V->Option Int->Option Int->Hp->L2.VK->Prop:=fun x lo hi H Q=>YS K x lo hi H Q∨YA K x lo hi H Q∨X2 K x lo hi H Q
theorem Z0:vS X (ZU X.K):=vS.or L2.GV (vS.or UE TK)
theorem OU {K:PySem.W.Frag}{H:Hp}{st:aA}{R:VK}{Q:L2.VK}{d:D}{v:V}{lo hi:Option Int}(ok:aQ K st H)(r:Rep K H d v)(h:AG d lo hi st R)(hq:∀ v H',QD K H st R v H'->Q v H'):ZU K v lo hi H Q:=by
 unfold AG at h
 split at h
 ·rename_i ds0
  obtain⟨a,vs,rfl,f,g⟩:=r.bJ
  by_cases hw:HT.bX vs.length 0 lo=0/\HT.bX vs.length vs.length hi=vs.length
  ·refine .inr (.inl ⟨a,vs,rfl,f,hw,hq _ _ (.here ok r ?_)⟩)
   have e:L3.cut ds0 lo hi=ds0:=by
    unfold L3.cut
    rw[g.length,<-NF,<-NF,hw.1,hw.2,List.drop_zero,Nat.sub_zero,<-g.length,List.take_length]
   rw[e]at h
   exact h
  ·exact .inl ⟨a,vs,rfl,f,hw,fun p hp=>hq _ _ (.EX ok (g.cut lo hi) hp h)⟩
 ·cases r.bZ
  obtain⟨ds,e,h⟩:=dG h
  obtain⟨vs,g1,g2⟩:=ok.lst e
  exact .inr (.inr ⟨_,vs,rfl,dR.of g1,fun p hp=>hq _ _ (.fR ok (g2.cut lo hi) hp h)⟩)
 ·exact h.elim
inductive CA (K:PySem.W.Frag)(te:St->aA->(List D->aA->Prop)->Prop)(σ:L2.St)(H:Hp)(Q:Option Int->Hp->Prop):Prop where
 |mk (σd:St)(st:aA)(R:Option Int->aA->Prop)(r:cZ K H σd σ)(ok:aQ K st H)(q:te σd st (fun ds aB=>mU ds fun o=>R o aB))(hq:∀(o:Option Int) H',QX K H st (R o) H'->Q o H'):CA K te σ H Q
theorem _root_.L2.PO.imp {X:Cx}{e:Option Expr}{t t':TO}(i:∀ σ H Q,t' σ H Q->t σ H Q)(h:PO X e t):PO X e t':=fun pins s σ H Q I q=>h pins s σ H Q I (i σ H Q q)
theorem T9:PO X none (CA X.K (bE C sub E [])) :=
 S6.imp fun σ H Q ⟨σd,st,R,r,ok,q,hq⟩=>by
 exact hq _ _ ⟨st,.refl,ok,q⟩
theorem S3 (h:PE X e (bM X.K (aG C sub E x))):PO X (some e) (CA X.K (bE C sub E [x])) :=
 (VA h).imp fun σ H Q ⟨σd,st,R,r,ok,q,hq⟩=>by
 refine⟨σd,st,_,r,ok,q,fun v H1 ⟨d,aC,s1,aN,r1,q1⟩=>?_⟩
 cases d with
 |int i=>cases r1.int_inv;exact⟨i,rfl,hq _ _ ⟨aC,s1,aN,q1⟩⟩
 |_=>exact q1.elim
theorem Io {lo hi:Option Expr}{xl xh:List Ex}{p2:Pos}(ha:PE X a (bM X.K (aG C sub E x)))(hl:PO X lo (CA X.K (bE C sub E xl)))(hh:PO X hi (CA X.K (bE C sub E xh))):
 PE X (.Subscript a (.Slice lo hi none p2) pos) (bM X.K (aG C sub E (.sl x xl xh))) :=
 (P6 Z0 ha hl hh).imp fun σ H Q ⟨σd,st,R,r,ok,q,hq⟩=>by
 refine⟨σd,st,_,r,ok,q,fun v H1 ⟨d,aC,s1,aN,r1,q1⟩=>?_⟩
 refine⟨σd,aC,_,r.step ok s1,aN,q1,fun lo H2 ⟨aF,s2,bO,q2⟩=>?_⟩
 refine⟨σd,aF,_,(r.step ok s1).step aN s2,bO,q2,fun hi H3 ⟨bB,s3,nO,q3⟩=>?_⟩
 exact OU nO ((r1.step aN s2).step bO s3) q3 fun v H' z=>hq _ _ (.after ((s1.trans s2).trans s3) z)
noncomputable def vQ (X:Cx)(f:Value)(W:List D->aA->VK->Prop):Prop :=
 ∀(pins:List (Addr×Obj))(s:Shared)(σ:L2.St)(H:Hp)(st:aA)(ds:List D)(vs:List V)(us:List Value)(R:VK),Inv X pins σ H s->aQ X.K st H->aH X.K H ds vs->aO vs us->W ds st R ->
 wpAny (model X.prog X.w) X.A (call f us) (EP X pins σ (QD X.K H st R)) X.xe s
inductive WV (K:PySem.W.Frag)(W:List D->aA->VK->Prop)(vs:List V)(H:Hp)(Q:L2.VK):Prop where
 |mk (ds:List D)(st:aA)(R:VK)(r:aH K H ds vs)(ok:aQ K st H)(q:W ds st R)(hq:∀ v H',QD K H st R v H'->Q v H'):WV K W vs H Q
theorem vQ.call {f:Value}{W:List D->aA->VK->Prop}(h:vQ X f W):sX X f (WV X.K W):=fun pins s σ H vs us Q I rv ⟨ds,st,R,r,ok,q,hq⟩ =>
 aV (h pins s σ H st ds vs us R I ok r rv q) fun u s' ⟨v,H',I',r',z⟩=>⟨v,H',I',r',hq _ _ z⟩
theorem G4 {K:PySem.W.Frag}{W:List D->aA->VK->Prop}{xs:List Ex}{σ:L2.St}{H:Hp}{Q:L2.VK}(h:bM K (fun σ st R=>bE C sub E xs σ st fun ds aB=>W ds aB R) σ H Q):YY (WV K W) (jT K (bE C sub E xs)) σ H Q:=by
 obtain⟨σd,st,R,r,ok,q,hq⟩:=h
 refine⟨σd,st,_,r,ok,q,fun vs H1 ⟨ds,aC,s1,aN,r1,q1⟩=>?_⟩
 exact⟨ds,aC,R,r1,aN,q1,fun v H' z=>hq _ _ (.after s1 z)⟩
theorem Cb {W:List D->aA->VK->Prop}{n:Str}{id:String}{p:Pos}{es:List Expr}{xs:List Ex}(hW:vQ X (.builtin id) W)(hg:Gl X n)(hm:X.mg n=none)(hv:bootBuiltins n=some (.builtin id))(ha:PA X (e::es) (jT X.K (bE C sub E xs)))
 (hn:n ≠"__name__")(hdb:(n==("__debug__" : Str))=false)(he:starEach (e::es) X.env=(false,eval e X.env)::starEach es X.env)(cS:(backTo pos (starEach es X.env)).any (·.1)=false):
 PE X (.Call (.Name n p) (e::es) [] pos) (bM X.K fun σ st R=>bE C sub E xs σ st fun ds aB=>W ds aB R) :=
 (ER hW.call hg hm hv ha hn hdb he cS).imp fun σ H Q h=>G4 h
theorem ZF {W:List D->aA->VK->Prop}{n:Str}{T:String}{p:Pos}{es:List Expr}{xs:List Ex}(hW:vQ X (.type T) W)(hg:Gl X n)(hm:X.mg n=none)(hv:bootBuiltins n=some (.type T))(ha:PA X (e::es) (jT X.K (bE C sub E xs)))
 (hn:n ≠"__name__")(hdb:(n==("__debug__" : Str))=false)(he:starEach (e::es) X.env=(false,eval e X.env)::starEach es X.env)(cS:(backTo pos (starEach es X.env)).any (·.1)=false):
 PE X (.Call (.Name n p) (e::es) [] pos) (bM X.K fun σ st R=>bE C sub E xs σ st fun ds aB=>W ds aB R) :=
 (L7 hW.call hg hm hv ha hn hdb he cS).imp fun σ H Q h=>G4 h
theorem aH.one {K:PySem.W.Frag}{H:Hp}{d:D}{vs:List V}(r:aH K H [d] vs):∃ v,vs=[v]/\Rep K H d v:=by
 cases r with|cons h r=>cases r;exact⟨_,rfl,h⟩
theorem NY {K:PySem.W.Frag}{H:Hp}{st:aA}{d:D}{v:V}{P:Nat->Prop}(ok:aQ K st H)(r:Rep K H d v)(h:nS d st P):∃ n,WK K v H n/\P n:=by
 unfold nS at h
 split at h
 ·obtain⟨a,vs,rfl,f,g⟩:=r.bJ
  exact⟨_,.inr ⟨vs,f,g.length⟩,h⟩
 ·cases r.str_inv
  exact⟨_,⟨by rw[fH];simpa [Str.length]using h.1,by simp [Str.length]⟩,h.2⟩
 ·cases r.bZ
  obtain⟨ds,e,h⟩:=qA ok h
  obtain⟨vs,g1,g2⟩:=ok.lst e
  exact⟨_,.inl ⟨vs,dR.of g1,g2.length⟩,h⟩
 ·obtain⟨a,vs,rfl,f,g⟩:=r.jO
  exact⟨_,.inl ⟨vs,f.sq,g.length⟩,h⟩
 ·exact h.elim
theorem cR:vQ X (.builtin "len") (gB .len):=by
 intro pins s σ H st ds vs us R I ok r rv q
 match ds,q with
 |[d],q =>
 have q:nS d st fun n=>R (.int (n:Nat)) st:=q
 obtain⟨v,rfl,rd⟩:=r.one
 obtain⟨n,l,q⟩:=NY ok rd q
 exact QA pins s σ H _ us _ I rv ⟨v,n,rfl,l,.here ok (.int _) q⟩
 |[],q=>exact(show False from q).elim
 |_::_::_,q=>exact(show False from q).elim
end
end L3
end
section
namespace L3
open PySem PySem.Spec PyProof.Rows L2
section
variable {X:Cx}{pins:List (Addr×Obj)}{σ:L2.St}{H:Hp}{s:Shared}
noncomputable def OF (K:PySem.W.Frag)(H:Hp)(a:Addr)(vs:List V):Prop:=dR K H a vs∨dQ K H a vs
theorem G0 {A:Around}{E:Value->Shared->Prop}{a:Addr}{vs:List V}{Q:Value->Shared->Prop}(hh:A.handled=none)(I:Inv X pins σ H s)(h:OF X.K H a vs)
  (hQ:∀(aD:List Value)(I0:Addr)(fp wr:List Addr)(St:Nat->Heap->Prop)(s₂:Shared),aO vs aD->Walks X.prog X.w A I0 fp wr aD.length (fun i v=>aD[i]? = some v) St->St 0 s₂.heap->(∀ b∈fp,b<s₂.heap.objs.size) ->
   (∀ h' tk,(∀ b o,b∉wr->s₂.heap.get? b=some o->h'.get? b=some o)->Inv X pins σ H { s₂ with heap:=h',toks:=tk })->Q (.ref I0) s₂):wpAny (model X.prog X.w) A (pyIter (.ref a)) Q E s:=by
 rcases h with h|h
 ·obtain⟨aD,r,p,hz⟩:=I.list h
  have hl:=p.isList
  have cN:a<s.heap.objs.size:=by obtain⟨_,e,_⟩:=hl;exact Heap.lt_size e
  have W:=Walks.list (prog:=X.prog) (w:=X.w) (A:=A) hh s.heap.objs.size a (Nat.ne_of_lt cN) aD.toArray
  have e1:aD.toArray.size=aD.length:=by simp
  have e2:(fun(i:Nat)(v:Value)=>aD.toArray[i]? = some v)=fun i v=>aD[i]? = some v:=by funext i v;simp
  rw[e1,e2]at W
  refine wpAny_pyIter_list hl (hQ aD s.heap.objs.size _ _ _ _ r W ⟨⟨_,Heap.get?_push_size _ rfl,rfl,rfl⟩,hl.push _⟩ (fun b hb=>?_) fun h' tk hk=>?_)
  ·show b<(s.heap.push _).objs.size
   rw[Heap.size_push]
   rcases List.mem_cons.mp hb with rfl|hb
   ·exact Nat.lt_succ_self _
   ·rcases List.mem_cons.mp hb with rfl|hb
    ·exact Nat.lt_succ_of_lt cN
    ·cases hb
  ·exact I.kept (t':=tk) (old_kept hk)
 ·obtain⟨aD,r,p,hz⟩:=I.tuple h
  have hl:s.heap.IsTuple a aD.toArray:=p
  have cN:a<s.heap.objs.size:=by obtain⟨_,e,_⟩:=hl;exact Heap.lt_size e
  have W:=Walks.tuple (prog:=X.prog) (w:=X.w) (A:=A) hh s.heap.objs.size a (Nat.ne_of_lt cN) aD.toArray
  have e1:aD.toArray.size=aD.length:=by simp
  have e2:(fun(i:Nat)(v:Value)=>aD.toArray[i]? = some v)=fun i v=>aD[i]? = some v:=by funext i v;simp
  rw[e1,e2]at W
  refine wpAny_pyIter_tuple hl (hQ aD s.heap.objs.size _ _ _ _ r W ⟨⟨_,Heap.get?_push_size _ rfl,rfl,rfl⟩,hl.push _⟩ (fun b hb=>?_) fun h' tk hk=>?_)
  ·show b<(s.heap.push _).objs.size
   rw[Heap.size_push]
   rcases List.mem_cons.mp hb with rfl|hb
   ·exact Nat.lt_succ_self _
   ·rcases List.mem_cons.mp hb with rfl|hb
    ·exact Nat.lt_succ_of_lt cN
    ·cases hb
  ·refine I.kept (t':=tk) fun b o e=>hk b o (fun hm=>?_) (Heap.get?_push_of_some _ e)
   rcases List.mem_cons.mp hm with e1|hm
   ·exact absurd (e1▸Heap.lt_size e) (Nat.lt_irrefl _)
   ·cases hm
theorem nH {K:PySem.W.Frag}{st:aA}{d:D}{v:V}{P:List Nat->List D->Prop}(ok:aQ K st H)(r:Rep K H d v)(h:dN d st P):∃ a vs as ds,v=.ref a/\OF K H a vs/\aH K H ds vs/\P as ds:=by
 unfold dN at h
 split at h
 ·obtain⟨a,vs,rfl,f,g⟩:=r.bJ
  exact⟨a,vs,_,_,rfl,.inr f,g,h⟩
 ·cases r.bZ
  obtain⟨ds,e,h⟩:=dG h
  obtain⟨vs,g1,g2⟩:=ok.lst e
  exact⟨_,vs,_,ds,rfl,.inl (dR.of g1),g2,h⟩
 ·obtain⟨a,vs,rfl,f,g⟩:=r.jO
  exact⟨a,vs,_,_,rfl,.inl f.sq,g,h⟩
 ·exact h.elim
theorem yX {K:PySem.W.Frag}:∀{ds:List D}{vs:List V}{aD:List Value}{bs:List Bool},boolsOf ds=some bs->aH K H ds vs->aO vs aD->aD=bs.map Value.bool
 |_,_,_,_,h,.nil,.nil=>by cases h;rfl
 |d::ds,_,_,bs,h,.cons r1 r2,.cons v1 v2=>by
  cases d with
  |bl b =>
   simp only[boolsOf,Option.map_eq_some_iff]at h
   obtain⟨bs',e,rfl⟩:=h
   cases r1.eO
   cases v1
   rw[yX e r2 v2];rfl
  |_=>simp [boolsOf]at h
theorem all_range (bs:List Bool):(List.range bs.length).all (fun i=>(bs[i]?).getD true)=bs.all id:=by
 induction bs with
 |nil=>rfl
 |cons b bs ih =>
 simp only[List.length_cons,List.range_succ_eq_map,List.all_cons,List.all_map,Function.comp_def,List.getElem?_cons_zero,List.getElem?_cons_succ,Option.getD_some,id]
 rw[<-ih]
theorem any_range (bs:List Bool):(List.range bs.length).any (fun i=>(bs[i]?).getD true)=bs.any id:=by
 induction bs with
 |nil=>rfl
 |cons b bs ih =>
 simp only[List.length_cons,List.range_succ_eq_map,List.any_cons,List.any_map,Function.comp_def,List.getElem?_cons_zero,List.getElem?_cons_succ,Option.getD_some,id]
 rw[<-ih]
theorem yA {prog:Program}{w:World}{A:Around}(bs:List Bool):TruthOf prog w A (fun i v=>(bs.map Value.bool)[i]? = some v) (fun i=>(bs[i]?).getD true):=fun i v s Q E hP hQ=>by
 have hP:(bs.map Value.bool)[i]? = some v:=hP
 rw[List.getElem?_map,Option.map_eq_some_iff]at hP
 obtain⟨b,e,rfl⟩:=hP
 simp only[e,Option.getD_some]at hQ
 exact wpAny_truthy_bool hQ
theorem jP (hh:X.A.handled=none):vQ X (.builtin "all") (gB .all):=by
 intro pins s σ H st ds vs us R I ok r rv q
 match ds,q with
 |[d],q =>
 have q:gB .all [d] st R:=q
 rw[M8]at q
 obtain⟨v,rfl,rd⟩:=r.one
 obtain⟨u,rfl,ru⟩:=vals1 rv
 obtain⟨a,ws,as,xs,rfl,sa,g,q⟩:=nH ok rd q
 cases ru
 obtain⟨bs,e,q⟩:=eB q
 refine call_all_walk (G0 (A:=X.A.in1) hh I sa fun aD I0 fp wr St s₂ rr W h0 hfp hk=>?_)
 cases yX e g rr
 refine⟨I0,fp,wr,_,_,St,_,rfl,W,h0,yA bs,fun h' tk hk'=>⟨.bl _,H,hk h' tk hk',rfl,?_⟩⟩
 rw[List.length_map,all_range]
 exact .here ok (.bl _) q
 |[],q=>exact(show False from q).elim
 |_::_::_,q=>exact(show False from q).elim
theorem CY (hh:X.A.handled=none):vQ X (.builtin "any") (gB .any):=by
 intro pins s σ H st ds vs us R I ok r rv q
 match ds,q with
 |[d],q =>
 have q:gB .any [d] st R:=q
 rw[MA]at q
 obtain⟨v,rfl,rd⟩:=r.one
 obtain⟨u,rfl,ru⟩:=vals1 rv
 obtain⟨a,ws,as,xs,rfl,sa,g,q⟩:=nH ok rd q
 cases ru
 obtain⟨bs,e,q⟩:=eB q
 refine call_any_walk (G0 (A:=X.A.in1) hh I sa fun aD I0 fp wr St s₂ rr W h0 hfp hk=>?_)
 cases yX e g rr
 refine⟨I0,fp,wr,_,_,St,_,rfl,W,h0,yA bs,fun h' tk hk'=>⟨.bl _,H,hk h' tk hk',rfl,?_⟩⟩
 rw[List.length_map,any_range]
 exact .here ok (.bl _) q
 |[],q=>exact(show False from q).elim
 |_::_::_,q=>exact(show False from q).elim
theorem A5:vQ X (.type "list") (gB .list):=by
 intro pins s σ H st ds vs us R I ok r rv q
 match ds,q with
 |[d],q =>
 have q:gB .list [d] st R:=q
 rw[IV]at q
 obtain⟨v,rfl,rd⟩:=r.one
 obtain⟨a,ws,as,xs,rfl,sa,g,q⟩:=nH ok rd q
 exact FN pins s σ H _ us _ I rv ⟨a,ws,rfl,sa,fun l hl=>.fR ok g hl q.2⟩
 |[],q=>exact(show False from q).elim
 |_::_::_,q=>exact(show False from q).elim
theorem kK:vQ X (.type "tuple") (gB .tuple):=by
 intro pins s σ H st ds vs us R I ok r rv q
 match ds,q with
 |[d],q =>
 have q:gB .tuple [d] st R:=q
 rw[GL]at q
 obtain⟨v,rfl,rd⟩:=r.one
 obtain⟨a,ws,as,xs,rfl,sa,g,q⟩:=nH ok rd q
 rcases sa with sa|sa
 ·exact uB pins s σ H _ us _ I rv ⟨a,ws,rfl,.inl ⟨sa,fun l hl=>.EX ok g hl q.2⟩⟩
 ·exact uB pins s σ H _ us _ I rv ⟨a,ws,rfl,.inr ⟨sa,.here ok (.tup sa g) q.2⟩⟩
 |[],q=>exact(show False from q).elim
 |_::_::_,q=>exact(show False from q).elim
theorem Ja {K:PySem.W.Frag}{a:Addr}{vs:List V}(h:H a=some (.lst vs)):MP K "list" (.ref a) H:=.inl ⟨rfl,vs,dR.of h⟩
theorem xV (l:Addr)(items:Array Value)(n:Nat)(b:Addr)(items2:Array Value)(n2:Nat)(dd:Option Addr)(sl:Array (Option Value))(hs0:¬(!items.isEmpty&&Builtin.List.listTooLong (items.size+items2.size))=true)(hs1:items.size<=sizeLine)(hs2:items.size+items2.size<=sizeLine+1):
 Meets (Builtin.«list.extend» ⟨[.ref l,.ref b],[]⟩) (fun _ R s=>s.heap.get? l=some { cls:=.type "list", dict:=none,data:=.seq items n,slots:=#[] }/\s.heap.get? b=some { cls:=.type "tuple", dict:=dd,data:=.seq items2 n2,slots:=sl }/\R (.ok (.ret Value.none)) { s with heap:=s.heap.update l (Obj.mapSeq fun x=>x++items2),toks:=s.toks }) :=
 .of_wp fun prog w A R s h=>by
 obtain⟨hp,g,d,tk,os⟩:=s;obtain⟨hl,hb,h⟩:=h;have f1:=AutoSeq1.idx_int;have f2:=AutoSeq1.sub_tuple_tuple;have f3:=AutoSeq1.sub_list_list;have f4:=AutoSeq1.sub_tuple_list;have f5:=AutoSeq1.sub_list_tuple;
 have hz':(items++items2).size<=sizeLine+1:=by rw[Array.size_append];exact hs2
 wp_walk using(wpAny_updateSeq hl rfl (hz:=hs1) (_hz':=hz')),AutoSeq1.wpAny_loadPart' hl,AutoSeq1.wpAny_loadPart' hb;exact⟨_,rfl,h⟩
noncomputable def QZ (K:PySem.W.Frag):V->List V->Hp->L2.VK->Prop:=fun x vs H Q=>∃ l b xs zs,x=.ref l/\vs=[.ref b]/\H l=some (.lst xs)/\dQ K H b zs/\xs.length+zs.length<=sizeLine/\Q .non (upd H l (.lst (xs++zs)))
theorem KL:R0 X "list.extend" (QZ X.K):=by
 intro pins s σ H x vs v us Q I rx rv h
 obtain⟨l,b,xs,zs,rfl,rfl,hH,hB,hz,q⟩:=h
 cases rx
 obtain⟨u,rfl,ru⟩:=rv.one
 cases ru
 obtain⟨z,aD,n,r,hl,e⟩:=I.sY hH
 obtain⟨mC,r2,p2,_⟩:=I.tuple hB
 have hl2:=r2.length
 obtain⟨⟨cls,dd,data,sl⟩,ho,hc,n2,hd⟩:=id p2
 simp only at hc hd
 subst hc hd
 have jH:aD.toArray.size+mC.toArray.size<=sizeLine:=by rw[List.size_toArray,List.size_toArray];omega
 have hlong:¬(!aD.toArray.isEmpty&&Builtin.List.listTooLong (aD.toArray.size+mC.toArray.size))=true:=by
  rw[zF jH,Bool.and_false]
  exact Bool.false_ne_true
 refine call_meets F.slot_list_extend ⟨_,e,rfl⟩ F.entry_list_extend (F.args_list_extend_2 _ _)
  (xV l aD.toArray n b mC.toArray n2 dd sl hlong (by rw[List.size_toArray];omega) (by omega)) ⟨e,ho,?_⟩
 refine⟨.non,_,I.K1 (kC:=aD++mC) hH e (by simp) (r.append r2) ?_,rfl,q⟩
 rw[List.length_append]
 omega
noncomputable def FE (X:Cx)(T id:String)(W:D->List D->aA->VK->Prop):Prop :=
 ∀(pins:List (Addr×Obj))(s:Shared)(σ:L2.St)(H:Hp)(st:aA)(d:D)(ds:List D)(v:V)(vs:List V)(u:Value)(us:List Value)(R:VK),Inv X pins σ H s->aQ X.K st H->Rep X.K H d v->RelV v u->aH X.K H ds vs->aO vs us->W d ds st R ->
 wpAny (model X.prog X.w) X.A (call (.builtin id) (u::us)) (EP X pins σ (QD X.K H st R)) X.xe s
inductive V0 (K:PySem.W.Frag)(W:D->List D->aA->VK->Prop)(v:V)(vs:List V)(H:Hp)(Q:L2.VK):Prop where
 |mk (d:D)(ds:List D)(st:aA)(R:VK)(r:Rep K H d v)(rs:aH K H ds vs)(ok:aQ K st H)(q:W d ds st R)(hq:∀ v H',QD K H st R v H'->Q v H'):V0 K W v vs H Q
theorem FE.mt {T id:String}{W:D->List D->aA->VK->Prop}(h:FE X T id W):R0 X id (V0 X.K W):=fun pins s σ H v vs u us Q I rv rvs ⟨d,ds,st,R,r,rs,ok,q,hq⟩ =>
 aV (h pins s σ H st d ds v vs u us R I ok r rv rs rvs q) fun u s' ⟨v,H',I',r',z⟩=>⟨v,H',I',r',hq _ _ z⟩
theorem M4:FE X "list" "list.append" (iQ .append):=by
 intro pins s σ H st d ds v vs u us R I ok r rv rs rvs q
 cases d<;>first|exact(show False from q).elim|skip
 match ds,q with
 |[d],q =>
 cases r.bZ
 obtain⟨w,rfl,rd⟩:=rs.one
 obtain⟨xs,e,q⟩:=dG (st:=st) q
 obtain⟨ys,g1,g2⟩:=ok.lst e
 exact L2.qI pins s σ H _ _ u us _ I rv rvs ⟨_,ys,w,rfl,rfl,g1,by rw[fH,<-g2.length];exact q.1,.set ok e (g2.append (.cons rd .nil)) .non q.2⟩
 |[],q=>exact(show False from q).elim
 |_::_::_,q=>exact(show False from q).elim
theorem N0:FE X "list" "list.extend" (iQ .extend):=by
 intro pins s σ H st d ds v vs u us R I ok r rv rs rvs q
 cases d<;>first|exact(show False from q).elim|skip
 match ds,q with
 |[d],q =>
 cases r.bZ
 obtain⟨w,rfl,rd⟩:=rs.one
 obtain⟨xs,e,q⟩:=dG (st:=st) q
 obtain⟨ys,g1,g2⟩:=ok.lst e
 have q:vV d st fun zs=>xs.length+zs.length<=bI/\R .non (put st _ (.lst (xs++zs))):=q
 cases d<;>first|exact(show False from q).elim|skip
 ·obtain⟨b,ws,rfl,f,g⟩:=rd.bJ
  exact KL pins s σ H _ _ u us _ I rv rvs ⟨_,b,ys,ws,rfl,rfl,g1,f,by rw[fH,<-g2.length,<-g.length];exact q.1,.set ok e (g2.append g) .non q.2⟩
 ·cases rd.bZ
  obtain⟨zs,e2,q⟩:=dG (st:=st) q
  obtain⟨ws,k1,k2⟩:=ok.lst e2
  exact L2.vM pins s σ H _ _ u us _ I rv rvs ⟨_,_,ys,ws,rfl,rfl,g1,k1,by rw[fH,<-g2.length,<-k2.length];exact q.1,.set ok e (g2.append k2) .non q.2⟩
 |[],q=>exact(show False from q).elim
 |_::_::_,q=>exact(show False from q).elim
theorem YX:FE X "list" "list.pop" (iQ .pop):=by
 intro pins s σ H st d ds v vs u us R I ok r rv rs rvs q
 cases d<;>first|exact(show False from q).elim|skip
 match ds,q with
 |[],q =>
 cases r.bZ
 cases rs
 obtain⟨xs,e,q⟩:=dG (st:=st) q
 obtain⟨ys,g1,g2⟩:=ok.lst e
 obtain⟨d,e2,q⟩:=eB q
 obtain⟨w,k1,k2⟩:=g2.get e2
 exact L2.GI pins s σ H _ _ u us _ I rv rvs ⟨_,ys,w,rfl,rfl,g1,by rw[<-g2.length];exact k1,.set ok e g2.dropLast k2 q⟩
 |_::_,q=>exact(show False from q).elim
theorem NX {K:PySem.W.Frag}{m:MT}{st:aA}{d:D}{v:V}(hm:m≠.index)(ok:aQ K st H)(r:Rep K H d v)(h:vE m d st):MP K "list" v H:=by
 unfold vE at h
 split at h
 all_goals first|(exact h.elim;done)|(exact absurd rfl hm;done)|skip
 all_goals
 cases r.bZ
 obtain⟨ds,e,_⟩:=dG h
 obtain⟨vs,g,_⟩:=ok.lst e
 exact Ja g
end
section
variable {X:Cx}{C:aW}{sub:Nat->Nat->Bool}{E:XK}{a b c e o:Expr}{x y z:Ex}{pos apos jB:Pos}
theorem M2 {m:MT}{name:Str}{id:String}{es:List Expr}{xs:List Ex}(hmi:m≠.index)(slot:Slot "list" name id)(hty:typeOf (.builtin id)=pure (.type "method_descriptor"))(hm:FE X "list" id (iQ m))(ho:PE X o (bM X.K (aG C sub E x)))(ha:PA X (e::es) (jT X.K (bE C sub E xs)))
 (iS:attributeBase o name X.env (eval o X.env)=eval o X.env)
 (tZ:((backTo jB (starEach (e::es) X.env)).all (fun x=>!x.1)&&(backToKw jB (keywordEach [] X.env)).all (fun x=>x.1.isSome)&&decide ((e::es).length+([]:List Keyword).length+(if([]:List Keyword).isEmpty then 0 else 1)<30))=true)(iT:(apos.endLine==jB.line)=true)
 (hs:starEach (e::es) X.env=(false,eval e X.env)::starEach es X.env)(pY:(backTo jB (starEach es X.env)).any (·.1)=false):
 PE X (.Call (.Attribute o name apos) (e::es) [] jB) (bM X.K (aG C sub E (.cC m x xs))) :=
 (Ei PySem.F.plainAttrs_list slot hty hm.mt ho ha iS tZ iT hs pY).imp fun σ H Q ⟨σd,st,R,r,ok,q,hq⟩=>by
 refine⟨σd,st,_,r,ok,q,fun v H1 ⟨d,aC,s1,aN,r1,q1⟩=>⟨NX hmi aN r1 q1.1,?_⟩⟩
 refine⟨σd,aC,_,r.step ok s1,aN,q1.2,fun vs H2 ⟨ds,aF,s2,bO,r2,q2⟩=>?_⟩
 exact⟨d,ds,aF,R,r1.step aN s2,r2,bO,q2,fun v H' z=>hq _ _ (.after (s1.trans s2) z)⟩
theorem TM {m:MT}{name:Str}{id:String}(hmi:m≠.index)(slot:Slot "list" name id)(hty:typeOf (.builtin id)=pure (.type "method_descriptor"))(hm:FE X "list" id (iQ m))(ho:PE X o (bM X.K (aG C sub E x)))
 (iS:attributeBase o name X.env (eval o X.env)=eval o X.env)(iT:(apos.endLine==jB.line)=true):
 PE X (.Call (.Attribute o name apos) [] [] jB) (bM X.K (aG C sub E (.cC m x []))) :=
 (V9 PySem.F.plainAttrs_list slot hty hm.mt ho iS iT).imp fun σ H Q ⟨σd,st,R,r,ok,q,hq⟩=>by
 refine⟨σd,st,_,r,ok,q,fun v H1 ⟨d,aC,s1,aN,r1,q1⟩=>⟨NX hmi aN r1 q1.1,?_⟩⟩
 exact⟨d,[],aC,R,r1,.nil,aN,q1.2,fun v H' z=>hq _ _ (.after s1 z)⟩
inductive eR (K:PySem.W.Frag)(C:aW)(f:Nat)(vs:List V)(H:Hp)(Q:L2.VK)(E:L2.XK):Prop where
 |mk (ds:List D)(st:aA)(R:VK)(r:aH K H ds vs)(ok:aQ K st H)(q:C f ds st R (fun _ _=>False))(hq:∀ v H',QD K H st R v H'->Q v H'):eR K C f vs H Q E
theorem XF {CX:yH}{k:Nat}{f:Addr}{fid:Nat}{fd:FuncData}{ps:List Str}{n:Str}{p:Pos}{es:List Expr}{xs:List Ex}(F:eI X.prog X.w X.K X.mg X.base CX k f fd ps (eR X.K C fid))(hr:cK k X.A)(hg:Gl X n)(hm:X.mg n=some (.ref f))
 (hk:PySem.W.keepIn X.K (.ref f)=true)(hb:Binds X.K fd ps [])(hx:nG CX X E0)(ha:PA X (e::es) (jT X.K (bE C sub (fun _ _=>False) xs)))
 (hdb:(n==("__debug__" : Str))=false)(he:starEach (e::es) X.env=(false,eval e X.env)::starEach es X.env)(cS:(backTo pos (starEach es X.env)).any (·.1)=false):
 PE X (.Call (.Name n p) (e::es) [] pos) (bM X.K (aG C sub (fun _ _=>False) (.call fid xs))) :=
 (VR F hr hg hm hk hb .nil hx ha hdb he cS).imp fun σ H Q ⟨σd,st,R,r,ok,q,hq⟩=>by
 refine⟨σd,st,_,r,ok,q,fun vs H1 ⟨ds,aC,s1,aN,r1,q1⟩=>?_⟩
 show eR X.K C fid (vs++[]) H1 Q E0
 rw[List.append_nil]
 exact⟨ds,aC,R,r1,aN,q1,fun v H' z=>hq _ _ (.after s1 z)⟩
end
end L3
end
section
namespace L3
open PySem PySem.Spec PyProof.Rows L2
noncomputable abbrev EF:XK:=fun _ _=>False
structure zR (K:PySem.W.Frag)(H:Hp)(st:aA)(P:fW)(D:Ends):Prop where
 nx:∀ σ' H' dF aB,cZ K H' dF σ'->Step H st H' aB->aQ K aB H'->P.nx dF aB->D.nx σ' H'
 rt:∀ v H',QD K H st P.rt v H'->D.rt v H'
 bk:∀ σ' H' dF aB,cZ K H' dF σ'->Step H st H' aB->aQ K aB H'->P.bk dF aB->D.bk σ' H'
 ct:∀ σ' H' dF aB,cZ K H' dF σ'->Step H st H' aB->aQ K aB H'->P.ct dF aB->D.ct σ' H'
 ex:∀ c σd st,¬P.ex c σd st
theorem zR.after {K:PySem.W.Frag}{H H1:Hp}{st aC:aA}{P:fW}{D:Ends}(h:zR K H st P D)(s:Step H st H1 aC):zR K H1 aC P D :=
 ⟨fun σ' H' dF aB r t ok q=>h.nx σ' H' dF aB r (s.trans t) ok q,fun v H' z=>h.rt v H' (.after s z),fun σ' H' dF aB r t ok q=>h.bk σ' H' dF aB r (s.trans t) ok q,fun σ' H' dF aB r t ok q=>h.ct σ' H' dF aB r (s.trans t) ok q,h.ex⟩
inductive gE (K:PySem.W.Frag)(ts:fW->St->aA->Prop)(D:Ends)(σ:L2.St)(H:Hp):Prop where
 |mk (σd:St)(st:aA)(P:fW)(r:cZ K H σd σ)(ok:aQ K st H)(q:ts P σd st)(h:zR K H st P D):gE K ts D σ H
section
variable {X:Cx}{C:aW}{sub:Nat->Nat->Bool}{a b c e:Expr}{x y z:Ex}{pos:Pos}{s:Stmt}{ss:List Stmt}{xs:List Sx}{sx:Sx}
theorem Aw:jI X [] (gE X.K (cL C sub [])) :=
 TJ.imp fun D σ H ⟨σd,st,P,r,ok,q,h⟩=>by
 exact h.nx _ _ _ _ r .refl ok q
theorem X8 (h1:PS X s (gE X.K (wpS C sub sx)))(h2:jI X ss (gE X.K (cL C sub xs))):jI X (s::ss) (gE X.K (cL C sub (sx::xs))) :=
 (PU h1 h2).imp fun D σ H ⟨σd,st,P,r,ok,q,h⟩=>by
 exact⟨σd,st,_,r,ok,q,⟨fun σ' H' dF aB r' s' eQ q'=>⟨dF,aB,P,r',eQ,q',h.after s'⟩,h.rt,h.bk,h.ct,h.ex⟩⟩
theorem pS {P:fW}{σd:St}{st:aA}{x:Ex}{Q:VK}(hC:bL C C)(he:∀ c σd st,¬P.ex c σd st)(q:aG C sub (fun c aB=>P.ex c σd aB) x σd st Q):aG C sub EF x σd st Q :=
 aS hC (fun c st z=>he _ _ _ z) x (fun _ _ z=>z) q
theorem Cd {P:fW}{σd:St}{st:aA}{xs:List Ex}{Q:List D->aA->Prop}(hC:bL C C)(he:∀ c σd st,¬P.ex c σd st)(q:bE C sub (fun c aB=>P.ex c σd aB) xs σd st Q):bE C sub EF xs σd st Q :=
 cG hC (fun c st z=>he _ _ _ z) xs (fun _ _ z=>z) q
theorem Ej (hC:bL C C)(h:PE X e (bM X.K (aG C sub EF x))):PS X (.Return (some e) pos) (gE X.K (wpS C sub (.ret x))) :=
 (ZI h).imp fun D σ H ⟨σd,st,P,r,ok,q,h⟩=>by
 exact⟨σd,st,_,r,ok,pS hC h.ex q,h.rt⟩
theorem YJ:PS X (.Return none pos) (gE X.K (wpS C sub (.ret (.c .non)))) :=
 VM.imp fun D σ H ⟨σd,st,P,r,ok,q,h⟩=>by
 exact h.rt _ _ (.here ok .non q)
theorem Hb (hC:bL C C)(h:PE X e (bM X.K (aG C sub EF x)))(hs:swapsWith e none pos.line X.env=pure false):PS X (.Expr e pos) (gE X.K (wpS C sub (.ex x))) :=
 (SJ h hs).imp fun D σ H ⟨σd,st,P,r,ok,q,h⟩=>by
 exact⟨σd,st,_,r,ok,pS hC h.ex q,fun v H' ⟨d,aB,s',eQ,_,q'⟩=>h.nx _ _ _ _ (r.step ok s') s' eQ q'⟩
theorem Gp {as bs:List Stmt}{ax bx:List Sx}(hC:bL C C)(hc:PT X c (iR X.K (aG C sub EF x)))(ha:jI X as (gE X.K (cL C sub ax)))(hb:jI X bs (gE X.K (cL C sub bx))):PS X (.If c as bs pos) (gE X.K (wpS C sub (.iff x ax bx))) :=
 (Er hc ha hb).imp fun D σ H ⟨σd,st,P,r,ok,q,h⟩=>by
 refine⟨σd,st,fun k aB=>if k=true then cL C sub ax P σd aB else cL C sub bx P σd aB,r,ok,pS hC h.ex q,fun k H' ⟨aB,s',eQ,q'⟩=>?_⟩
 cases k with
 |true=>exact⟨σd,aB,P,r.step ok s',eQ,q',h.after s'⟩
 |false=>exact⟨σd,aB,P,r.step ok s',eQ,q',h.after s'⟩
theorem Z6 {cl:Nat}{es:List Ex}(hC:bL C C)(hn:∀ σd st,¬bE C sub EF es σd st fun _ _=>False):PS X s (gE X.K (wpS C sub (.rais cl es))) :=
 QT.imp fun D σ H ⟨σd,st,P,r,ok,q,h⟩=>by
 exact hn σd st (cG hC (fun c st z=>(h.ex _ _ _ z).elim) es (fun _ _ z=>(h.ex _ _ _ z).elim) q)
inductive GQ (K:PySem.W.Frag)(g:D->St->aA->(St->aA->Prop)->Prop)(v:V)(σ:L2.St)(H:Hp)(Q:L2.St->Hp->Prop):Prop where
 |mk (d:D)(σd:St)(st:aA)(M:St->aA->Prop)(r:Rep K H d v)(sr:cZ K H σd σ)(ok:aQ K st H)(q:g d σd st M)(hq:∀ σ' H' dF aB,cZ K H' dF σ'->Step H st H' aB->aQ K aB H'->M dF aB->Q σ' H'):GQ K g v σ H Q
theorem _root_.L2.PG.imp {X:Cx}{e:Expr}{t t':TG}(i:∀ v σ H Q,t' v σ H Q->t v σ H Q)(h:PG X e t):PG X e t':=fun pins s σ H v u Q I r q=>h pins s σ H v u Q I r (i v σ H Q q)
theorem OL {E:XK}{i:Nat}(h:PG X e (zY i)):PG X e (GQ X.K (lL C sub E (.nm i))) :=
 h.imp fun v σ H Q ⟨d,σd,st,M,rd,r,ok,q,hq⟩=>by
 exact hq _ _ _ _ (r.set i rd) .refl ok q
theorem KU {tg:Expr}{t:Tg}(hC:bL C C)(he:PE X e (bM X.K (aG C sub EF x)))(hg:PG X tg (GQ X.K (lL C sub EF t)))
 (hs:swapsWithSole [tg] e pos.line X.env=pure false)(hw:swappedStores [tg] e X.env=pure none)(h1:(assignEach [tg] X.env).map (·.2)=[assign tg X.env]):PS X (.Assign [tg] e pos) (gE X.K (wpS C sub (.asg t x))) :=
 (ZS he hg hs hw h1).imp fun D σ H ⟨σd,st,P,r,ok,q,h⟩=>by
 refine⟨σd,st,_,r,ok,pS hC h.ex q,fun v H' ⟨d,aB,s',eQ,rd,q'⟩=>?_⟩
 refine⟨d,σd,aB,P.nx,rd,r.step ok s',eQ,tM hC (fun c st z=>h.ex _ _ _ z) (fun _ _ z=>z) t q',fun σ2 H2 qV aF r2 s2 bO q2=>?_⟩
 exact h.nx _ _ _ _ r2 (s'.trans s2) bO q2
theorem US {bs:List Stmt}{bx:List Sx}(hC:bL C C)(hp:PassesOwn (model X.prog X.w) X.A X.env X.xe)(hc:PT X c (iR X.K (aG C sub EF x)))(hb:jI X bs (gE X.K (cL C sub bx))):PS X (.While c bs [] pos) (gE X.K (wpS C sub (.whl x bx))) :=
 (QS hp hc hb).imp fun D σ H ⟨σd,st,P,r,ok,q,h⟩=>by
 obtain⟨n,q⟩:=q
 refine⟨fun m σ' H'=>∃ dF aB,cZ X.K H' dF σ'/\Step H st H' aB/\aQ X.K aB H'/\nJ _ m dF aB,⟨n,σd,st,r,.refl,ok,q⟩,fun m σ1 H1 ⟨σd1,aC,r1,s1,aN,q1⟩=>?_⟩
 cases m with
 |zero=>exact q1.elim
 |succ m =>
  simp only[nJ]at q1
  refine⟨σd1,aC,fun k aB=>if k=true then cL C sub bx _ σd1 aB else P.nx σd1 aB,r1,aN,pS hC h.ex q1,fun k H2 ⟨aF,s2,bO,q2⟩=>?_⟩
  cases k with
  |false=>exact h.nx _ _ _ _ (r1.step aN s2) (s1.trans s2) bO q2
  |true =>
  refine⟨fun σ' H'=>∃ dF aB,cZ X.K H' dF σ'/\Step H st H' aB/\aQ X.K aB H'/\nJ _ m dF aB,fun σ' H' z=>⟨m,Nat.lt_succ_self _,z⟩,?_⟩
  refine⟨σd1,aF,_,r1.step aN s2,bO,q2,⟨fun σ' H' dF aB r' s' eQ q'=>⟨dF,aB,r',(s1.trans s2).trans s',eQ,q'⟩,fun v H' z=>h.rt _ _ (.after (s1.trans s2) z),fun σ' H' dF aB r' s' eQ q'=>h.nx _ _ _ _ r' ((s1.trans s2).trans s') eQ q',
   fun σ' H' dF aB r' s' eQ q'=>⟨dF,aB,r',(s1.trans s2).trans s',eQ,q'⟩,h.ex⟩⟩
end
end L3
end
section
namespace L3
open PySem PySem.Spec PyProof.Rows L2
noncomputable def RR (x:Str):It:=⟨fun i _=>i<x.cps.size,fun i H v H'=>H'=H/\∃ c,x.cps[i]? = some c/\v=.str ⟨#[c]⟩,fun i _=>x.cps.size<=i⟩
theorem EW {P:Program}{w:World}{K:PySem.W.Frag}{tg:Expr}(it:Addr)(x:Str)(t:Tok)(ty:String)(hty:["enumerate","zip","dict_itemiterator","dict_reverseitemiterator","odict_iterator","itertools.zip_longest","itertools.pairwise"].contains ty=false)
  (W:∀ A:Around,A.handled=none->Walks P w A it [it] [it] x.cps.size (SignAt x) (fun i h=>h.IsStrIter it ty x t i))
  (hd:∀(A:Around)(i:Nat)(s:Shared)(Q:Option Value->Shared->Prop)(E:Value->Shared->Prop),A.handled=none->s.heap.IsStrIter it ty x t i->x.cps.size<=i->(∀ h',(∀ b o,b≠it->s.heap.get? b=some o->h'.get? b=some o)->Q none { s with heap:=h' })->wpAny (model P w) A (pyNext (.ref it)) Q E s)
  (hself:∀(A:Around)(i:Nat)(s:Shared)(Q:Value->Shared->Prop)(E:Value->Shared->Prop),s.heap.IsStrIter it ty x t i->Q (.ref it) s->wpAny (model P w) A (pyIter (.ref it)) Q E s):Turn P w K tg (RR x) [it] it (fun i h=>h.IsStrIter it ty x t i) where
 mem:=by simp
 obj:=fun i h st b hb=>by
  have e:b=it:=by simpa using hb
  subst e
  obtain⟨o,e,c,d⟩:=st
  exact⟨o,e,fun v z=>by rw[d]at z;cases z⟩
 keep:=fun i h h' st k=>let⟨o,e,r⟩:=st;⟨o,k it (by simp) o e,r⟩
 item:=by
  intro X hP hw hK hc i pins s σ H E I hf st hg
  subst hP hw hK
  obtain⟨f0,f1,f2,f3,f4,f5⟩:=hf it (by simp)
  refine(W X.A (I.ok.hd hc)).item i s _ _ hg st fun v h' tk hv aB kk=>?_
  obtain⟨c,u,hc',rfl⟩:=hv
  have I1:Inv X pins σ H { s with heap:=h',toks:=tk }:=I.turned (fun b o hb e=>kk b o (by simpa using hb) e) f0 f1 f3 f4 f5
  obtain⟨o,e,c1,d⟩:=id aB
  exact⟨_,rfl,AD (s:={ s with heap:=h',toks:=tk }) e c1 d hty ⟨.str ⟨#[c]⟩,H,I1,⟨u,rfl⟩,⟨rfl,c,hc',rfl⟩,aB,fun b hb=>(hf b hb).1⟩⟩
 done:=by
  intro X hP hw hK hc i pins s σ H E I hf st hg
  subst hP hw hK
  obtain⟨f0,f1,f2,f3,f4,f5⟩:=hf it (by simp)
  exact hd X.A i s _ _ (I.ok.hd hc) st hg fun h' eb=>⟨rfl,I.turned (t':=s.toks) (fun b o hb e=>eb b o hb e) f0 f1 f3 f4 f5⟩
 self:=fun A i s Q E st h=>hself A i s Q E st h
structure yG (K:PySem.W.Frag)(J:It)(as:List Nat)(xs:List D)(H1:Hp)(aC:aA):Prop where
 go:∀ i H st d,Step H1 aC H st->aQ K st H->same as aC st->xs[i]? = some d->J.go i H
 yld:∀ i H st d x H',Step H1 aC H st->aQ K st H->same as aC st->xs[i]? = some d->J.yld i H x H'->Step H st H' st/\aQ K st H'/\Rep K H' d x
 stop:∀ i H st,Step H1 aC H st->aQ K st H->same as aC st->xs.length<=i->J.stop i H
inductive QJ (K:PySem.W.Frag)(H:Hp)(st:aA)(M:List Nat->List D->aA->Prop)(J:It)(H1:Hp):Prop where
 |mk (as:List Nat)(xs:List D)(aC:aA)(s:Step H st H1 aC)(ok:aQ K aC H1)(j:yG K J as xs H1 aC)(q:M as xs aC):QJ K H st M J H1
inductive zA (K:PySem.W.Frag)(te:St->aA->(List Nat->List D->aA->Prop)->Prop)(σ:L2.St)(H:Hp)(R:It->Hp->Prop):Prop where
 |mk (σd:St)(st:aA)(M:List Nat->List D->aA->Prop)(r:cZ K H σd σ)(ok:aQ K st H)(q:te σd st M)(hq:∀ J H1,QJ K H st M J H1->R J H1):zA K te σ H R
section
variable {K:PySem.W.Frag}{H1:Hp}{aC:aA}{a:Addr}{xs:List D}{vs:List V}
theorem VP (aN:aQ K aC H1)(f:dQ K H1 a vs)(g:aH K H1 xs vs):yG K (XN K a) [] xs H1 aC where
 go:=fun i H st d s ok _ e=>let⟨v,e1,_⟩:=g.get e;⟨vs,v,tI aN s f,e1⟩
 yld:=fun i H st d x H' s ok _ e ⟨e',h⟩=>by
  subst e'
  obtain⟨v,e1,e2⟩:=g.get e
  have:=h vs (tI aN s f)
  rw[e1]at this;cases this
  exact⟨.refl,ok,e2.step aN s⟩
 stop:=fun i H st s ok _ l=>⟨vs,tI aN s f,by rw[<-g.length];exact l⟩
theorem QI (aN:aQ K aC H1)(f:kQ K H1 a vs)(g:aH K H1 xs vs):yG K (RT K a) [] xs H1 aC where
 go:=fun i H st d s ok _ e=>let⟨v,e1,_⟩:=g.get e;⟨vs,v,(qK aN s f).sq,e1⟩
 yld:=fun i H st d x H' s ok _ e ⟨e',h⟩=>by
  subst e'
  obtain⟨v,e1,e2⟩:=g.get e
  have:=h vs (qK aN s f).sq
  rw[e1]at this;cases this
  exact⟨.refl,ok,e2.step aN s⟩
 stop:=fun i H st s ok _ l=>⟨vs,(qK aN s f).sq,by rw[<-g.length];exact l⟩
theorem UO (aN:aQ K aC H1)(e0:aC a=some (.lst xs)):yG K (RT K a) [a] xs H1 aC where
 go:=fun i H st d s ok sm e=>by
  have e':st a=some (.lst xs):=(sm a (by simp)).trans e0
  obtain⟨us,g1,g2⟩:=ok.lst e'
  obtain⟨v,e1,_⟩:=g2.get e
  exact⟨us,v,dR.of g1,e1⟩
 yld:=fun i H st d x H' s ok sm e ⟨e',h⟩=>by
  subst e'
  have e':st a=some (.lst xs):=(sm a (by simp)).trans e0
  obtain⟨us,g1,g2⟩:=ok.lst e'
  obtain⟨v,e1,e2⟩:=g2.get e
  have:=h us (dR.of g1)
  rw[e1]at this;cases this
  exact⟨.refl,ok,e2⟩
 stop:=fun i H st s ok sm l=>by
  have e':st a=some (.lst xs):=(sm a (by simp)).trans e0
  obtain⟨us,g1,g2⟩:=ok.lst e'
  exact⟨us,dR.of g1,by rw[<-g2.length];exact l⟩
theorem OJ (lo:Int)(n:Nat):yG K (RK lo n) [] (kD lo n) H1 aC where
 go:=fun i H st d s ok _ e=>by
  have:=(List.getElem?_eq_some_iff.mp e).1
  show i<n
  simpa [kD]using this
 yld:=fun i H st d x H' s ok _ e ⟨e',h⟩=>by
  subst e' h
  simp only[kD,List.getElem?_map,Option.map_eq_some_iff]at e
  obtain⟨k,e1,rfl⟩:=e
  have:k=i:=by
   rw[List.getElem?_eq_some_iff]at e1
   obtain⟨_,e2⟩:=e1
   simp at e2
   exact e2.symm
  subst this
  exact⟨.refl,ok,.int _⟩
 stop:=fun i H st s ok _ l=>by show n<=i;simpa [kD]using l
theorem IM (x:List Nat):yG K (RR ⟨x.toArray⟩) [] (x.map fun c=>.str [c]) H1 aC where
 go:=fun i H st d s ok _ e=>by
  have:=(List.getElem?_eq_some_iff.mp e).1
  show i<(⟨x.toArray⟩:Str).cps.size
  simpa using this
 yld:=fun i H st d v H' s ok _ e ⟨e',c,ec,ev⟩=>by
  subst e' ev
  simp only[List.getElem?_map,Option.map_eq_some_iff]at e
  obtain⟨c',e1,rfl⟩:=e
  have:c=c':=by
   have ec:x.toArray[i]? = some c:=ec
   simp at ec
   rw[ec]at e1;exact Option.some.inj e1
  subst this
  exact⟨.refl,ok,.str [c]⟩
 stop:=fun i H st s ok _ l=>by
  show(⟨x.toArray⟩:Str).cps.size<=i
  simpa using l
end
section
variable {X:Cx}{C:aW}{sub:Nat->Nat->Bool}{a b c e tg:Expr}{x y z:Ex}{pos:Pos}
theorem _root_.L2.PI.imp {X:Cx}{tg e:Expr}{t t':TI}(i:∀ σ H Q,t' σ H Q->t σ H Q)(h:PI X tg e t):PI X tg e t':=fun pins s σ H Q I q=>h pins s σ H Q I (i σ H Q q)
theorem ZE {E:XK}(h:PE X e (bM X.K (aG C sub E x))):PI X tg e (zA X.K fun σ st M=>bE C sub E [x] σ st fun ds aC=>fK none ds aC fun as xs=>M as xs aC):=by
 intro pins s σ H R I ⟨σd,st,M,r,ok,q,hq⟩
 refine aV (h pins s σ H _ I ⟨σd,st,_,r,ok,q,fun v H' z=>z⟩) fun u s1 ⟨v,H1,I1,rv,d,aC,cW,aN,r1,q1⟩=>?_
 have fresh:∀{b:Addr},b∈[s1.heap.objs.size]->lY X pins H1 b:=fun{b} hb=>by
  have e:b=s1.heap.objs.size:=by simpa using hb
  subst e
  exact I1.GP (Nat.le_refl _) (I1.bH.fresh (Nat.le_refl _))
 have tup:∀(a:Addr)(vs:List V)(as:List Nat)(xs:List D),v=.ref a->dQ X.K H1 a vs->yG X.K (XN X.K a) as xs H1 aC->M as xs aC->wpAny (model X.prog X.w) X.A (pyIter u) (N1 X pins σ tg R) X.xe s1:=by
  intro a vs as xs e f j q
  subst e
  cases rv
  obtain⟨aD,rr,p,hz⟩:=I1.tuple f
  exact wpAny_pyIter_tuple (show s1.heap.IsTuple a aD.toArray from p) ⟨s1.heap.objs.size,[s1.heap.objs.size],_,_,H1,rfl,I1.kept (t':=s1.toks) fun b o e=>Heap.get?_push_of_some _ e,KY a _,⟨_,Heap.get?_push_size _ rfl,rfl,rfl⟩,fun b hb=>fresh hb,hq _ _ ⟨as,xs,aC,cW,aN,j,q⟩⟩
 have lst:∀(a:Addr)(vs:List V)(as:List Nat)(xs:List D),v=.ref a->dR X.K H1 a vs->yG X.K (RT X.K a) as xs H1 aC->M as xs aC->wpAny (model X.prog X.w) X.A (pyIter u) (N1 X pins σ tg R) X.xe s1:=by
  intro a vs as xs e f j q
  subst e
  cases rv
  obtain⟨aD,rr,p,hz⟩:=I1.list f
  exact wpAny_pyIter_list p.isList ⟨s1.heap.objs.size,[s1.heap.objs.size],_,_,H1,rfl,I1.kept (t':=s1.toks) fun b o e=>Heap.get?_push_of_some _ e,OG a _,⟨_,Heap.get?_push_size _ rfl,rfl,rfl⟩,fun b hb=>fresh hb,hq _ _ ⟨as,xs,aC,cW,aN,j,q⟩⟩
 have q1:mR d aC fun as xs=>M as xs aC:=q1
 cases d with
 |tup ds =>
  obtain⟨a,vs,e,f,g⟩:=r1.bJ
  exact tup a vs _ _ e f (VP aN f g) q1
 |str z =>
  have q1:z.length<=bI/\M [] (z.map fun c=>.str [c]) aC:=q1
  cases r1.str_inv
  obtain⟨t,rfl⟩:=rv
  cases ha:(⟨z.toArray⟩:Str).cps.all (·< 128)
  ·exact wpAny_pyIter_wide ha ⟨s1.heap.objs.size,[s1.heap.objs.size],_,RR ⟨z.toArray⟩,H1,rfl,I1.kept (t':=s1.toks) fun b o e=>Heap.get?_push_of_some _ e,
   EW s1.heap.objs.size ⟨z.toArray⟩ t "str_iterator" (by decide) (fun A hA=>Walks.strWide hA _ _ t) (fun A i s Q E hA hi hn hQ=>wpAny_pyNext_wide_end hA hi (by simpa using hn) fun h' he=>hQ h' he) (fun A i s Q E hi hQ=>wpAny_pyIter_striter_wide hi hQ),
   ⟨_,Heap.get?_push_size _ rfl,rfl,rfl⟩,fun b hb=>fresh hb,hq _ _ ⟨_,_,aC,cW,aN,IM z,q1.2⟩⟩
  ·exact wpAny_pyIter_ascii ha ⟨s1.heap.objs.size,[s1.heap.objs.size],_,RR ⟨z.toArray⟩,H1,rfl,I1.kept (t':=s1.toks) fun b o e=>Heap.get?_push_of_some _ e,
   EW s1.heap.objs.size ⟨z.toArray⟩ t "str_ascii_iterator" (by decide) (fun A hA=>Walks.strAscii hA _ _ t) (fun A i s Q E hA hi hn hQ=>wpAny_pyNext_ascii_end hA hi (by simpa using hn) fun h' he=>hQ h' he) (fun A i s Q E hi hQ=>wpAny_pyIter_striter_ascii hi hQ),
   ⟨_,Heap.get?_push_size _ rfl,rfl,rfl⟩,fun b hb=>fresh hb,hq _ _ ⟨_,_,aC,cW,aN,IM z,q1.2⟩⟩
 |ref a =>
  cases r1.bZ
  obtain⟨ds,e,q1⟩:=dG (st:=aC) q1
  obtain⟨vs,g1,g2⟩:=aN.lst e
  exact lst _ vs _ _ rfl (dR.of g1) (UO aN e) q1
 |bF ds =>
  obtain⟨a,vs,e,f,g⟩:=r1.jO
  exact lst a vs _ _ e f.sq (QI aN f g) q1
 |_=>exact(show False from q1).elim
theorem S7 {E:XK}{p:Pos}(hC:bL C C)(hg:Gl X "range")(hm:X.mg "range" = none)(ha:PA X [a] (jT X.K (bE C sub E [x])))(hs:starEach [a] X.env=[(false,eval a X.env)]):
 PI X tg (.Call (.Name "range" p) [a] [] pos) (zA X.K fun σ st M=>bE C sub E [x] σ st fun ds aC=>fK (some .range) ds aC fun as xs=>M as xs aC) :=
 (OB hg hm ha hs).imp fun σ H R ⟨σd,st,M,r,ok,q,hq⟩=>by
 refine⟨σd,st,_,r,ok,pB [x] hC q,fun vs H1 ⟨ds,aC,s1,aN,r1,l1,q1⟩=>?_⟩
 match ds,l1,q1 with
 |[d],_,q1 =>
  obtain⟨v,rfl,rd⟩:=r1.one
  have q1:fK (some .range) [d] aC fun as xs=>M as xs aC:=q1
  cases d with
  |int j =>
  cases rd.int_inv
  exact⟨j,rfl,q1.1.1,q1.1.2,hq _ _ ⟨_,_,aC,s1,aN,OJ 0 _,q1.2⟩⟩
  |_=>exact(show False from q1).elim
theorem RQ {k:Option IK}{aD:List Ex}{iter:Expr}{t:Tg}{bs:List Stmt}{bx:List Sx}(hC:bL C C)(hp:PassesOwn (model X.prog X.w) X.A X.env X.xe)(hc:X.calm=true)
 (hi:PI X tg iter (zA X.K fun σ st M=>bE C sub EF aD σ st fun ds aC=>fK k ds aC fun as xs=>M as xs aC))(hg:PG X tg (GQ X.K (lL C sub EF t)))(hb:jI X bs (gE X.K (cL C sub bx)))
 (hs:∀ x,foldedSetIterable iter X.env x=pure x):PS X (.For tg iter bs [] pos) (gE X.K (wpS C sub (.iD t k aD bx))) :=
 (X9 hp hc hi hg hb hs).imp fun DD σ H ⟨σd,st,P,r,ok,q,h⟩=>by
 refine⟨σd,st,_,r,ok,Cd hC h.ex q,fun J H1 ⟨as,xs,aC,s1,aN,j,q1⟩=>?_⟩
 refine⟨fun i m σ' H'=>∃ dF aB,cZ X.K H' dF σ'/\Step H1 aC H' aB/\aQ X.K aB H'/\m+i=xs.length/\vU (same as aC) (fun(x:L3.D) next σ st=>lL C sub (fun c aB=>P.ex c σ aB) t x σ st fun σ' aB=>cL C sub bx { P with nx:=next,ct:=next,bk:=P.nx } σ' aB) P.nx (xs.drop i) dF aB,⟨xs.length,σd,aC,r.step ok s1,.refl,aN,by omega,by simpa using q1⟩,fun i m σ2 H2 ⟨qV,aF,r2,s2,bO,e2,q2⟩=>?_⟩
 by_cases hi':i<xs.length
 ·have ed:xs.drop i=xs[i]::xs.drop (i+1):=List.drop_eq_getElem_cons hi'
  rw[ed]at q2
  obtain⟨g2,q2⟩:=q2
  refine .inr ⟨j.go i H2 aF xs[i] s2 bO g2 (List.getElem?_eq_getElem hi'),fun σ' H'=>∃ dF aB,cZ X.K H' dF σ'/\Step H1 aC H' aB/\aQ X.K aB H'/\vU (same as aC) (fun(x:L3.D) next σ st=>lL C sub (fun c aB=>P.ex c σ aB) t x σ st fun σ' aB=>cL C sub bx { P with nx:=next,ct:=next,bk:=P.nx } σ' aB) P.nx (xs.drop (i+1)) dF aB,
  fun σ' H' ⟨dF,aB,r',s',eQ,q'⟩=>⟨m-1,by omega,dF,aB,r',s',eQ,by omega,q'⟩,fun v H3 y3=>?_⟩
  obtain⟨s3,nO,r3⟩:=j.yld i H2 aF xs[i] v H3 s2 bO g2 (List.getElem?_eq_getElem hi') y3
  refine⟨xs[i],qV,aF,_,r3,r2.step bO s3,nO,tM hC (fun c st z=>h.ex _ _ _ z) (fun _ _ z=>z) t q2,fun σ4 H4 σd4 dI r4 s4 JX q4=>?_⟩
  refine⟨σd4,dI,_,r4,JX,q4,⟨fun σ' H' dF aB r' s' eQ q'=>⟨dF,aB,r',((s2.trans s3).trans s4).trans s',eQ,q'⟩,fun v H' z=>h.rt _ _ (.after (((s1.trans s2).trans s3).trans s4) z),
  fun σ' H' dF aB r' s' eQ q'=>h.nx _ _ _ _ r' ((((s1.trans s2).trans s3).trans s4).trans s') eQ q',fun σ' H' dF aB r' s' eQ q'=>⟨dF,aB,r',((s2.trans s3).trans s4).trans s',eQ,q'⟩,h.ex⟩⟩
 ·have ed:xs.drop i=[]:=List.drop_eq_nil_of_le (by omega)
  rw[ed]at q2
  exact .inl ⟨j.stop i H2 aF s2 bO q2.1 (by omega),h.nx _ _ _ _ r2 (s1.trans s2) bO q2.2⟩
end
end L3
end
section
namespace L3
open PySem PySem.Spec PyProof.Rows L2
section
variable {X:Cx}{C:aW}{sub:Nat->Nat->Bool}{a b c e o i tg:Expr}{x y z:Ex}{pos:Pos}
noncomputable def jX (is:List Nat)(vs:List V)(σ:L2.St):L2.St:=(is.zip vs).foldl (fun σ p=>σ.set p.1 (some p.2)) σ
noncomputable def rL (is:List Nat):DT:=fun vs σ H Q=>vs.length=is.length/\Q (jX is vs σ) H
theorem WC:A7 X [] (rL []):=fun pins s σ H vs us Q I r h=>by
 have:vs=[]:=List.length_eq_zero_iff.mp h.1
 subst this
 exact TR pins s σ H [] us Q I r ⟨rfl,h.2⟩
theorem UL {es:List Expr}{i:Nat}{is:List Nat}(h1:PG X e (zY i))(h2:A7 X es (rL is))(hs:(assignEach (e::es) X.env).map (·.2)=assign e X.env::(assignEach es X.env).map (·.2)):A7 X (e::es) (rL (i::is)):=fun pins s σ H vs us Q I r h=>by
 obtain⟨hl,h⟩:=h
 cases vs with
 |nil=>simp at hl
 |cons v vs=>exact P7 h1 h2 hs pins s σ H (v::vs) us Q I r ⟨v,vs,rfl,by simpa using hl,h⟩
theorem cZ.PH {K:PySem.W.Frag}{H:Hp}:∀(is:List Nat){ds:List D}{vs:List V}{σd:St}{σ:L2.St},cZ K H σd σ->aH K H ds vs->cZ K H ((is.zip ds).foldl (fun σ p=>σ.set p.1 (some p.2)) σd) (jX is vs σ)
 |[],_,_,_,_,r,_=>by simpa [jX]using r
 |_::_,_,_,_,_,r,.nil=>by simpa [jX]using r
 |i::is,_,_,_,_,r,.cons h t=>by
  have:=cZ.PH is (r.set i h) t
  simpa [jX]using this
theorem Iq {E:XK}{es:List Expr}{k:Nat}{is:List Nat}(hc:X.calm=true)(h:A7 X es (rL is))(hn:(assignEach es X.env).length=is.length)(dZ:(assignEach es X.env).findIdx? (·.1)=none):
 PG X (.Tuple es k pos) (GQ X.K (lL C sub E (.tp is))) :=
 (ZR hc h hn dZ).imp fun v σ H Q ⟨d,σd,st,M,rd,r,ok,q,hq⟩=>by
 cases d with
 |tup ds0 =>
  have q:ds0.length=is.length/\M _ st:=q
  obtain⟨a,vs,rfl,f,g⟩:=rd.bJ
  exact⟨a,vs,rfl,f,by rw[<-g.length];exact q.1,by rw[<-g.length];exact q.1,hq _ _ _ _ (r.PH is g) .refl ok q.2⟩
 |_=>exact(show False by cases is<;>exact q).elim
theorem Iv {E:XK}(ho:PE X o (bM X.K (aG C sub E x)))(hi:PE X i (bM X.K (aG C sub E y)))
 (ha:∀ v,assign (.Subscript o i pos) X.env v=(do
  let ov <-holding [v] (eval o X.env)
  let iv <-holding [v,ov] (eval i X.env)
  standAt pos
  holding [v,ov,iv] (setItem ov iv v)
  release [v,ov,iv] [])):PG X (.Subscript o i pos) (GQ X.K (lL C sub E (.ix x y))) :=
 (WW ho hi set_list ha).imp fun v σ H Q ⟨d,σd,st,M,rd,r,ok,q,hq⟩=>by
 refine⟨σd,st,_,r,ok,q,fun v1 H1 ⟨d1,aC,s1,aN,r1,q1⟩=>?_⟩
 refine⟨σd,aC,_,r.step ok s1,aN,q1,fun v2 H2 ⟨d2,aF,s2,bO,r2,q2⟩=>?_⟩
 have r1':=r1.step aN s2
 have rd':=(rd.step ok s1).step aN s2
 have q2:yY d1 d2 d aF fun bB=>M σd bB:=q2
 cases d1<;>first|exact(show False from q2).elim|skip
 cases d2<;>first|exact(show False from q2).elim|skip
 cases r1'.bZ
 cases r2.int_inv
 rw[JL]at q2
 obtain⟨xs,e,q2⟩:=dG q2
 obtain⟨j,ej,q2⟩:=eB q2
 obtain⟨vs,g1,g2⟩:=bO.lst e
 refine⟨_,vs,_,j,rfl,rfl,g1,by rw[<-g2.length];exact ej,?_⟩
 have s3:=kT (H:=H2) (st:=aF) (o:=.lst (vs.set j v)) (m':=.lst (xs.set j d)) e
 exact hq _ _ _ _ (((r.step ok s1).step aN s2).step bO s3) ((s1.trans s2).trans s3) (bO.set e (g2.set rd' j)) q2
end
end L3
end
section
namespace L3
open PySem PySem.Spec PyProof.Rows L2
noncomputable def jQ (cells:List (Str×Addr)):List (Str×NameKind)->List (Str×Addr)->List (Str×Addr)
 |[],cs=>cs
 |(n,k)::r,cs=>jQ cells r (if k == .free then(n,(cells.lookup n).getD 0)::cs else cs)
theorem zZ {env:Env}:∀(names:List (Str×NameKind))(cs:List (Str×Addr)),(∀ p∈names,p.2=.free->∃ c,env.cells.lookup p.1=some c) ->
  (forIn names cs fun(p:Str×NameKind)(cs:List (Str×Addr))=>(if p.2 == .free then do let c <-cellOf env p.1;pure (ForInStep.yield ((p.1,c)::cs))else pure (ForInStep.yield cs):Sem (ForInStep (List (Str×Addr)))))=pure (jQ env.cells names cs)
 |[],cs,_=>by simp [jQ]
 |(n,k)::r,cs,h=>by
  have ih:=fun cs=>zZ r cs fun p hp=>h p (List.mem_cons_of_mem _ hp)
  simp only[List.forIn_cons,jQ]
  cases e:(k==NameKind.free)with
  |true =>
   obtain⟨c,hc⟩:=h (n,k) (List.mem_cons_self ..) (by simpa using e)
   have hc:env.cells.lookup n=some c:=hc
   simp only[if_true,cellOf,hc,Option.getD_some,pure_bind]
   exact ih _
  |false =>
   simp only[Bool.false_eq_true,if_false,pure_bind]
   exact ih _
theorem nT {env:Env}{scope:Scope}(h:∀ p∈scope.names,p.2=.free->∃ c,env.cells.lookup p.1=some c):closureFor scope env=pure (jQ env.cells scope.names []):=by
 rw[<-zZ scope.names [] h]
 unfold closureFor
 simp only[bind_pure]
theorem jJ {cells:List (Str×Addr)}:∀(names:List (Str×NameKind))(cs:List (Str×Addr)){x:Str}{c:Addr},(∀ p∈names,p.2=.free->∃ c,cells.lookup p.1=some c)->(∀ x c,cs.lookup x=some c->cells.lookup x=some c)->(jQ cells names cs).lookup x=some c->cells.lookup x=some c
 |[],cs,x,c,_,h,e=>h x c e
 |(n,k)::r,cs,x,c,hn,h,e=>by
  simp only[jQ]at e
  refine jJ r _ (fun p hp=>hn p (List.mem_cons_of_mem _ hp)) (fun y d ed=>?_) e
  split at ed
  ·rename_i hk
   obtain⟨c',hc'⟩:=hn (n,k) (List.mem_cons_self ..) (by simpa using hk)
   have hc':cells.lookup n=some c':=hc'
   rw[List.lookup_cons]at ed
   split at ed
   ·rename_i q
    have q:y=n:=by simpa using q
    subst q
    rw[hc']at ed ⊢
    simpa using ed
   ·exact h y d ed
  ·exact h y d ed
theorem CH {cells:List (Str×Addr)}:∀(names:List (Str×NameKind))(cs:List (Str×Addr)){x:Str},(∃ c,cs.lookup x=some c)->∃ c,(jQ cells names cs).lookup x=some c
 |[],cs,x,h=>h
 |(n,k)::r,cs,x,h=>by
  simp only[jQ]
  refine CH r _ ?_
  split
  ·rw[List.lookup_cons]
   split
   ·exact⟨_,rfl⟩
   ·exact h
  ·exact h
theorem tD {cells:List (Str×Addr)}:∀(names:List (Str×NameKind))(cs:List (Str×Addr)){x:Str},names.lookup x=some .free->∃ c,(jQ cells names cs).lookup x=some c
 |[],cs,x,h=>by simp at h
 |(n,k)::r,cs,x,h=>by
  simp only[jQ]
  rw[List.lookup_cons]at h
  split at h
  ·rename_i q
   cases h
   refine CH r _ ?_
   simp only[beq_self_eq_true,if_true]
   rw[List.lookup_cons,q]
   exact⟨_,rfl⟩
  ·exact tD r _ h
theorem pE {env:Env}:∀{names:List (Str×NameKind)}{x:Str}{k:NameKind},(names.map fun(n,k)=>if(k==NameKind.free&&env.scope.kind == .function&&env.kindOf n==some .cell)then(n,NameKind.cell)else(n,k)).lookup x=some k->∃ k',names.lookup x=some k'/\(k'=k∨(k'=.free/\k=.cell))
 |[],x,k,h=>by simp at h
 |(n,k0)::r,x,k,h=>by
  simp only[List.map_cons]at h
  cases q:(x==n)with
  |true =>
   refine⟨k0,by simp only[List.lookup_cons,q],?_⟩
   by_cases hc:(k0==NameKind.free&&env.scope.kind == .function&&env.kindOf n==some .cell)=true
   ·simp only[hc,if_true,List.lookup_cons,q]at h
    cases h
    simp only[Bool.and_eq_true]at hc
    exact .inr ⟨by simpa using hc.1.1,rfl⟩
   ·simp only[hc,if_false,List.lookup_cons,q,Bool.false_eq_true]at h
    cases h
    exact .inl rfl
  |false =>
   simp only[List.lookup_cons,q]
   refine pE (env:=env) (names:=r) ?_
   by_cases hc:(k0==NameKind.free&&env.scope.kind == .function&&env.kindOf n==some .cell)=true
   ·simp only[hc,if_true,List.lookup_cons,q]at h
    exact h
   ·simp only[hc,if_false,List.lookup_cons,q,Bool.false_eq_true]at h
    exact h
theorem pP {env:Env}:∀{names:List (Str×NameKind)}{x:Str},names.lookup x=some .free->(names.map fun(n,k)=>if(k==NameKind.free&&env.scope.kind == .function&&env.kindOf n==some .cell)then(n,NameKind.cell)else(n,k)).lookup x=some .cell∨(names.map fun(n,k)=>if(k==NameKind.free&&env.scope.kind == .function&&env.kindOf n==some .cell)then(n,NameKind.cell)else(n,k)).lookup x=some .free
 |[],x,h=>by simp at h
 |(n,k0)::r,x,h=>by
  simp only[List.map_cons]
  rw[List.lookup_cons]at h
  split at h
  ·rename_i q;cases h
   split
   ·exact .inl (by rw[List.lookup_cons,q])
   ·exact .inr (by rw[List.lookup_cons,q])
  ·rename_i q
   split
   ·rw[List.lookup_cons,q];exact pP h
   ·rw[List.lookup_cons,q];exact pP h
structure kJ (X:Cx)(scope:Scope)(cn:List Str)(aL:List Nat):Prop where
 kind:scope.kind=.function
 nocell:∀ y∈scope.names,y.2≠.cell
 names:∀ y∈scope.names,y.2=.local->scope.names.lookup y.1=some .local
 free:∀ y∈scope.names,y.2=.free->X.env.kindOf y.1=some .cell∨X.env.kindOf y.1=some .free
 len:cn.length=aL.length
 cap:∀(j:Nat)(y:Str),cn[j]? = some y->scope.names.lookup y=some .free/\∃ i,aL[j]? = some i/\X.N[i]? = some y/\(X.env.kindOf y=some .cell∨X.env.kindOf y=some .free)
noncomputable def lB (X:Cx)(scope:Scope)(own cn:List Str)(fp:List Addr)(s:Shared)(H:Hp)(Ca:Addr):Cx :=
 { X with N:=own++cn,s₀:=s,H₀:=H,env:=compEnvC scope (jQ X.env.cells scope.names []) Ca X.env,outer:=X.stack,ex:=fp,fn:=fun _=>false,calm:=true,pn:=[],xe:=fun _ _=>False }
noncomputable def oA (aL:List Nat)(σ:L2.St):L2.St:=aL.map fun i=>(σ[i]?).getD none
section
variable {X:Cx}{scope:Scope}{own cn:List Str}{aL:List Nat}{fp:List Addr}{pins:List (Addr×Obj)}{σ:L2.St}{H:Hp}{s:Shared}
theorem kJ.cells (S:kJ X scope cn aL)(ok:X.Ok):∀ p∈scope.names,p.2=.free->∃ c,X.env.cells.lookup p.1=some c:=fun p hp e=>ok.has p.1 (S.free p hp e)
theorem PL (S:kJ X scope cn aL)(hc:X.calm=true)(I:Inv X pins σ H s)(hf:∀ b∈fp,lY X pins H b)(cN:∀ b∈fp,b<s.heap.objs.size){Ca:Addr}(hC:s.heap.objs.size<=Ca):(lB X scope own cn fp s H Ca).Ok where
 mod:=I.ok.mod
 kind:=S.kind
 glob:=I.ok.glob
 blt:=I.ok.blt
 above:=hC
 inj:=fun x y c h1 h2=>I.ok.inj x y c (jJ _ [] (S.cells I.ok) (fun _ _ h=>by simp at h) h1) (jJ _ [] (S.cells I.ok) (fun _ _ h=>by simp at h) h2)
 has:=fun x h=>by
  refine tD _ [] ?_
  rcases h with h|h
  ·obtain⟨k,e,r⟩:=pE (env:=X.env) (show List.lookup x (List.map _ scope.names)=_ from h)
   rcases r with rfl|⟨rfl,_⟩
   ·exact absurd rfl (S.nocell _ (PySem.mem_of_lookup e))
   ·exact e
  ·obtain⟨k,e,r⟩:=pE (env:=X.env) (show List.lookup x (List.map _ scope.names)=_ from h)
   rcases r with rfl|⟨rfl,r⟩
   ·exact e
   ·cases r
 cab:=fun x c h _=>by cases h
 hd:=fun _=>I.ok.hd hc
 frames:=I.ok.frames
 stk:=.inl rfl
 exf:=fun b hb=>⟨fun e=>absurd (cN b hb) (by rw[e];exact Nat.not_lt.mpr hC),fun x c h=>(hf b hb).2.2.2.2.1 x c (jJ _ [] (S.cells I.ok) (fun _ _ h=>by simp at h) h)⟩
 bs:=I.bs
 bsz:=Nat.le_trans I.ok.bsz I.sz
 noex:=fun b o e hb=>by
  rcases(hf b hb).2.2.2.1 with z|z
  ·exact I.ok.noex b o e z
  ·exact absurd (Nat.lt_of_lt_of_le (Heap.lt_size e) (Nat.le_trans I.ok.bsz z)) (Nat.lt_irrefl _)
 exfs:=fun b hb z=>by
  rcases List.mem_cons.mp (I.AI b z)with e|e
  ·exact(hf b hb).2.1 e
  ·exact(hf b hb).2.2.1 e
 kB:=I.stack
 frf:=I.IQ
theorem HP (S:kJ X scope cn aL)(hc:X.calm=true)(I:Inv X pins σ H s)(hf:∀ b∈fp,lY X pins H b)(cN:∀ b∈fp,b<s.heap.objs.size){Ca:Addr}(hC:s.heap.objs.size<=Ca){h1:Heap}{tk:Nat}
  {m:Str->Option Value}(hn:h1.Ns Ca m)(hk:∀ b o,s.heap.get? b=some o->h1.get? b=some o):
  Inv (lB X scope own cn fp s H Ca) [] (List.replicate own.length none++oA aL σ) H { s with heap:=h1,toks:=tk } where
 ok:=PL S hc I hf cN hC
 os:=rfl
 bare:=I.bare
 base:=Un.kept hk
 loc:=⟨m,hn,fun i y v h1' h2 h3=>by
  have hi:own.length<=i:=by
   refine Nat.le_of_not_lt fun hi=>?_
   rw[List.getElem?_append_left (by simpa using hi),List.getElem?_replicate]at h2
   split at h2<;>cases h2
  rw[List.getElem?_append_right (by simpa using hi)]at h2
  have h1':(own++cn)[i]? = some y:=h1'
  rw[List.getElem?_append_right hi]at h1'
  simp only[List.length_replicate,oA,List.getElem?_map,Option.map_eq_some_iff]at h2
  obtain⟨k,e1,e2⟩:=h2
  obtain⟨hfr,i',e3,e4,e5⟩:=S.cap _ y h1'
  rw[e1]at e3;cases e3
  cases e6:σ[k]? with
  |none=>rw[e6]at e2;cases e2
  |some u =>
   rw[e6]at e2
   have e2:u=some v:=e2
   subst e2
   obtain⟨m0,hn0,hl0⟩:=I.loc
   obtain⟨w,rw',lk⟩:=hl0 k y v e4 e6 (e5.elim (fun z=>.inr (.inl z)) fun z=>.inr (.inr z))
   refine⟨w,rw',?_⟩
   rcases lk with⟨z,_⟩|⟨_,c,ec,⟨oc,hoc,hdc⟩⟩
   ·rcases e5 with e5|e5
    ·rw[e5]at z;cases z
    ·rw[e5]at z;cases z
   ·obtain⟨c',ec'⟩:=tD (cells:=X.env.cells) scope.names [] hfr
    have:=jJ _ [] (S.cells I.ok) (fun _ _ h=>by simp at h) ec'
    rw[ec]at this;cases this
    exact .inr ⟨pP (env:=X.env) hfr,c,ec',⟨oc,hk _ _ hoc,hdc⟩⟩⟩
 cell:=fun x c h=>by
  obtain⟨v,o,ho,hd⟩:=I.cell x c (jJ _ [] (S.cells I.ok) (fun _ _ h=>by simp at h) h)
  exact⟨v,o,hk _ _ ho,hd⟩
 free:=I.bH.fresh hC
 jG:=fun x c h=>I.jG x c (jJ _ [] (S.cells I.ok) (fun _ _ h=>by simp at h) h)
 pin:=fun p hp=>absurd (show p∈([]:List (Addr×Obj))from hp) (by simp)
 bH:=I.bH.kept hk
 len:=by
  show(List.replicate own.length none++oA aL σ).length=(own++cn).length
  simp [oA,S.len]
end
end L3
end
section
namespace L3
open PySem PySem.Spec PyProof.Rows L2
noncomputable def wN (ifs:List Expr)(env:Env):Sem Bool:=forIn ifs true fun c r=>if r=true then do let ok <-isTrue c env (eval c env);pure (ForInStep.yield ok)else pure (ForInStep.yield r)
noncomputable def CQ (X:Cx)(ifs:List Expr)(t:L2.TT):Prop :=
 ∀(pins:List (Addr×Obj))(s:Shared)(σ:L2.St)(H:Hp)(Q:Bool->Hp->Prop),Inv X pins σ H s->t σ H Q->wpAny (model X.prog X.w) X.A (wN ifs X.env) (TP X pins σ Q) X.xe s
inductive tV (K:PySem.W.Frag)(te:St->aA->(Bool->aA->Prop)->Prop)(σ:L2.St)(H:Hp)(Q:Bool->Hp->Prop):Prop where
 |mk (σd:St)(st:aA)(R:Bool->aA->Prop)(r:cZ K H σd σ)(ok:aQ K st H)(q:te σd st R)(hq:∀(b:Bool) H',QX K H st (R b) H'->Q b H'):tV K te σ H Q
section
variable {X:Cx}{C:aW}{sub:Nat->Nat->Bool}{E:XK}{a b c e o i tg:Expr}{x y z:Ex}{pos:Pos}
theorem yF (env:Env):∀(ifs:List Expr),(forIn ifs false fun c r=>if r=true then do let ok <-isTrue c env (eval c env);pure (ForInStep.yield ok)else pure (ForInStep.yield r):Sem Bool)=pure false
 |[]=>by simp
 |c::r=>by
  simp only[List.forIn_cons,Bool.false_eq_true,if_false,pure_bind]
  exact yF env r
theorem YC:CQ X [] (tV X.K (gD C sub E [])):=fun pins s σ H Q I ⟨σd,st,R,r,ok,q,hq⟩=>by
 unfold wN
 simp only[List.forIn_nil]
 exact wpAny_pure ⟨H,I,hq true H ⟨st,.refl,ok,q⟩⟩
theorem S0 {es:List Expr}{xs:List Ex}(h:PT X e (iR X.K (aG C sub E x)))(hs:CQ X es (tV X.K (gD C sub E xs))):CQ X (e::es) (tV X.K (gD C sub E (x::xs))):=fun pins s σ H Q I ⟨σd,st,R,r,ok,q,hq⟩=>by
 unfold wN
 simp only[List.forIn_cons,if_true]
 refine wpAny_bind (wpAny_bind (aV (h pins s σ H _ I ⟨σd,st,fun k aB=>if k=true then gD C sub E xs σd aB R else R false aB,r,ok,q,fun b H' z=>z⟩) fun k s1 ⟨H1,I1,aC,cW,aN,q1⟩=>wpAny_pure ?_))
 cases k with
 |true =>
 have q1:gD C sub E xs σd aC R:=q1
 refine hs pins s1 σ H1 _ I1 ⟨σd,aC,R,r.step ok cW,aN,q1,fun b H' ⟨aB,s',eQ,q'⟩=>hq b H' ⟨aB,cW.trans s',eQ,q'⟩⟩
 |false =>
 show wpAny _ _ (forIn es false _) _ _ _
 rw[yF]
 exact wpAny_pure ⟨H1,I1,hq false H1 ⟨aC,cW,aN,q1⟩⟩
end
theorem GY {prog:Program}{w:World}{A:Around}{s:Shared}{R:Result->Shared->Prop}{elt target iter:Expr}{ifs:List Expr}{scope:Scope}{pos:Pos}{it acc:Value}{env:Env}(I:Nat->Shared->Prop)
 (turn:∀ n s,I n s->wpAny (model prog w) A (pyNext it) (fun r s₁=>match r with
  |none=>R (.ok .next) s₁
  |some v=>wpAny (model prog w) A (letOwnedTupleGo target it v) (fun _ s₁'=>wpAny (model prog w) A (assign target env v) (fun _ s₂ =>
   wpAny (model prog w) A (wN ifs env) (fun ok s₃ =>
   if ok=true then wpAny (model prog w) A (eval elt env) (fun x s₄ =>
    wpAny (model prog w) A (call (.builtin "list.append") [acc,x]) (fun _ s₅=>∃ m,m<n/\I m s₅) (fun _ _=>False) s₄) (fun _ _=>False) s₃
   else ∃ m,m<n/\I m s₃) (fun _ _=>False) s₂) (fun _ _=>False) s₁') (fun _ _=>False) s₁) (fun _ _=>False) s)
 (n:Nat)(h:I n s):
 codeAny (model prog w) A (.compLoop (.ListComp elt [⟨target,iter,ifs,0⟩] scope pos) 0 it acc env) R s:=by
 refine codeAny_loop rfl I (fun n s hI=>?_) n h
 show wpAny _ A ((compTurn (.ListComp elt [⟨target,iter,ifs,0⟩] scope pos) 0 it acc env).onRaise (fun x=>do noteFrame x env;theTreesLotGoes x)) _ _ s
 refine wpAny_noted ?_
 rw[compTurn_list]
 refine wpAny_bind (wpAny_standAt (wpAny_bind (wpAny_mono (turn n s hI) (fun r s₁ h₁=>?_) fun _ _ h'=>h'.elim)))
 cases r with
 |none=>exact wpAny_pure h₁
 |some v =>
 refine wpAny_bind (wpAny_mono h₁ (fun _ s₁' h₁'=>?_) fun _ _ h'=>h'.elim)
 refine wpAny_bind (wpAny_mono h₁' (fun _ s₂ h₂=>wpAny_bind (wpAny_mono h₂ (fun ok s₃ h₃=>?_) fun _ _ h'=>h'.elim)) fun _ _ h'=>h'.elim)
 cases ok with
 |false=>exact wpAny_pure ⟨rfl,h₃⟩
 |true =>
  exact wpAny_bind (wpAny_bind (wpAny_mono h₃ (fun x s₄ h₄=>wpAny_bind (wpAny_mono h₄ (fun _ s₅ h₅=>wpAny_pure (wpAny_pure ⟨rfl,h₅⟩)) fun _ _ h'=>h'.elim)) fun _ _ h'=>h'.elim))
noncomputable def JU (K:PySem.W.Frag):Bool->Nat->TG
 |true,_=>zY 0
 |false,n=>WR K n (rL (List.range n))
theorem AS:∀(is:List Nat)(vs:List V)(σ:L2.St)(n i:Nat),(∀ j∈is,j<n)->n<=i->(jX is vs σ)[i]? = σ[i]?
 |[],_,_,_,_,_,_=>by simp [jX]
 |_::_,[],_,_,_,_,_=>by simp [jX]
 |j::is,v::vs,σ,n,i,h,hi=>by
  have:=AS is vs (σ.set j (some v)) n i (fun k hk=>h k (List.mem_cons_of_mem _ hk)) hi
  simp only[jX,List.zip_cons_cons,List.foldl_cons]at this ⊢
  rw[this]
  have:=h j (List.mem_cons_self ..)
  rw[List.getElem?_set_ne (by omega)]
theorem DJ:∀(is:List Nat)(vs:List V)(σ:L2.St),(jX is vs σ).length=σ.length
 |[],_,_=>by simp [jX]
 |_::_,[],_=>by simp [jX]
 |j::is,v::vs,σ=>by
  have:=DJ is vs (σ.set j (some v))
  simp only[jX,List.zip_cons_cons,List.foldl_cons,List.length_set]at this ⊢
  exact this
theorem JZ {K:PySem.W.Frag}{H:Hp}{one:Bool}{n:Nat}{d:D}{v:V}{σd:St}{σ:L2.St}{P:St->Prop}{Q:L2.St->Hp->Prop}(hn:one=true->n=1)(h:jE one (List.range n) d σd P)(r:cZ K H σd σ)(rd:Rep K H d v)
 (hQ:∀ σ2 qV,cZ K H qV σ2->P qV->(∀ i,n<=i->σ2[i]? = σ[i]?)->σ2.length=σ.length->Q σ2 H):JU K one n v σ H Q:=by
 cases one with
 |true =>
 cases hn rfl
 have h:P (σd.set 0 (some d)):=h
 refine hQ _ _ (r.set 0 rd) h (fun i hi=>?_) (by simp)
 rw[List.getElem?_set_ne (by omega)]
 |false =>
 cases d with
 |tup ds =>
  rw[NA]at h
  obtain⟨a,vs,rfl,f,g⟩:=rd.bJ
  have hl:vs.length=n:=by rw[<-g.length,h.1];simp
  refine⟨a,vs,rfl,f,hl,by simp [hl],hQ _ _ (r.PH _ g) h.2 (fun i hi=>AS _ _ _ n i (fun j hj=>by simpa using hj) hi) (DJ _ _ _)⟩
 |_=>exact(show False by cases n<;>exact h).elim
section
variable {K:PySem.W.Frag}{H:Hp}{st:aA}{Da:Addr}{ys zs:List V}
theorem S9 (hD:H Da=some (.lst ys)){a:Addr}{vs:List V}(h:dQ K H a vs):dQ K (upd H Da (.lst zs)) a vs:=by
 rcases h with(h|⟨o,h⟩)|h
 ·exact .inl (.inl (by rw[aY (KS h hD (by simp))];exact h))
 ·exact .inl (.inr ⟨o,by rw[aY (KS h hD (by simp))];exact h⟩)
 ·exact .inr h
theorem Q2 (hD:H Da=some (.lst ys)){a:Addr}{vs:List V}(h:kQ K H a vs):kQ K (upd H Da (.lst zs)) a vs:=by
 rcases h with⟨o,h⟩|h
 ·exact .inl ⟨o,by rw[aY (KS h hD (by simp))];exact h⟩
 ·exact .inr h
mutual
theorem Rep.alt (hD:H Da=some (.lst ys)):∀{d:D}{v:V},Rep K H d v->Rep K (upd H Da (.lst zs)) d v
 |_,_,.non=>.non
 |_,_,.bl b=>.bl b
 |_,_,.int i=>.int i
 |_,_,.str x=>.str x
 |_,_,.tup h r=>.tup (S9 hD h) (aH.alt hD r)
 |_,_,.ref a=>.ref a
 |_,_,.bF h r=>.bF (Q2 hD h) (aH.alt hD r)
 |_,_,.cM h=>.cM h
theorem aH.alt (hD:H Da=some (.lst ys)):∀{ds:List D}{vs:List V},aH K H ds vs->aH K (upd H Da (.lst zs)) ds vs
 |_,_,.nil=>.nil
 |_,_,.cons h r=>.cons (Rep.alt hD h) (aH.alt hD r)
end
theorem aQ.alt (ok:aQ K st H)(hD:H Da=some (.lst ys))(hn:st Da=none):aQ K st (upd H Da (.lst zs)):=fun a o e=>by
 have ne:a≠Da:=fun z=>by rw[z,hn]at e;cases e
 have:=ok a o e
 cases o with
 |lst ds =>
 obtain⟨vs,q,r⟩:=this
 exact⟨vs,by rw[aY ne];exact q,r.alt hD⟩
 |dic _ _=>exact this.elim
 |ins c fs =>
 obtain⟨C,dx,ws,q,q2,q3,r⟩:=this
 exact⟨C,dx,ws,q,by rw[aY ne];exact q2,q3,r.alt hD⟩
 |tab ks vs =>
 obtain⟨xs,ws,q,q0,q1,q2,q3,q4,q5,r⟩:=this
 exact⟨xs,ws,by rw[aY ne];exact q,q0,q1,q2,q3.alt hD,q4,q5,r.alt hD⟩
 |fn f cs =>
 obtain⟨vs,⟨T,clos,pm,ctv,c',oc,ne0,t,q,ec,co,inj,dom,cap⟩,r⟩:=this
 have ka:∀{b o u},H b=some (.frz o u)->upd H Da (.lst zs) b=some (.frz o u):=fun{b o u} z=>by
  rw[aY (fun w=>by rw[w,hD]at z;cases z)];exact z
 exact⟨vs,⟨T,clos,pm,ctv,c',oc,ne0,t,ka q,ka ec,co,inj,dom,cap.of fun b o z=>ka z⟩,r.alt hD⟩
 |cod κ =>
 obtain⟨q0,q|⟨c',oc,q,ec,co⟩⟩:=this
 ·exact⟨q0,.inl (by rw[aY ne];exact q)⟩
 ·exact⟨q0,.inr ⟨c',oc,by rw[aY ne];exact q,by rw[aY (fun w=>by rw[w,hD]at ec;cases ec)];exact ec,co⟩⟩
theorem aQ.take (ok:aQ K st H)(hD:H Da=some (.lst ys)){ds:List D}(r:aH K H ds ys):aQ K (put st Da (.lst ds)) H:=fun a o e=>by
 by_cases ha:a=Da
 ·subst ha
  rw[bA]at e;cases e
  exact⟨ys,hD,r⟩
 ·rw[bK ha]at e
  exact ok a o e
end
theorem QR {K:PySem.W.Frag}{H:Hp}{σd:St}{σ:L2.St}(r:cZ K H σd σ)(n:Nat)(aL:List Nat):cZ K H (List.replicate n none++aL.map fun i=>(σd[i]?).getD none) (List.replicate n none++oA aL σ):=by
 refine⟨by simp [oA],fun i d e=>?_⟩
 by_cases hi:i<n
 ·rw[List.getElem?_append_left (by simpa using hi),List.getElem?_replicate]at e
  split at e<;>cases e
 ·rw[List.getElem?_append_right (by simpa using hi)]at e ⊢
  simp only[List.length_replicate,List.getElem?_map,Option.map_eq_some_iff]at e ⊢
  obtain⟨k,e1,e2⟩:=e
  cases q:σd[k]? with
  |none=>rw[q]at e2;cases e2
  |some u =>
   rw[q]at e2
   have e2:u=some d:=e2
   subst e2
   obtain⟨v,h1,h2⟩:=r.2 k d q
   refine⟨v,?_,h2⟩
   simp only[oA,List.getElem?_map,Option.map_eq_some_iff]
   exact⟨k,e1,by rw[h1];rfl⟩
end L3
end
section
namespace L3
open PySem PySem.Spec PyProof.Rows L2
theorem UJ {P:Program}{w:World}{H:Hp}{h h':Heap}{Ca:Addr}(ok:fS P w H h)(hn:H Ca=none)(hs:Heap.SameBut Ca h h'):fS P w H h':=fun b u e=>by
 refine(ok b u e).nZ (fun c v hc q=>hs.extBut c v ?_ q) (fun _ q=>q) fun _ _ q=>q
 rcases hc with z|z
 ·rw[z];exact fun y=>by rw[y,hn]at e;cases e
 ·exact fun y=>by rw[y,hn]at z;cases z
section
variable {X:Cx}{C:aW}{sub:Nat->Nat->Bool}{elt iter tg:Expr}{ifs:List Expr}{xe:Ex}{kU aD:List Ex}{pos:Pos}{scope:Scope}{own cn:List Str}{aL:List Nat}{one:Bool}{k:Option IK}
theorem DK (hC:bL C C)(S:kJ X scope cn aL)(hc:X.calm=true)(mQ:one=true->own.length=1)
  (hg:∀ fp s H Ca,PG (lB X scope own cn fp s H Ca) tg (JU X.K one own.length))
  (hts:∀ fp s H Ca,CQ (lB X scope own cn fp s H Ca) ifs (tV X.K (gD C sub EF kU)))
  (he:∀ fp s H Ca,PE (lB X scope own cn fp s H Ca) elt (bM X.K (aG C sub EF xe)))
  {use:Option (Value->Sem Unit)}{Qf:Value->Shared->Prop}
  {pins:List (Addr×Obj)}{s₂:Shared}{σ:L2.St}{σd:St}{H1:Hp}{aC:aA}{J:It}{fp:List Addr}{it:Addr}{tn:Nat->Heap->Prop}{as:List Nat}{xs:List D}{R:List D->aA->Prop}
  (I2:Inv X pins σ H1 s₂)(T:Turn X.prog X.w X.K tg J fp it tn)(t0:tn 0 s₂.heap)(f2:∀ b∈fp,lY X pins H1 b)(r:cZ X.K H1 σd σ)(aN:aQ X.K aC H1)(j:yG X.K J as xs H1 aC)
  (q:iP (same as aC) (fun x aF K=>jE one (List.range own.length) x (List.replicate own.length none++aL.map fun i=>(σd[i]?).getD none) fun σ' =>
    gD C sub EF kU σ' aF fun b bB=>if b=true then aG C sub EF xe σ' bB fun d dI=>K (some d) dI else K none bB) xs [] aC R)
  (fin:∀(Da Ca:Addr)(H':Hp)(aB:aA)(ds:List D)(m:Str->Option Value)(s':Shared),s'.heap.Ns Ca m->(∀ h',Heap.SameBut Ca s'.heap h'->Inv X pins σ H' { s' with heap:=h' })->Inv X pins σ H' s'->Ca≠X.env.locals->(∀ x c,X.env.cells.lookup x=some c->c≠Ca)->Ca∉X.fs->X.s₀.heap.objs.size<=Ca->(∀ p∈X.pn++pins,p.1≠Ca)->H' Ca=none->Step H1 aC H' aB->aQ X.K (put aB Da (.lst ds)) H'->H1 Da=none->aB Da=none->R ds aB ->
   compPost (model X.prog X.w) X.A X.xe use Qf (.ref Da) Ca (.ok .next) s'):
  wpAny (model X.prog X.w) X.A (newList []) (fun acc s₃ =>
   wpAny (model X.prog X.w) X.A (newFunctionEnv scope X.env.globals (jQ X.env.cells scope.names []) [] X.env.qual none .none (some X.env)) (fun cenv s₄ =>
    codeAny (model X.prog X.w) X.A (.compStart (.ListComp elt [⟨tg,iter,ifs,0⟩] scope pos) 0 (.ref it) acc { cenv with scope:=relabel scope X.env }) (compPost (model X.prog X.w) X.A X.xe use Qf acc cenv.locals) s₄) X.xe s₃) X.xe s₂:=by
 have hD1:H1 s₂.heap.objs.size=none:=I2.fresh
 obtain⟨tf,htf0⟩:∃ tf:D->aA->(Option D->aA->Prop)->Prop,tf=fun x aF K=>jE one (List.range own.length) x (List.replicate own.length none++aL.map fun i=>(σd[i]?).getD none) fun σ' =>
    gD C sub EF kU σ' aF fun b bB=>if b=true then aG C sub EF xe σ' bB fun d dI=>K (some d) dI else K none bB:=⟨_,rfl⟩
 have htf:∀ x aF (K:Option D->aA->Prop),tf x aF K->jE one (List.range own.length) x (List.replicate own.length none++aL.map fun i=>(σd[i]?).getD none) fun σ' =>
    gD C sub EF kU σ' aF fun b bB=>if b=true then aG C sub EF xe σ' bB fun d dI=>K (some d) dI else K none bB:=fun x aF K h=>by rw[htf0]at h;exact h
 rw[<-htf0]at q
 refine wpAny_newObj_type ?_
 have I3:=I2.QF (aD:=[]) (ys:=[]) (t':=s₂.toks) .nil (Nat.zero_le _)
 generalize hS3:({ s₂ with heap:=s₂.heap.push { cls:=.type "list", dict:=none,data:=.seq ([]:List Value).toArray } }:Shared)=s₃
 have I3:Inv X pins σ (upd H1 s₂.heap.objs.size (.lst [])) s₃:=by rw[<-hS3];exact I3
 have lt3:s₂.heap.objs.size<s₃.heap.objs.size:=by rw[<-hS3];show _<(s₂.heap.push _).objs.size;rw[Heap.size_push];exact Nat.lt_succ_self _
 have old3:∀ b o,s₂.heap.get? b=some o->s₃.heap.get? b=some o:=fun b o e=>by rw[<-hS3];exact Heap.get?_push_of_some _ e
 generalize hDa:s₂.heap.objs.size=Da at *
 have hlt2:∀ b∈fp,b<Da:=fun b hb=>by
  obtain⟨o,e,_⟩:=T.obj _ _ t0 b hb
  rw[<-hDa];exact Heap.lt_size e
 have f3:∀ b∈fp,lY X pins (upd H1 Da (.lst [])) b:=fun b hb=>⟨by rw[aY (Nat.ne_of_lt (hlt2 b hb))];exact(f2 b hb).1,(f2 b hb).2⟩
 have hlt3:∀ b∈fp,b<s₃.heap.objs.size:=fun b hb=>Nat.lt_trans (hlt2 b hb) lt3
 refine wpAny_newFunctionEnv S.nocell (by intro y hy;simp at hy) (fun h₁ hns hsb=>?_) S.kind
 have keep1:∀ b o,s₃.heap.get? b=some o->h₁.get? b=some o:=fun b o e=>hsb.extBut b o (Nat.ne_of_lt (Heap.lt_size e)) (Heap.get?_push_of_some _ e)
 have t1:tn 0 h₁:=T.keep _ _ _ t0 fun b hb o e=>keep1 b o (old3 b o e)
 have B0:=HP (own:=own) S hc I3 f3 hlt3 (Nat.le_refl _) (tk:=s₃.toks+([]:List (Str×Value)).length) hns keep1
 generalize hXc:lB X scope own cn fp s₃ (upd H1 Da (.lst [])) s₃.heap.objs.size=Xc at B0
 have hgc:PG Xc tg (JU X.K one own.length):=by rw[<-hXc];exact hg _ _ _ _
 have htc:CQ Xc ifs (tV X.K (gD C sub EF kU)):=by rw[<-hXc];exact hts _ _ _ _
 have hec:PE Xc elt (bM X.K (aG C sub EF xe)):=by rw[<-hXc];exact he _ _ _ _
 have eP:Xc.prog=X.prog:=by rw[<-hXc];rfl
 have eW:Xc.w=X.w:=by rw[<-hXc];rfl
 have eK:Xc.K=X.K:=by rw[<-hXc];rfl
 have eA:Xc.A=X.A:=by rw[<-hXc];rfl
 have eX:Xc.xe=fun _ _=>False:=by rw[<-hXc];rfl
 have eN:Xc.env=compEnvC scope (jQ X.env.cells scope.names []) s₃.heap.objs.size X.env:=by rw[<-hXc];rfl
 have eL:Xc.env.locals=s₃.heap.objs.size:=by rw[eN];rfl
 have eC:Xc.calm=true:=by rw[<-hXc];rfl
 have fC:∀{H':Hp},(∀ b∈fp,H' b=none)->∀ b∈fp,lY Xc [] H' b:=fun{H'} hn b hb=>by
  have ok:=B0.ok
  refine⟨hn b hb,by rw[eL];exact Nat.ne_of_lt (hlt3 b hb),ok.exfs b (by rw[<-hXc];exact hb),.inl (by rw[<-hXc];exact hb),fun x c e=>(ok.exf b (by rw[<-hXc];exact hb)).2 x c e,fun p hp=>?_⟩
  have:p∈([]:List (Addr×Obj)):=by rw[<-hXc]at hp;exact hp
  cases this
 have capsRel:∀{H':Hp}{aB:aA},Step H1 aC H' aB->cZ X.K H' (List.replicate own.length none++aL.map fun i=>(σd[i]?).getD none) (List.replicate own.length none++oA aL σ):=fun s'=>(QR r _ _).step aN s'
 have loop:∀ s4:Shared,s4 = { s₃ with heap:=h₁,toks:=s₃.toks+([]:List (Str×Value)).length }->codeAny (model X.prog X.w) X.A (.compLoop (.ListComp elt [⟨tg,iter,ifs,0⟩] scope pos) 0 (.ref it) (.ref Da) Xc.env) (compPost (model X.prog X.w) X.A X.xe use Qf (.ref Da) s₃.heap.objs.size) s4:=by
  rintro s4 rfl
  refine GY (fun n s'=>∃ i H' aB ds ys,n+i=xs.length/\Inv Xc [] (List.replicate own.length none++oA aL σ) H' s'/\tn i s'.heap/\(∀ b∈fp,H' b=none)/\Step H1 aC H' aB/\aQ X.K aB H'/\H' Da=some (.lst ys)/\aB Da=none/\aH X.K H' ds ys /\
   iP (same as aC) tf (xs.drop i) ds aB R) ?_ xs.length
   ⟨0,_,aC,[],[],rfl,B0,t1,fun b hb=>(f3 b hb).1,pI hD1,aN.new hD1,cY,aN.fresh hD1,.nil,by simpa using q⟩
  rintro n s' ⟨i,H',aB,ds,ys,hni,I',ti,fr',cW,eQ,hD',hst',rs,q'⟩
  by_cases hi:i<xs.length
  ·-- a turn
   have ed:xs.drop i=xs[i]::xs.drop (i+1):=List.drop_eq_getElem_cons hi
   rw[ed]at q'
   obtain⟨g1,gl,q'⟩:=q'
   have hx:xs[i]? = some xs[i]:=List.getElem?_eq_getElem hi
   have hpn:=T.item Xc eP eW eK eC i [] s' _ H' (fun _ _=>False) I' (fC fr') ti (j.go i H' aB xs[i] cW eQ g1 hx)
   rw[eA]at hpn
   refine aV hpn fun rr s5 ⟨u,hu,h5⟩=>?_
   subst hu
   refine aV h5 fun _ s6 ⟨v,H6,I6,rv,y6,t6,fr6⟩=>?_
   obtain⟨s6s,Ah,rd⟩:=j.yld i H' aB xs[i] v H6 cW eQ g1 hx y6
   have D6:=s6s Da _ hD' hst'
   have I6':=I6.pinned (fC fr6) (T.obj _ _ t6)
   have hasg:=hgc _ s6 _ H6 v u (fun σ2 H2=>∃ qV,H2=H6/\cZ X.K H6 qV σ2/\(∀ i,own.length<=i->σ2[i]? = (List.replicate own.length none++oA aL σ)[i]?)/\σ2.length=(List.replicate own.length none++oA aL σ).length /\
    gD C sub EF kU qV aB fun b bB=>if b=true then aG C sub EF xe qV bB fun d dI=>iP (same as aC) tf (xs.drop (i+1)) (ds++[d]) dI R else iP (same as aC) tf (xs.drop (i+1)) ds bB R) I6' rv
    (JZ mQ (htf _ _ _ q') ((capsRel cW).step eQ s6s) rd fun σ2 qV r2 p2 k2 l2=>⟨qV,rfl,r2,k2,l2,p2⟩)
   rw[eP,eW,eA,eX]at hasg
   refine aV hasg fun _ s7 ⟨σ2,H7,I7,qV,e7,r7,k7,l7,q7⟩=>?_
   subst e7
   have hte:=htc _ s7 σ2 H7 _ I7 ⟨qV,aB,_,r7,Ah,q7,fun b H' z=>z⟩
   rw[eP,eW,eA,eX]at hte
   have again:∀{H8:Hp}{s8:Shared}{qW:aA}{ds8:List D}{ys8:List V},Inv Xc ([]++wH fp s6.heap) σ2 H8 s8->Step H1 aC H8 qW->aQ X.K qW H8->H8 Da=some (.lst ys8)->qW Da=none->aH X.K H8 ds8 ys8->iP (same as aC) tf (xs.drop (i+1)) ds8 qW R ->
     ∃ m,m<n/\∃ i H' aB ds ys,m+i=xs.length/\Inv Xc [] (List.replicate own.length none++oA aL σ) H' s8/\tn i s8.heap/\(∀ b∈fp,H' b=none)/\Step H1 aC H' aB/\aQ X.K aB H'/\H' Da=some (.lst ys)/\aB Da=none/\aH X.K H' ds ys/\iP (same as aC) tf (xs.drop i) ds aB R:=fun{H8 s8 qW ds8 ys8} I8 s8s OK hD8 hs8 rs8 q8=>by
    have pinned:∀ b∈fp,∀ o,s6.heap.get? b=some o->s8.heap.get? b=some o/\H8 b=none:=fun b hb o e=>by
     have:=I8.pin (b,o) (List.mem_append_right _ (List.mem_append_right _ (tR hb e)))
     exact⟨this.1,this.2.1⟩
    refine⟨n-1,by omega,i+1,H8,qW,ds8,ys8,by omega,?_,T.keep _ _ _ t6 fun b hb o e=>(pinned b hb o e).1,fun b hb=>?_,s8s,OK,hD8,hs8,rs8,q8⟩
    ·refine I8.tG.weak (by rw[l7]) fun i0 v0 e0=>?_
     by_cases hi0:i0<own.length
     ·rw[List.getElem?_append_left (by simpa using hi0),List.getElem?_replicate]at e0
      split at e0<;>cases e0
     ·rw[k7 i0 (by omega)];exact e0
    ·obtain⟨o,e,_⟩:=T.obj _ _ t6 b hb
     exact(pinned b hb o e).2
   have s17:=cW.trans s6s
   have rs7:=rs.step eQ s6s
   refine aV hte fun b s8 ⟨H8,I8,qW,s8s,OK,q8⟩=>?_
   have D8:=s8s Da _ D6.1 D6.2
   have rs8:=rs7.step Ah s8s
   cases b with
   |false=>exact again I8 (s17.trans s8s) OK D8.1 D8.2 rs8 q8
   |true =>
    have hel:=hec _ s8 σ2 H8 _ I8 ⟨qV,qW,_,r7.step Ah s8s,OK,q8,fun v H' z=>z⟩
    rw[eP,eW,eA,eX]at hel
    refine aV hel fun u9 s9 ⟨v9,H9,I9,rv9,d9,Fq,s9s,Jz,rd9,q9⟩=>?_
    have D9:=s9s Da _ D8.1 D8.2
    have rs9:=rs8.step OK s9s
    have hap:=L2.qI _ s9 σ2 H9 (.ref Da) [v9] (.ref Da) [u9] (fun _ H'=>H'=upd H9 Da (.lst (ys++[v9]))) I9 rfl (.cons rv9 .nil) ⟨Da,ys,v9,rfl,rfl,D9.1,by rw[fH,<-rs9.length];exact gl,rfl⟩
    rw[eP,eW,eA,eX]at hap
    refine aV hap fun _ s10 ⟨_,H10,I10,_,e10⟩=>?_
    subst e10
    refine again I10 (fun a o e0 n0=>?_) (Jz.alt D9.1 D9.2) cY D9.2 ((rs9.append (.cons rd9 .nil)).alt D9.1) q9
    have:=((s17.trans s8s).trans s9s) a o e0 n0
    exact⟨by rw[aY (gR e0 hD1)];exact this.1,this.2⟩
  ·-- the end
   have ed:xs.drop i=[]:=List.drop_eq_nil_of_le (by omega)
   rw[ed]at q'
   have hpn:=T.done Xc eP eW eK eC i [] s' _ H' (fun _ _=>False) I' (fC fr') ti (j.stop i H' aB cW eQ q'.1 (by omega))
   rw[eA]at hpn
   refine aV hpn fun rr s5 ⟨hr,I5⟩=>?_
   subst hr
   have un5:Un (sJ X.stack) fp (upd H1 Da (.lst [])) H' s₃.heap s5.heap:=by have:=I5.base;rw[<-hXc]at this;exact this
   have os5:s5.os=s₃.os:=by have:=I5.os;rw[<-hXc]at this;exact this
   have fC5:H' s₃.heap.objs.size=none:=by have:=I5.free;rw[eL]at this;exact this
   have hch:∀ b∈fp,(b∈X.ex∨X.s₀.heap.objs.size<=b)/\b≠X.env.locals/\(∀ x c,X.env.cells.lookup x=some c->c≠b)/\∀ p∈X.pn++pins,p.1≠b:=fun b hb=>⟨(f2 b hb).2.2.2.1,(f2 b hb).2.1,(f2 b hb).2.2.2.2.1,(f2 b hb).2.2.2.2.2⟩
   have hok5:fS X.prog X.w H' s5.heap:=by have:=I5.bH;rw[eP,eW]at this;exact this
   have Iall:∀ h',(∀ b o,b≠s₃.heap.objs.size->s5.heap.get? b=some o->h'.get? b=some o)->fS X.prog X.w H' h'->Inv X pins σ H' { s5 with heap:=h' }:=fun h' kk bH=>by
    have ne:∀ b o,s₃.heap.get? b=some o->b≠s₃.heap.objs.size:=fun b o e=>Nat.ne_of_lt (Heap.lt_size e)
    refine I3.RN (s':={ s5 with heap:=h' }) (ch:=fp) os5 ⟨fun b o e n hb hx=>kk b o (ne b o e) (un5.keep b o e n hb hx),fun b o e n hb hx=>?_,un5.free,fun b o e hx=>?_,un5.pX,un5.mB,un5.oB⟩ bH I5.bare hch
    ·obtain⟨sl,e'⟩:=un5.slot b o e n hb hx
     exact⟨sl,kk b _ (ne b o e) e'⟩
    ·obtain⟨o',e'⟩:=un5.there b o e hx
     exact⟨o',kk b o' (ne b o e) e'⟩
   obtain⟨m5,ns5,_⟩:=I5.loc
   rw[eL]at ns5
   refine fin Da s₃.heap.objs.size H' aB ds m5 s5 ns5 (fun h' hs=>Iall h' (fun b o hb e=>hs.extBut b o hb e) (UJ hok5 fC5 hs)) (Iall s5.heap (fun b o _ e=>e) hok5) (Nat.ne_of_gt I3.lt) (fun x c e=>?_) (I3.VW (Nat.le_refl _)) I3.sz (fun p hp=>Nat.ne_of_lt (Heap.lt_size (I3.pin p hp).1)) fC5 cW (eQ.take hD' rs) hD1 hst' q'.2
   obtain⟨v,o,ho,_⟩:=I3.cell x c e
   exact Nat.ne_of_lt (Heap.lt_size ho)
 have hl:=loop _ rfl
 rw[eN]at hl
 exact codeAny_compStart_list hl (T.self X.A 0 _ _ _ t1 hl)
theorem EH {H H1 H':Hp}{st aC aB:aA}{Da:Addr}{o:MO}(s1:Step H st H1 aC)(s2:Step H1 aC H' aB)(hD:H1 Da=none):Step H st H' (put aB Da o):=fun a u e n=>by
 have e1:=s1 a u e n
 have e2:=s2 a u e1.1 e1.2
 exact⟨e2.1,by rw[bK (gR e1.1 hD)];exact e2.2⟩
theorem V6 (hC:bL C C)(S:kJ X scope cn aL)(hc:X.calm=true)(mQ:one=true->own.length=1)
 (hi:PI X tg iter (zA X.K fun σ st M=>bE C sub EF aD σ st fun ds aC=>fK k ds aC fun as xs=>M as xs aC))
 (hg:∀ fp s H Ca,PG (lB X scope own cn fp s H Ca) tg (JU X.K one own.length))
 (hts:∀ fp s H Ca,CQ (lB X scope own cn fp s H Ca) ifs (tV X.K (gD C sub EF kU)))
 (he:∀ fp s H Ca,PE (lB X scope own cn fp s H Ca) elt (bM X.K (aG C sub EF xe)))
 (hs:∀ x,foldedSetIterable iter X.env x=pure x):
 PE X (.ListComp elt [⟨tg,iter,ifs,0⟩] scope pos) (bM X.K (aG C sub EF (.comp own.length aL (List.range own.length) one k aD kU xe))):=by
 intro pins s σ H Q I ⟨σd,st,R,r,ok,q,hq⟩
 rw[eval_ListComp]
 refine wpAny_comprehension_free (use:=none) rfl hs (nT (S.cells I.ok)) S.kind S.names ?_
 refine aV (hi pins s σ H _ I ⟨σd,st,_,r,ok,q,fun J H1 z=>z⟩) fun v s1 h1=>aV h1 fun itv s2 h2=>?_
 obtain⟨it,fp,tn,J,H1,rfl,I2,T,t0,f2,as,xs,aC,cW,aN,j,q1⟩:=h2
 refine DK (use:=none) hC S hc mQ hg hts he I2 T t0 f2 (r.step ok cW) aN j q1 ?_
 intro Da Ca H' aB ds m s' hns zN hI _ _ _ _ _ _ gW okp hD1 hst' hR
 exact⟨m,hns,fun h' hh=>⟨.ref Da,H',zN h' hh,rfl,hq _ _ ⟨.ref Da,_,EH cW gW hD1,okp,.ref Da,hR.2 Da hst'⟩⟩⟩
theorem XO {i:Nat}{y:Str}{py spos:Pos}(hC:bL C C)(S:kJ X scope cn aL)(hc:X.calm=true)(mQ:one=true->own.length=1)
  (hi:PI X tg iter (zA X.K fun σ st M=>bE C sub EF aD σ st fun ds aC=>fK k ds aC fun as xs=>M as xs aC))
  (hg:∀ fp s H Ca,PG (lB X scope own cn fp s H Ca) tg (JU X.K one own.length))
  (hts:∀ fp s H Ca,CQ (lB X scope own cn fp s H Ca) ifs (tV X.K (gD C sub EF kU)))
  (he:∀ fp s H Ca,PE (lB X scope own cn fp s H Ca) elt (bM X.K (aG C sub EF xe)))
  (hN:X.N.Nodup)(hy:X.N[i]? = some y)(hx:Loc X.env.scope y)(hf:X.fn y=true∨X.env.scope.names.lookup y=some .local)
  (hsw:swapsWith (.ListComp elt [⟨tg,iter,ifs,0⟩] scope pos) (some (.Name y py)) spos.line X.env=pure true)
  (hs:∀ x,foldedSetIterable iter X.env x=pure x):
  PS X (.Assign [.Name y py] (.ListComp elt [⟨tg,iter,ifs,0⟩] scope pos) spos) (gE X.K (wpS C sub (.asg (.nm i) (.comp own.length aL (List.range own.length) one k aD kU xe)))):=by
 intro pins s σ H D I ⟨σd,st,P,r,ok,q,h⟩
 have q:=pS hC h.ex q
 rw[exec_Assign_Name_used _ _ _ _ hsw]
 refine wpAny_bind (wpAny_standAt (wpAny_bind ?_))
 show wpAny _ X.A (do let _ <-comprehension (.ListComp elt [⟨tg,iter,ifs,0⟩] scope pos) scope X.env _ (newList []) false (eval iter X.env) (some (assign (.Name y py) X.env))) _ _ s
 refine wpAny_bind (wpAny_mono (wpAny_comprehension_free (use:=some (assign (.Name y py) X.env)) (Q:=fun _ s'=>SP X pins D .next s') rfl hs (nT (S.cells I.ok)) S.kind S.names ?_) (fun _ s' hq=>wpAny_pure (wpAny_pure hq)) fun _ _ e=>e)
 refine aV (hi pins s σ H _ I ⟨σd,st,_,r,ok,q,fun J H1 z=>z⟩) fun v s1 h1=>aV h1 fun itv s2 h2=>?_
 obtain⟨it,fp,tn,J,H1,rfl,I2,T,t0,f2,as,xs,aC,cW,aN,j,q1⟩:=h2
 refine DK (use:=some (assign (.Name y py) X.env)) hC S hc mQ hg hts he I2 T t0 f2 (r.step ok cW) aN j q1 ?_
 intro Da Ca H' aB ds m s' hns zN hI hL hcl hfs jH hpins hn gW okp hD1 hst' hR
 show wpAny _ X.A (assign (.Name y py) X.env (.ref Da)) _ _ _
 refine wpAny_assign_Name (DC hI hN hy hx (v:=.ref Da) rfl (fun s'' I'' kk=>?_) hf)
 obtain⟨ad,sb,had⟩:=kk
 have nad:Ca≠ad:=fun z=>by
  rcases had with e|e
  ·exact hL (z.trans e)
  ·exact hcl y ad e z.symm
 refine⟨m,hns.at' fun o e=>(sb.2 Ca nad).trans e,fun h' hh=>?_⟩
 refine⟨σ.set i (some (.ref Da)),H',I''.turned (t':=s''.toks) (fun b o hb e=>hh.extBut b o hb e) hn hL (.inr jH) hcl hpins,?_⟩
 have bB:=EH (o:=.lst ds) cW gW hD1
 exact h.nx _ _ _ _ ((r.step ok bB).set i (.ref Da)) bB okp (hR.2 Da hst')
end
end L3
end
section
namespace L3
open PySem PySem.Spec PyProof.Rows L2
theorem DO {K:PySem.W.Frag}{H:Hp}{ds:List D}{vs:List V}(r:aH K H ds vs){N:List Str}{np:Nat}(h:ds.length=np):cZ K H (start np N.length ds) (L2.start N vs):=by
 refine⟨by simp [start,L2.start,r.length,<-h],fun i d e=>?_⟩
 unfold start at e
 by_cases hi:i<ds.length
 ·rw[List.getElem?_append_left (by simpa using hi),List.getElem?_map,Option.map_eq_some_iff]at e
  obtain⟨d',e1,e2⟩:=e
  cases e2
  obtain⟨v,e3,e4⟩:=r.get e1
  refine⟨v,?_,e4⟩
  unfold L2.start
  rw[List.getElem?_append_left (by rw[List.length_map,<-r.length];exact hi),List.getElem?_map,e3];rfl
 ·rw[List.getElem?_append_right (by simpa using hi),List.getElem?_replicate]at e
  split at e<;>cases e
theorem TN {P:Program}{w:World}{K:PySem.W.Frag}{mg:Str->Option Value}{base:Heap}{G:Prog}{f:Nat}{a:Addr}{fd:FuncData}{ps:List Str}:eI P w K mg base dB 0 a fd ps (eR K (aM G 0) f):=by
 have no:∀ vs H Q E,¬eR K (aM G 0) f vs H Q E:=fun vs H Q E ⟨_,_,_,_,_,h,_⟩=>h
 exact⟨fun vs H Q E h=>absurd h (no vs H Q E),fun A outer s H args us vs Q E _ _ _ _ h=>absurd h (no vs H Q E)⟩
end L3
end
section
namespace L3
open PySem PySem.Spec PyProof.Rows L2
theorem eM:bootBuiltins "len" = some (.builtin "len"):=by decide +kernel
theorem pT:bootBuiltins "all" = some (.builtin "all"):=by decide +kernel
theorem L5:bootBuiltins "any" = some (.builtin "any"):=by decide +kernel
theorem DW:bootBuiltins "isinstance" = some (.builtin "isinstance"):=by decide +kernel
theorem Z7:bootBuiltins "int" = some (.type "int"):=by decide +kernel
theorem N9:bootBuiltins "str" = some (.type "str"):=by decide +kernel
theorem B2:bootBuiltins "bool" = some (.type "bool"):=by decide +kernel
theorem xB:bootBuiltins "list" = some (.type "list"):=by decide +kernel
theorem jR:bootBuiltins "tuple" = some (.type "tuple"):=by decide +kernel
theorem Y3:bootBuiltins "set" = some (.type "set"):=by decide +kernel
theorem HS:bootBuiltins "reversed" = some (.type "reversed"):=by decide +kernel
theorem PV:bootBuiltins "range" = some (.type "range"):=by decide +kernel
noncomputable def GS:Ty->String
 |.int =>"int"
 |.str =>"str"
 |.bool =>"bool"
 |.list =>"list"
 |.tuple =>"tuple"
 |.dict =>"dict"
 |.err _ =>"?"
noncomputable def D4:Ty->Bool
 |.err _=>false
 |_=>true
section
variable {X:Cx}{pins:List (Addr×Obj)}{σ:L2.St}{H:Hp}{s:Shared}{st:aA}{sub:Nat->Nat->Bool}
noncomputable abbrev ZZ (X:Cx)(s:Shared)(u:Value)(t:Ty)(b:Bool):Prop:=∀(A:Around)(Q:Value->Shared->Prop)(E:Value->Shared->Prop),(∀ tk,Q (.bool b) { s with toks:=tk })->wpAny (model X.prog X.w) A (call (.builtin "isinstance") [u,.type (GS t)]) Q E s
theorem xH {a:Addr}(I:Inv X pins σ H s)(h:∃ o,s.heap.get? a=some o/\o.cls=.type "list"){t:Ty}{b:Bool}(e:PySem.W.kitOne X.K (.type "list") (.type (GS t))=some b):ZZ X s (.ref a) t b:=fun A Q E hQ =>
 PySem.W.kia_one PySem.W.kitx_list I.hU h e (fun z=>nomatch z) hQ
theorem JR {a:Addr}(I:Inv X pins σ H s)(h:∃ o,s.heap.get? a=some o/\o.cls=.type "tuple"){t:Ty}{b:Bool}(e:PySem.W.kitOne X.K (.type "tuple") (.type (GS t))=some b):ZZ X s (.ref a) t b:=fun A Q E hQ =>
 PySem.W.kia_one PySem.W.kitx_tuple I.hU h e (fun z=>nomatch z) hQ
theorem MR {d:D}{v:V}{u:Value}{t:Ty}{P:Bool->Prop}(I:Inv X pins σ H s)(ok:aQ X.K st H)(r:Rep X.K H d v)(rv:RelV v u)(ht:D4 t=true)(h:gP sub d st t P):∃ b,P b/\ZZ X s u t b:=by
 cases d with
 |non =>
  cases r.eU;cases rv
  refine⟨false,by cases t<;>exact h,fun A Q E hQ=>PySem.W.kia_one PySem.W.kitx_none I.hU True.intro ?_ (fun z=>nomatch z) hQ⟩
  cases t<;>first|rfl|cases ht
 |bl k =>
  cases r.eO;cases rv
  cases t with
  |bool=>exact⟨true,h,fun A Q E hQ=>PySem.W.kia_one PySem.W.kitx_bool I.hU True.intro rfl (fun z=>nomatch z) hQ⟩
  |int=>exact⟨true,h,fun A Q E hQ=>PySem.W.kia_one PySem.W.kitx_bool I.hU True.intro rfl (fun z=>nomatch z) hQ⟩
  |err _=>cases ht
  |_=>exact⟨false,h,fun A Q E hQ=>PySem.W.kia_one PySem.W.kitx_bool I.hU True.intro rfl (fun z=>nomatch z) hQ⟩
 |int k =>
  cases r.int_inv;obtain⟨tk,rfl⟩:=rv
  cases t with
  |int=>exact⟨true,h,fun A Q E hQ=>PySem.W.kia_one PySem.W.kitx_int I.hU True.intro rfl (fun z=>nomatch z) hQ⟩
  |err _=>cases ht
  |_=>exact⟨false,h,fun A Q E hQ=>PySem.W.kia_one PySem.W.kitx_int I.hU True.intro rfl (fun z=>nomatch z) hQ⟩
 |str k =>
  cases r.str_inv;obtain⟨tk,rfl⟩:=rv
  cases t with
  |str=>exact⟨true,h,fun A Q E hQ=>PySem.W.kia_one PySem.W.kitx_str I.hU True.intro rfl (fun z=>nomatch z) hQ⟩
  |err _=>cases ht
  |_=>exact⟨false,h,fun A Q E hQ=>PySem.W.kia_one PySem.W.kitx_str I.hU True.intro rfl (fun z=>nomatch z) hQ⟩
 |tup ds =>
  obtain⟨a,vs,rfl,f,g⟩:=r.bJ
  cases rv
  obtain⟨aD,_,⟨o,h1,h2,_⟩,_⟩:=I.tuple f
  cases t with
  |tuple=>exact⟨true,h,JR I ⟨o,h1,h2⟩ rfl⟩
  |err _=>cases ht
  |_=>exact⟨false,h,JR I ⟨o,h1,h2⟩ rfl⟩
 |ref a =>
  cases r.bZ
  cases rv
  have key:∃ ds,st a=some (.lst ds):=by
   cases e:st a with
   |none=>exfalso;cases t<;>first|(simp only[gP,dH,e]at h)|cases ht
   |some o =>
    cases o with
    |lst ds=>exact⟨ds,rfl⟩
    |dic _ _=>exact(ok a _ e).elim
    |ins _ _=>exfalso;cases t<;>first|(simp only[gP,dH,e]at h)|cases ht
    |tab _ _=>exfalso;cases t<;>first|(simp only[gP,dH,e]at h)|cases ht
    |fn _ _=>exfalso;cases t<;>first|(simp only[gP,dH,e]at h)|cases ht
    |cod _=>exfalso;cases t<;>first|(simp only[gP,dH,e]at h)|cases ht
  obtain⟨ds,e⟩:=key
  obtain⟨vs,g1,_⟩:=ok.lst e
  obtain⟨_,aD,n,_,_,e1⟩:=I.sY g1
  have ho:∃ o,s.heap.get? a=some o/\o.cls=.type "list":=⟨_,e1,rfl⟩
  cases t with
  |list=>simp only[gP]at h;rw[gQ e]at h;exact⟨true,h,xH I ho rfl⟩
  |err _=>cases ht
  |_=>simp only[gP]at h;rw[gQ e]at h;exact⟨false,h,xH I ho rfl⟩
 |bF ds =>
  obtain⟨a,vs,rfl,f,g⟩:=r.jO
  cases rv
  obtain⟨aD,_,p,_⟩:=I.list f.sq
  obtain⟨o,h1,h2,_⟩:=p.isList
  cases t with
  |list=>exact⟨true,h,xH I ⟨o,h1,h2⟩ rfl⟩
  |err _=>cases ht
  |_=>exact⟨false,h,xH I ⟨o,h1,h2⟩ rfl⟩
 |cM _ _=>cases t<;>exact(show False from h).elim
 |exc c=>cases r
end
section
variable {X:Cx}{C:aW}{sub:Nat->Nat->Bool}{E:XK}{a:Expr}{x:Ex}{p p2 pos:Pos}
noncomputable def Hs (K:PySem.W.Frag)(sub:Nat->Nat->Bool)(t:Ty):List V->Hp->L2.VK->Prop:=fun vs H Q=>∃ d v st R,vs=[v,.ty (GS t)]/\Rep K H d v/\aQ K st H/\gP sub d st t (fun b=>R (.bl b) st)/\∀ v H',QD K H st R v H'->Q v H'
theorem PF {t:Ty}(ht:D4 t=true):sX X (.builtin "isinstance") (Hs X.K sub t):=by
 intro pins s σ H vs us Q I rv h
 obtain⟨d,v,st,R,rfl,r,ok,h,hq⟩:=h
 cases rv with|cons r1 r2=>cases r2 with|cons r2 r3 =>
 cases r3
 cases r2
 obtain⟨b,hb,hi⟩:=MR I ok r r1 ht h
 exact hi X.A _ _ fun tk=>⟨.bl b,H,I.tok tk,rfl,hq _ _ (.here ok (.bl b) hb)⟩
theorem Bi {t:Ty}{n:Str}(ht:D4 t=true)(hg:Gl X "isinstance")(hm:X.mg "isinstance" = none)(hg2:Gl X n)(hm2:X.mg n=none)(hv2:bootBuiltins n=some (.type (GS t)))(ha:PE X a (bM X.K (aG C sub E x)))
 (hn2:n ≠"__name__")(hd2:(n==("__debug__" : Str))=false)(he:starEach [a,.Name n p2] X.env=(false,eval a X.env)::starEach [.Name n p2] X.env)(he2:starEach [.Name n p2] X.env=[(false,eval (.Name n p2) X.env)])(cS:(backTo pos (starEach [.Name n p2] X.env)).any (·.1)=false):
 PE X (.Call (.Name "isinstance" p) [a,.Name n p2] [] pos) (bM X.K (aG C sub E (.isi x [t]))) :=
 (ER (PF (sub:=sub) ht) hg hm DW (BY ha (BY (SI hg2 hm2 hv2 (v:=.ty (GS t)) rfl hn2 hd2) NH he2) he) (by decide) (by decide) he cS).imp fun σ H Q ⟨σd,st,R,r,ok,q,hq⟩=>by
 refine⟨σd,st,_,r,ok,q,fun v H1 ⟨d,aC,s1,aN,r1,q1⟩=>?_⟩
 exact⟨d,v,aC,R,rfl,r1,aN,q1,fun v H' z=>hq _ _ (.after s1 z)⟩
theorem Bc {t:String}{j:Nat}(h:Str.ofString t=⟨(W t).toArray⟩):PE X (.Constant (.str (Str.ofString t)) j pos) (bM X.K (aG C sub E (.c (.str (W t))))) :=
 sC YV fun H=>by rw[h];exact .str _
end
end L3
end
section
namespace L3
open PySem PySem.Spec PyProof.Rows L2
structure JE (X:Cx)(C:aW)(sub:Nat->Nat->Bool)(E:XK)(e:Expr)(x:Ex):Prop where
 h:PE X e (bM X.K (aG C sub E x))
structure JT (X:Cx)(C:aW)(sub:Nat->Nat->Bool)(E:XK)(e:Expr)(x:Ex):Prop where
 h:PT X e (iR X.K (aG C sub E x))
structure JW (X:Cx)(C:aW)(sub:Nat->Nat->Bool)(E:XK)(e:Expr)(x:Ex):Prop where
 h:PW X e (iR X.K (aG C sub E x))
structure JA (X:Cx)(C:aW)(sub:Nat->Nat->Bool)(E:XK)(es:List Expr)(xs:List Ex):Prop where
 h:PA X es (jT X.K (bE C sub E xs))
structure JO (X:Cx)(C:aW)(sub:Nat->Nat->Bool)(E:XK)(e:Option Expr)(xs:List Ex):Prop where
 h:PO X e (CA X.K (bE C sub E xs))
structure JI (X:Cx)(C:aW)(sub:Nat->Nat->Bool)(E:XK)(tg e:Expr)(k:Option IK)(xs:List Ex):Prop where
 h:PI X tg e (zA X.K fun σ st M=>bE C sub E xs σ st fun ds aC=>fK k ds aC fun as ys=>M as ys aC)
structure JG (X:Cx)(C:aW)(sub:Nat->Nat->Bool)(E:XK)(tg:Expr)(t:Tg):Prop where
 h:PG X tg (GQ X.K (lL C sub E t))
structure JN (X:Cx)(tg:Expr)(i:Nat):Prop where
 h:PG X tg (zY i)
structure R6 (X:Cx)(es:List Expr)(is:List Nat):Prop where
 h:A7 X es (rL is)
structure JB (X:Cx)(tg:Expr)(one:Bool)(n:Nat):Prop where
 h:PG X tg (JU X.K one n)
structure JQ (X:Cx)(C:aW)(sub:Nat->Nat->Bool)(E:XK)(es:List Expr)(xs:List Ex):Prop where
 h:CQ X es (tV X.K (gD C sub E xs))
structure JS (X:Cx)(C:aW)(sub:Nat->Nat->Bool)(s:Stmt)(x:Sx):Prop where
 h:PS X s (gE X.K (wpS C sub x))
structure sP (X:Cx)(C:aW)(sub:Nat->Nat->Bool)(ss:List Stmt)(xs:List Sx):Prop where
 h:jI X ss (gE X.K (cL C sub xs))
structure lM (X:Cx)(C:aW)(n:Str)(fid:Nat):Prop where
 h:∃ k f fd ps,eI X.prog X.w X.K X.mg X.base dB k f fd ps (eR X.K C fid)/\cK k X.A/\X.mg n=some (.ref f)/\PySem.W.keepIn X.K (.ref f)=true/\Binds X.K fd ps []
noncomputable def GC (K:PySem.W.Frag)(mg:Str->Option Value)(n:Str)(d:D):Prop:=∃ u v,mg n=some u/\RelV v u/\∀ H,Rep K H d v
section
variable {X:Cx}{C:aW}{sub:Nat->Nat->Bool}{E:XK}{a b c e o tg:Expr}{es:List Expr}{x y z:Ex}{xs:List Ex}{p p2 pos apos:Pos}{k:Nat}{n:Str}{s:Stmt}{ss:List Stmt}{sxs:List Sx}
theorem jv (i:Nat)(hN:X.N[i]? = some n:=by kernel_rfl)(hv:X.env.scope.names.lookup n=some .local:=by kernel_rfl)(hd:(n==("__debug__" : Str))=false:=by kernel_rfl)
 (hcd:(n==("__classdict__" : Str))=false:=by kernel_rfl):JE X C sub E (.Name n pos) (.v i):=⟨KD (pv i hN (.inl hv) hd hcd)⟩
theorem cF (i:Nat)(hN:X.N[i]? = some n:=by kernel_rfl)(hv:X.env.scope.names.lookup n=some .cell:=by kernel_rfl)(hd:(n==("__debug__" : Str))=false:=by kernel_rfl)
 (hcd:(n==("__classdict__" : Str))=false:=by kernel_rfl):JE X C sub E (.Name n pos) (.v i):=⟨KD (pv i hN (.inr (.inl hv)) hd hcd)⟩
theorem ji {i:Int}:JE X C sub E (.Constant (.int i) k pos) (.c (.int i)):=⟨sC W6 fun _=>.int _⟩
theorem jb {i:Bool}:JE X C sub E (.Constant (.bool i) k pos) (.c (.bl i)):=⟨sC Dz fun _=>.bl _⟩
theorem jn:JE X C sub E (.Constant .none k pos) (.c .non):=⟨sC WU fun _=>.non⟩
theorem js {t:String}(h:Str.ofString t=⟨(W t).toArray⟩:=by kernel_rfl):JE X C sub E (.Constant (.str (Str.ofString t)) k pos) (.c (.str (W t))):=⟨Bc h⟩
theorem jg {d:D}(h:GC X.K X.mg n d)(hg:X.env.kindOf n=some .globalImplicit:=by kernel_rfl)(hd:(n==("__debug__" : Str))=false:=by kernel_rfl):JE X C sub E (.Name n pos) (.c d):=⟨let⟨u,v,h1,h2,h3⟩:=h;sC (SY hg h1 h2 hd) h3⟩
theorem ja (h:JE X C sub E e x)(hs:JA X C sub E es xs)(dZ:starEach (e::es) X.env=(false,eval e X.env)::starEach es X.env:=by kernel_rfl):JA X C sub E (e::es) (x::xs):=⟨YF h.h hs.h dZ⟩
theorem jt (m:bL C C)(hs:JA X C sub E es xs)(hl:xs.length<=bI:=by decide):JE X C sub E (.Tuple es k pos) (.tup xs):=⟨De m hs.h hl⟩
theorem oC {o:oZ}(u:X.A.units+180<cLine)(ha:JE X C sub E a x)(hb:JE X C sub E b y)(hm:behindInMarks (nN o) b=false:=by kernel_rfl):JE X C sub E (.Compare a [nN o] [b] pos) (.cmp o x y):=⟨Dl u ha.h hb.h hm⟩
theorem dE {o:oZ}(u:X.A.units+180<cLine)(ha:JE X C sub E a x)(hb:JE X C sub E b y)(hm:behindInMarks (nN o) b=false:=by kernel_rfl):JT X C sub E (.Compare a [nN o] [b] pos) (.cmp o x y):=⟨XB u ha.h hb.h hm⟩
theorem Y9 {o o':oZ}(u:X.A.units+180<cLine)(ha:JE X C sub E a x)(hb:JE X C sub E b y)(hc:JE X C sub E c z)(hm:lastMarks [nN o,nN o'] [b,c]=false:=by kernel_rfl):JE X C sub E (.Compare a [nN o,nN o'] [b,c] pos) (.chain o o' x y z):=⟨U6 u ha.h hb.h hc.h hm⟩
theorem tp (h:JE X C sub E e x)(he:∀ whole,isTrue e X.env whole=(do let v <-whole;standAt e.pos;holding [v] (truthy v)):=by intro _;rfl):JT X C sub E e x:=⟨PB h.h he⟩
theorem bW (ha:JE X C sub E a x)(hb:JE X C sub E b y)(hp:rW b:=by intro _ _;rfl):JE X C sub E (.Subscript a b pos) (.ix x y):=⟨Gf ha.h hb.h hp⟩
theorem cA {fid:Nat}(h:lM X C n fid)(ha:JA X C sub EF (e::es) xs)(hg:X.env.kindOf n=some .globalImplicit:=by kernel_rfl)(hdb:(n==("__debug__" : Str))=false:=by kernel_rfl)(he:starEach (e::es) X.env=(false,eval e X.env)::starEach es X.env:=by kernel_rfl)(cS:(backTo pos (starEach es X.env)).any (·.1)=false:=by kernel_rfl):
 JE X C sub EF (.Call (.Name n p) (e::es) [] pos) (.call fid xs):=⟨let⟨k,f,fd,ps,h1,h2,h3,h4,h5⟩:=h.h;XF h1 h2 hg h3 h4 h5 D0 ha.h hdb he cS⟩
theorem fF {f:BI}{id:String}(hW:vQ X (.builtin id) (gB f))(hv:bootBuiltins n=some (.builtin id))(hm:X.mg n=none)(ha:JA X C sub E (e::es) xs)(hg:X.env.kindOf n=some .globalImplicit:=by kernel_rfl)
 (hn:n ≠"__name__":=by decide)(hdb:(n==("__debug__" : Str))=false:=by kernel_rfl)(he:starEach (e::es) X.env=(false,eval e X.env)::starEach es X.env:=by kernel_rfl)(cS:(backTo pos (starEach es X.env)).any (·.1)=false:=by kernel_rfl):
 JE X C sub E (.Call (.Name n p) (e::es) [] pos) (.bi f xs):=⟨(Cb hW hg hm hv ha.h hn hdb he cS).imp fun σ H Q ⟨σd,st,R,r,ok,q,hq⟩=>⟨σd,st,R,r,ok,q,hq⟩⟩
theorem zH {f:BI}{id:String}(hW:vQ X (.type id) (gB f))(hv:bootBuiltins n=some (.type id))(hm:X.mg n=none)(ha:JA X C sub E (e::es) xs)(hg:X.env.kindOf n=some .globalImplicit:=by kernel_rfl)
 (hn:n ≠"__name__":=by decide)(hdb:(n==("__debug__" : Str))=false:=by kernel_rfl)(he:starEach (e::es) X.env=(false,eval e X.env)::starEach es X.env:=by kernel_rfl)(cS:(backTo pos (starEach es X.env)).any (·.1)=false:=by kernel_rfl):
 JE X C sub E (.Call (.Name n p) (e::es) [] pos) (.bi f xs):=⟨(ZF hW hg hm hv ha.h hn hdb he cS).imp fun σ H Q ⟨σd,st,R,r,ok,q,hq⟩=>⟨σd,st,R,r,ok,q,hq⟩⟩
theorem yB {t:Ty}(hv:bootBuiltins n=some (.type (GS t)))(hm:X.mg "isinstance" = none)(hm2:X.mg n=none)(ha:JE X C sub E a x)(ht:D4 t=true:=by kernel_rfl)(hg:X.env.kindOf "isinstance" = some .globalImplicit:=by kernel_rfl)(hg2:X.env.kindOf n=some .globalImplicit:=by kernel_rfl)
 (hn2:n ≠"__name__":=by decide)(hd2:(n==("__debug__" : Str))=false:=by kernel_rfl)(he:starEach [a,.Name n p2] X.env=(false,eval a X.env)::starEach [.Name n p2] X.env:=by kernel_rfl)(he2:starEach [.Name n p2] X.env=[(false,eval (.Name n p2) X.env)]:=by kernel_rfl)(cS:(backTo pos (starEach [.Name n p2] X.env)).any (·.1)=false:=by kernel_rfl):
 JE X C sub E (.Call (.Name "isinstance" p) [a,.Name n p2] [] pos) (.isi x [t]):=⟨Bi ht hg hm hg2 hm2 hv ha.h hn2 hd2 he he2 cS⟩
theorem FJ (ho:JE X C sub E o x)(ha:JA X C sub E (e::es) xs)(iS:attributeBase o "append" X.env (eval o X.env)=eval o X.env:=by kernel_rfl)
 (tZ:((backTo pos (starEach (e::es) X.env)).all (fun x=>!x.1)&&(backToKw pos (keywordEach [] X.env)).all (fun x=>x.1.isSome)&&decide ((e::es).length+([]:List Keyword).length+(if([]:List Keyword).isEmpty then 0 else 1)<30))=true:=by kernel_rfl)(iT:(apos.endLine==pos.line)=true:=by kernel_rfl)
 (hs:starEach (e::es) X.env=(false,eval e X.env)::starEach es X.env:=by kernel_rfl)(pY:(backTo pos (starEach es X.env)).any (·.1)=false:=by kernel_rfl):
 JE X C sub E (.Call (.Attribute o "append" apos) (e::es) [] pos) (.cC .append x xs):=⟨M2 (fun z=>nomatch z) PySem.F.slot_list_append PySem.F.type_list_append M4 ho.h ha.h iS tZ iT hs pY⟩
theorem Jr (ho:JE X C sub E o x)(ha:JA X C sub E (e::es) xs)(iS:attributeBase o "extend" X.env (eval o X.env)=eval o X.env:=by kernel_rfl)
 (tZ:((backTo pos (starEach (e::es) X.env)).all (fun x=>!x.1)&&(backToKw pos (keywordEach [] X.env)).all (fun x=>x.1.isSome)&&decide ((e::es).length+([]:List Keyword).length+(if([]:List Keyword).isEmpty then 0 else 1)<30))=true:=by kernel_rfl)(iT:(apos.endLine==pos.line)=true:=by kernel_rfl)
 (hs:starEach (e::es) X.env=(false,eval e X.env)::starEach es X.env:=by kernel_rfl)(pY:(backTo pos (starEach es X.env)).any (·.1)=false:=by kernel_rfl):
 JE X C sub E (.Call (.Attribute o "extend" apos) (e::es) [] pos) (.cC .extend x xs):=⟨M2 (fun z=>nomatch z) PySem.F.slot_list_extend PySem.F.type_list_extend N0 ho.h ha.h iS tZ iT hs pY⟩
theorem Iy (ho:JE X C sub E o x)(iS:attributeBase o "pop" X.env (eval o X.env)=eval o X.env:=by kernel_rfl)(iT:(apos.endLine==pos.line)=true:=by kernel_rfl):
 JE X C sub E (.Call (.Attribute o "pop" apos) [] [] pos) (.cC .pop x []):=⟨TM (fun z=>nomatch z) PySem.F.slot_list_pop PySem.F.type_list_pop YX ho.h iS iT⟩
theorem sx (m:bL C C)(h:JE X C sub EF e x)(hs:swapsWith e none pos.line X.env=pure false:=by kernel_rfl):JS X C sub (.Expr e pos) (.ex x):=⟨Hb m h.h hs⟩
theorem sn {i:Nat}(m:bL C C)(nd:X.N.Nodup)(he:JE X C sub EF e x)(hi:X.N[i]? = some n:=by kernel_rfl)(hx:X.env.scope.names.lookup n=some .local:=by kernel_rfl)
 (hs:swapsWithSole [.Name n p] e pos.line X.env=pure false:=by kernel_rfl)(hw:swappedStores [.Name n p] e X.env=pure none:=by kernel_rfl)(h1:(assignEach [.Name n p] X.env).map (·.2)=[assign (.Name n p) X.env]:=by kernel_rfl):JS X C sub (.Assign [.Name n p] e pos) (.asg (.nm i) x):=⟨KU m he.h (OL (xN nd hi (.inl hx) (.inr hx))) hs hw h1⟩
theorem RW {i:Nat}(m:bL C C)(nd:X.N.Nodup)(he:JE X C sub EF e x)(hi:X.N[i]? = some n:=by kernel_rfl)(hx:X.env.scope.names.lookup n=some .cell:=by kernel_rfl)(hf:X.fn n=true:=by kernel_rfl)
 (hs:swapsWithSole [.Name n p] e pos.line X.env=pure false:=by kernel_rfl)(hw:swappedStores [.Name n p] e X.env=pure none:=by kernel_rfl)(h1:(assignEach [.Name n p] X.env).map (·.2)=[assign (.Name n p) X.env]:=by kernel_rfl):JS X C sub (.Assign [.Name n p] e pos) (.asg (.nm i) x):=⟨KU m he.h (OL (xN nd hi (.inr hx) (.inl hf))) hs hw h1⟩
theorem gn {i:Nat}(nd:X.N.Nodup)(hi:X.N[i]? = some n:=by kernel_rfl)(hx:X.env.scope.names.lookup n=some .local:=by kernel_rfl):JN X (.Name n p) i:=⟨xN nd hi (.inl hx) (.inr hx)⟩
theorem gc {i:Nat}{is:List Nat}(h1:JN X e i)(h2:R6 X es is)(hs:(assignEach (e::es) X.env).map (·.2)=assign e X.env::(assignEach es X.env).map (·.2):=by kernel_rfl):R6 X (e::es) (i::is):=⟨UL h1.h h2.h hs⟩
theorem gt {is:List Nat}(h:R6 X es is)(hc:X.calm=true:=by kernel_rfl)(hn:(assignEach es X.env).length=is.length:=by kernel_rfl)(dZ:(assignEach es X.env).findIdx? (·.1)=none:=by kernel_rfl):JG X C sub E (.Tuple es k pos) (.tp is):=⟨Iq hc h.h hn dZ⟩
theorem gi (ho:JE X C sub E o x)(hi:JE X C sub E a y)
 (ha:∀ v,assign (.Subscript o a pos) X.env v=(do
  let ov <-holding [v] (eval o X.env)
  let iv <-holding [v,ov] (eval a X.env)
  standAt pos
  holding [v,ov,iv] (setItem ov iv v)
  release [v,ov,iv] []):=by intro _;rfl):JG X C sub E (.Subscript o a pos) (.ix x y):=⟨Iv ho.h hi.h ha⟩
theorem sg {t:Tg}(m:bL C C)(he:JE X C sub EF e x)(hg:JG X C sub EF tg t)
 (hs:swapsWithSole [tg] e pos.line X.env=pure false:=by kernel_rfl)(hw:swappedStores [tg] e X.env=pure none:=by kernel_rfl)(h1:(assignEach [tg] X.env).map (·.2)=[assign tg X.env]:=by kernel_rfl):JS X C sub (.Assign [tg] e pos) (.asg t x):=⟨KU m he.h hg.h hs hw h1⟩
theorem sw (m:bL C C)(hc:JT X C sub EF c x)(hb:sP X C sub ss sxs)(hp:PassesOwn (model X.prog X.w) X.A X.env X.xe:=by exact PassesOwn.never):JS X C sub (.While c ss [] pos) (.whl x sxs):=⟨US m hp hc.h hb.h⟩
theorem sf {kk:Option IK}{t:Tg}(m:bL C C)(hi:JI X C sub EF tg e kk xs)(hg:JG X C sub EF tg t)(hb:sP X C sub ss sxs)
 (hp:PassesOwn (model X.prog X.w) X.A X.env X.xe:=by exact PassesOwn.never)(hc:X.calm=true:=by kernel_rfl)(hs:∀ x,foldedSetIterable e X.env x=pure x:=by intro _;rfl):JS X C sub (.For tg e ss [] pos) (.iD t kk xs sxs):=⟨RQ m hp hc hi.h hg.h hb.h hs⟩
theorem JP {kk:Option IK}{i:Nat}(m:bL C C)(nd:X.N.Nodup)(hi:JI X C sub EF (.Name n p) e kk xs)(hb:sP X C sub ss sxs)
 (hN:X.N[i]? = some n:=by kernel_rfl)(hx:X.env.scope.names.lookup n=some .local:=by kernel_rfl)
 (hp:PassesOwn (model X.prog X.w) X.A X.env X.xe:=by exact PassesOwn.never)(hc:X.calm=true:=by kernel_rfl)(hs:∀ x,foldedSetIterable e X.env x=pure x:=by intro _;rfl):JS X C sub (.For (.Name n p) e ss [] pos) (.iD (.nm i) kk xs sxs):=⟨RQ m hp hc hi.h (OL (xN nd hN (.inl hx) (.inr hx))) hb.h hs⟩
theorem OI (m:bL C C)(hm:X.mg "range" = none)(ha:JA X C sub E [a] [x])(hg:X.env.kindOf "range" = some .globalImplicit:=by kernel_rfl)(hs:starEach [a] X.env=[(false,eval a X.env)]:=by kernel_rfl):
 JI X C sub E tg (.Call (.Name "range" p) [a] [] pos) (some .range) [x]:=⟨S7 m hg hm ha.h hs⟩
theorem R8 {cl:Nat}{t:String}(m:bL C C):JS X C sub s (.rais cl [.c (.str (W t))]):=⟨Z6 m fun σd st h=>h⟩
end
section
variable {X:Cx}{C:aW}{sub:Nat->Nat->Bool}{E:XK}{a b c e o tg:Expr}{es rest:List Expr}{x y z:Ex}{xs:List Ex}{p p2 pos apos:Pos}{k:Nat}{n:Str}{s:Stmt}{ss as bs:List Stmt}{sx1:Sx}{sxs ax bx:List Sx}
theorem an:JA X C sub E [] []:=⟨Es⟩
theorem jl (hs:JA X C sub E es xs):JE X C sub E (.List es pos) (.lst xs):=⟨Ba hs.h⟩
theorem cU {op:sI}(ha:JE X C sub E a x)(hb:JE X C sub E b y):JE X C sub E (.BinOp a (ZJ op) b pos) (.bin op x y):=⟨Ds ha.h hb.h⟩
theorem ZX (ha:JE X C sub E a x):JE X C sub E (.UnaryOp .USub a pos) (.neg x):=⟨Em ha.h⟩
theorem JC (ha:JE X C sub E a x):JE X C sub E (.UnaryOp .Not a pos) (.not_ x):=⟨Bu ha.h⟩
theorem jY {op:BoolOp}(ha:JE X C sub E a x):JE X C sub E (.BoolOp op [a] pos) x:=⟨As ha.h⟩
theorem lA (ha:JE X C sub E a x)(hb:JE X C sub E (.BoolOp .And (b::rest) pos) y):JE X C sub E (.BoolOp .And (a::b::rest) pos) (.and_ x y):=⟨Dw ha.h hb.h⟩
theorem IE (ha:JE X C sub E a x)(hb:JE X C sub E (.BoolOp .Or (b::rest) pos) y):JE X C sub E (.BoolOp .Or (a::b::rest) pos) (.or_ x y):=⟨Gu ha.h hb.h⟩
theorem on:JO X C sub E none []:=⟨T9⟩
theorem os (h:JE X C sub E e x):JO X C sub E (some e) [x]:=⟨S3 h.h⟩
theorem G7 {lo hi:Option Expr}{xl xh:List Ex}(ha:JE X C sub E a x)(hl:JO X C sub E lo xl)(hh:JO X C sub E hi xh):JE X C sub E (.Subscript a (.Slice lo hi none p2) pos) (.sl x xl xh):=⟨Io ha.h hl.h hh.h⟩
theorem nC (h:JT X C sub E e x):JT X C sub E (.UnaryOp .Not e pos) (.not_ x):=⟨V4 h.h⟩
theorem sE (h:JW X C sub E e x):JT X C sub E e x:=⟨h.h.pt⟩
theorem rM {op:BoolOp}(h:JT X C sub E e x):JW X C sub E (.BoolOp op [e] pos) x:=⟨WJ h.h⟩
theorem Fm (m:bL C C)(ha:JT X C sub E a x)(hb:JW X C sub E (.BoolOp .And (b::rest) pos) y):JW X C sub E (.BoolOp .And (a::b::rest) pos) (.and_ x y):=⟨V5 m ha.h hb.h⟩
theorem rT (m:bL C C)(ha:JT X C sub E a x)(hb:JW X C sub E (.BoolOp .Or (b::rest) pos) y):JW X C sub E (.BoolOp .Or (a::b::rest) pos) (.or_ x y):=⟨By m ha.h hb.h⟩
theorem iv (h:JE X C sub E e x):JI X C sub E tg e none [x]:=⟨ZE h.h⟩
theorem qn:JQ X C sub E [] []:=⟨YC⟩
theorem qc (h:JT X C sub E e x)(hs:JQ X C sub E es xs):JQ X C sub E (e::es) (x::xs):=⟨S0 h.h hs.h⟩
theorem nn:R6 X [] []:=⟨WC⟩
theorem b1 (h:JN X tg 0):JB X tg true 1:=⟨h.h⟩
theorem c0:sP X C sub [] []:=⟨Aw⟩
theorem cc (h1:JS X C sub s sx1)(h2:sP X C sub ss sxs):sP X C sub (s::ss) (sx1::sxs):=⟨X8 h1.h h2.h⟩
theorem dC (m:bL C C)(hc:JT X C sub EF c x)(ha:sP X C sub as ax)(hb:sP X C sub bs bx):JS X C sub (.If c as bs pos) (.iff x ax bx):=⟨Gp m hc.h ha.h hb.h⟩
theorem bT (m:bL C C)(h:JE X C sub EF e x):JS X C sub (.Return (some e) pos) (.ret x):=⟨Ej m h.h⟩
theorem Jk:JS X C sub (.Return none pos) (.ret (.c .non)):=⟨YJ⟩
end
section
variable {X:Cx}{C:aW}{sub:Nat->Nat->Bool}{elt iter tg:Expr}{ifs:List Expr}{xe:Ex}{kU aD:List Ex}{pos:Pos}{scope:Scope}{own cn:List Str}{aL:List Nat}{one:Bool}{k:Option IK}
theorem oE (m:bL C C)(S:kJ X scope cn aL)(hi:JI X C sub EF tg iter k aD)
 (hg:∀ fp s H Ca,JB (lB X scope own cn fp s H Ca) tg one own.length)
 (hts:∀ fp s H Ca,JQ (lB X scope own cn fp s H Ca) C sub EF ifs kU)
 (he:∀ fp s H Ca,JE (lB X scope own cn fp s H Ca) C sub EF elt xe)(hc:X.calm=true:=by kernel_rfl)(mQ:one=true->own.length=1:=by decide)
 (hs:∀ x,foldedSetIterable iter X.env x=pure x:=by intro _;rfl):
 JE X C sub EF (.ListComp elt [⟨tg,iter,ifs,0⟩] scope pos) (.comp own.length aL (List.range own.length) one k aD kU xe) :=
 ⟨V6 m S hc mQ hi.h (fun a b c d=>(hg a b c d).h) (fun a b c d=>(hts a b c d).h) (fun a b c d=>(he a b c d).h) hs⟩
theorem Fj {i:Nat}{y:Str}{py spos:Pos}(m:bL C C)(nd:X.N.Nodup)(S:kJ X scope cn aL)(hi:JI X C sub EF tg iter k aD)
 (hg:∀ fp s H Ca,JB (lB X scope own cn fp s H Ca) tg one own.length)
 (hts:∀ fp s H Ca,JQ (lB X scope own cn fp s H Ca) C sub EF ifs kU)
 (he:∀ fp s H Ca,JE (lB X scope own cn fp s H Ca) C sub EF elt xe)(hy:X.N[i]? = some y:=by kernel_rfl)(hx:X.env.scope.names.lookup y=some .local:=by kernel_rfl)
 (hsw:swapsWith (.ListComp elt [⟨tg,iter,ifs,0⟩] scope pos) (some (.Name y py)) spos.line X.env=pure true:=by kernel_rfl)(hc:X.calm=true:=by kernel_rfl)(mQ:one=true->own.length=1:=by decide)
 (hs:∀ x,foldedSetIterable iter X.env x=pure x:=by intro _;rfl):
 JS X C sub (.Assign [.Name y py] (.ListComp elt [⟨tg,iter,ifs,0⟩] scope pos) spos) (.asg (.nm i) (.comp own.length aL (List.range own.length) one k aD kU xe)) :=
 ⟨XO m S hc mQ hi.h (fun a b c d=>(hg a b c d).h) (fun a b c d=>(hts a b c d).h) (fun a b c d=>(he a b c d).h) nd hy (.inl hx) (.inr hx) hsw hs⟩
end
noncomputable def J7 (k:Option NameKind):Bool:=k==some .cell||k==some .free
noncomputable def R5 (names on:List (Str×NameKind))(N cn:List Str)(aL:List Nat):Bool :=
 names.all (fun y=>!(y.2 == .cell)&&(!(y.2 == .local)||names.lookup y.1==some .local)&&(!(y.2 == .free)||J7 (on.lookup y.1)))&&(cn.length==aL.length) &&
 (cn.zip aL).all (fun p=>names.lookup p.1==some .free&&N[p.2]? == some p.1&&J7 (on.lookup p.1))
theorem HZ {k:Option NameKind}(h:J7 k=true):k=some .cell∨k=some .free:=by
 unfold J7 at h
 rw[Bool.or_eq_true]at h
 rcases h with h|h
 ·exact .inl (by simpa using h)
 ·exact .inr (by simpa using h)
theorem mF {X:Cx}{scope:Scope}{cn:List Str}{aL:List Nat}{on:List (Str×NameKind)}{N:List Str}(h:R5 scope.names on N cn aL=true)(hE:X.env.scope.names=on:=by kernel_rfl)(hN:X.N=N:=by kernel_rfl)(hk:scope.kind=.function:=by kernel_rfl):kJ X scope cn aL:=by
 unfold R5 at h
 rw[Bool.and_eq_true,Bool.and_eq_true]at h
 obtain⟨⟨h1,h2⟩,h3⟩:=h
 have h1:=List.all_eq_true.mp h1
 have hl:cn.length=aL.length:=by simpa using h2
 refine⟨hk,fun y hy=>?_,fun y hy e=>?_,fun y hy e=>?_,hl,fun j y e=>?_⟩
 ·have:=h1 y hy
  simp only[Bool.and_eq_true]at this
  intro z;rw[z]at this;simp at this
 ·have:=h1 y hy
  simp only[Bool.and_eq_true,Bool.or_eq_true]at this
  rcases this.1.2 with q|q
  ·rw[e]at q;simp at q
  ·simpa using q
 ·have:=h1 y hy
  simp only[Bool.and_eq_true,Bool.or_eq_true]at this
  rcases this.2 with q|q
  ·rw[e]at q;simp at q
  ·show X.env.scope.names.lookup y.1=_∨X.env.scope.names.lookup y.1=_
   rw[hE];exact HZ q
 ·obtain⟨hj,ej⟩:=List.getElem?_eq_some_iff.mp e
  have hj':j<aL.length:=by omega
  have hm:(y,aL[j])∈cn.zip aL:=by
   rw[<-ej]
   exact List.mem_iff_getElem.mpr ⟨j,by simp;omega,by simp⟩
  have:=List.all_eq_true.mp h3 _ hm
  simp only[Bool.and_eq_true]at this
  refine⟨by simpa using this.1.1,aL[j],List.getElem?_eq_getElem hj',by rw[hN];simpa using this.1.2,?_⟩
  show X.env.scope.names.lookup y=_∨X.env.scope.names.lookup y=_
  rw[hE];exact HZ this.2
end L3
namespace L3
theorem D2 {k:Nat}{A:PySem.Around}(hr:L2.cK k A):A.units+180<PySem.cLine:=by have:=hr.un;omega
end L3
end
section
namespace PySem
open Sem (wp)
section
variable {prog:Program}{w:World}{A:Around}{s:Shared}{R:Result->Shared->Prop}{I:Addr}{fp wr:List Addr}{n:Nat}{P:Nat->Value->Prop}{St:Nat->Heap->Prop}
noncomputable def uW (prog:Program)(w:World)(I:Addr)(St:Nat->Heap->Prop):Prop:=∀(A:Around)(s:Shared)(Q:Bool->Shared->Prop)(E:Value->Shared->Prop),St 0 s.heap->(∀ b tk,Q b { s with toks:=tk })->wpAny (model prog w) A (Builtin.List.listLengthHint (.ref I)) Q E s
theorem NP {T:String}(W:Walks prog w A.in1 I fp wr n P St)(hn:n<=sizeLine)(hT:∀ h,St 0 h->∃ o,h.get? I=some o/\o.cls=.type T)(h2:(Value.type T==Value.type "list")=false)(h3:(Value.type T==Value.type "tuple")=false)(hint:uW prog w I St)
  (S:Addr)(res:Value)(c₀:Nat)(dZ:St 0 s.heap)(hSf:S∉fp)(hI:I∈fp)(hS:s.heap.get? S=some { cls:=.type "list", data:=.seq #[] c₀ })
  (hR:∀ h' tk mE c',(∀ b o,b∉S::wr->s.heap.get? b=some o->h'.get? b=some o)->h'.get? S=some { cls:=.type "list", dict:=none,data:=.seq mE c',slots:=#[] }->ItemsOf P mE n->R (.ok (.ret res)) { s with heap:=h',toks:=tk }):
  wpAny (model prog w) A.in1 (Builtin.List.listExtendWith (.ref S) (.ref I) res)
   (fun fin s'=>match fin with|.done f=>R (.ok f) s'|.again c'=>c'.quiet=true/\codeAny (model prog w) A c' R s') (fun e s'=>R (.error e) s') s:=by
 have hSI:S≠I:=fun e=>hSf (e▸hI)
 have key:∀(h:Heap)(c₁ tk:Nat),St 0 h->(∀ b o,b≠S->s.heap.get? b=some o->h.get? b=some o)->h.get? S=some { cls:=.type "list", data:=.seq #[] c₁ } ->
   codeAny (model prog w) A (.builtin "list.extend.loop" ⟨[.ref S,.ref I,res],[]⟩) R { s with heap:=h,toks:=tk }:=by
  intro h c₁ tk hst₁ hk hS₁
  refine codeAny_extend_loopS W.toS hn S hSf res n 0 _ #[] c₁ rfl (Nat.zero_le _) hst₁ hS₁ (ItemsOf.nil _) fun s' mE c' hm hS' hacc=>?_
  rw[Moved.eq_with hm]
  exact hR s'.heap s'.toks mE c' (fun b o hb e=>hm.heap b o hb (hk b o (fun z=>hb (by rw[z];exact List.mem_cons_self ..)) e)) hS' hacc
 unfold Builtin.List.listExtendWith
 refine wpAny_bind (wpAny_typeOf (T:=T) (hT _ dZ) ?_)
 have h1:Builtin.List.listSameRef (.ref S) (.ref I)=false:=by simp [Builtin.List.listSameRef,hSI]
 simp only[h1,h2,h3,Bool.or_false,Bool.false_eq_true,if_false]
 refine wpAny_bind (W.self 0 _ _ _ dZ ?_)
 refine wpAny_bind (wpAny_holding (hint _ _ _ _ dZ fun b tk=>?_))
 have touch:∀{Q:Fin->Shared->Prop}{E:Value->Shared->Prop}{k:Unit->Sem Fin},(∀ h' , St 0 h'->(∀ b o,b≠S->s.heap.get? b=some o->h'.get? b=some o)->(∃ c₁,h'.get? S=some { cls:=.type "list", data:=.seq #[] c₁ })->wpAny (model prog w) A.in1 (k ()) Q E { s with heap:=h',toks:=tk }) ->
   wpAny (model prog w) A.in1 (rule "list.extend.makes-room" >>= fun _=>Builtin.List.listTouch (.ref S) >>= k) Q E { s with toks:=tk }:=fun{Q E k} hk=>by
  refine wpAny_bind (wpAny_rule (wpAny_bind ?_))
  show wpAny _ A.in1 (updateSeq S (·.push .none) >>= fun _=>updateSeq S (·.pop)) _ _ _
  refine wpAny_bind (wpAny_updateSeq hS rfl ?_)
  have hS₂:=Heap.get?_update_self (Obj.mapSeq (·.push Value.none)) hS rfl
  refine wpAny_updateSeq (hz:=by seq_fits) hS₂ rfl ?_
  have hS₃:=Heap.get?_update_self (Obj.mapSeq (·.pop)) hS₂ rfl
  have oth:∀ b o,b≠S->s.heap.get? b=some o->((s.heap.update S (Obj.mapSeq (·.push Value.none))).update S (Obj.mapSeq (·.pop))).get? b=some o :=
   fun b o hb e=>(Heap.get?_update_other _ _ (Ne.symm hb)).trans ((Heap.get?_update_other _ _ (Ne.symm hb)).trans e)
  exact hk _ (W.frame _ _ _ dZ fun b hb o e=>oth b o (fun h=>hSf (h▸hb)) e) oth ⟨_,hS₃⟩
 refine wpAny_ite_split (fun _=>?_) (fun _=>wpAny_pure ⟨plainId_quiet F.plain_extend_loop _,key _ c₀ _ dZ (fun b o _ e=>e) hS⟩)
 refine touch fun h' a b ⟨c₁,c⟩=>wpAny_pure ⟨plainId_quiet F.plain_extend_loop _,key _ c₁ _ a b c⟩
theorem EV {T:String}(W:Walks prog w A.in1 I fp wr n P St)(hn:n<=sizeLine)(hT:∀ h,St 0 h->∃ o,h.get? I=some o/\o.cls=.type T)(h2:(Value.type T==Value.type "list")=false)(h3:(Value.type T==Value.type "tuple")=false)(hint:uW prog w I St)
 (S:Addr)(dZ:St 0 s.heap)(hSf:S∉fp)(hI:I∈fp)(hS:s.heap.get? S=some { cls:=.type "list", data:=.seq #[] })
 (hR:∀ h' tk mE c',(∀ b o,b∉S::wr->s.heap.get? b=some o->h'.get? b=some o)->h'.get? S=some { cls:=.type "list", dict:=none,data:=.seq mE c',slots:=#[] }->ItemsOf P mE n->R (.ok (.ret .none)) { s with heap:=h',toks:=tk }):
 wpAny (model prog w) A.in1 (Builtin.«list.__init__» ⟨[.ref S,.ref I],[]⟩)
  (fun fin s'=>match fin with|.done f=>R (.ok f) s'|.again c'=>c'.quiet=true/\codeAny (model prog w) A c' R s') (fun e s'=>R (.error e) s') s:=by
 show wpAny _ A.in1 (do let old <-Builtin.List.listItems (.ref S);Builtin.List.listUpdate (.ref S) (fun _=>#[]);letGo old.toList.reverse;Builtin.List.listExtendWith (.ref S) (.ref I) .none) _ _ s
 refine wpAny_bind ?_
 unfold Builtin.List.listItems
 refine wpAny_bind (wpAny_seqItems hS rfl (wpAny_pure ?_))
 show wpAny _ A.in1 (updateSeq S (fun _=>#[]) >>= fun _=>letGo (#[]:Array Value).toList.reverse >>= fun _=>Builtin.List.listExtendWith (.ref S) (.ref I) .none) _ _ s
 refine wpAny_bind (wpAny_updateSeq hS rfl ?_)
 have hS₂:=Heap.get?_update_self (Obj.mapSeq (fun _=>(#[]:Array Value))) hS rfl
 have oth:∀ b o,b≠S->s.heap.get? b=some o->(s.heap.update S (Obj.mapSeq (fun _=>(#[]:Array Value)))).get? b=some o :=
 fun b o hb e=>(Heap.get?_update_other _ _ (Ne.symm hb)).trans e
 refine wpAny_bind (wpAny_letGo ?_)
 refine NP W hn hT h2 h3 hint S .none _ (W.frame _ _ _ dZ fun b hb o e=>oth b o (fun h=>hSf (h▸hb)) e) hSf hI hS₂ fun h' tk mE c' hm hS' hacc=>?_
 exact hR h' tk mE c' (fun b o hb e=>hm b o hb (oth b o (fun z=>hb (by rw[z];exact List.mem_cons_self ..)) e)) hS' hacc
end
section
variable {prog:Program}{w:World}{A:Around}{E:Value->Shared->Prop}{s:Shared}{I:Addr}{fp wr:List Addr}{n:Nat}{P:Nat->Value->Prop}{St:Nat->Heap->Prop}
theorem vD {T:String}{Q:Value->Shared->Prop}(W:Walks prog w A.in1.in1 I fp wr n P St)(hn:n<=sizeLine)(hT:∀ h,St 0 h->∃ o,h.get? I=some o/\o.cls=.type T)(h2:(Value.type T==Value.type "list")=false)(h3:(Value.type T==Value.type "tuple")=false)(hint:uW prog w I St)
  (dZ:St 0 s.heap)(hfp:∀ b∈fp,b<s.heap.objs.size)(hI:I∈fp)
  (hQ:∀ h' tk mE c',(∀ b o,b∉wr->s.heap.get? b=some o->h'.get? b=some o)->h'.get? s.heap.objs.size=some { cls:=.type "list", dict:=none,data:=.seq mE c',slots:=#[] }->ItemsOf P mE n->Q (.ref s.heap.objs.size) { s with heap:=h',toks:=tk }):
  wpAny (model prog w) A (call (.type "list") [.ref I]) Q E s:=by
 have hSf:s.heap.objs.size∉fp:=fun hm=>Nat.lt_irrefl _ (hfp _ hm)
 refine callType_codes (Q₁:=fun obj s₁=>obj=.ref s.heap.objs.size/\s₁ = { s with heap:=s.heap.push { cls:=.type "list", data:=.seq #[] } }) F.called_list (F.typeCall_list_1 _) F.entry_list_init
  (code_list_new _ ⟨rfl,rfl⟩) fun obj s₁ h₁=>?_
 obtain⟨rfl,rfl⟩:=h₁
 have hS:(s.heap.push { cls:=.type "list", data:=.seq #[] }).get? s.heap.objs.size=some { cls:=.type "list", data:=.seq #[] }:=Heap.get?_push_size _ rfl
 refine⟨⟨_,hS,rfl⟩,F.args_list_init_2 _ _,EV (A:=A.in1) W hn hT h2 h3 hint _ (W.frame _ _ _ dZ fun b _ o e=>Heap.get?_push_of_some _ e) hSf hI hS fun h' tk mE c' hk hS' hacc=>?_⟩
 refine⟨rfl,hQ h' tk mE c' (fun b o hb e=>hk b o (fun z=>?_) (Heap.get?_push_of_some _ e)) hS' hacc⟩
 rcases List.mem_cons.mp z with z|z
 ·exact absurd (Heap.lt_size e) (by rw[z];exact Nat.lt_irrefl _)
 ·exact hb z
end
end PySem
end
section
namespace PySem
namespace F
theorem LH:typeLookup (.type "list_reverseiterator") "__len__" = pure none:=by rw[typeLookup_type,builtinLookup_eq_fast];kernel_rfl
theorem PJ:typeLookup (.type "list_reverseiterator") "__length_hint__" = pure (some (.builtin "list_reverseiterator.__length_hint__")):=by rw[typeLookup_type,builtinLookup_eq_fast];kernel_rfl
end F
section
variable {prog:Program}{w:World}
theorem O3 {I l:Addr}{items:Array Value}:uW prog w I (fun i h=>i<=items.size/\h.IsRevIter I l ((items.size:Int)-1-(i:Int))/\h.IsList l items):=fun A s Q E dZ hQ=>by
 have hT:=dZ.2.1.typeIs
 unfold Builtin.List.listLengthHint
 refine wpAny_bind (wpAny_specialOf hT F.LH ?_)
 refine wpAny_ite_split (fun eF=>absurd eF (by decide)) (fun _=>?_)
 refine wpAny_ite_split (fun eF=>absurd eF (by decide)) (fun _=>?_)
 refine wpAny_bind (wpAny_specialOf hT F.PJ ?_)
 generalize hid:("list_reverseiterator.__length_hint__" : String)=id0
 wp_delta
 rw[show splitId id0=some ("list_reverseiterator","__length_hint__")from by subst hid;decide +kernel]
 subst hid
 refine wpAny_bind (wpAny_isInstance (T :="list_reverseiterator") (b:=true) hT (by rw[isSubtype_type];kernel_rfl) ?_)
 refine wpAny_ite_split (fun eF=>absurd eF (by decide)) (fun _=>?_)
 refine wpAny_ite_split (fun _=>?_) (fun eF=>absurd (by decide +kernel) eF)
 refine wpAny_ite_split (fun eF=>absurd eF (by decide +kernel)) (fun _=>?_)
 exact wpAny_pure (hQ false s.toks)
end
end PySem
end
section
namespace PySem
open PyProof.Rows
namespace F
theorem KJ:typeLookup (.type "tuple") "__reversed__" = pure none:=by rw[typeLookup_type,builtinLookup_eq_fast];kernel_rfl
theorem FW:typeLookup (.type "tuple") "__getitem__" = pure (some (.builtin "tuple.__getitem__")):=by rw[typeLookup_type,builtinLookup_eq_fast];kernel_rfl
theorem KC:typeLookup (.type "reversed") "__len__" = pure none:=by rw[typeLookup_type,builtinLookup_eq_fast];kernel_rfl
theorem wG:Manifest.owners.lookup (String.ofList ['d','e','s','r','e','v','e','r'].reverse)=some Manifest.sig_reversed:=by kernel_rfl
theorem iX:Slot "reversed" "__next__" "reversed.__next__" :=
 .of (owner :="reversed") (n :="__next__") (by rw[typeLookup_type,builtinLookup_eq_fast];kernel_rfl) (by decide +kernel) (by decide +kernel) (by decide +kernel)
 (by first|exact .inl (by decide +kernel)|exact .inr (by decide +kernel)) (by rw[isSubtype_type];kernel_rfl)
theorem nY:Slot "reversed" "__length_hint__" "reversed.__length_hint__" :=
 .of (owner :="reversed") (n :="__length_hint__") (by rw[typeLookup_type,builtinLookup_eq_fast];kernel_rfl) (by decide +kernel) (by decide +kernel) (by decide +kernel)
 (by first|exact .inl (by decide +kernel)|exact .inr (by decide +kernel)) (by rw[isSubtype_type];kernel_rfl)
theorem uH:Slot "reversed" "__iter__" "reversed.__iter__" :=
 .of (owner :="reversed") (n :="__iter__") (by rw[typeLookup_type,builtinLookup_eq_fast];kernel_rfl) (by decide +kernel) (by decide +kernel) (by decide +kernel)
 (by first|exact .inl (by decide +kernel)|exact .inr (by decide +kernel)) (by rw[isSubtype_type];kernel_rfl)
theorem sD:entryFor table "reversed.__next__" = some Builtin.«reversed.__next__»:=entryFor_of_tree (by kernel_rfl)
theorem BJ:entryFor table "reversed.__length_hint__" = some Builtin.«reversed.__length_hint__»:=entryFor_of_tree (by kernel_rfl)
theorem qM (a:Value):argsOk "reversed.__next__" ⟨[a],[]⟩:=by
 unfold argsOk;rw[signature?_of (id :="reversed.__next__") (n:=['_','_','t','x','e','n','_','_']) (o:=['d','e','s','r','e','v','e','r']) (by kernel_rfl) wG];kernel_rfl
theorem AK (a:Value):argsOk "reversed.__length_hint__" ⟨[a],[]⟩:=by
 unfold argsOk;rw[signature?_of (id :="reversed.__length_hint__") (n :="__length_hint__".toList.reverse) (o:=['d','e','s','r','e','v','e','r']) (by kernel_rfl) wG];kernel_rfl
theorem zV (a:Value):argsOk "reversed.__iter__" ⟨[a],[]⟩:=by
 unfold argsOk;rw[signature?_of (id :="reversed.__iter__") (n:=['_','_','r','e','t','i','_','_']) (o:=['d','e','s','r','e','v','e','r']) (by kernel_rfl) wG];kernel_rfl
theorem BU:entryFor table "reversed.__iter__" = some Builtin.«dict_keyiterator.__iter__» :=
 entryFor_alias (id' :="dict_keyiterator.__iter__") (by kernel_rfl) (by first|rfl|decide +kernel|(unfold String.splitOn;simp +decide [String.splitOnAux])) (by decide +kernel) (by kernel_rfl)
end F
end PySem
end
section
namespace PySem
open PyProof.Rows
section
variable {prog:Program}{w:World}{A:Around}{E:Value->Shared->Prop}{s:Shared}
noncomputable def KW (t:Addr)(i:Int):Obj:={ cls:=.type "reversed", data:=.fields #[.ref t,rawInt i] }
noncomputable def Heap.jM (h:Heap)(a t:Addr)(i:Int):Prop:=∃ o,h.get? a=some o/\o.cls=.type "reversed" /\ o.data=.fields #[.ref t,rawInt i]
theorem Heap.jM.typeIs {a t:Addr}{i:Int}(x:s.heap.jM a t i):s.TypeIs (.ref a) "reversed":=let⟨o,ho,hc,_⟩:=x;⟨o,ho,hc⟩
theorem Heap.jM.at {h h':Heap}{a t:Addr}{i:Int}(x:h.jM a t i)(e:∀ o,h.get? a=some o->h'.get? a=some o):h'.jM a t i:=let⟨o,ho,r⟩:=x;⟨o,e _ ho,r⟩
theorem vT {t:Addr}{items:Array Value}{Q₁:Value->Shared->Prop}(ht:IsTup s.heap t items)(mD:(items.size:Int)<2 ^ 63)
 (h:Q₁ (.ref s.heap.objs.size) { s with heap:=s.heap.push (KW t ((items.size:Int)-1)),toks:=s.toks+1+1 }):
 codeAny (model prog w) A (.call (.builtin "reversed.__new__") ⟨[.type "reversed", .ref t],[]⟩) (wants Q₁ E) s:=by
 refine codeAny_of_tree ?_
 show wpAny _ A.in1 (do checkBuiltinCall "reversed.__new__" ⟨[.type "reversed", .ref t],[]⟩;again (.builtin "reversed.__new__" ⟨[.type "reversed", .ref t],[]⟩)) _ _ s
 refine wpAny_bind (wpAny_of_eq (F.newCall_reversed_1 _) (wpAny_pure ⟨plainId_quiet F.plain_reversed_new _,codeAny_builtin F.entry_reversed_new ?_⟩))
 rw[Around.under_plainId F.plain_reversed_new _]
 unfold Builtin.«reversed.__new__»
 refine wpAny_bind (wpAny_of_eq (newClass_reversed _) ?_)
 try dsimp only
 refine wpAny_bind (wpAny_of_eq (a:=()) (by first|rfl|kernel_rfl) ?_)
 refine wpAny_bind (wpAny_of_eq (a:=()) (by first|rfl|kernel_rfl) ?_)
 try dsimp only
 refine wpAny_bind (wpAny_specialOf ht.typeIs F.KJ ?_)
 try dsimp only
 refine wpAny_bind ?_
 wp_delta
 refine wpAny_bind (wpAny_isInstance (T :="tuple") (b:=false) ht.typeIs (by rw[isSubtype_type];kernel_rfl) ?_)
 refine wpAny_ite_split (fun eF=>absurd eF (by decide)) (fun _=>?_)
 refine wpAny_bind (wpAny_specialOf ht.typeIs F.FW ?_)
 refine wpAny_ite_split (fun _=>?_) (fun eF=>absurd (by decide +kernel) eF)
 refine wpAny_pure ?_
 refine wpAny_ite_split (fun eF=>absurd eF (by decide)) (fun _=>?_)
 refine wpAny_bind (len_tuple ht mD ?_)
 refine wpAny_bind (m:=asInt? _) (wpAny_pure ?_)
 refine wpAny_bind (m:=Builtin.SmallTypes.newRecord (.type "reversed") [Value.ref t,rawInt ((items.size:Int)-1)]) ?_
 show wpAny _ _ (newObj (.type "reversed") (.fields #[Value.ref t,rawInt ((items.size:Int)-1)])) _ _ _
 exact wpAny_newObj_type (wpAny_pure h)
theorem xS {it t:Addr}{i:Int}{Q:Value->Shared->Prop}(hit:s.heap.jM it t i)(h:Q (.ref it) s):wpAny (model prog w) A (pyIter (.ref it)) Q E s:=by
 refine wpAny_pyIter_slot hit.typeIs F.uH (wpAny_call_entry F.uH hit.typeIs F.BU ?_ (F.zV _))
 show wpAny _ _ (ret (.ref it)) _ _ s
 exact wpAny_pure ⟨_,rfl,"reversed", _,hit.typeIs,F.iX.lookup,h⟩
theorem qY {it t:Addr}{i:Nat}{items:Array Value}{x:Value}{Q:Option Value->Shared->Prop}(hit:s.heap.jM it t (i:Int))(ht:IsTup s.heap t items)(mD:(items.size:Int)<2 ^ 63)(hx:items[i]? = some x)
  (hQ:∀ h',h'.jM it t ((i:Int)-1)->Heap.SameBut it s.heap h'->Q (some x) { s with heap:=h',toks:=s.toks+1 }):wpAny (model prog w) A (pyNext (.ref it)) Q E s:=by
 obtain⟨o,ho,hc,hd⟩:=id hit
 have hi:i<items.size:=by
  rcases Nat.lt_or_ge i items.size with z|z
  ·exact z
  ·rw[Array.getElem?_eq_none z]at hx;cases hx
 unfold pyNext
 refine wpAny_bind (wpAny_attempt (wpAny_callSpecial?_slot (name:=Str.ofString "__next__") hit.typeIs F.iX
  (wpAny_call_entry F.iX hit.typeIs F.sD ?_ (F.qM _))))
 unfold Builtin.«reversed.__next__»
 refine wpAny_bind (wpAny_of_eq (a:=(Value.ref it,[])) rfl ?_)
 try dsimp only
 refine wpAny_bind (wpAny_field ho hd (x:=.ref t) rfl ?_)
 refine wpAny_bind (wpAny_field ho hd (x:=rawInt (i:Int)) rfl ?_)
 show wpAny _ _ (if(i:Int)<0 then _ else _) _ _ s
 rw[if_neg (by omega)]
 refine wpAny_bind (wpAny_specialOf ht.typeIs F.FW ?_)
 refine wpAny_ite_split (fun eF=>absurd eF (by decide)) (fun _=>?_)
 refine wpAny_bind (wpAny_mkInt ?_)
 refine wpAny_bind (wpAny_attempt (PyProof.Rows.getItem_tuple (j:=i) ht (by omega) (by omega) (seqIndex_of (by omega) (by omega)) hx ?_))
 refine wpAny_bind (wpAny_field ho hd (x:=rawInt (i:Int)) rfl ?_)
 refine wpAny_bind (wpAny_setField ho hd (by simp) ?_)
 first
 |refine wpAny_pure ⟨x,rfl,wpAny_pure (hQ _ ?_ (Heap.SameBut.update ..))⟩
 |refine wpAny_bind (wpAny_pure (wpAny_pure ⟨x,rfl,wpAny_pure (hQ _ ?_ (Heap.SameBut.update ..))⟩))
 exact⟨_,Heap.get?_update_self _ ho (Obj.isFreed_of_fields (Obj.data_mapFields hd _)),(Obj.cls_mapFields ..).trans hc,by
  rw[Obj.data_mapFields hd];simp⟩
end
end PySem
end
section
namespace PySem
open PyProof.Rows
section
variable {prog:Program}{w:World}{A:Around}{E:Value->Shared->Prop}{s:Shared}
theorem rV {it t:Addr}{Q:Option Value->Shared->Prop}(hh:A.handled=none)(hit:s.heap.jM it t (-1))
 (hQ:∀ h',Heap.ExtBut it s.heap h'->Q none { s with heap:=h' }):wpAny (model prog w) A (pyNext (.ref it)) Q E s:=by
 obtain⟨o,ho,hc,hd⟩:=id hit
 unfold pyNext
 refine wpAny_bind (wpAny_attempt (wpAny_callSpecial?_slot (name:=Str.ofString "__next__") hit.typeIs F.iX
 (wpAny_call_entry F.iX hit.typeIs F.sD ?_ (F.qM _))))
 unfold Builtin.«reversed.__next__»
 refine wpAny_bind (wpAny_of_eq (a:=(Value.ref it,[])) rfl ?_)
 try dsimp only
 refine wpAny_bind (wpAny_field ho hd (x:=.ref t) rfl ?_)
 refine wpAny_bind (wpAny_field ho hd (x:=rawInt (-1)) rfl ?_)
 show wpAny _ _ (if(-1:Int)<0 then _ else _) _ _ s
 rw[if_pos (by decide)]
 refine wpAny_bind (wpAny_rule ?_)
 refine wpAny_bind ?_
 wp_delta
 have ho2:=Heap.get?_update_self (Obj.mapFields (·.setIfInBounds 1 (rawInt (-1)))) ho (Obj.isFreed_of_fields (Obj.data_mapFields hd _))
 refine wpAny_bind (wpAny_setField ho hd (by simp) ?_)
 refine wpAny_setField ho2 (Obj.data_mapFields hd _) (by simp) ?_
 first
 |show wpAny _ _ (newExc (.type "StopIteration") [] >>= _) _ _ _
 |(refine wpAny_bind ?_;show wpAny _ _ (newExc (.type "StopIteration") [] >>= _) _ _ _)
 refine wpAny_bind ?_
 simp only[newExc,newTuple]
 refine wpAny_bind (wpAny_newObj_type ?_ (by size_fits))
 refine wpAny_bind (m:=firstArgMember _ _) (wpAny_of_eq (a:=Value.none) (by first|rfl|(simp only[firstArgMember];rfl)) ?_)
 refine wpAny_newObj_type ?_ (by size_fits)
 simp only[raiseNew]
 refine wpAny_bind (wpAny_handled ?_)
 first|rw[show A.in1.handled=none from hh]|rw[hh]
 refine wpAny_bind (wpAny_pure (wpAny_throw ?_))
 refine wpAny_bind (wpAny_isInstance (T :="StopIteration") (b:=true) ⟨_,Heap.get?_push_size _ rfl,rfl⟩ isSubtype_stop ?_)
 refine wpAny_pure (hQ _ ?_)
 have e1:Heap.ExtBut it s.heap ((s.heap.update it (Obj.mapFields (·.setIfInBounds 1 (rawInt (-1))))).update it (Obj.mapFields (·.setIfInBounds 0 Value.none))):=fun b u hb e =>
 (Heap.get?_update_other _ _ (Ne.symm hb)).trans ((Heap.get?_update_other _ _ (Ne.symm hb)).trans e)
 exact(e1.push _).push _
end
theorem Walks.XQ {prog:Program}{w:World}{A:Around}(hh:A.handled=none)(I l:Addr)(hne:l≠I)(items:Array Value)(mD:(items.size:Int)<2 ^ 63):
  Walks prog w A I [I,l] [I] items.size (fun i v=>items[items.size-1-i]? = some v) (fun i h=>i<=items.size/\h.jM I l ((items.size:Int)-1-(i:Int))/\IsTup h l items) where
 sub:=fun b hb=>by simp at hb;simp [hb]
 frame:=fun _ _ _ x hk=>⟨x.1,x.2.1.at fun o e=>hk I (by simp) o e,let⟨o,ho,r⟩:=x.2.2;⟨o,hk l (by simp) o ho,r⟩⟩
 item:=fun i s Q E hi x hQ=>by
  have e:(items.size:Int)-1-(i:Int)=((items.size-1-i:Nat):Int):=by omega
  have hit:=x.2.1
  rw[e]at hit
  have hx:items[items.size-1-i]? = some (items[items.size-1-i]'(by omega)):=Array.getElem?_eq_getElem (by omega)
  refine qY hit x.2.2 mD hx fun h' hit' oI=>?_
  have e2:((items.size-1-i:Nat):Int)-1=(items.size:Int)-1-((i+1:Nat):Int):=by omega
  rw[e2]at hit'
  exact hQ _ h' _ hx ⟨hi,hit',let⟨o,ho,r⟩:=x.2.2;⟨o,(oI.2 l hne).trans ho,r⟩⟩ fun b o hb eo=>oI.extBut b o (fun h=>hb (by simp [h])) eo
 done:=fun s Q E x hQ=>by
  have e:(items.size:Int)-1-(items.size:Int) = -1:=by omega
  have hit:=x.2.1
  rw[e]at hit
  exact rV hh hit fun h' he'=>hQ h' s.toks fun b o hb eo=>he' b o (fun h=>hb (by simp [h])) eo
 self:=fun _ _ _ _ x hQ=>xS x.2.1 hQ
section
variable {prog:Program}{w:World}{A:Around}{E:Value->Shared->Prop}{s:Shared}
theorem F.wF:Slot "reversed" "__init__" "object.__init__" :=
 .of (owner :="object") (n :="__init__") (by rw[typeLookup_type,builtinLookup_eq_fast];kernel_rfl) (by decide +kernel) (by decide +kernel) (by decide +kernel)
 (by first|exact .inl (by decide +kernel)|exact .inr (by decide +kernel)) (by rw[isSubtype_type];kernel_rfl)
theorem F.lI:TypeCalled "reversed" "reversed.__new__" "object.__init__" :=
 ⟨by decide +kernel,by decide +kernel,⟨_,_,F.mro_reversed⟩,F.made_reversed,by decide +kernel,by rw[isSubtype_type];kernel_rfl,F.wF⟩
theorem xU {t:Addr}{items:Array Value}{Q:Value->Shared->Prop}(ht:IsTup s.heap t items)(mD:(items.size:Int)<2 ^ 63)
  (h:Q (.ref s.heap.objs.size) { s with heap:=s.heap.push (KW t ((items.size:Int)-1)),toks:=s.toks+1+1 }):wpAny (model prog w) A (call (.type "reversed") [.ref t]) Q E s:=by
 refine callType_codes (Q₁:=fun obj s₁=>s₁.TypeIs obj "reversed" /\ Q obj s₁) F.lI (F.typeCall_reversed_1 _) F.entry_object_init
  (vT ht mD ⟨⟨_,Heap.get?_push_size _ rfl,rfl⟩,h⟩) fun obj s₁ hq=>⟨hq.1,F.args_object_init_2 obj _,?_⟩
 exact object_init_meets F.lI.init.lookup F.lI.made (by decide) prog w A.in1 _ s₁ ⟨hq.1,rfl,hq.2⟩
theorem OQ {I l:Addr}{items:Array Value}(mD:items.size<=sizeLine):uW prog w I (fun i h=>i<=items.size/\h.jM I l ((items.size:Int)-1-(i:Int))/\IsTup h l items):=fun A s Q E dZ hQ=>by
 have hit:=dZ.2.1
 have hT:=hit.typeIs
 obtain⟨o,ho,hc,hd⟩:=id hit
 have hf:(items.size:Int)<2 ^ 63:=by have:=mD;rw[sizeLine_eq]at this;omega
 unfold Builtin.List.listLengthHint
 refine wpAny_bind (wpAny_specialOf hT F.KC ?_)
 refine wpAny_ite_split (fun eF=>absurd eF (by decide)) (fun _=>?_)
 refine wpAny_ite_split (fun eF=>absurd eF (by decide)) (fun _=>?_)
 refine wpAny_bind (wpAny_specialOf hT F.nY.lookup ?_)
 generalize hid:("reversed.__length_hint__" : String)=id0
 wp_delta
 rw[show splitId id0=some ("reversed","__length_hint__")from by subst hid;decide +kernel]
 subst hid
 refine wpAny_bind (wpAny_isInstance (T :="reversed") (b:=true) hT (by rw[isSubtype_type];kernel_rfl) ?_)
 refine wpAny_ite_split (fun eF=>absurd eF (by decide)) (fun _=>?_)
 refine wpAny_ite_split (fun eF=>absurd eF (by decide +kernel)) (fun _=>?_)
 refine wpAny_bind (wpAny_rule ?_)
 refine wpAny_bind (wpAny_of_eq (F.nY.bind _) ?_)
 refine wpAny_bind (wpAny_attempt (wpAny_call_entry F.nY hT F.BJ ?_ (F.AK _)))
 unfold Builtin.«reversed.__length_hint__»
 refine wpAny_bind (wpAny_of_eq (a:=Value.ref I) rfl ?_)
 refine wpAny_bind (wpAny_field ho hd (x:=.ref l) rfl ?_)
 refine wpAny_ite_split (fun eF=>absurd eF (by simp)) (fun _=>?_)
 refine wpAny_bind (len_tuple dZ.2.2 hf ?_)
 refine wpAny_bind (m:=asInt? _) (wpAny_pure ?_)
 refine wpAny_bind (m:=field (.ref I) 1) (wpAny_field ho hd (x:=rawInt ((items.size:Int)-1-((0:Nat):Int))) rfl ?_)
 show wpAny _ _ (if(items.size:Int)<((items.size:Int)-1-((0:Nat):Int))+1 then _ else _) _ _ _
 rw[if_neg (by omega)]
 refine wpAny_bind (wpAny_mkInt (wpAny_pure ⟨_,rfl,?_⟩))
 refine wpAny_bind (m:=asInt? _) (wpAny_pure ?_)
 dsimp only
 have e0:(items.size:Int)-1-((0:Nat):Int)+1=items.size:=by omega
 rw[e0]
 have hfi:Builtin.List.listFitsIndex (items.size:Int)=true:=fitsIndex_both (by omega) hf
 have htl:Builtin.List.listTooLong ((items.size:Int).toNat)=false:=by simp [Builtin.List.listTooLong];exact mD
 rw[hfi,htl]
 refine wpAny_ite_split (fun eF=>absurd eF (by decide)) (fun _=>?_)
 refine wpAny_ite_split (fun eF=>absurd eF (by omega)) (fun _=>?_)
 refine wpAny_ite_split (fun eF=>absurd eF (by decide)) (fun _=>wpAny_pure (hQ _ _))
end
end PySem
end
section
namespace L3
open PySem PySem.Spec PyProof.Rows L2
theorem O1 {X:Cx}{pins:List (Addr×Obj)}{σ:L2.St}{H:Hp}{s:Shared}{h':Heap}{t':Nat}{it:Addr}{ys:List V}{aD:List Value}{n:Nat}(I:Inv X pins σ H s)(f:lY X pins H it)(k:∀ b o,b≠it->s.heap.get? b=some o->h'.get? b=some o)
  (new:h'.get? s.heap.objs.size=some { cls:=.type "list", data:=.seq aD.toArray n })(hv:aO ys aD)(hz:ys.length<=sizeLine):Inv X pins σ (upd H s.heap.objs.size (.lst ys)) { s with heap:=h',toks:=t' }:=by
 have hS:=I.fresh
 have neS:∀ b o,s.heap.get? b=some o->b≠s.heap.objs.size:=fun b o e=>Nat.ne_of_lt (Heap.lt_size e)
 have tr:∀ b u,H b=some u->b≠s.heap.objs.size:=fun b u e=>gR e hS
 obtain⟨f0,f1,f2,f3,f4,f5⟩:=f
 refine I.step (g':=s.gens) (d':=s.drawn) (ch:=[it]) (fun b hb=>?_) (fun b o _ _ hc e _=>k b o (fun z=>hc (by simp [z])) e) (fun b o _ _ hc e _=>⟨o.slots,k b o (fun z=>hc (by simp [z])) e⟩) (fun b o _ e n=>by rw[aY (neS b o e)];exact n)
  (fun b o hc e=>⟨o,k b o (fun z=>hc (by simp [z])) e⟩) (fun b xs e=>by rw[aY (tr b _ e)];exact e) (fun b o u e=>by rw[aY (tr b _ e)];exact e) (fun b ps e=>⟨#[],by rw[aY (tr b _ e),e];simp⟩) (fun m hm=>?_) (fun b u e=>?_) I.bare
 ·have e:b=it:=by simpa using hb
  subst e
  exact⟨f3,f1,f4,f5⟩
 ·obtain⟨o,es,ep,ho,r⟩:=hm
  exact⟨o,es,ep,k _ o (Ne.symm f1) ho,r⟩
 ·by_cases hb:b=s.heap.objs.size
  ·subst hb
   rw[cY]at e;cases e
   exact⟨hz,aD,n,hv,new⟩
  ·rw[aY hb]at e
   refine(I.bH b u e).nZ (fun c v hc q=>k c v ?_ q) (fun c q=>by rw[aY (tr c _ q)];exact q) fun c xs q=>by rw[aY (tr c _ q)];exact q
   rcases hc with z|z
   ·rw[z];exact fun y=>by rw[y,f0]at e;cases e
   ·exact fun y=>by rw[y,f0]at z;cases z
theorem NJ {aD:List Value}{acc:Array Value}(h:ItemsOf (fun i v=>aD.toArray[aD.toArray.size-1-i]? = some v) acc aD.toArray.size):acc=aD.reverse.toArray:=by
 obtain⟨h1,h2⟩:=h
 apply Array.ext
 ·rw[h1];simp
 ·intro i hi hi'
  have:aD.toArray[aD.toArray.size-1-i]? = some acc[i]:=h2 i acc[i] (Array.getElem?_eq_getElem hi)
  have hl:i<aD.length:=by rw[h1]at hi;simpa using hi
  have e:aD.toArray[aD.toArray.size-1-i]? = some (aD.reverse.toArray[i]):=by
   simp
  rw[e]at this
  exact(Option.some.inj this).symm
theorem aO.reverse:∀{vs:List V}{us:List Value},aO vs us->aO vs.reverse us.reverse
 |_,_,.nil=>.nil
 |_,_,.cons h t=>by simp only[List.reverse_cons];exact(aO.reverse t).append (.cons h .nil)
section
variable {X:Cx}{C:aW}{sub:Nat->Nat->Bool}{E:XK}{a b c e o tg:Expr}{es:List Expr}{x y z:Ex}{xs:List Ex}{p p2 pos pos2:Pos}{kk:IK}
theorem Cp (hm:X.mg "list" = none)(hm2:X.mg "reversed" = none)(hc:X.calm=true)(ha:PA X [a] (jT X.K (bE C sub E [x])))(hg:X.env.kindOf "list" = some .globalImplicit:=by kernel_rfl)(hg2:X.env.kindOf "reversed" = some .globalImplicit:=by kernel_rfl)
  (he:starEach [.Call (.Name "reversed" p2) [a] [] pos2] X.env=(false,eval (.Call (.Name "reversed" p2) [a] [] pos2) X.env)::starEach [] X.env:=by kernel_rfl)(cS:(backTo pos (starEach [] X.env)).any (·.1)=false:=by kernel_rfl)
  (he2:starEach [a] X.env=(false,eval a X.env)::starEach [] X.env:=by kernel_rfl)(hpl2:(backTo pos2 (starEach [] X.env)).any (·.1)=false:=by kernel_rfl):
  PE X (.Call (.Name "list" p) [.Call (.Name "reversed" p2) [a] [] pos2] [] pos) (bM X.K (aG C sub E (.bit .list .rev [x]))):=by
 intro pins s σ H Q I ⟨σd,st,R,r,ok,q,hq⟩
 refine wpAny_Call_Name_kw (lR I hg hm xB ?_ (by decide) (by decide))
 refine PyProof.Rows.callWith_type1 ?_ he cS
 rw[he]
 show wpAny _ _ (spliced ((false,eval (.Call (.Name "reversed" p2) [a] [] pos2) X.env)::backTo pos (starEach [] X.env))) _ _ s
 refine Calls.spliced_cons ?_
 refine wpAny_Call_Name_kw (lR I hg2 hm2 HS ?_ (by decide) (by decide))
 refine PyProof.Rows.callWith_type1 (aV (ha pos2 pins s σ H _ I ⟨σd,st,_,r,ok,q,fun vs H' z=>z⟩) fun us s1 ⟨vs,H1,I1,rv,ds,aC,cW,aN,rs,q1⟩=>?_) he2 hpl2
 match ds,rs,q1 with
 |[d],rs,q1 =>
  obtain⟨v,rfl,rd⟩:=rs.one
  obtain⟨u,rfl,ru⟩:=vals1 rv
  have q1:dN d aC fun as xs=>fR xs.reverse aC R:=q1
  obtain⟨l,ws,as,ys,rfl,sa,g,q1⟩:=nH aN rd q1
  cases ru
  have hh:X.A.handled=none:=I1.ok.hd hc
  have nil:∀{Q':List Value->Shared->Prop}{s':Shared},Q' [] s'->wpAny (model X.prog X.w) X.A (spliced (backTo pos (starEach [] X.env))) Q' X.xe s':=fun h=>Calls.spliced_nil h
  have fin:∀(aD:List Value)(s2:Shared)(h':Heap)(tk:Nat)(acc:Array Value)(cc:Nat),aO ws aD->ws.length<=sizeLine->Inv X pins σ H1 s2->lY X pins H1 s1.heap.objs.size->(∀ b o,b∉[s1.heap.objs.size]->s2.heap.get? b=some o->h'.get? b=some o) ->
    h'.get? s2.heap.objs.size=some { cls:=.type "list", dict:=none,data:=.seq acc cc,slots:=#[] }->ItemsOf (fun i v=>aD.toArray[aD.toArray.size-1-i]? = some v) acc aD.toArray.size->EP X pins σ Q (.ref s2.heap.objs.size) { s2 with heap:=h',toks:=tk }:=by
   intro aD s2 h' tk acc cc hv hz I2 f2 k2 hS hacc
   have ea:=NJ hacc
   subst ea
   refine⟨.ref s2.heap.objs.size,_,O1 I2 f2 (fun b o hb e=>k2 b o (by simpa using hb) e) hS (aO.reverse hv) (by simpa using hz),rfl,hq _ _ (.after cW ?_)⟩
   exact .fR aN g.reverse I2.fresh q1.2
  rcases sa with sa|sa
  ·obtain⟨aD,r1,pl,hz⟩:=I1.list sa
   have hl:=pl.isList
   have cN:l<s1.heap.objs.size:=by obtain⟨_,e,_⟩:=hl;exact Heap.lt_size e
   have hzz:aD.toArray.size<=sizeLine:=by simp;rw[<-r1.length];exact hz
   refine call_reversed_list hl (nil ?_)
   have I2:Inv X pins σ H1 { s1 with heap:=s1.heap.push (revObj l ((aD.toArray.size:Int)-1)) }:=I1.kept (t':=s1.toks) fun b o e=>Heap.get?_push_of_some _ e
   have W:=fun A hA=>Walks.listRev (prog:=X.prog) (w:=X.w) (A:=A) hA s1.heap.objs.size l (Nat.ne_of_lt cN) aD.toArray
   refine vD (W _ hh) hzz (fun h st=>let⟨o,ho,hcl,_⟩:=st.2.1;⟨o,ho,hcl⟩) (by decide) (by decide) O3 ⟨Nat.zero_le _,⟨_,Heap.get?_push_size _ rfl,rfl,by simp [revObj]⟩,hl.push _⟩ (fun b hb=>?_) (by simp) fun h' tk acc cc k hS hacc=>?_
   ·show b<(s1.heap.push _).objs.size
    rw[Heap.size_push]
    rcases List.mem_cons.mp hb with rfl|hb
    ·exact Nat.lt_succ_self _
    ·rcases List.mem_cons.mp hb with rfl|hb
     ·exact Nat.lt_succ_of_lt cN
     ·cases hb
   ·exact fin aD _ h' tk acc cc r1 hz I2 (I1.GP (Nat.le_refl _) I1.fresh) k hS hacc
  ·obtain⟨aD,r1,pl,hz⟩:=I1.tuple sa
   have cN:l<s1.heap.objs.size:=by obtain⟨_,e,_⟩:=pl;exact Heap.lt_size e
   have hzz:aD.toArray.size<=sizeLine:=by simp;rw[<-r1.length];exact hz
   have mD:(aD.toArray.size:Int)<2 ^ 63:=by have:=hzz;rw[sizeLine_eq]at this;omega
   refine xU pl mD (nil ?_)
   have I2:Inv X pins σ H1 { s1 with heap:=s1.heap.push (KW l ((aD.toArray.size:Int)-1)),toks:=s1.toks+1+1 }:=I1.kept (t':=s1.toks+1+1) fun b o e=>Heap.get?_push_of_some _ e
   have W:=fun A hA=>Walks.XQ (prog:=X.prog) (w:=X.w) (A:=A) hA s1.heap.objs.size l (Nat.ne_of_lt cN) aD.toArray mD
   refine vD (W _ hh) hzz (fun h st=>let⟨o,ho,hcl,_⟩:=st.2.1;⟨o,ho,hcl⟩) (by decide) (by decide) (OQ hzz) ⟨Nat.zero_le _,⟨_,Heap.get?_push_size _ rfl,rfl,by simp [KW]⟩,let⟨o,ho,r⟩:=pl;⟨o,Heap.get?_push_of_some _ ho,r⟩⟩ (fun b hb=>?_) (by simp) fun h' tk acc cc k hS hacc=>?_
   ·show b<(s1.heap.push _).objs.size
    rw[Heap.size_push]
    rcases List.mem_cons.mp hb with rfl|hb
    ·exact Nat.lt_succ_self _
    ·rcases List.mem_cons.mp hb with rfl|hb
     ·exact Nat.lt_succ_of_lt cN
     ·cases hb
   ·exact fin aD _ h' tk acc cc r1 hz I2 (I1.GP (Nat.le_refl _) I1.fresh) k hS hacc
theorem Fl (hm:X.mg "list" = none)(hm2:X.mg "reversed" = none)(ha:JA X C sub E [a] [x])(hc:X.calm=true:=by kernel_rfl)(hg:X.env.kindOf "list" = some .globalImplicit:=by kernel_rfl)(hg2:X.env.kindOf "reversed" = some .globalImplicit:=by kernel_rfl)
 (he:starEach [.Call (.Name "reversed" p2) [a] [] pos2] X.env=(false,eval (.Call (.Name "reversed" p2) [a] [] pos2) X.env)::starEach [] X.env:=by kernel_rfl)(cS:(backTo pos (starEach [] X.env)).any (·.1)=false:=by kernel_rfl)
 (he2:starEach [a] X.env=(false,eval a X.env)::starEach [] X.env:=by kernel_rfl)(hpl2:(backTo pos2 (starEach [] X.env)).any (·.1)=false:=by kernel_rfl):
 JE X C sub E (.Call (.Name "list" p) [.Call (.Name "reversed" p2) [a] [] pos2] [] pos) (.bit .list .rev [x]):=⟨Cp hm hm2 hc ha.h hg hg2 he cS he2 hpl2⟩
end
end L3
end
section
namespace L3
open PySem PySem.Spec PyProof.Rows L2
theorem Z1 {K:PySem.W.Frag}{h:Heap}{mg:Str->Option Value}(X:K.In h)(G:h.Ns mainGlobals mg){n:Str}{i:Int}{t:Tok}(a:PySem.W.nsIn K mainGlobals n=some (some (.int i t))):GC K mg n (.int i):=⟨_,.int i,PySem.W.mg_of X G a,⟨t,rfl⟩,fun _=>.int i⟩
theorem Ad {K:PySem.W.Frag}{h:Heap}{mg:Str->Option Value}(X:K.In h)(G:h.Ns mainGlobals mg){n:Str}{x:Str}{w:List Nat}{t:Tok}(a:PySem.W.nsIn K mainGlobals n=some (some (.str x t)))(e:x=⟨w.toArray⟩):GC K mg n (.str w):=⟨_,.str x,PySem.W.mg_of X G a,⟨t,rfl⟩,fun _=>by rw[e];exact .str w⟩
noncomputable def LD:D->Value->Bool
 |.non,.none=>true
 |.bl b,.bool c=>b==c
 |.int i,.int j _=>i==j
 |.str w,.str x _=>w==x.cps.toList
 |_,_=>false
noncomputable def EA:List D->List Value->Bool
 |[],[]=>true
 |d::ds,u::us=>LD d u&&EA ds us
 |_,_=>false
noncomputable def R9:D->V
 |.bl b=>.bl b
 |.int i=>.int i
 |.str w=>.str ⟨w.toArray⟩
 |_=>.non
theorem OP {K:PySem.W.Frag}{H:Hp}{d:D}{u:Value}(h:LD d u=true):L2.RelV (R9 d) u/\Rep K H d (R9 d):=by
 unfold LD at h
 split at h
 ·exact⟨rfl,.non⟩
 ·exact⟨by rw[eq_of_beq h];rfl,.bl _⟩
 ·exact⟨⟨_,by rw[eq_of_beq h]⟩,.int _⟩
 ·rename_i w x t
  exact⟨⟨t,by rw[eq_of_beq h]⟩,.str w⟩
 ·cases h
theorem GA {K:PySem.W.Frag}{H:Hp}:∀{ds:List D}{us:List Value},EA ds us=true->aO (ds.map R9) us/\aH K H ds (ds.map R9)
 |[],[],_=>⟨.nil,.nil⟩
 |d::ds,u::us,h=>by
  simp only[EA,Bool.and_eq_true]at h
  have r:=OP (K:=K) (H:=H) h.1
  have s:=GA (K:=K) (H:=H) h.2
  exact⟨.cons r.1 s.1,.cons r.2 s.2⟩
 |[],_::_,h=>by cases h
 |_::_,[],h=>by cases h
theorem NU {K:PySem.W.Frag}{h:Heap}{mg:Str->Option Value}(X:K.In h)(G:h.Ns mainGlobals mg){n:Str}{ds:List D}{p:Addr}{aD:Array Value}{k:Nat}{sl:Array (Option Value)}(a:PySem.W.nsIn K mainGlobals n=some (some (.ref p)))
 (l:K.lookup p=some ⟨.type "tuple", none,.seq aD k,sl⟩)(f:EA ds aD.toList=true)(z:Nat.ble aD.size 1000=true):GC K mg n (.tup ds):=by
 refine⟨_,.ref p,PySem.W.mg_of X G a,rfl,fun H=>?_⟩
 have s:=GA (K:=K) (H:=H) f
 exact .tup (.inr ⟨_,aD,k,l,rfl,rfl,rfl,Nat.le_of_lt (OC (Nat.le_of_ble_eq_true z)),s.1⟩) s.2
end L3
end
section
namespace L3
open PySem PySem.Spec PyProof.Rows L2
noncomputable def XA (hi:Int)(n:Nat):It:=⟨fun i _=>i<n,fun i H x H'=>H'=H/\x=.int (hi-i),fun i _=>n<=i⟩
theorem NC {P:Program}{w:World}{K:PySem.W.Frag}{tg:Expr}(it:Addr)(lo:Int)(n:Nat):Turn P w K tg (XA lo n) [it] it (fun i h=>IsRangeIter h it (lo+(i:Nat)*(-1)) ((n:Int)-(i:Nat)) (-1)) where
 mem:=by simp
 obj:=fun i h st b hb=>by
  have e:b=it:=by simpa using hb
  subst e
  exact⟨_,st,fun v z=>by
   have z':Data.fields _=Data.cell v:=z
   cases z'⟩
 keep:=fun i h h' st k=>k it (by simp) _ st
 item:=by
  intro X hP hw hK hc i pins s σ H E I hf st hg
  subst hP hw hK
  obtain⟨f0,f1,f2,f3,f4,f5⟩:=hf it (by simp)
  have W:=Walks.range (prog:=X.prog) (w:=X.w) (I.ok.hd hc) it lo (-1) n
  refine W.item i s _ _ hg st fun v h' tk hv aB kk=>?_
  obtain⟨t,rfl⟩:=hv
  have I1:Inv X pins σ H { s with heap:=h',toks:=tk }:=I.turned (fun b o hb e=>kk b o (by simpa using hb) e) f0 f1 f3 f4 f5
  refine⟨_,rfl,AD (s:={ s with heap:=h',toks:=tk }) (n :="range_iterator") aB rfl rfl (by decide) ⟨.int (lo-i),H,I1,⟨t,?_⟩,⟨rfl,rfl⟩,aB,fun b hb=>(hf b hb).1⟩⟩
  congr 1;omega
 done:=by
  intro X hP hw hK hc i pins s σ H E I hf st hg
  subst hP hw hK
  obtain⟨f0,f1,f2,f3,f4,f5⟩:=hf it (by simp)
  exact wpAny_pyNext_range_end (I.ok.hd hc) st (by have:n<=i:=hg;omega) fun h' eb=>⟨rfl,I.turned (t':=s.toks) (fun b o hb e=>eb b o hb e) f0 f1 f3 f4 f5⟩
 self:=fun _ _ _ _ _ st h=>wpAny_pyIter_rangeiter st h
theorem RA {K:PySem.W.Frag}{H1:Hp}{aC:aA}(lo:Int)(n:Nat):yG K (XA lo n) [] (mM lo n) H1 aC where
 go:=fun i H st d s ok _ e=>by
  have:=(List.getElem?_eq_some_iff.mp e).1
  show i<n
  simpa [mM]using this
 yld:=fun i H st d x H' s ok _ e ⟨e',h⟩=>by
  subst e' h
  simp only[mM,List.getElem?_map,Option.map_eq_some_iff]at e
  obtain⟨k,e1,rfl⟩:=e
  have:k=i:=by
   rw[List.getElem?_eq_some_iff]at e1
   obtain⟨_,e2⟩:=e1
   simp at e2
   exact e2.symm
  subst this
  exact⟨.refl,ok,.int _⟩
 stop:=fun i H st s ok _ l=>by show n<=i;simpa [mM]using l
section
variable {X:Cx}{tg:Expr}
theorem MB {pins:List (Addr×Obj)}{σ:L2.St}{H:Hp}{s:Shared}{R:It->Hp->Prop}{E:Value->Shared->Prop}{lo hi:Int}{t u v:Tok}{tk:Nat}(I:Inv X pins σ H s) (h1 : -(2 ^ 62)<=lo)(h2:lo<2 ^ 62) (h3 : -(2 ^ 62)<=hi)(h4:hi<2 ^ 62)
  (q:R (XA lo (lo-hi).toNat) H):wpAny (model X.prog X.w) X.A (pyIter (.ref s.heap.objs.size)) (N1 X pins σ tg R) E { s with heap:=s.heap.push { cls:=.type "range", data:=.fields #[.int lo t,.int hi u,.int (-1) v] },toks:=tk }:=by
 refine wpAny_pyIter_range (IsRange.new ..) (PySem.W.small_down h1 h2 h3 h4) ?_
 have I1:Inv X pins σ H { s with heap:=s.heap.push { cls:=.type "range", data:=.fields #[.int lo t,.int hi u,.int (-1) v] },toks:=tk }:=I.kept fun b o e=>Heap.get?_push_of_some _ e
 refine⟨(s.heap.push { cls:=.type "range", data:=.fields #[.int lo t,.int hi u,.int (-1) v] }).objs.size,[(s.heap.push { cls:=.type "range", data:=.fields #[.int lo t,.int hi u,.int (-1) v] }).objs.size],_,_,H,rfl,
  I1.kept (t':=tk) fun b o e=>Heap.get?_push_of_some _ e,NC _ lo (lo-hi).toNat,?_,fun b hb=>?_,q⟩
 ·have e1:lo+((0:Nat):Int)*(-1)=lo:=by simp
  have e2:(((lo-hi).toNat:Nat):Int)-((0:Nat):Int)=Builtin.Range.rangeSize lo hi (-1):=by rw[PySem.W.rangeSize_downNat];omega
  show IsRangeIter _ _ (lo+((0:Nat):Int)*(-1)) ((((lo-hi).toNat:Nat):Int)-((0:Nat):Int)) (-1)
  rw[e1,e2]
  exact Heap.get?_push_size _ rfl
 ·have e:b=(s.heap.push { cls:=.type "range", data:=.fields #[.int lo t,.int hi u,.int (-1) v] }).objs.size:=by simpa using hb
  subst e
  exact I1.GP (Nat.le_refl _) (I1.bH.fresh (Nat.le_refl _))
variable {C:aW}{sub:Nat->Nat->Bool}{E:XK}{a b c:Expr}{x y z:Ex}{p pos:Pos}
theorem OW {d d' d'':L3.D}{st:aA}{R:List Nat->List L3.D->Prop}(h:fK (some .range) [d,d',d''] st R):∃ i j c,d=.int i/\d'=.int j/\d''=.int c:=by
 unfold fK at h
 split at h
 all_goals first|(rename_i h1 h2;cases h2;exact⟨_,_,_,rfl,rfl,rfl⟩)|(rename_i h1 h2;cases h2)|(rename_i h1 h2;cases h1)|exact h.elim
theorem Jc (m:bL C C)(hm:X.mg "range" = none)(ha:JA X C sub E [a,b,c] [x,y,z])(hg:X.env.kindOf "range" = some .globalImplicit:=by kernel_rfl)
  (hs:starEach [a,b,c] X.env=[(false,eval a X.env),(false,eval b X.env),(false,eval c X.env)]:=by kernel_rfl)(hs2:starEach [b,c] X.env=[(false,eval b X.env),(false,eval c X.env)]:=by kernel_rfl):
  JI X C sub E tg (.Call (.Name "range" p) [a,b,c] [] pos) (some .range) [x,y,z]:=⟨by
 intro pins s σ H R I ⟨σd,st,M,r,ok,q,hq⟩
 refine Call_ (lR I hg hm PV (PyProof.Rows.callWith_type1 (aV (ha.h pos pins s σ H _ I ⟨σd,st,_,r,ok,pB [x,y,z] m q,fun vs H' z=>z⟩) fun us s1 ⟨vs,H1,I1,rv,ds,aC,cW,aN,rs,l1,q1⟩=>?_) (by rw[hs,hs2]) (by rw[hs2];rfl)))
 obtain⟨d,d',d'',rfl⟩:∃ d d' d'',ds=[d,d',d'']:=by
  match ds,l1 with
  |[d,d',d''],_=>exact⟨d,d',d'',rfl⟩
 have q1:fK (some .range) [d,d',d''] aC fun as xs=>M as xs aC:=q1
 obtain⟨i,j,c,rfl,rfl,rfl⟩:=OW q1
 cases rs with|cons r1 rs=>cases rs with|cons r2 rs=>cases rs with|cons r3 rs =>
  cases rs
  cases r1.int_inv;cases r2.int_inv;cases r3.int_inv
  rw[A2]at q1
  obtain⟨rfl,⟨a1,a2⟩,⟨b1,b2⟩,q1⟩:=q1
  cases rv with|cons v1 rv=>cases rv with|cons v2 rv=>cases rv with|cons v3 rv =>
   cases rv
   obtain⟨t1,rfl⟩:=v1
   obtain⟨t2,rfl⟩:=v2
   obtain⟨t3,rfl⟩:=v3
   exact call_range_3 (by decide) (MB I1 a1 a2 b1 b2 (hq _ _ ⟨_,_,aC,cW,aN,RA _ _,q1⟩))⟩
end
end L3
end
section
namespace L3
open PySem PySem.Spec PyProof.Rows L2
noncomputable def XY:D->PyData
 |.bl b=>.bool b
 |.int i=>.int i
 |.str w=>.str ⟨w.toArray⟩
 |_=>.none
noncomputable def Fh:D->Bool
 |.non=>true
 |.bl _=>true
 |.int _=>true
 |.str _=>true
 |_=>false
noncomputable def sW:List D->List D->List (Str×PyData)
 |.str w::ks,v::vs=>(⟨w.toArray⟩,XY v)::sW ks vs
 |_,_=>[]
noncomputable def RE:List D->List D->Bool
 |[],[]=>true
 |.str _::ks,v::vs=>Fh v&&RE ks vs
 |_,_=>false
theorem V8 {v:D}(h:Fh v=true):qR (XY v)=v/\mL (XY v)=true:=by
 cases v<;>first|exact⟨rfl,rfl⟩|cases h
theorem MX:∀{ks vs:List D},RE ks vs=true->((sW ks vs).all fun p=>mL p.2)=true/\ks=(sW ks vs).map (fun p=>.str p.1.cps.toList)/\vs=(sW ks vs).map (fun p=>qR p.2)
 |[],[],_=>⟨rfl,rfl,rfl⟩
 |.str w::ks,v::vs,h=>by
  simp only[RE,Bool.and_eq_true]at h
  obtain⟨a,b,c⟩:=MX h.2
  obtain⟨d,e⟩:=V8 h.1
  refine⟨?_,?_,?_⟩
  ·simp only[sW,List.all_cons,e,a,Bool.and_self]
  ·simp only[sW,List.map_cons];rw[<-b]
  ·simp only[sW,List.map_cons,d];rw[<-c]
 |[],_::_,h=>by cases h
 |.str _::_,[],h=>by cases h
 |.non::_,_,h=>by cases h
 |.bl _::_,_,h=>by cases h
 |.int _::_,_,h=>by cases h
 |.tup _::_,_,h=>by cases h
 |.ref _::_,_,h=>by cases h
 |.cM _ _::_,_,h=>by cases h
 |.bF _::_,_,h=>by cases h
 |.exc _::_,_,h=>by cases h
theorem ZV {K:PySem.W.Frag}{h:Heap}{mg:Str->Option Value}(X:K.In h)(G:h.Ns mainGlobals mg){n:Str}{ks vs:List D}{p:Addr}{es:Array DictEntry}{ep:Nat}(a:PySem.W.nsIn K mainGlobals n=some (some (.ref p)))
 (l:K.lookup p=some ⟨.type "dict", none,.dict es ep,#[]⟩)(f:(KTD.rowsLook KTD.flatLooks es.toList (sW ks vs)&&RE ks vs && !(p==sysModules))=true):GC K mg n (.cM ks vs):=by
 simp only[Bool.and_eq_true]at f
 obtain⟨⟨f1,f2⟩,f3⟩:=f
 obtain⟨a1,a2,a3⟩:=MX f2
 refine⟨_,.ref p,PySem.W.mg_of X G a,rfl,fun H=>.cM ⟨sW ks vs,?_,a1,a2,a3⟩⟩
 simp only[KTD.tabLook,l,f1,f3]
 rfl
end L3
end
section
namespace L3
open PySem PySem.Spec PyProof.Rows L2 PySem.SeqAt
theorem HI {β:Type}(n:Nat)(b:β)(f:Nat->β->Sem (ForInStep β)):forIn [0:n] b f=forIn (List.range' 0 n 1) b f:=by
 rw[Std.Legacy.Range.forIn_eq_forIn_range']
 have jH:([0:n]:Std.Legacy.Range).size=n:=by simp [Std.Legacy.Range.size]
 show forIn (List.range' 0 ([0:n]:Std.Legacy.Range).size 1) b f=_
 rw[jH]
theorem zB {prog:Program}{w:World}{A:Around}{E:Value->Shared->Prop}{s:Shared}{t:Addr}{items:Array Value}{x:Value}{e:Value->Bool}{j:Nat}{P:Fin->Shared->Prop}(ht:IsTup s.heap t items)
  (he:∀ y,y∈items->EqAt A s y x (e y))(hj:j<items.size)(hit:e items[j]=true)(hno:∀ m (hm:m<items.size),m<j->e items[m]=false)
  (h:P (.done (.ret (.int j s.toks))) { s with toks:=s.toks+1 }):wpAny (model prog w) A (Builtin.«tuple.index» ⟨[.ref t,x],[]⟩) P E s:=by
 show wpAny _ _ (Builtin.Tuple.tupleItemsOf (.ref t) >>= _) _ _ s
 refine wpAny_bind (tupleItemsOf_ ht ?_)
 show wpAny _ _ (forIn [0:min items.size items.size] _ _ >>= _) _ _ s
 rw[Nat.min_self,HI]
 refine wpAny_bind (wpAny_mono (Q:=fun(b:Option PySem.Fin×Unit) s'=>b.1=some (.done (.ret (.int j s.toks)))/\s' = { s with toks:=s.toks+1 }) (wpAny_forIn_list (β:=Option PySem.Fin×Unit) _ (fun rest b s'=>s'=s/\b.1=none/\∃ i,rest=List.range' i (items.size-i) 1/\i<=j) _ ?_ ?_ _ _ ⟨rfl,rfl,0,rfl,Nat.zero_le _⟩) ?_ fun _ _ z=>z)
 ·rintro i rest b s' ⟨rfl,hb,k,hk,hkj⟩
  have cN:k<items.size:=by omega
  have e1:items.size-k=(items.size-(k+1))+1:=by omega
  rw[e1,List.range'_succ]at hk
  injection hk with h1 h2
  subst h1
  have hg:items[i]? = some items[i]:=by simp [cN]
  rw[hg]
  show wpAny _ _ (eqBool items[i] x >>= _) _ _ _
  refine wpAny_bind (he _ (Array.getElem_mem cN) prog w _ _ ?_)
  by_cases hij:i=j
  ·subst hij
   rw[hit]
   exact wpAny_bind (wpAny_bind (wpAny_mkInt (wpAny_pure (wpAny_pure ⟨rfl,rfl⟩))))
  ·rw[hno i cN (by omega)]
   exact wpAny_pure ⟨rfl,rfl,i+1,h2,by omega⟩
 ·rintro b s' ⟨_,_,i,hi,hij⟩
  have:(List.range' i (items.size-i) 1).length=0:=by rw[<-hi];rfl
  simp at this
  omega
 ·rintro⟨b1,b2⟩ s' ⟨hb,rfl⟩
  simp only at hb
  subst hb
  exact wpAny_pure h
end L3
end
section
namespace L3
open PySem PySem.Spec PyProof.Rows L2 PySem.SeqAt
section
variable {X:Cx}
theorem EE {pins:List (Addr×Obj)}{s:Shared}{σ:L2.St}{H:Hp}{st:aA}(I:Inv X pins σ H s)(ok:aQ X.K st H){ds:List D}{vs:List V}{aD:List Value}{d:D}{v:V}{u:Value}{A:Around}
  (g:aH X.K H ds vs)(r:aO vs aD)(p:dJ st ds)(pd:plainS st d)(rd:Rep X.K H d v)(rv:RelV v u)(hu:A.units+178<cLine):
  ∃ e:Value->Bool,(∀ y,y∈aD.toArray->EqAt A.in1 s y u (e y))/\∀ j (hj:j<aD.length)(hj':j<ds.length),e aD[j]=bN st ds[j] d:=by
 classical
 have hD:lO=80:=rfl
 have item:∀(d':D)(v':V)(y:Value),d'∈ds->Rep X.K H d' v'->RelV v' y->EqAt A.in1 s y u (bN st d' d):=fun d' v' y m r' aZ=>by
  have h1:=iF m
  have h2:=p.2
  exact(LC I ok 80 (by omega) (fL p.1 m) pd.1 r' aZ rd rv (by simp only[Around.in1_units];omega)).2.1
 let e:Value->Bool:=fun y=>decide (∃ d' v',d'∈ds/\Rep X.K H d' v'/\RelV v' y/\bN st d' d=true)
 have he:∀(d':D)(v':V)(y:Value),d'∈ds->Rep X.K H d' v'->RelV v' y->e y=bN st d' d:=fun d' v' y m r' aZ=>by
  show decide _=_
  cases q:bN st d' d with
  |true=>exact decide_eq_true ⟨d',v',m,r',aZ,q⟩
  |false =>
   refine decide_eq_false fun⟨d2,v2,m2,r2,rv2,q2⟩=>?_
   cases RelV.inj aZ rv2
   have:=FX I ok _ (Nat.le_refl _) (fL p.1 m) (fL p.1 m2) r' r2
   subst this
   rw[q]at q2;cases q2
 refine⟨e,fun y hy=>?_,fun j hj hj'=>?_⟩
 ·obtain⟨j,hj,rfl⟩:=Array.mem_iff_getElem.mp hy
  obtain⟨v',e1,e2⟩:=aO.at r hj
  obtain⟨d',e3,e4⟩:=aH.get' g e1
  rw[he d' v' _ (List.mem_of_getElem? e3) e4 e2]
  exact item d' v' _ (List.mem_of_getElem? e3) e4 e2
 ·obtain⟨v',e1,e2⟩:=aO.at r (by simpa using hj)
  obtain⟨d',e3,e4⟩:=aH.get' g e1
  have e5:ds[j]=d':=(List.getElem?_eq_some_iff.mp e3).2
  rw[e5]
  exact he d' v' _ (List.mem_of_getElem? e3) e4 (by simpa using e2)
theorem tJ {st:aA}{d:D}:∀{ds:List D}{j:Nat},findD st d ds=some j->∃ hj:j<ds.length,bN st ds[j] d=true/\∀ m (hm:m<ds.length),m<j->bN st ds[m] d=false
 |[],_,h=>by cases h
 |x::r,j,h=>by
  have h:(if bN st x d=true then some 0 else(findD st d r).map (·+ 1))=some j:=h
  by_cases c:bN st x d=true
  ·rw[if_pos c]at h;cases h
   exact⟨by simp,c,fun m _ hm=>by omega⟩
  ·rw[if_neg c]at h
   obtain⟨k,e,rfl⟩:=Option.map_eq_some_iff.mp h
   obtain⟨h1,h2,h3⟩:=tJ e
   refine⟨by simpa using h1,by simpa using h2,fun m hm hl=>?_⟩
   cases m with
   |zero=>simpa using c
   |succ m=>simpa using h3 m (by simpa using hm) (by omega)
theorem index_list {pins:List (Addr×Obj)}{s:Shared}{σ:L2.St}{H:Hp}{st:aA}{R:VK}{ds:List D}{vs:List V}{d:D}{v:V}{u:Value}{a:Addr}{j:Nat}(hu:X.A.units+180<cLine)(I:Inv X pins σ H s)(ok:aQ X.K st H)(f:dR X.K H a vs)(g:aH X.K H ds vs)
  (rd:Rep X.K H d v)(rv:RelV v u)(pd:plainS st d)(ps:dJ st ds)(hj:findD st d ds=some j)(q:R (.int (j:Nat)) st):wpAny (model X.prog X.w) X.A (call (.builtin "list.index") [.ref a,u]) (EP X pins σ (QD X.K H st R)) X.xe s:=by
 obtain⟨aD,r1,p1,hz⟩:=I.list f
 obtain⟨e,he,ha⟩:=EE I ok g r1 ps pd rd rv (A:=X.A) (by omega)
 obtain⟨h1,h2,h3⟩:=tJ hj
 have l1:=g.length
 have l2:=r1.length
 have hn:=pM
 obtain⟨⟨cls,dd,data,sl⟩,ho,hc,n,hd⟩:=id p1.isList
 simp only at hc hd
 subst hc hd
 refine call_meets PySem.F.slot_list_index ⟨_,ho,rfl⟩ PySem.F.entry_list_index (PySem.F.args_list_index_2 _ _)
  (list_indexAt a aD.toArray n dd sl u e j (by simp;omega) (by omega) ?_ ?_) ⟨ho,he,?_⟩
 ·show e aD[j]=true
  rw[ha j (by omega) h1];exact h2
 ·intro m hm hl
  have hm:m<aD.length:=by simpa using hm
  show e aD[m]=false
  rw[ha m hm (by omega)];exact h3 m (by omega) hl
 ·exact⟨.int j,H,I.tok _,⟨_,rfl⟩,.here ok (.int _) q⟩
theorem ML {pins:List (Addr×Obj)}{s:Shared}{σ:L2.St}{H:Hp}{st:aA}{R:VK}{ds:List D}{vs:List V}{d:D}{v:V}{u:Value}{a:Addr}{j:Nat}(hu:X.A.units+180<cLine)(I:Inv X pins σ H s)(ok:aQ X.K st H)(f:dQ X.K H a vs)(g:aH X.K H ds vs)
  (rd:Rep X.K H d v)(rv:RelV v u)(pd:plainS st d)(ps:dJ st ds)(hj:findD st d ds=some j)(q:R (.int (j:Nat)) st):wpAny (model X.prog X.w) X.A (call (.builtin "tuple.index") [.ref a,u]) (EP X pins σ (QD X.K H st R)) X.xe s:=by
 obtain⟨aD,r1,p1,hz⟩:=I.tuple f
 obtain⟨e,he,ha⟩:=EE I ok g r1 ps pd rd rv (A:=X.A) (by omega)
 obtain⟨h1,h2,h3⟩:=tJ hj
 have l1:=g.length
 have l2:=r1.length
 refine wpAny_call_entry PySem.F.slot_tuple_index p1.typeIs PySem.F.entry_tuple_index (zB p1 he (j:=j) (by simp;omega) ?_ ?_ ⟨_,rfl,?_⟩) (PySem.F.args_tuple_index_2 _ _)
 ·show e aD[j]=true
  rw[ha j (by omega) h1];exact h2
 ·intro m hm hl
  have hm:m<aD.length:=by simpa using hm
  show e aD[m]=false
  rw[ha m hm (by omega)];exact h3 m (by omega) hl
 ·exact⟨.int j,H,I.tok _,⟨_,rfl⟩,.here ok (.int _) q⟩
end
section
variable {X:Cx}{C:aW}{sub:Nat->Nat->Bool}{E:XK}{e o:Expr}{x y:Ex}{pos apos jB:Pos}
noncomputable def YR:D->Bool
 |.tup _=>true
 |_=>false
theorem GZ {K:PySem.W.Frag}{H:Hp}{st:aA}{d:D}{v:V}{Kk:List Nat->List D->Prop}(ok:aQ K st H)(r:Rep K H d v)(h:dN d st Kk):∃ a vs as ds,v=.ref a/\aH K H ds vs/\((YR d=false/\dR K H a vs)∨(YR d=true/\dQ K H a vs))/\Kk as ds:=by
 unfold dN at h
 split at h
 ·obtain⟨a,vs,rfl,f,g⟩:=r.bJ
  exact⟨a,vs,_,_,rfl,g,.inr ⟨rfl,f⟩,h⟩
 ·cases r.bZ
  obtain⟨ds,e,h⟩:=dG h
  obtain⟨vs,g1,g2⟩:=ok.lst e
  exact⟨_,vs,_,_,rfl,g2,.inl ⟨rfl,dR.of g1⟩,h⟩
 ·obtain⟨a,vs,rfl,f,g⟩:=r.jO
  exact⟨a,vs,_,_,rfl,g,.inl ⟨rfl,f.sq⟩,h⟩
 ·exact h.elim
theorem OM (m:bL C C)(hu:X.A.units+180<cLine)(ho:JE X C sub E o x)(ha:JA X C sub E [e] [y])(iS:attributeBase o "index" X.env (eval o X.env)=eval o X.env:=by kernel_rfl)
  (tZ:((backTo pos (starEach [e] X.env)).all (fun x=>!x.1)&&(backToKw pos (keywordEach [] X.env)).all (fun x=>x.1.isSome)&&decide ([e].length+([]:List Keyword).length+(if([]:List Keyword).isEmpty then 0 else 1)<30))=true:=by kernel_rfl)(iT:(apos.endLine==pos.line)=true:=by kernel_rfl)
  (hs:starEach [e] X.env=[(false,eval e X.env)]:=by kernel_rfl):
  JE X C sub E (.Call (.Attribute o "index" apos) [e] [] pos) (.cC .index x [y]):=⟨by
 intro pins s σ H Q I ⟨σd,st,R,r,ok,q,hq⟩
 refine wpAny_Call_method_late iS tZ iT rfl (aV (ho.h pins s σ H _ I ⟨σd,st,_,r,ok,q,fun v H' z=>z⟩) fun v s1 ⟨x1,H1,I1,r1,d1,aC,cW,aN,rd1,q1⟩=>?_)
 obtain⟨rc,q1⟩:=q1
 obtain⟨a,vs,as,ds,rfl,g,ty,-⟩:=GZ aN rd1 rc
 cases r1
 have rest:∀ id:String,(∀(s2:Shared)(H2:Hp)(aF:aA)(d2:D)(v2:V)(u2:Value),Inv X pins σ H2 s2->Step H1 aC H2 aF->aQ X.K aF H2->Rep X.K H2 d2 v2->RelV v2 u2->iQ .index d1 [d2] aF R->wpAny (model X.prog X.w) X.A (call (.builtin id) [.ref a,u2]) (EP X pins σ (QD X.K H2 aF R)) X.xe s2) ->
   wpAny (model X.prog X.w) X.A (callWith pos (.builtin id) [.ref a] (backTo pos (starEach [e] X.env)) []) (EP X pins σ Q) X.xe s1:=by
  intro id hc
  have hA:=ha.h pos pins s1 σ H1 _ I1 ⟨σd,aC,_,r.step ok cW,aN,pB [y] m q1,fun vs H' z=>z⟩
  rw[hs]at hA ⊢
  refine Calls.callWith_builtin (by rfl) (Calls.evalArgs_plain ?_)
  refine aV hA fun us s2 ⟨ws,H2,I2,r2,es,aF,gW,bO,rs2,l2,q2⟩=>?_
  match es,l2,ws,rs2,us,r2 with
  |[d2],_,_,.cons rd2 .nil,_,.cons rv2 .nil =>
   exact aV (hc s2 H2 aF d2 _ _ I2 gW bO rd2 rv2 q2) fun w s3 ⟨v3,H3,I3,r3,z⟩=>⟨v3,H3,I3,r3,hq _ _ (.after (cW.trans gW) z)⟩
 rcases ty with⟨tk,ty⟩|⟨tk,ty⟩
 ·obtain⟨aD,_,p1,_⟩:=I1.list ty
  refine⟨"list","list.index", PySem.F.plainAttrs_list,PySem.F.slot_list_index,PySem.F.type_list_index,p1.isList.typeIs,fun b e=>?_,rest _ fun s2 H2 aF d2 v2 u2 I2 gW bO rd2 rv2 q2=>?_⟩
  ·cases e
   obtain⟨o,n,e,c,hd,_⟩:=p1
   exact⟨o,e,hd⟩
  ·obtain⟨a',vs2,as2,ds2,e2,g2,ty2,pd,ps,q2⟩:=GZ bO (rd1.step aN gW) q2
   cases e2
   obtain⟨j,hj,q2⟩:=eB q2
   rcases ty2 with⟨tk2,ty2⟩|⟨tk2,ty2⟩
   ·exact index_list hu I2 bO ty2 g2 rd2 rv2 pd ps hj q2
   ·rw[tk]at tk2;cases tk2
 ·obtain⟨aD,_,p1,_⟩:=I1.tuple ty
  refine⟨"tuple","tuple.index", PySem.F.plainAttrs_tuple,PySem.F.slot_tuple_index,PySem.F.type_tuple_index,p1.typeIs,fun b e=>?_,rest _ fun s2 H2 aF d2 v2 u2 I2 gW bO rd2 rv2 q2=>?_⟩
  ·cases e
   exact I1.Bd ty
  ·obtain⟨a',vs2,as2,ds2,e2,g2,ty2,pd,ps,q2⟩:=GZ bO (rd1.step aN gW) q2
   cases e2
   obtain⟨j,hj,q2⟩:=eB q2
   rcases ty2 with⟨tk2,ty2⟩|⟨tk2,ty2⟩
   ·rw[tk]at tk2;cases tk2
   ·exact ML hu I2 bO ty2 g2 rd2 rv2 pd ps hj q2⟩
end
end L3
end
section
namespace L3
open PySem PySem.Spec PyProof.Rows L2 PySem.SeqAt
noncomputable def qT (val:Nat->Str):Nat->Nat
 |0=>0
 |i+1=>if((List.range i).map val).any (·== val i)then qT val i else qT val i+1
theorem MW (val:Nat->Str):∀ i,qT val i<=i
 |0=>Nat.le_refl _
 |i+1=>by
  have:=MW val i
  unfold qT
  split<;>omega
section
variable {prog:Program}{w:World}{A:Around}{R:Result->Shared->Prop}{I:Addr}{fp wr:List Addr}{G:Array GenState->Array GenState->Prop}{n:Nat}{P:Nat->Value->Prop}{St:Nat->Shared->Prop}
noncomputable abbrev oM (prog:Program)(w:World)(val:Nat->Str)(S:Addr)(i:Nat)(h:Heap):Prop:=h.SetOf (strKind prog w) S (fun k=>((List.range i).map val).any (·== k)) (qT val i)
theorem HR {val:Nat->Str}{S:Addr}{i:Nat}{h:Heap}(x:h.SetOf (strKind prog w) S (fun k'=>((List.range i).map val).any (·== k')||decide (k'=val i)) (if((List.range i).map val).any (·== val i)then qT val i else qT val i+1)):oM prog w val S (i+1) h:=by
 refine SetOf_congr x (fun k=>?_) rfl
 rw[List.range_succ,List.map_append,List.any_append]
 congr 1
 simp only[List.map_cons,List.map_nil,List.any_cons,List.any_nil,Bool.or_false]
 by_cases e:k=val i
 ·subst e;simp
 ·rw[decide_eq_false e];symm;exact beq_eq_false_iff_ne.mpr fun z=>e z.symm
theorem QN (W:WalksS prog w A.in1 I fp wr G n P St)(S:Addr)(hSf:S∉fp)(val:Nat->Str)(hval:∀ i v,P i v->∃ t,v=.str (val i) t)(hb:n+1<scanBound):
 ∀(k i:Nat)(s:Shared),n-i=k->i<=n->St i s->oM prog w val S i s.heap->(∀ s',Moved (S::wr) G s s'->oM prog w val S n s'.heap->R (.ok (.ret .none)) s') ->
  codeAny (model prog w) A (.builtin "set.update.loop" ⟨[.ref S,.ref I],[]⟩) R s:=by
 have hSw:S∉wr:=fun h=>hSf (W.sub _ h)
 have hsub:∀ b∈wr,b∈S::wr:=fun b hb=>List.mem_cons_of_mem _ hb
 have keep:∀{i:Nat}{s s':Shared},oM prog w val S i s.heap->Moved wr G s s'->oM prog w val S i s'.heap:=fun⟨o,es,ep,t,ho,rest⟩ hm=>⟨o,es,ep,t,hm.heap S _ hSw ho,rest⟩
 intro k
 induction k with
 |zero =>
 intro i s hk hi dZ hS hR
 obtain rfl:i=n:=by omega
 refine codeAny_builtin PyProof.Rows.F.entry_set_update_loop ?_
 rw[Around.under_plainId PyProof.Rows.F.plain_set_update_loop _]
 show wpAny _ A.in1 (pyNext (.ref I) >>= _) _ _ s
 refine wpAny_bind (W.done s _ _ dZ fun s' hm=>?_)
 show wpAny _ A.in1 (ret Value.none) _ _ s'
 exact wpAny_pure (hR s' (hm.mono hsub) (keep hS hm))
 |succ k ih =>
 intro i s hk hi dZ hS hR
 have cN:i<n:=by omega
 refine codeAny_builtin PyProof.Rows.F.entry_set_update_loop ?_
 rw[Around.under_plainId PyProof.Rows.F.plain_set_update_loop _]
 show wpAny _ A.in1 (pyNext (.ref I) >>= _) _ _ s
 refine wpAny_bind (W.item i s _ _ cN dZ fun v s' hP hst' hm=>?_)
 obtain⟨t,rfl⟩:=hval i v hP
 show wpAny _ A.in1 (holding [Value.str (val i) t] (setAdd S (.str (val i) t)) >>= _) _ _ s'
 refine wpAny_bind (wpAny_holding ?_)
 unfold setAdd
 refine wpAny_holding (wpAny_bind ((strKind prog w).pyHash (k:=val i) (strKind_is _ _ _ _) ?_))
 refine wpAny_setAddHashed_of (knd:=strKind prog w) (s:={ s' with toks:=s'.toks+1 }) (strKind_is _ _ _ _) rfl (show oM prog w val S i s'.heap from keep hS hm) (by have:=MW val i;omega) fun h' hsb hS2=>?_
 refine wpAny_pure ⟨plainId_quiet PyProof.Rows.F.plain_set_update_loop _,ih (i+1) _ (by omega) cN (W.frame _ s' _ _ hst' (Nat.le_succ _) fun b hb o e=>?_) (HR hS2) fun s'' hm'' hS''=>?_⟩
 ·rw[hsb.2 b (fun h:b=S=>hSf (by rw[<-h];exact hb))];exact e
 ·refine hR s'' (Moved.trans W.gtrans ((hm.mono hsub).then_heap (Nat.le_succ _) fun b o hb e=>?_) hm'') hS''
  rw[hsb.2 b (fun h:b=S=>hb (by rw[h];exact List.mem_cons_self))];exact e
end
section
variable {prog:Program}{w:World}{A:Around}{E:Value->Shared->Prop}{s:Shared}
noncomputable abbrev fQ (led:Bool):Obj:={ cls:=.type "set", dict:=none,data:=.set #[] 0 (.fresh 0 0 led) }
theorem BC {l:Addr}{items:Array Value}{val:Nat->Str}{led:Bool}{Q:PySem.Fin->Shared->Prop}(hh:A.handled=none)(hl:s.heap.IsTuple l items)(hv:∀(i:Nat)(v:Value),items[i]? = some v->∃ t,v=.str (val i) t)(hb:items.size+1<scanBound)
  (h:∀(h':Heap)(tk:Nat),oM prog w val s.heap.objs.size items.size h'->(∀ b o,s.heap.get? b=some o->h'.get? b=some o)->Q (.done (.ret .none)) { s with heap:=h',toks:=tk }):
  wpAny (model prog w) A (Builtin.«set.__init__» ⟨[.ref s.heap.objs.size,.ref l],[]⟩) Q E { s with heap:=s.heap.push (fQ led) }:=by
 obtain⟨ol,hol,hcl,nl,hdl⟩:=hl
 obtain⟨ocls,odict,odata,oslots⟩:=ol
 simp only at hcl hdl
 subst hcl;subst hdl
 have hS:(s.heap.push (fQ led)).get? s.heap.objs.size=some (fQ led):=Heap.get?_push_size _ rfl
 have hT:Shared.TypeIs { s with heap:=s.heap.push (fQ led) } (.ref s.heap.objs.size) "set":=⟨_,hS,rfl⟩
 have hol':(s.heap.push (fQ led)).get? l=some { cls:=.type "tuple", dict:=odict,data:=.seq items nl,slots:=oslots }:=Heap.get?_push_of_some _ hol
 have hsls:=PySem.F.sub_tuple_set
 have hslf:=PySem.F.sub_tuple_frozenset
 have hne:(Value.type "tuple" == Value.type "dict")=false:=by decide
 have hl1:(s.heap.push (fQ led)).IsTuple l items:=⟨_,hol',rfl,nl,rfl⟩
 unfold Builtin.«set.__init__» noKeywords Builtin.Frozenset.updateFrom
 generalize hPI:pyIter=PI
 wp_walk
 subst hPI
 refine wpAny_pyIter_tuple hl1 ?_
 refine wpAny_bind (wpAny_runValue ?_)
 have hlS:l<s.heap.objs.size:=Heap.lt_size hol
 have hh3:A.in1.handled=none:=by simp [hh]
 have jH:(s.heap.push (fQ led)).objs.size=s.heap.objs.size+1:=Heap.size_push ..
 have hneI:l≠(s.heap.push (fQ led)).objs.size:=by rw[jH];exact Nat.ne_of_lt (Nat.lt_succ_of_lt hlS)
 have hSf:s.heap.objs.size∉[(s.heap.push (fQ led)).objs.size,l]:=by
  simp only[List.mem_cons,List.not_mem_nil,or_false,not_or]
  exact⟨by rw[jH];exact Nat.ne_of_lt (Nat.lt_succ_self _),Nat.ne_of_gt hlS⟩
 refine QN ((Walks.tuple hh3 _ l hneI items).toS) s.heap.objs.size hSf val hv hb (items.size-0) 0 _ (by omega) (Nat.zero_le _) ⟨?hT1,?hT0⟩ ?hS0 ?hR
 case hT1=>exact⟨_,Heap.get?_push_size _ rfl,rfl,rfl⟩
 case hT0=>exact⟨_,Heap.get?_push_of_some _ hol',rfl,nl,rfl⟩
 case hS0=>exact SetOf_congr ((setObjOf_fresh (knd:=strKind prog w) led).setOf (Heap.get?_push_of_some _ hS) (by unfold scanBound;omega)) (fun _=>rfl) rfl
 case hR =>
  intro s' hm hS'
  obtain⟨h',g',d',tk',os'⟩:=s'
  have eg:g'=s.gens:=hm.gens
  have ed:d'=s.drawn:=hm.drawn
  have eo:os'=s.os:=hm.os
  subst eg;subst ed;subst eo
  show wpAny _ _ _ _ _ _
  refine wpAny_pure ?_
  show wpAny _ _ (ret Value.none) _ _ _
  refine wpAny_pure (h h' tk' hS' fun b o e=>?_)
  have hb1:b<s.heap.objs.size:=Heap.lt_size e
  exact hm.heap b o (by simp only[List.mem_cons,List.not_mem_nil,or_false,not_or];exact⟨Nat.ne_of_lt hb1,by rw[jH];exact Nat.ne_of_lt (Nat.lt_succ_of_lt hb1)⟩) (Heap.get?_push_of_some _ (Heap.get?_push_of_some _ e))
set_option maxHeartbeats 6400000 in
theorem FC {l:Addr}{items:Array Value}{val:Nat->Str}{Q:Value->Shared->Prop}(hh:A.handled=none)(hl:s.heap.IsTuple l items)(hv:∀(i:Nat)(v:Value),items[i]? = some v->∃ t,v=.str (val i) t)(hb:items.size+1<scanBound)
 (h:∀(h':Heap)(tk:Nat),oM prog w val s.heap.objs.size items.size h'->(∀ b o,s.heap.get? b=some o->h'.get? b=some o)->Q (.ref s.heap.objs.size) { s with heap:=h',toks:=tk }):
 wpAny (model prog w) A (call (.type "set") [.ref l]) Q E s:=by
 obtain⟨c,tl,hmro⟩:=PySem.F.called_set.mro
 have hmade:=PySem.F.called_set.made
 have hsub:=PySem.F.called_set.sub
 refine wpAny_call (codeAny_of_tree ?_)
 show wpAny _ _ (callAny (.type "set") _) _ _ _
 refine wpAny_pure ⟨Code.quiet_builtin _ (by decide +kernel),codeAny_builtin PySem.F.entry_type_call ?_⟩
 rw[Around.under_plain (weight_type_call_type "set" [.ref l] []) rfl]
 have h1:=PySem.F.called_set.notType
 have h2:=PySem.F.called_set.canCreate
 have hct:=PySem.F.typeCall_set_1 (.ref l)
 repeat (any_goals (first|assumption|wp_step))
 refine codeAny_mono (code_set_new_1 (.ref l) (E:=E) (Q₁:=fun obj s₁=>∃ led:Bool,obj=.ref s.heap.objs.size/\s₁ = { s with heap:=s.heap.push (fQ led) }) fun led=>⟨led,rfl,rfl⟩) fun r s₁ hr=>?_
 cases r with
 |error e=>exact hr
 |ok fl =>
 cases fl with
 |ret obj =>
  obtain⟨led,rfl,rfl⟩:=hr
  have hT:Shared.TypeIs { s with heap:=s.heap.push (fQ led) } (.ref s.heap.objs.size) "set":=⟨_,Heap.get?_push_size _ rfl,rfl⟩
  have hli:=PySem.F.called_set.init.lookup
  have hbi:=PySem.F.called_set.init.bind (.ref s.heap.objs.size)
  repeat (any_goals (first|assumption|wp_step))
  refine codeAny_mono (codeAny_call_builtin (R:=wants (fun r s₂=>r=.none/\∃ h' tk,s₂ = { s with heap:=h',toks:=tk }/\oM prog w val s.heap.objs.size items.size h'/\(∀ b o,s.heap.get? b=some o->h'.get? b=some o)) E) PySem.F.called_set.init.plain PySem.F.entry_set_init (check_set_init_1 hT ?_)) fun r₂ s₂ hr₂=>?_
  ·exact BC (by simp [hh]) hl hv hb fun h' tk hS hk=>⟨rfl,h',tk,rfl,hS,hk⟩
  ·cases r₂ with
  |error e=>exact hr₂
  |ok fl₂ =>
   cases fl₂ with
   |ret r =>
   obtain⟨rfl,h',tk,rfl,hS',hk'⟩:=hr₂
   repeat (any_goals (first|assumption|wp_step))
   exact h _ _ hS' hk'
   |_=>exact hr₂.elim
 |_=>exact hr.elim
end
end L3
end
section
namespace L3
open PySem PySem.Spec PyProof.Rows L2 PySem.SeqAt
noncomputable abbrev lT (ws:List (List Nat))(i:Nat):Str:=⟨(ws.getD i []).toArray⟩
theorem str_beq (a b:List Nat):((⟨a.toArray⟩:Str)==⟨b.toArray⟩)=(a==b):=by
 by_cases h:a=b
 ·subst h;simp
 ·rw[beq_eq_false_iff_ne.mpr h]
  refine beq_eq_false_iff_ne.mpr fun e=>h ?_
  have e1:a.toArray=b.toArray:=congrArg Str.cps e
  simpa using e1
theorem MY (ws:List (List Nat)):∀(rest seen:List (List Nat)),ws=seen++rest->qT (lT ws) seen.length+vB seen rest=qT (lT ws) ws.length
 |[],seen,h=>by simp [h,vB]
 |w::r,seen,h=>by
  have ih:=MY ws r (seen++[w]) (by simp [h])
  rw[<-ih]
  have e1:lT ws seen.length=⟨w.toArray⟩:=by simp [lT,h]
  have e2:((List.range seen.length).map (lT ws)).any (·== lT ws seen.length)=seen.any (·== w):=by
   have e3:(List.range seen.length).map (lT ws)=seen.map fun x=>(⟨x.toArray⟩:Str):=by
    refine List.ext_getElem (by simp) fun i h1 h2=>?_
    have hi:i<seen.length:=by simpa using h1
    simp [lT,h,List.getElem?_append_left hi,List.getElem?_eq_getElem hi]
   rw[e3,e1,List.any_map]
   congr 1
   funext x
   exact str_beq x w
  simp only[List.length_append,List.length_cons,List.length_nil,vB]
  have e5:qT (lT ws) (seen.length+1)=if seen.any (·== w)=true then qT (lT ws) seen.length else qT (lT ws) seen.length+1:=by rw[<-e2];rfl
  show _=qT (lT ws) (seen.length+1)+_
  rw[e5]
  by_cases c:seen.any (·== w)=true
  ·rw[if_pos c,if_pos c];omega
  ·rw[if_neg c,if_neg c];omega
theorem CI {K:PySem.W.Frag}{H:Hp}:∀{ds:List D}{ws:List (List Nat)}{vs:List V}{us:List Value},strsOf ds=some ws->aH K H ds vs->aO vs us->us.length=ws.length/\∀(i:Nat)(v:Value),us[i]? = some v->∃ t,v=.str (lT ws i) t
 |[],ws,_,_,h,.nil,.nil=>by cases h;exact⟨rfl,fun i v e=>by simp at e⟩
 |.str w::r,ws,_,_,h,.cons rd rs,.cons rv rvs=>by
  have h:(strsOf r).map (w :: ·)=some ws:=h
  obtain⟨ws',e,rfl⟩:=Option.map_eq_some_iff.mp h
  obtain⟨l,ih⟩:=CI e rs rvs
  refine⟨by simpa using l,fun i v e=>?_⟩
  cases i with
  |zero =>
   cases rd.str_inv
   obtain⟨t,rfl⟩:=rv
   simp at e
   exact⟨t,e.symm⟩
  |succ i=>exact ih i v (by simpa using e)
 |.non::_,_,_,_,h,_,_=>by cases h
 |.bl _::_,_,_,_,h,_,_=>by cases h
 |.int _::_,_,_,_,h,_,_=>by cases h
 |.tup _::_,_,_,_,h,_,_=>by cases h
 |.ref _::_,_,_,_,h,_,_=>by cases h
 |.cM _ _::_,_,_,_,h,_,_=>by cases h
 |.bF _::_,_,_,_,h,_,_=>by cases h
 |.exc _::_,_,_,_,h,_,_=>by cases h
theorem Jn {a b:D}{r:List D}{st:aA}{Q:VK}(h:gB .pZ (a::b::r) st Q):False:=by
 unfold gB at h
 split at h<;>simp_all
section
variable {X:Cx}{C:aW}{sub:Nat->Nat->Bool}{E:XK}{a:Expr}{x:Ex}{p p2 pos pos2:Pos}
theorem Jl (hm:X.mg "len" = none)(hm2:X.mg "set" = none)(ha:JA X C sub E [a] [x])(hc:X.calm=true:=by kernel_rfl)(hg:X.env.kindOf "len" = some .globalImplicit:=by kernel_rfl)(hg2:X.env.kindOf "set" = some .globalImplicit:=by kernel_rfl)
  (he:starEach [.Call (.Name "set" p2) [a] [] pos2] X.env=(false,eval (.Call (.Name "set" p2) [a] [] pos2) X.env)::starEach [] X.env:=by kernel_rfl)(cS:(backTo pos (starEach [] X.env)).any (·.1)=false:=by kernel_rfl)
  (he2:starEach [a] X.env=(false,eval a X.env)::starEach [] X.env:=by kernel_rfl)(hpl2:(backTo pos2 (starEach [] X.env)).any (·.1)=false:=by kernel_rfl):
  JE X C sub E (.Call (.Name "len" p) [.Call (.Name "set" p2) [a] [] pos2] [] pos) (.bi .pZ [x]):=⟨by
 intro pins s σ H Q I ⟨σd,st,R,r,ok,q,hq⟩
 refine wpAny_Call_Name_kw (lR I hg hm eM ?_ (by decide) (by decide))
 rw[he]
 refine Calls.callWith_builtin (by show(false||(backTo pos (starEach [] X.env)).any (·.1))=false;rw[cS];rfl) (Calls.evalArgs_plain ?_)
 show wpAny _ _ (spliced ((false,eval (.Call (.Name "set" p2) [a] [] pos2) X.env)::backTo pos (starEach [] X.env))) _ _ s
 refine Calls.spliced_cons ?_
 refine wpAny_Call_Name_kw (lR I hg2 hm2 Y3 ?_ (by decide) (by decide))
 refine PyProof.Rows.callWith_type1 (aV (ha.h pos2 pins s σ H _ I ⟨σd,st,_,r,ok,q,fun vs H' z=>z⟩) fun us s1 ⟨vs,H1,I1,rv,ds,aC,cW,aN,rs,q1⟩=>?_) he2 hpl2
 match ds,rs,q1 with
 |[d],rs,q1 =>
  obtain⟨v,rfl,rd⟩:=rs.one
  obtain⟨u,rfl,ru⟩:=vals1 rv
  cases d with
  |tup es =>
   rw[CW]at q1
   obtain⟨ws,e1,hl,q1⟩:=eB q1
   obtain⟨l,vs,rfl,f,g⟩:=rd.bJ
   cases ru
   obtain⟨aD,r1,pl,hz⟩:=I1.tuple f
   obtain⟨hlen,hat⟩:=CI e1 g r1
   have hh:X.A.handled=none:=I1.ok.hd hc
   refine FC (val:=lT ws) hh (show s1.heap.IsTuple l aD.toArray from pl) (fun i v e=>hat i v (by simpa using e)) (by simp;unfold scanBound;omega) fun h' tk hS hk=>?_
   refine Calls.spliced_nil ?_
   have I2:Inv X pins σ H1 { s1 with heap:=h',toks:=tk }:=I1.kept hk
   obtain⟨o,es',ep,t,ho,hex,hd,hel,hmem,hb,hf,hn⟩:=hS
   refine call_len_set (s:={ s1 with heap:=h',toks:=tk }) ho hex hd hf (by unfold scanBound at hb;omega) ?_
   have hn2:es'.size=vB [] ws:=by
    rw[hn]
    have:=MY ws ws [] rfl
    simp only[List.length_nil,qT,Nat.zero_add]at this
    rw[this]
    simp [hlen]
   rw[hn2]
   exact⟨.int (vB [] ws:Nat),H1,I2.tok _,⟨_,rfl⟩,hq _ _ (.after cW (.here aN (.int _) q1))⟩
  |ref b =>
   obtain⟨_,_,z⟩:=dG (show bY aC b fun xs=>eE .pZ xs aC R from q1)
   exact(show False from z).elim
  |_=>exact(show False from q1).elim
 |[],rs,q1=>exact(show False from q1).elim
 |_::_::_,rs,q1=>exact(Jn q1).elim⟩
end
end L3
end
section
namespace L3
open PySem PySem.Spec PyProof.Rows L2
theorem lM.wC {X:Cx}{C:aW}{n:Str}{i:Nat}{scope:Scope}{own cn:List Str}{fp:List Addr}{s:Shared}{H:Hp}{Ca:Addr}(h:lM X C n i):lM (lB X scope own cn fp s H Ca) C n i:=let⟨a,b⟩:=h;⟨a,b⟩
end L3
end
section
namespace L3
open PySem PySem.Spec PyProof.Rows L2
section
variable {K:PySem.W.Frag}{H:Hp}
theorem str_inj {a b:List Nat}(h:(⟨a.toArray⟩:Str)=⟨b.toArray⟩):a=b:=by
 have:a.toArray=b.toArray:=congrArg Str.cps h
 simpa using this
theorem gK.get {f:List Nat}{d:D}:∀{fs:List (List Nat×D)}{ws:List (Str×V)},gK K H fs ws->dA fs f=some d->∃ v,ws.lookup (⟨f.toArray⟩:Str)=some v/\Rep K H d v
 |[],_,_,h=>by cases h
 |(g,e)::fs,[],r,_=>by cases r.1
 |(g,e)::fs,(g',v)::ws,r,h=>by
  obtain⟨r1,r2⟩:=r
  simp only[List.map_cons,List.cons.injEq]at r1
  cases r2 with
  |cons rd rs =>
   simp only[dA]at h
   by_cases q:g=f
   ·rw[if_pos q]at h;cases h
    refine⟨v,?_,rd⟩
    simp [List.lookup,r1.1,q]
   ·rw[if_neg q]at h
    obtain⟨v',e1,e2⟩:=gK.get (fs:=fs) (ws:=ws) ⟨r1.2,rs⟩ h
    refine⟨v',?_,e2⟩
    have:((⟨f.toArray⟩:Str)==g')=false:=beq_eq_false_iff_ne.mpr fun z=>q (str_inj (by rw[z];exact r1.1.symm))
    simp only[List.lookup,this]
    exact e1
theorem gK.no {f:List Nat}:∀{fs:List (List Nat×D)}{ws:List (Str×V)},gK K H fs ws->dA fs f=none->ws.lookup (⟨f.toArray⟩:Str)=none
 |[],[],_,_=>rfl
 |[],_::_,r,_=>by cases r.1
 |(g,e)::fs,[],r,_=>by cases r.1
 |(g,e)::fs,(g',v)::ws,r,h=>by
  obtain⟨r1,r2⟩:=r
  simp only[List.map_cons,List.cons.injEq]at r1
  cases r2 with
  |cons rd rs =>
   simp only[dA]at h
   by_cases q:g=f
   ·rw[if_pos q]at h;cases h
   ·rw[if_neg q]at h
    have:((⟨f.toArray⟩:Str)==g')=false:=beq_eq_false_iff_ne.mpr fun z=>q (str_inj (by rw[z];exact r1.1.symm))
    simp only[List.lookup,this]
    exact gK.no (fs:=fs) (ws:=ws) ⟨r1.2,rs⟩ h
theorem gK.put {f:List Nat}{d:D}{v:V}(rd:Rep K H d v):∀{fs:List (List Nat×D)}{ws:List (Str×V)},gK K H fs ws->gK K H (pD f d fs) (gX ⟨f.toArray⟩ v ws)
 |[],[],_=>⟨rfl,.cons rd .nil⟩
 |[],_::_,r=>by cases r.1
 |(g,e)::fs,[],r=>by cases r.1
 |(g,e)::fs,(g',v')::ws,r=>by
  obtain⟨r1,r2⟩:=r
  simp only[List.map_cons,List.cons.injEq]at r1
  cases r2 with
  |cons rd' rs =>
   by_cases q:g=f
   ·have q':g'=(⟨f.toArray⟩:Str):=by rw[r1.1,q]
    simp only[pD,gX,if_pos q,if_pos q']
    exact⟨by simp [r1.1,r1.2],.cons rd rs⟩
   ·have q':¬g'=(⟨f.toArray⟩:Str):=fun z=>q (str_inj (r1.1.symm.trans z))
    simp only[pD,gX,if_neg q,if_neg q']
    have ih:=gK.put (f:=f) rd (fs:=fs) (ws:=ws) ⟨r1.2,rs⟩
    exact⟨by simp [r1.1,ih.1],.cons rd' ih.2⟩
theorem gK.length {fs:List (List Nat×D)}{ws:List (Str×V)}(r:gK K H fs ws):ws.length=fs.length:=by
 have:=congrArg List.length r.1
 simpa using this
end
theorem vA {st:aA}{a:Nat}{P:List Nat->List (List Nat×D)->Prop}(h:lF st a P):∃ c fs,st a=some (.ins c fs)/\P c fs:=by
 unfold lF at h
 split at h
 ·exact⟨_,_,by assumption,h⟩
 ·exact h.elim
theorem vG {st:aA}{a:Nat}{P:List D->List D->Prop}(h:tabAt st a P):∃ c fs,st a=some (.tab c fs)/\P c fs:=by
 unfold tabAt at h
 split at h
 ·exact⟨_,_,by assumption,h⟩
 ·exact h.elim
theorem P8 {c f:List Nat}{x:D}{st:aA}{Q:VK}(h:rF c f x st Q):∃ a fs d,x=.ref a/\st a=some (.ins c fs)/\dA fs f=some d/\Q d st:=by
 unfold rF at h
 split at h
 ·obtain⟨c',fs,e,rfl,q⟩:=vA h
  obtain⟨d,e1,q⟩:=eB q
  exact⟨_,fs,d,rfl,e,e1,q⟩
 ·exact h.elim
theorem UP {c f:List Nat}{v x:D}{st:aA}{Q:aA->Prop}(h:A8 c f v x st Q):∃ a fs,x=.ref a/\st a=some (.ins c fs)/\fs.length<900/\Q (put st a (.ins c (pD f v fs))):=by
 unfold A8 at h
 split at h
 ·obtain⟨c',fs,e,rfl,l,q⟩:=vA h
  exact⟨_,fs,rfl,e,l,q⟩
 ·exact h.elim
theorem QE {c m:List Nat}{x:D}{st:aA}(h:CC c m x st):∃ a fs,x=.ref a/\st a=some (.ins c fs)/\dA fs m=none:=by
 unfold CC at h
 split at h
 ·obtain⟨c',fs,e,rfl,q⟩:=vA h
  exact⟨_,fs,rfl,e,q⟩
 ·exact h.elim
structure xF (K:PySem.W.Frag)(c:List Nat):Prop where
 h:∃ C,clsAt K c C/\sA K C
structure vL (K:PySem.W.Frag)(c f:List Nat):Prop where
 h:∀ C,clsAt K c C->pJ K C ⟨f.toArray⟩
structure nA (X:Cx)(C:aW)(c:List Nat)(n:Str)(fid:Nat):Prop where
 h:∃ k f fd ps C0,eI X.prog X.w X.K X.mg X.base dB k f fd ps (eR X.K C fid)/\cK k X.A/\Binds X.K fd ps []/\clsAt X.K c C0/\sA X.K C0/\BN X.K C0 n f
structure wA (X:Cx)(C:aW)(c:List Nat)(n:Str)(fid:Nat):Prop where
 h:∃ k f fd ps C0,eI X.prog X.w X.K X.mg X.base dB k f fd ps (eR X.K C fid)/\cK (k+1) X.A/\Binds X.K fd ps []/\clsAt X.K c C0/\X.mg n=some (.ref C0)/\Mk X.K C0 f
theorem nA.wC {X:Cx}{C:aW}{c:List Nat}{n:Str}{i:Nat}{scope:Scope}{own cn:List Str}{fp:List Addr}{s:Shared}{H:Hp}{Ca:Addr}(h:nA X C c n i):nA (lB X scope own cn fp s H Ca) C c n i:=let⟨a,b⟩:=h;⟨a,b⟩
section
variable {X:Cx}{C:aW}{sub:Nat->Nat->Bool}{E:XK}{a b e o value:Expr}{es:List Expr}{x y:Ex}{xs:List Ex}{p pos apos pos':Pos}{n:Str}{c f:List Nat}{fid:Nat}
theorem Cz (hn:n=⟨f.toArray⟩)(hc:xF X.K c)(hna:vL X.K c f)(ho:PE X o (bM X.K (aG C sub E x)))(hb:attributeBase o n X.env (eval o X.env)=eval o X.env):PE X (.Attribute o n pos) (bM X.K (aG C sub E (.fld c f x))) :=
 (XU ho hb).imp fun σ H Q ⟨σd,st,R,r,ok,q,hq⟩=>by
 refine⟨σd,st,_,r,ok,q,fun v H1 ⟨d,aC,s1,aN,r1,q1⟩=>?_⟩
 obtain⟨a,fs,d',rfl,e,ed,q1⟩:=P8 q1
 cases r1.bZ
 obtain⟨C0,dx,ws,h1,h2,h3⟩:=aN a _ e
 obtain⟨v,l,rv⟩:=gK.get h3 ed
 obtain⟨C',c1,c2⟩:=hc.h
 have eC:=c1.inj h1
 subst eC
 exact⟨a,C',dx,ws,v,rfl,h2,c2,by rw[hn];exact hna.h C' c1,by rw[hn];exact l,hq _ _ (.after s1 (.here aN rv q1))⟩
theorem Bh (hC:bL C C)(hn:n=⟨f.toArray⟩)(hc:xF X.K c)(hna:vL X.K c f)(ho:PE X o (bM X.K (aG C sub EF y)))(hv:PE X value (bM X.K (aG C sub EF x)))(hs:swapsWith value (some (.Attribute o n pos')) pos.line X.env=pure false):
 PS X (.Assign [.Attribute o n pos'] value pos) (gE X.K (wpS C sub (.asg (.fl c f y) x))) :=
 (ZP ho hv hs).imp fun D σ H ⟨σd,st,P,r,ok,q,h⟩=>by
 refine⟨σd,st,_,r,ok,pS hC h.ex q,fun v H1 ⟨d,aC,s1,aN,rd,q1⟩=>?_⟩
 refine⟨σd,aC,_,r.step ok s1,aN,pS hC h.ex q1,fun u H2 ⟨d2,aF,s2,bO,r2,q2⟩=>?_⟩
 obtain⟨a,fs,rfl,e,l,q2⟩:=UP q2
 cases r2.bZ
 obtain⟨C0,dx,ws,h1,h2,h3⟩:=bO a _ e
 obtain⟨C',c1,c2⟩:=hc.h
 have eC:=c1.inj h1
 subst eC
 have s3:Step H2 aF (upd H2 a (.ins C' dx (gX n v ws))) (put aF a (.ins c (pD f d fs))):=kT e
 have rd2:=(rd.step aN s2).step bO s3
 have h3':gK X.K (upd H2 a (.ins C' dx (gX n v ws))) fs ws:=⟨h3.1,h3.2.step bO s3⟩
 refine⟨a,C',dx,ws,rfl,h2,c2,by rw[hn];exact hna.h C' c1,by rw[h3.length];omega,h.nx _ _ _ _ (((r.step ok s1).step aN s2).step bO s3) ((s1.trans s2).trans s3) (bO.GK e ?_) q2⟩
 exact⟨C',dx,_,c1,cY,by rw[hn]at *;exact gK.put rd2 h3'⟩
theorem Cj {k:Nat}{fa:Addr}{fd:FuncData}{ps:List Str}{C0:Addr}{pl:Sem Bool}{m:List Nat}(hn:n=⟨m.toArray⟩)(hcl:clsAt X.K c C0)(hC0:sA X.K C0)(hm:BN X.K C0 n fa)(F:eI X.prog X.w X.K X.mg X.base dB k fa fd ps (eR X.K C fid))(hr:cK k X.A)(hb:Binds X.K fd ps [])
 (ho:PE X o (bM X.K (aG C sub EF x)))(ha:PA X (e::es) (jT X.K (bE C sub EF xs)))
 (dZ:starEach (e::es) X.env=(false,eval e X.env)::starEach es X.env)(cS:(backTo pos (starEach es X.env)).any (·.1)=false)
 (ht:eval (.Call (.Attribute o n apos) (e::es) [] pos) X.env=(do
  let ov <-eval o X.env
  standAt apos.atName
  let(f,first) <-holding [ov] (getMethod ov n pl)
  callWith pos f first (backTo pos (starEach (e::es) X.env)) (backToKw pos (keywordEach [] X.env)))):
 PE X (.Call (.Attribute o n apos) (e::es) [] pos) (bM X.K (aG C sub EF (.mcl c m fid x xs))) :=
 (SM (pl:=pl) ho hC0 hm F hr hb .nil D0 ha dZ cS ht).imp fun σ H Q ⟨σd,st,R,r,ok,q,hq⟩=>by
 refine⟨σd,st,_,r,ok,q,fun v H1 ⟨d,aC,s1,aN,r1,q1,q2⟩=>?_⟩
 obtain⟨a,fs,rfl,e0,l⟩:=QE q1
 cases r1.bZ
 obtain⟨C1,dx,ws,h1,h2,h3⟩:=aN a _ e0
 cases hcl.inj h1
 refine⟨a,dx,ws,rfl,h2,by rw[hn];exact gK.no h3 l,?_⟩
 refine⟨σd,aC,_,r.step ok s1,aN,q2,fun vs H2 ⟨ds,aF,s2,bO,r2,q3⟩=>?_⟩
 show eR X.K C fid (.ref a::(vs++[])) H2 Q E0
 rw[List.append_nil]
 exact⟨.ref a::ds,aF,R,.cons (.ref a) r2,bO,q3,fun v H' z=>hq _ _ (.after (s1.trans s2) z)⟩
theorem Hh {k:Nat}{fa:Addr}{fd:FuncData}{ps:List Str}{C0:Addr}(hcl:clsAt X.K c C0)(hM:Mk X.K C0 fa)(F:eI X.prog X.w X.K X.mg X.base dB k fa fd ps (eR X.K C fid))(hr:cK (k+1) X.A)(hg:Gl X n)(hmg:X.mg n=some (.ref C0))(hb:Binds X.K fd ps [])
 (ha:PA X (e::es) (jT X.K (bE C sub EF xs)))(hdb:(n==("__debug__" : Str))=false)(he:starEach (e::es) X.env=(false,eval e X.env)::starEach es X.env)(cS:(backTo pos (starEach es X.env)).any (·.1)=false):
 PE X (.Call (.Name n p) (e::es) [] pos) (bM X.K (aG C sub EF (.mk c fid xs))) :=
 (U0 hM F hr hg hmg hb .nil D0 ha hdb he cS).imp fun σ H Q ⟨σd,st,R,r,ok,q,hq⟩=>by
 refine⟨σd,st,_,r,ok,q,fun vs H1 ⟨ds,aC,s1,aN,r1,q1⟩=>?_⟩
 intro x dx hx hdx hne
 show eR X.K C fid (.ref x::(vs++[])) _ _ E0
 rw[List.append_nil]
 have bO:aQ X.K aC (upd H1 dx (.own x)):=aN.new hdx
 have s2:Step H1 aC (upd H1 dx (.own x)) aC:=pI hdx
 have hx2:upd H1 dx (.own x) x=none:=by rw[aY (Ne.symm hne)];exact hx
 have s3:Step (upd H1 dx (.own x)) aC (upd (upd H1 dx (.own x)) x (.ins C0 dx [])) (put aC x (.ins c [])):=nM hx2
 have nO:aQ X.K (put aC x (.ins c [])) (upd (upd H1 dx (.own x)) x (.ins C0 dx [])):=bO.WM hx2 ⟨C0,dx,[],hcl,cY,rfl,.nil⟩
 refine⟨.ref x::ds,put aC x (.ins c []),_,.cons (.ref x) ((r1.step aN s2).step bO s3),nO,q1 x (aN.fresh hx),fun v H' ⟨d,aB,s',eQ,rd,ed,q'⟩=>?_⟩
 subst ed
 exact⟨rd.eU,hq _ _ (.after ((s1.trans s2).trans (s3.trans s')) (.here eQ (.ref x) q'))⟩
theorem pF (c:List Nat)(hc:xF X.K c)(hna:vL X.K c f)(ho:JE X C sub E o x)(hn:n=⟨f.toArray⟩:=by kernel_rfl)(hb:attributeBase o n X.env (eval o X.env)=eval o X.env:=by kernel_rfl):JE X C sub E (.Attribute o n pos) (.fld c f x):=⟨Cz hn hc hna ho.h hb⟩
theorem HV (m:bL C C)(c:List Nat)(hc:xF X.K c)(hna:vL X.K c f)(ho:JE X C sub EF o y)(hv:JE X C sub EF value x)(hn:n=⟨f.toArray⟩:=by kernel_rfl)(hs:swapsWith value (some (.Attribute o n pos')) pos.line X.env=pure false:=by kernel_rfl):
 JS X C sub (.Assign [.Attribute o n pos'] value pos) (.asg (.fl c f y) x):=⟨Bh m hn hc hna ho.h hv.h hs⟩
theorem IU {pl:Sem Bool}{mm:List Nat}(h:nA X C c n fid)(ho:JE X C sub EF o x)(ha:JA X C sub EF (e::es) xs)(hn:n=⟨mm.toArray⟩:=by kernel_rfl)
 (dZ:starEach (e::es) X.env=(false,eval e X.env)::starEach es X.env:=by kernel_rfl)(cS:(backTo pos (starEach es X.env)).any (·.1)=false:=by kernel_rfl)
 (ht:eval (.Call (.Attribute o n apos) (e::es) [] pos) X.env=(do
  let ov <-eval o X.env
  standAt apos.atName
  let(f,first) <-holding [ov] (getMethod ov n pl)
  callWith pos f first (backTo pos (starEach (e::es) X.env)) (backToKw pos (keywordEach [] X.env))):=by rfl):
 JE X C sub EF (.Call (.Attribute o n apos) (e::es) [] pos) (.mcl c mm fid x xs):=⟨let⟨k,f,fd,ps,C0,h1,h2,h3,h4,h5,h6⟩:=h.h;Cj hn h4 h5 h6 h1 h2 h3 ho.h ha.h dZ cS ht⟩
theorem Js (h:wA X C c n fid)(ha:JA X C sub EF (e::es) xs)(hg:X.env.kindOf n=some .globalImplicit:=by kernel_rfl)(hdb:(n==("__debug__" : Str))=false:=by kernel_rfl)(he:starEach (e::es) X.env=(false,eval e X.env)::starEach es X.env:=by kernel_rfl)(cS:(backTo pos (starEach es X.env)).any (·.1)=false:=by kernel_rfl):
 JE X C sub EF (.Call (.Name n p) (e::es) [] pos) (.mk c fid xs):=⟨let⟨k,f,fd,ps,C0,h1,h2,h3,h4,h5,h6⟩:=h.h;Hh h4 h6 h1 h2 hg h5 h3 ha.h hdb he cS⟩
end
end L3
end
section
namespace L3
open PySem PySem.Spec PyProof.Rows L2
section
variable {X:Cx}{pins:List (Addr×Obj)}{σ:L2.St}{H:Hp}{s:Shared}{st:aA}
mutual
theorem FH (I:Inv X pins σ H s):∀{d:D}{v:V}{u:Value},iC d=true->Rep X.K H d v->RelV v u->iH s.heap d u
 |_,_,u,_,.str x,rv=>by obtain⟨tk,rfl⟩:=rv;exact .str x tk
 |_,_,u,t,.tup h r,rv=>by
  cases rv
  obtain⟨aD,r1,⟨o,e,c,n,d⟩,_⟩:=I.tuple h
  exact .tup e c d (by simpa using IJ I (by simpa [iC]using t) r r1)
 |_,_,_,t,.non,_=>by cases t
 |_,_,u,_,.bl b,rv=>by cases rv;exact .bl b
 |_,_,_,t,.int _,_=>by cases t
 |_,_,_,t,.ref _,_=>by cases t
 |_,_,_,t,.bF _ _,_=>by cases t
 |_,_,_,t,.cM _,_=>by cases t
theorem IJ (I:Inv X pins σ H s):∀{ds:List D}{vs:List V}{us:List Value},iN ds=true->aH X.K H ds vs->aO vs us->fE s.heap ds us
 |_,_,_,_,.nil,rv=>by cases rv;exact .nil
 |_,_,_,t,.cons h r,rv=>by
  simp only[iN,Bool.and_eq_true]at t
  cases rv with
  |cons r1 r2=>exact .cons (FH I t.1 h r1) (IJ I t.2 r r2)
end
theorem key_is (I:Inv X pins σ H s){d:D}{v:V}{u:Value}(k:keyed d)(r:Rep X.K H d v)(rv:RelV v u):∃ a,u=.ref a/\v=.ref a/\(xP X.prog X.w).is s.heap d a:=by
 have h:=FH I k.txt r rv
 cases d with
 |tup ds =>
 obtain⟨a,vs,rfl,_,_⟩:=r.bJ
 cases rv
 exact⟨a,rfl,rfl,k,h⟩
 |_=>exact k.elim
theorem G2 (I:Inv X pins σ H s)(ok:aQ X.K st H){a:Addr}{ks vs:List D}(e:st a=some (.tab ks vs)):∃(xs:List (D×Addr×Value))(ws:List V),H a=some (GB a xs)/\(a==sysModules)=false/\xs.map (·.1)=ks/\(∀ x∈xs,keyed x.1)/\aO ws (xs.map (·.2.2))/\aH X.K H vs ws/\aH X.K H ks (xs.map fun x=>.ref x.2.1) /\
  s.heap.DictOfH (xP X.prog X.w) a xs:=by
 obtain⟨xs,ws,q,q0,q1,q2,q3,q4,q5,r⟩:=ok a _ e
 refine⟨xs,ws,q,q0,q1,q4,q5,r,q3,?_⟩
 obtain⟨⟨o,es,ep,h1,h2,h3,h4⟩,_⟩:=I.bH a _ q
 refine⟨o,es,ep,h1,h2,h3,h4,fun x hx=>?_,q2⟩
 obtain⟨j,hj⟩:=List.mem_iff_getElem?.mp hx
 have e1:ks[j]? = some x.1:=by rw[<-q1,List.getElem?_map,hj];rfl
 obtain⟨v,e2,rv⟩:=q3.get e1
 have e3:v=.ref x.2.1:=by
  rw[List.getElem?_map,hj]at e2
  exact(Option.some.inj e2).symm
 subst e3
 exact⟨q4 x hx,FH I (q4 x hx).txt rv rfl⟩
theorem MI {xs:List (D×Addr×Value)}{k:D}(kk:keyed k)(h:∀ x∈xs,keyed x.1):(atKey xs k).isSome=(xs.map (·.1)).any fun y=>bG y k:=by
 induction xs with
 |nil=>rfl
 |cons x xs ih =>
 have ih:=ih fun y hy=>h y (by simp [hy])
 simp only[List.map_cons,List.any_cons,<-ih,BW (h x (by simp)).txt kk.txt]
 by_cases q:x.1=k
 ·simp [atKey,q]
 ·simp [atKey,q]
theorem IW {K:PySem.W.Frag}{k:D}(kk:keyed k){d:D}:∀{xs:List (D×Addr×Value)}{vs:List D}{ws:List V},(∀ x∈xs,keyed x.1)->aO ws (xs.map (·.2.2))->aH K H vs ws->kO (xs.map (·.1)) vs k=some d->∃ p v,atKey xs k=some p/\RelV v p.2/\Rep K H d v
 |[],_,_,_,_,_,h=>by simp [kO]at h
 |x::xs,[],_,_,rv,r,h=>by simp [kO]at h
 |x::xs,d0::vs,ws,hk,rv,r,h=>by
  cases r with
  |cons r1 r2 =>
   cases rv with
   |cons v1 v2 =>
    simp only[List.map_cons,kO]at h
    rw[BW (hk x (by simp)).txt kk.txt]at h
    by_cases q:x.1=k
    ·rw[if_pos (by simpa using q)]at h;cases h
     exact⟨x.2,_,by simp [atKey,q],v1,r1⟩
    ·rw[if_neg (by simpa using q)]at h
     obtain⟨p,v,e1,e2,e3⟩:=IW kk (fun y hy=>hk y (by simp [hy])) v2 r2 h
     exact⟨p,v,by simpa [atKey,q]using e1,e2,e3⟩
end
section
variable {X:Cx}{C:aW}{sub:Nat->Nat->Bool}{E:XK}{a b e o i value:Expr}{x y z:Ex}{p pos apos pos':Pos}
theorem Am (hu:X.A.units+180<cLine)(neg:Bool):mN X (if neg=true then .NotIn else .In) (fun d d' st P=>tT d d' st fun b=>P (if neg=true then !b else b)):=by
 intro pins s σ H st d d' v v' u u' P I ok r rv r' aZ q
 unfold tT at q
 split at q
 ·obtain⟨ks,vs,e,hk,q⟩:=vG q
  cases r'.bZ
  cases aZ
  obtain⟨xs,ws,t1,t2,t3,t4,t5,t6,t8,t7⟩:=G2 I ok e
  obtain⟨ka,rfl,rfl,hka⟩:=key_is I hk r rv
  have hroom:(xP X.prog X.w).room X.A.in1:=by show X.A.in1.units+12<cLine;simp only[Around.in1_units];omega
  rw[<-t3,<-MI hk t4]at q
  cases neg with
  |true=>exact wpAny_notIn_heap hroom hka t2 t7 ⟨_,rfl,q,I.tok _⟩
  |false=>exact wpAny_in_heap hroom hka t2 t7 ⟨_,rfl,q,I.tok _⟩
 ·exact q.elim
theorem WA {neg:Bool}(hu:X.A.units+180<cLine)(ha:PE X a (bM X.K (aG C sub E x)))(hb:PE X b (bM X.K (aG C sub E y)))(hm:behindInMarks (if neg=true then .NotIn else .In) b=false):PT X (.Compare a [if neg=true then .NotIn else .In] [b] pos) (iR X.K (aG C sub E (.din neg x y))):=by
 intro pins s σ H Q I ⟨σd,st,R,r,ok,q,hq⟩
 refine wpAny_isTrue_Compare1 (aV (ha pins s σ H _ I ⟨σd,st,_,r,ok,q,fun v H' z=>z⟩) fun u s1 ⟨v,H1,I1,rv,d,aC,cW,aN,r1,q1⟩ =>
 aV (hb pins s1 σ H1 _ I1 ⟨σd,aC,_,r.step ok cW,aN,q1,fun v H' z=>z⟩) fun u' s2 ⟨v',H2,I2,aZ,d',aF,gW,bO,r2,q2⟩ =>
 aV (Am hu neg pins s2 σ H2 aF d d' v v' u u' (fun k=>R k aF) I2 bO (r1.step aN gW) rv r2 aZ q2) fun w s3 ⟨k,e,q3,I3⟩=>?_) hm
 subst e
 exact wpAny_truthy_bool ⟨H2,I3,hq _ _ ⟨aF,cW.trans gW,bO,q3⟩⟩
noncomputable def Gn (K:PySem.W.Frag):R2:=fun v v' H Q=>∃ d d' st R,Rep K H d v/\Rep K H d' v'/\aQ K st H/\rE d' d st R/\∀ v H',QD K H st R v H'->Q v H'
theorem ZK (hu:X.A.units+180<cLine):uF X (Gn X.K):=by
 intro value slice pins s σ H x y v u Q I rx ry h hs
 obtain⟨d,d',st,R,r1,r2,ok,q,hq⟩:=h
 unfold rE at q
 split at q
 ·obtain⟨ks,vs,e,hk,q⟩:=vG q
  obtain⟨d0,e0,q⟩:=eB q
  cases r1.bZ
  cases rx
  obtain⟨xs,ws,t1,t2,t3,t4,t5,t6,t8,t7⟩:=G2 I ok e
  obtain⟨ka,rfl,rfl,hka⟩:=key_is I hk r2 ry
  have hroom:(xP X.prog X.w).room X.A.in1:=by show X.A.in1.units+12<cLine;simp only[Around.in1_units];omega
  rw[<-t3]at e0
  obtain⟨pp,v0,e1,e2,e3⟩:=IW hk t4 t5 t6 e0
  refine subscriptTail_builtinR (x:=pp.2) t7.typeIs slot_dict_getitem.lookup ?_ hs
  exact wpAny_getItem_heap hroom hka t7 e1 ⟨rfl,v0,H,I.tok _,e2,hq _ _ (.here ok e3 q)⟩
 ·exact q.elim
theorem Ey (hu:X.A.units+180<cLine)(ha:PE X a (bM X.K (aG C sub E x)))(hb:PE X b (bM X.K (aG C sub E y)))(hp:rW b):PE X (.Subscript a b pos) (bM X.K (aG C sub E (.dix x y))) :=
 (RU (ZK hu) ha hb hp).imp fun σ H Q ⟨σd,st,R,r,ok,q,hq⟩=>by
 refine⟨σd,st,_,r,ok,q,fun v H1 ⟨d,aC,s1,aN,r1,q1⟩=>?_⟩
 refine⟨σd,aC,_,r.step ok s1,aN,q1,fun v' H2 ⟨d',aF,s2,bO,r2,q2⟩=>?_⟩
 exact⟨d,d',aF,R,r1.step aN s2,r2,bO,q2,fun v H' z=>hq _ _ (.after (s1.trans s2) z)⟩
theorem Jq {pins:List (Addr×Obj)}{σ:L2.St}{H:Hp}{s:Shared}(I:Inv X pins σ H s):sysModules<s.heap.objs.size:=by
 have h:mainGlobals<s.heap.objs.size:=(I.mod.glob.keeps I.bk).lt
 exact Nat.lt_trans (by decide) h
theorem CV {a:Addr}{xs:List (D×Addr×Value)}{w:World}:∀ h1 h2:Heap,KI a xs w h1->(∀ o,h1.get? a=some o->h2.get? a=some o)->KI a xs w h2:=fun h1 h2 ⟨o,es,ep,e,r⟩ k=>⟨o,es,ep,k o e,r⟩
theorem X6:PE X (.Dict [] [] pos) (bM X.K (aG C sub E .dnew)):=fun pins s σ H Q I ⟨σd,st,R,r,ok,q,hq⟩=>by
 have hf:H s.heap.objs.size=none:=I.bH.fresh (Nat.le_refl _)
 refine wpAny_Dict_empty ⟨.ref s.heap.objs.size,_,I.laid (a:=s.heap.objs.size) (o:=GB s.heap.objs.size []) (t':=s.toks) (fun _ _ q=>Heap.get?_push_of_some _ q) (Nat.le_refl _) ?_,rfl,hq _ _ ⟨.ref s.heap.objs.size,put st s.heap.objs.size (.tab [] []),nM hf,ok.WM hf ?_,.ref _,q _ (ok.fresh hf)⟩⟩
 ·exact⟨⟨_,#[],0,Heap.get?_push_size _ rfl,⟨rfl,rfl,rfl⟩,rfl,rfl⟩,⟨_,Heap.get?_push_size _ rfl⟩,CV⟩
 ·exact⟨[],[],cY,beq_eq_false_iff_ne.mpr (Nat.ne_of_gt (Jq I)),rfl,List.nodup_nil,.nil,fun x hx=>(by cases hx),.nil,.nil⟩
theorem VE {x v y:D}{st:aA}{Q:aA->Prop}(h:yN x v y st Q):∃ a ks vs,y=.ref a/\st a=some (.tab ks vs)/\keyed x/\(ks.any fun k=>bG k x)=false/\ks.length<10000/\Q (put st a (.tab (ks++[x]) (vs++[v]))):=by
 unfold yN at h
 split at h
 ·obtain⟨ks,vs,e,h1,h2,h3,q⟩:=vG h
  exact⟨_,ks,vs,rfl,e,h1,h2,h3,q⟩
 ·exact h.elim
theorem Hx (hC:bL C C)(hu:X.A.units+180<cLine)(ho:PE X o (bM X.K (aG C sub EF y)))(hi:PE X i (bM X.K (aG C sub EF z)))(hv:PE X value (bM X.K (aG C sub EF x)))(hs:swapsWith value (some (.Subscript o i pos')) pos.line X.env=pure false):
  PS X (.Assign [.Subscript o i pos'] value pos) (gE X.K (wpS C sub (.asg (.dk y z) x))):=by
 intro pins s σ H D I ⟨σd,st,P,r,ok,q,h⟩
 refine wpAny_Assign_Subscript (aV (hv pins s σ H _ I ⟨σd,st,_,r,ok,pS hC h.ex q,fun v H' z=>z⟩) fun uv s1 ⟨v,H1,I1,rv,d,aC,cW,aN,rd,q1⟩ =>
  aV (ho pins s1 σ H1 _ I1 ⟨σd,aC,_,r.step ok cW,aN,pS hC h.ex q1,fun v H' z=>z⟩) fun uo s2 ⟨vo,H2,I2,rvo,d2,aF,gW,bO,rd2,q2⟩ =>
  aV (hi pins s2 σ H2 _ I2 ⟨σd,aF,_,(r.step ok cW).step aN gW,bO,pS hC h.ex q2,fun v H' z=>z⟩) fun ui s3 ⟨vi,H3,I3,rvi,d3,bB,s3s,nO,rd3,q3⟩=>?_) hs
 obtain⟨da,ks,vs,ed2,e,hk,hnew,hlen,q4⟩:=VE q3
 ·subst ed2
  cases rd2.bZ
  cases rvo
  obtain⟨xs,ws,t1,t2,t3,t4,t5,t6,t8,t7⟩:=G2 I3 nO e
  obtain⟨ka,rfl,rfl,hka⟩:=key_is I3 hk rd3 rvi
  have hroom:(xP X.prog X.w).room X.A.in1:=by show X.A.in1.units+12<cLine;simp only[Around.in1_units];omega
  have hno:atKey xs d3=none:=by
   have:=MI (k:=d3) hk t4
   rw[t3,hnew]at this
   cases q:atKey xs d3 with
   |none=>rfl
   |some p=>rw[q]at this;cases this
  have hxl:xs.length=ks.length:=by rw[<-t3];simp
  refine wpAny_setItem_heap hroom hka t7 (fun h' hm hsb=>?_) (by rw[fH,hxl];have h10:(10000:Nat)<=bI:=(by decide);omega)
  rw[storedH_new hno]at hm
  obtain⟨o',es,ep,m1,m2,m3,m4,m5,m6⟩:=id hm
  have hS:Step H3 bB (upd H3 da (GB da (xs++[(d3,ka,uv)]))) (put bB da (.tab (ks++[d3]) (vs++[d]))):=kT e
  have I4:Inv X pins σ (upd H3 da (GB da (xs++[(d3,ka,uv)]))) { s3 with heap:=h',toks:=s3.toks+(xP X.prog X.w).draws d3 }:=by
   refine I3.write (x:=da) (e:=da) (by rw[t1];exact True.intro) (.inl rfl) (fun b u hb z=>(hsb.2 b hb).trans z) ⟨o',m1⟩ ?_
   exact⟨⟨o',es,ep,m1,m2,m3,m4⟩,⟨o',m1⟩,CV⟩
  refine⟨σ,_,I4,h.nx _ _ _ _ ((((r.step ok cW).step aN gW).step bO s3s).step nO hS) (((cW.trans gW).trans s3s).trans hS) (nO.GK e ?_) q4⟩
  refine⟨xs++[(d3,ka,uv)],ws++[v],cY,t2,by simp [t3],m6,?_,?_,?_,?_⟩
  ·rw[List.map_append]
   exact(t8.step nO hS).append (.cons (rd3.step nO hS) .nil)
  ·intro x hx
   rcases List.mem_append.mp hx with hx|hx
   ·exact t4 x hx
   ·simp only[List.mem_singleton]at hx;subst hx;exact hk
  ·rw[List.map_append];exact t5.append (.cons rv .nil)
  ·exact(t6.step nO hS).append (.cons ((((rd.step aN gW).step bO s3s)).step nO hS) .nil)
theorem Jh (hu:X.A.units+180<cLine)(ha:JE X C sub E a x)(hb:JE X C sub E b y)(hm:behindInMarks .In b=false:=by kernel_rfl):JT X C sub E (.Compare a [.In] [b] pos) (.din false x y):=⟨WA (neg:=false) hu ha.h hb.h hm⟩
theorem RH (hu:X.A.units+180<cLine)(ha:JE X C sub E a x)(hb:JE X C sub E b y)(hp:rW b:=by intro _ _;rfl):JE X C sub E (.Subscript a b pos) (.dix x y):=⟨Ey hu ha.h hb.h hp⟩
theorem Ji:JE X C sub E (.Dict [] [] pos) .dnew:=⟨X6⟩
theorem Jo (m:bL C C)(hu:X.A.units+180<cLine)(ho:JE X C sub EF o y)(hi:JE X C sub EF i z)(hv:JE X C sub EF value x)(hs:swapsWith value (some (.Subscript o i pos')) pos.line X.env=pure false:=by kernel_rfl):
 JS X C sub (.Assign [.Subscript o i pos'] value pos) (.asg (.dk y z) x):=⟨Hx m hu ho.h hi.h hv.h hs⟩
end
end L3
end
section
namespace L3
open PySem PySem.Spec PyProof.Rows L2
theorem NG {P:Program}{w:World}{K:PySem.W.Frag}{mg:Str->Option Value}{base:Heap}{G:Prog}{r k f:Nat}{fn:Fn}{x qual:Str}{st:Stmt}{a:Addr}{fd:FuncData}{N ps:List Str}(F:vF K x qual st a fd)(S:kX N ps (aJ st))
  (hG:G.fns f=some fn)(hp:fn.np=ps.length)(hl:fn.nl=N.length)
  (hb:∀(bD:Value)(A:Around)(outer:List Env)(s:Shared)(H:Hp)(E:L2.XK),cK r (A.deeper (envOfC qual (aJ st) s.heap.objs.size a bD)) ->
   sP (dY dB P w K mg base N qual (aJ st) a bD A outer s H E).gT (aM G k) G.sub (eH st) fn.body):
  eI P w K mg base dB (r+1) a fd ps (eR K (aM G (k+1)) f):=by
 refine F.ok S (fun vs H Q E h=>?_) (fun bD A outer s H vs Q E hr h=>?_)
 ·obtain⟨ds,aB,R,r,_,h,_⟩:=h
  simp only[aM,hG]at h
  rw[<-r.length,h.1,hp]
 ·obtain⟨ds,aB,R,r,ok,h,hq⟩:=h
  simp only[aM,hG]at h
  refine⟨_,(hb bD A outer s H E hr).h,?_⟩
  refine⟨start fn.np fn.nl ds,aB,_,?_,ok,h.2,⟨fun σ' H' dF aX sr s' eQ q=>?_,fun v H' z=>hq v H' z,fun _ _ _ _ _ _ _ q=>q,fun _ _ _ _ _ _ _ q=>q,fun _ _ _ q=>q⟩⟩
  ·rw[hl];exact DO r h.1
  ·exact hq _ _ ⟨.non,aX,s',eQ,.non,q⟩
noncomputable def rX (s:Stmt)(j:Nat):Stmt:=match s with
 |.ClassDef _ _ _ body ..=>body.getD j (.Pass ⟨0,0,0,0⟩)
 |_=>.Pass ⟨0,0,0,0⟩
inductive At where
 |top
 |cC (c:List Nat)
 |init (c:List Nat)
noncomputable def QH (K:PySem.W.Frag)(mg:Str->Option Value)(n:Str)(a:Addr):At->Prop
 |.top=>mg n=some (.ref a)
 |.cC c=>∃ C0,clsAt K c C0/\sA K C0/\BN K C0 n a
 |.init c=>∃ C0,clsAt K c C0/\mg ⟨c.toArray⟩=some (.ref C0)/\Mk K C0 a
structure BD (K:PySem.W.Frag)(mg:Str->Option Value)(nf:Nat)(nm qn:Nat->Str)(ps:Nat->List Str)(st:Nat->Stmt)(at_:Nat->At) where
 a:Nat->Addr
 fd:Nat->FuncData
 fn:∀ i,i<nf->vF K (nm i) (qn i) (st i) (a i) (fd i)
 bi:∀ i,i<nf->Binds K (fd i) (ps i) []
 mg:∀ i,i<nf->QH K mg (nm i) (a i) (at_ i)
noncomputable def BS (n q:Str)(ps:List Str)(st:Stmt):Prop:=∀(kV doc pm:Value)(an:Option Addr)(bD ct:Value)(us:List Value),us.length=ps.length->bindArgs (PySem.W.fnOf n q (jW st) (eH st) (aJ st) .none kV doc pm an bD ct) ⟨us,[]⟩=pure (ps.zip us)
noncomputable def qC (K:PySem.W.Frag)(mg:Str->Option Value)(n q:Str)(st:Stmt)(at_:At):Prop:=∃ a fd,vF K n q st a fd/\QH K mg n a at_
theorem Bl {K:PySem.W.Frag}{h:Heap}{mg:Str->Option Value}(X:K.In h)(G:h.Ns mainGlobals mg){n:Str}{st:Stmt}{f:Addr}{oc:Value}{od an:Option Addr}{sl:Array (Option Value)}{kV dc pm cd ct:Value}
 (a:PySem.W.nsIn K mainGlobals n=some (some (.ref f)))(l:K.lookup f=some ⟨oc,od,.func (PySem.W.fnOf n n (jW st) (eH st) (aJ st) .none kV dc pm an cd ct),sl⟩)(c:PySem.W.codeIn K cd n=true)(k:PySem.W.keepIn K (.ref f)=true):qC K mg n n st .top :=
 ⟨f,_,AV l c k,PySem.W.mg_of X G a⟩
theorem Ee {K:PySem.W.Frag}{h:Heap}{mg:Str->Option Value}(X:K.In h)(G:h.Ns mainGlobals mg){n q:Str}{c:List Nat}{C:Addr}{st:Stmt}{f:Addr}{oc:Value}{od an:Option Addr}{sl:Array (Option Value)}{kV dc pm cd ct:Value}
 (cl:PySem.W.nsIn K mainGlobals ⟨c.toArray⟩=some (some (.ref C)))(pg:PySem.W.plainGet K C Str.empty=true)(hd:PySem.W.hasDictIn K C=true)(po:PySem.W.plainOver K C=true)(sa:PySem.W.findIn K (.ref C) "__setattr__" = some (some (.builtin "object.__setattr__")))
 (a:PySem.W.findIn K (.ref C) n=some (some (.ref f)))(fn:PySem.W.isFn K (.ref f)=true)
 (l:K.lookup f=some ⟨oc,od,.func (PySem.W.fnOf n q (jW st) (eH st) (aJ st) .none kV dc pm an cd ct),sl⟩)(cc:PySem.W.codeIn K cd q=true)(k:PySem.W.keepIn K (.ref f)=true):qC K mg n q st (.cC c) :=
 ⟨f,_,AV l cc k,C,cl,⟨pg,hd,po,sa⟩,⟨a,fn,k⟩⟩
theorem Ct {K:PySem.W.Frag}{h:Heap}{mg:Str->Option Value}(X:K.In h)(G:h.Ns mainGlobals mg){q:Str}{c:List Nat}{C:Addr}{st:Stmt}{f:Addr}{oc:Value}{od an:Option Addr}{sl:Array (Option Value)}{kV dc pm cd ct:Value}
 (cl:PySem.W.nsIn K mainGlobals ⟨c.toArray⟩=some (some (.ref C)))(mk:PySem.W.makesIn K C=true)(kp:PySem.W.keepIn K (.ref C)=true)
 (a:PySem.W.findIn K (.ref C) "__init__" = some (some (.ref f)))(fn:PySem.W.isFn K (.ref f)=true)
 (l:K.lookup f=some ⟨oc,od,.func (PySem.W.fnOf "__init__" q (jW st) (eH st) (aJ st) .none kV dc pm an cd ct),sl⟩)(cc:PySem.W.codeIn K cd q=true)(k:PySem.W.keepIn K (.ref f)=true):qC K mg "__init__" q st (.init c) :=
 ⟨f,_,AV l cc k,C,cl,PySem.W.mg_of X G cl,⟨mk,a,fn,kp⟩⟩
theorem WY {K:PySem.W.Frag}{c:List Nat}{C:Addr}(cl:PySem.W.nsIn K mainGlobals ⟨c.toArray⟩=some (some (.ref C)))(pg:PySem.W.plainGet K C Str.empty=true)(hd:PySem.W.hasDictIn K C=true)(po:PySem.W.plainOver K C=true)(sa:PySem.W.findIn K (.ref C) "__setattr__" = some (some (.builtin "object.__setattr__"))):xF K c:=⟨C,cl,pg,hd,po,sa⟩
theorem WL {K:PySem.W.Frag}{c f:List Nat}{C:Addr}(cl:PySem.W.nsIn K mainGlobals ⟨c.toArray⟩=some (some (.ref C)))(na:PySem.W.findIn K (.ref C) ⟨f.toArray⟩=some none):vL K c f:=⟨fun C' h=>by cases clsAt.inj h cl;exact na⟩
theorem KA {K:PySem.W.Frag}{n q x:Str}{st:Stmt}{a:Addr}{fd:FuncData}(F:vF K n q st a fd)(h:BS n q [x] st)(s:Shared)(u:Value):BindsTo s fd ⟨[u],[]⟩ [(x,u)]:=by
 obtain⟨oc,od,kV,doc,pm,an,bD,ct,osl,rfl,lk,hcd⟩:=F.ex
 exact .of_eq (h kV doc pm an bD ct [u] rfl)
end L3
end
section
namespace L3
section
variable {C:aW}{sub:Nat->Nat->Bool}{E:XK}{σ:St}{st:aA}{Q:VK}{QQ:List D->aA->Prop}{QB:Bool->aA->Prop}{P:fW}{e a b c:Ex}{es:List Ex}{i:Nat}{d:D}{M:St->aA->Prop}
theorem GR:aG C sub E (.c d) σ st Q=Q d st:=rfl
theorem CO:aG C sub E (.v i) σ st Q=dO σ i fun d=>Q d st:=rfl
theorem Dn:aG C sub E (.tup es) σ st Q=bE C sub E es σ st fun ds aB=>Q (.tup ds) aB:=rfl
theorem Dq:aG C sub E (.lst es) σ st Q=bE C sub E es σ st fun ds aB=>fR ds aB Q:=rfl
theorem LA {op:sI}:aG C sub E (.bin op a b) σ st Q=aG C sub E a σ st fun x aC=>aG C sub E b σ aC fun y aF=>gZ op x y aF Q:=rfl
theorem An:aG C sub E (.neg a) σ st Q=aG C sub E a σ st fun x aC=>vI x aC Q:=rfl
theorem Cr {op:oZ}:aG C sub E (.cmp op a b) σ st Q=aG C sub E a σ st fun x aC=>aG C sub E b σ aC fun y aF=>cV op x y aF fun k=>Q (.bl k) aF:=rfl
theorem VN {op op':oZ}:aG C sub E (.chain op op' a b c) σ st Q=aG C sub E a σ st fun x aC=>aG C sub E b σ aC fun y aF=>cV op x y aF fun k =>
 if k=true then aG C sub E c σ aF fun z bB=>cV op' y z bB fun k=>Q (.bl k) bB else Q (.bl false) aF:=rfl
theorem Ao:aG C sub E (.and_ a b) σ st Q=aG C sub E a σ st fun x aC=>dM x aC fun k=>if k=true then aG C sub E b σ aC Q else Q x aC:=rfl
theorem Fy:aG C sub E (.or_ a b) σ st Q=aG C sub E a σ st fun x aC=>dM x aC fun k=>if k=true then Q x aC else aG C sub E b σ aC Q:=rfl
theorem Eh:aG C sub E (.not_ a) σ st Q=aG C sub E a σ st fun x aC=>dM x aC fun k=>Q (.bl (!k)) aC:=rfl
theorem Az:aG C sub E (.ite c a b) σ st Q=aG C sub E c σ st fun x aC=>dM x aC fun k=>if k=true then aG C sub E a σ aC Q else aG C sub E b σ aC Q:=rfl
theorem YW {f:Nat}:aG C sub E (.call f es) σ st Q=bE C sub E es σ st fun ds aB=>C f ds aB Q E:=rfl
theorem WI {f:BI}:aG C sub E (.bi f es) σ st Q=bE C sub E es σ st fun ds aB=>gB f ds aB Q:=rfl
theorem Ef {ts:List Ty}:aG C sub E (.isi a ts) σ st Q=aG C sub E a σ st fun x aC=>tN sub x aC ts fun k=>Q (.bl k) aC:=rfl
theorem WX {m:MT}:aG C sub E (.cC m a es) σ st Q=aG C sub E a σ st fun x aC=>vE m x aC/\bE C sub E es σ aC fun ds aF=>iQ m x ds aF Q:=rfl
theorem yT:aG C sub E (.ix a b) σ st Q=aG C sub E a σ st fun x aC=>aG C sub E b σ aC fun y aF=>lZ x y aF Q:=rfl
theorem Hy {lo hi:List Ex}:aG C sub E (.sl a lo hi) σ st Q=aG C sub E a σ st fun x aC=>bE C sub E lo σ aC fun ls aF=>mU ls fun l=>bE C sub E hi σ aF fun hs bB=>mU hs fun h=>AG x l h bB Q:=rfl
theorem Bn {f:BI}{k:IK}:aG C sub E (.bit f k es) σ st Q=bE C sub E es σ st fun ds aC=>fK (some k) ds aC fun _ xs=>eE f xs aC Q:=rfl
theorem XX {n:Nat}{aL tg:List Nat}{one:Bool}{k:Option IK}{aD ifs:List Ex}:aG C sub E (.comp n aL tg one k aD ifs e) σ st Q=bE C sub E aD σ st fun ds aC=>fK k ds aC fun as xs =>
 iP (same as aC) (fun x aF K=>jE one tg x (List.replicate n none++aL.map fun i=>(σ[i]?).getD none) fun σ' =>
 gD C sub E ifs σ' aF fun b bB=>if b=true then aG C sub E e σ' bB fun d dI=>K (some d) dI else K none bB) xs [] aC fun ds fY=>fR ds fY Q:=rfl
theorem MZ:bE C sub E [] σ st QQ=QQ [] st:=rfl
theorem IY:bE C sub E (e::es) σ st QQ=aG C sub E e σ st fun d aB=>bE C sub E es σ aB fun ds aX=>QQ (d::ds) aX:=rfl
theorem Bj:gD C sub E [] σ st QB=QB true st:=rfl
theorem ZT:gD C sub E (e::es) σ st QB=aG C sub E e σ st fun d aB=>dM d aB fun k=>if k=true then gD C sub E es σ aB QB else QB false aB:=rfl
theorem Dd:wpS C sub (.ex e) P σ st=aG C sub (fun c aB=>P.ex c σ aB) e σ st fun _ aB=>P.nx σ aB:=rfl
theorem sM {t:Tg}:wpS C sub (.asg t e) P σ st=aG C sub (fun c aB=>P.ex c σ aB) e σ st fun d aB=>lL C sub (fun c aB=>P.ex c σ aB) t d σ aB P.nx:=rfl
theorem WS {op:sI}:wpS C sub (.aug i op e) P σ st=dO σ i fun x=>aG C sub (fun c aB=>P.ex c σ aB) e σ st fun y aB=>notRef x/\gZ op x y aB fun d aX=>P.nx (σ.set i (some d)) aX:=rfl
theorem YU {x y:List Sx}:wpS C sub (.iff e x y) P σ st=aG C sub (fun c aB=>P.ex c σ aB) e σ st fun d aB=>dM d aB fun k=>if k=true then cL C sub x P σ aB else cL C sub y P σ aB:=rfl
theorem ZL {t:Tg}{k:Option IK}{b:List Sx}:wpS C sub (.iD t k es b) P σ st=bE C sub (fun c aB=>P.ex c σ aB) es σ st fun ds aC=>fK k ds aC fun as xs=>vU (same as aC) (fun x next σ st=>lL C sub (fun c aB=>P.ex c σ aB) t x σ st fun σ' aB=>cL C sub b { P with nx:=next,ct:=next,bk:=P.nx } σ' aB) P.nx xs σ aC:=rfl
theorem MC:wpS C sub (.ret e) P σ st=aG C sub (fun c aB=>P.ex c σ aB) e σ st P.rt:=rfl
theorem XG:wpS C sub .brk P σ st=P.bk σ st:=rfl
theorem YK:wpS C sub .cnt P σ st=P.ct σ st:=rfl
theorem VL:wpS C sub .pass P σ st=P.nx σ st:=rfl
theorem wZ:lL C sub E (.nm i) d σ st M=M (σ.set i (some d)) st:=rfl
theorem Dj {is:List Nat}:lL C sub E (.tp is) d σ st M=jE false is d σ fun σ'=>M σ' st:=rfl
theorem Ck:lL C sub E (.ix a b) d σ st M=aG C sub E a σ st fun x aC=>aG C sub E b σ aC fun y aF=>yY x y d aF fun bB=>M σ bB:=rfl
theorem Cs {c f:List Nat}:lL C sub E (.fl c f a) d σ st M=aG C sub E a σ st fun x aC=>A8 c f d x aC fun aF=>M σ aF:=rfl
theorem Ed:lL C sub E (.dk a b) d σ st M=aG C sub E a σ st fun x aC=>aG C sub E b σ aC fun y aF=>yN y d x aF fun bB=>M σ bB:=rfl
theorem Bx {c f:List Nat}:aG C sub E (.fld c f a) σ st Q=aG C sub E a σ st fun x aC=>rF c f x aC Q:=rfl
theorem Ia {c:List Nat}{f:Nat}:aG C sub E (.mk c f es) σ st Q=bE C sub E es σ st fun ds aC=>∀ p,aC p=none->C f (.ref p::ds) (put aC p (.ins c [])) (fun d aF=>d=.non/\Q (.ref p) aF) E:=rfl
theorem Ew {c m:List Nat}{f:Nat}:aG C sub E (.mcl c m f a es) σ st Q=aG C sub E a σ st fun x aC=>CC c m x aC/\bE C sub E es σ aC fun ds aF=>C f (x::ds) aF Q E:=rfl
theorem Ir:aG C sub E (.cv i es) σ st Q=dO σ i fun d=>vX d st (fun _ _ _=>True)/\bE C sub E es σ st fun ds aB=>vX d aB fun a f cs=>C f (cs++ds) (del aB a) (fun d2 aF=>Q d2 (put aF a (.fn f cs))) (fun c aF=>E c (put aF a (.fn f cs))):=rfl
theorem VJ {f g:Nat}{aL:List Nat}{κ:CK}:aG C sub E (.callL f es g aL κ) σ st Q=bE C sub E es σ st fun ds aC=>(∃ P,aC P=some (.cod κ))/\oJ σ aL fun cs=>∀ a,aC a=none->C f (ds++[.ref a]) (put aC a (.fn g cs)) (fun d aF=>Q d (del aF a)) (fun c aF=>E c (del aF a)):=rfl
theorem UN {QL:List D->Prop}:oJ σ [] QL=QL []:=rfl
theorem OS {QL:List D->Prop}{is:List Nat}:oJ σ (i::is) QL=dO σ i fun d=>oJ σ is fun ds=>QL (d::ds):=rfl
theorem RJ {f p:Nat}{cs:List D}{K:Nat->Nat->List D->Prop}(h:st p=some (.fn f cs)):vX (.ref p) st K=K p f cs:=by unfold vX;simp only[h]
theorem wD {p q:Nat}(h:q≠p):del st p q=st q:=by unfold del;rw[if_neg h]
theorem ZC:aG C sub E .dnew σ st Q = ∀ p,st p=none->Q (.ref p) (put st p (.tab [] [])):=rfl
theorem Ci {neg:Bool}:aG C sub E (.din neg a b) σ st Q=aG C sub E a σ st fun x aC=>aG C sub E b σ aC fun y aF=>tT x y aF fun k=>Q (.bl (if neg=true then !k else k)) aF:=rfl
theorem Eu:aG C sub E (.dix a b) σ st Q=aG C sub E a σ st fun y aC=>aG C sub E b σ aC fun x aF=>rE x y aF Q:=rfl
theorem fX {c f:List Nat}{p:Nat}{fs:List (List Nat×D)}(h:st p=some (.ins c fs)){x:D}(hx:dA fs f=some x):rF c f (.ref p) st Q=Q x st:=by
 simp only[rF,lF,h,hx,cT,true_and]
theorem xA {c f:List Nat}{p:Nat}{fs:List (List Nat×D)}{R:aA->Prop}(h:st p=some (.ins c fs))(hl:fs.length<900):A8 c f d (.ref p) st R=R (put st p (.ins c (pD f d fs))):=by
 simp only[A8,lF,h,hl,true_and]
theorem sN {c m:List Nat}{p:Nat}{fs:List (List Nat×D)}(h:st p=some (.ins c fs))(hm:dA fs m=none):CC c m (.ref p) st=True:=by
 simp only[CC,lF,h,hm,and_self]
theorem Y1 {x:D}{p:Nat}{ks vs:List D}{R:Bool->Prop}(h:st p=some (.tab ks vs))(hx:keyed x):tT x (.ref p) st R=R (ks.any fun k=>bG k x):=by
 simp only[tT,tabAt,h,hx,true_and]
theorem zS {x v:D}{p:Nat}{ks vs:List D}(h:st p=some (.tab ks vs))(hx:keyed x)(hv:kO ks vs x=some v):rE x (.ref p) st Q=Q v st:=by
 simp only[rE,tabAt,h,hx,hv,cT,true_and]
theorem Cv {x v:D}{p:Nat}{ks vs:List D}{R:aA->Prop}(h:st p=some (.tab ks vs))(hx:keyed x)(hn:(ks.any fun k=>bG k x)=false)(hl:ks.length<10000):yN x v (.ref p) st R=R (put st p (.tab (ks++[x]) (vs++[v]))):=by
 simp only[yN,tabAt,h,hx,hn,hl,true_and]
end
section
variable {d:D}{r:St}{R:D->Prop}{o0 o1 o2 o3 o4 o5 o6 o7 o8 o9 SD Ai Fs:Option D}
theorem B9:dO (some d::r) 0 R=R d:=rfl
theorem W0:dO (o0::some d::r) 1 R=R d:=rfl
theorem Gz:dO (o0::o1::some d::r) 2 R=R d:=rfl
theorem Hz:dO (o0::o1::o2::some d::r) 3 R=R d:=rfl
theorem Ht:dO (o0::o1::o2::o3::some d::r) 4 R=R d:=rfl
theorem Gi:dO (o0::o1::o2::o3::o4::some d::r) 5 R=R d:=rfl
theorem Ic:dO (o0::o1::o2::o3::o4::o5::some d::r) 6 R=R d:=rfl
theorem Hi:dO (o0::o1::o2::o3::o4::o5::o6::some d::r) 7 R=R d:=rfl
theorem Gk:dO (o0::o1::o2::o3::o4::o5::o6::o7::some d::r) 8 R=R d:=rfl
theorem Iw:dO (o0::o1::o2::o3::o4::o5::o6::o7::o8::some d::r) 9 R=R d:=rfl
theorem Bs:dO (o0::o1::o2::o3::o4::o5::o6::o7::o8::o9::some d::r) 10 R=R d:=rfl
theorem Bt:dO (o0::o1::o2::o3::o4::o5::o6::o7::o8::o9::SD::some d::r) 11 R=R d:=rfl
theorem Bw:dO (o0::o1::o2::o3::o4::o5::o6::o7::o8::o9::SD::Ai::some d::r) 12 R=R d:=rfl
theorem Be:dO (o0::o1::o2::o3::o4::o5::o6::o7::o8::o9::SD::Ai::Fs::some d::r) 13 R=R d:=rfl
end
end L3
end
section
namespace L3
open PySem PySem.Spec PyProof.Rows L2
noncomputable def hZ (H:Hp)(a:Addr):Hp:=fun b=>match H b with
 |some (.frz o (.own n))=>if n=a then none else some (.frz o (.own n))
 |y=>y
theorem rS {H:Hp}{a b:Addr}{o:Obj}(h:H b=some (.frz o (.own a))):hZ H a b=none:=by unfold hZ;rw[h];simp
theorem kP {H:Hp}{a b:Addr}(h:H b=none):hZ H a b=none:=by unfold hZ;rw[h]
theorem nK (H:Hp)(a b:Addr):(∃ o,H b=some (.frz o (.own a))/\hZ H a b=none)∨((∀ o,H b≠some (.frz o (.own a)))/\hZ H a b=H b):=by
 cases h:H b with
 |none=>exact .inr ⟨fun o z=>(by cases z),kP h⟩
 |some y =>
  by_cases q:∃ o,y=.frz o (.own a)
  ·obtain⟨o,rfl⟩:=q
   exact .inl ⟨o,rfl,rS h⟩
  ·refine .inr ⟨fun o z=>q ⟨o,Option.some.inj z⟩,?_⟩
   unfold hZ
   rw[h]
   cases y with
   |frz o u=>cases u with
    |own n =>
     have hn:n≠a:=fun z=>q ⟨o,by rw[z]⟩
     simp [hn]
    |_=>rfl
   |_=>rfl
theorem Q4 {H:Hp}{a b:Addr}{y:HO}(h:hZ H a b=some y):H b=some y:=by
 rcases nK H a b with⟨o,_,e⟩|⟨_,e⟩
 ·rw[e]at h;cases h
 ·rw[<-e];exact h
theorem pU {H:Hp}{a b:Addr}{y:HO}(h:H b=some y)(n:∀ o,y≠.frz o (.own a)):hZ H a b=some y:=by
 rcases nK H a b with⟨o,e,_⟩|⟨_,e⟩
 ·rw[h]at e;exact absurd (Option.some.inj e) (n o)
 ·rw[e];exact h
noncomputable def xJ (H H':Hp)(a:Addr):Hp:=fun b=>match H b with
 |some (.frz o (.own n))=>if n=a then some (.frz o (.own n))else H' b
 |_=>H' b
theorem zL {H H':Hp}{a b:Addr}{o:Obj}(h:H b=some (.frz o (.own a))):xJ H H' a b=some (.frz o (.own a)):=by unfold xJ;rw[h];simp
theorem fN {H H':Hp}{a b:Addr}(h:∀ o,H b≠some (.frz o (.own a))):xJ H H' a b=H' b:=by
 unfold xJ
 cases e:H b with
 |none=>rfl
 |some y=>cases y with
 |frz o u=>cases u with
  |own n =>
  have hn:n≠a:=fun z=>h o (by rw[e,z])
  simp [hn]
  |_=>rfl
 |_=>rfl
theorem T6 {P:Program}{w:World}{H:Hp}{h:Heap}{a:Addr}(ok:fS P w H h):fS P w (hZ H a) h:=fun b o e =>
 (ok b o (Q4 e)).nZ (fun _ _ _ q=>q) (fun _ q=>pU q (fun _ z=>nomatch z)) fun _ _ q=>pU q (fun _ z=>nomatch z)
noncomputable def Kp (H H':Hp)(a:Addr):Prop:=∀ b y,H b=some y->(∀ o,y≠.frz o (.own a))->(∀ o u,y≠.frz o (.frz u (.own a)))->H' b=some y
theorem M9 {H:Hp}{a:Addr}:Kp H (hZ H a) a:=fun _ _ h n _=>pU h n
theorem ZA {K:PySem.W.Frag}{H H':Hp}{a b:Addr}{vs:List V}(k:Kp H H' a)(h:dQ K H b vs):dQ K H' b vs:=by
 rcases h with(h|⟨o,h⟩)|h
 ·exact .inl (.inl (k _ _ h (fun _ z=>nomatch z) (fun _ _ z=>nomatch z)))
 ·exact .inl (.inr ⟨o,k _ _ h (fun _ z=>nomatch z) (fun _ _ z=>nomatch z)⟩)
 ·exact .inr h
theorem UR {K:PySem.W.Frag}{H H':Hp}{a b:Addr}{vs:List V}(k:Kp H H' a)(h:kQ K H b vs):kQ K H' b vs:=by
 rcases h with⟨o,h⟩|h
 ·exact .inl ⟨o,k _ _ h (fun _ z=>nomatch z) (fun _ _ z=>nomatch z)⟩
 ·exact .inr h
mutual
theorem Rep.to {K:PySem.W.Frag}{H H':Hp}{a:Addr}(k:Kp H H' a):∀{d:D}{v:V},Rep K H d v->Rep K H' d v
 |_,_,.non=>.non
 |_,_,.bl b=>.bl b
 |_,_,.int i=>.int i
 |_,_,.str x=>.str x
 |_,_,.tup h r=>.tup (ZA k h) (aH.to k r)
 |_,_,.ref a=>.ref a
 |_,_,.bF h r=>.bF (UR k h) (aH.to k r)
 |_,_,.cM h=>.cM h
theorem aH.to {K:PySem.W.Frag}{H H':Hp}{a:Addr}(k:Kp H H' a):∀{ds:List D}{vs:List V},aH K H ds vs->aH K H' ds vs
 |_,_,.nil=>.nil
 |_,_,.cons h r=>.cons (Rep.to k h) (aH.to k r)
end
theorem IB {K:PySem.W.Frag}{H H':Hp}{a b:Addr}{o:MO}(k:Kp H H' a)(ne0:a≠0)(hb:b≠a)(h:rG K H b o):rG K H' b o:=by
 cases o with
 |lst ds=>obtain⟨vs,q,r⟩:=h;exact⟨vs,k _ _ q (fun _ z=>nomatch z) (fun _ _ z=>nomatch z),r.to k⟩
 |dic _ _=>exact h
 |ins c fs=>obtain⟨C,dx,ws,q,q2,q3,r⟩:=h;exact⟨C,dx,ws,q,k _ _ q2 (fun _ z=>nomatch z) (fun _ _ z=>nomatch z),q3,r.to k⟩
 |tab ks vs=>obtain⟨xs,ws,q,q0,q1,q2,q3,q4,q5,r⟩:=h;exact⟨xs,ws,k _ _ q (fun _ z=>nomatch z) (fun _ _ z=>nomatch z),q0,q1,q2,q3.to k,q4,q5,r.to k⟩
 |fn f cs =>
 obtain⟨vs,⟨T,clos,pm,ctv,c',oc,nb,t,q,ec,co,inj,dom,cap⟩,r⟩:=h
 refine⟨vs,⟨T,clos,pm,ctv,c',oc,nb,t,k _ _ q (fun _ z=>nomatch z) (fun _ _ z=>?_),k _ _ ec (fun _ z=>?_) (fun _ _ z=>nomatch z),co,inj,dom,cap.of fun b' o z=>k _ _ z (fun _ y=>?_) (fun _ _ y=>nomatch y)⟩,r.to k⟩
 ·injection z with _ z;injection z with _ z;injection z with z;exact hb z
 ·injection z with _ z;injection z with z;exact ne0 z.symm
 ·injection y with _ y;injection y with y;exact hb y
 |cod κ =>
 obtain⟨q0,q|⟨c',oc,q,ec,co⟩⟩:=h
 ·exact⟨q0,.inl (k _ _ q (fun _ z=>nomatch z) (fun _ _ z=>nomatch z))⟩
 ·exact⟨q0,.inr ⟨c',oc,k _ _ q (fun _ z=>nomatch z) (fun _ _ z=>nomatch z),k _ _ ec (fun _ z=>by injection z with _ z;injection z with z;exact ne0 z.symm) (fun _ _ z=>nomatch z),co⟩⟩
theorem S4 {K:PySem.W.Frag}{H H':Hp}{st:aA}{a:Addr}(k:Kp H H' a)(ne0:a≠0)(ok:aQ K st H)(hn:st a=none):aQ K st H':=fun b o e =>
 IB k ne0 (fun z=>by rw[z,hn]at e;cases e) (ok b o e)
theorem vO:∀{ps:List Str}{us:List Value}{i:Nat}{x:Str}{u:Value},ps.Nodup->ps[i]? = some x->us[i]? = some u->(ps.zip us).reverse.lookup x=some u
 |[],_,_,_,_,_,h,_=>by simp at h
 |_::_,[],_,_,_,_,_,h=>by simp at h
 |p::ps,v::us,0,x,u,nd,h1,h2=>by
  simp at h1 h2;subst h1;subst h2
  rw[List.zip_cons_cons,List.reverse_cons,List.lookup_append]
  have:(ps.zip us).reverse.lookup p=none:=by
   rw[List.lookup_eq_none_iff]
   intro q hq
   have hq:q∈ps.zip us:=by simpa using hq
   have:=(List.of_mem_zip hq).1
   rw[bne_iff_ne]
   intro z
   exact(List.nodup_cons.mp nd).1 (z▸this)
  rw[this];simp
 |p::ps,v::us,i+1,x,u,nd,h1,h2=>by
  rw[List.zip_cons_cons,List.reverse_cons,List.lookup_append,vO (List.nodup_cons.mp nd).2 (by simpa using h1) (by simpa using h2)];rfl
structure LM (T:jF):Prop where
 kind:T.scope.kind=.function
 co:T.scope.isCoroutine=false
 gen:T.scope.isGenerator=false
 nc:∀ x∈T.scope.names,x.2≠.cell
 nd:(T.aL++T.ps).Nodup
 lo:∀ x∈T.ps,T.scope.names.lookup x=some .local
 fr:∀ x,T.scope.names.lookup x=some .free->x∈T.aL
 cf:∀ x∈T.aL,T.scope.names.lookup x=some .free
noncomputable def MQ (P:Program)(w:World)(K:PySem.W.Frag)(mg:Str->Option Value)(base:Heap)(T:jF)(clos:List (Str×Addr))(a c':Addr)(A:Around)(outer:List Env)(s:Shared)(H:Hp):Cx where
 prog:=P
 w:=w
 K:=K
 mg:=mg
 base:=base
 A:=A.deeper (PySem.W.envX T.q T.scope s.heap.objs.size a (.ref c') clos)
 N:=T.aL++T.ps
 s₀:=s
 H₀:=H
 env:=PySem.W.envX T.q T.scope s.heap.objs.size a (.ref c') clos
 outer:=outer
 stack:=PySem.W.envX T.q T.scope s.heap.objs.size a (.ref c') clos::outer
 ex:=[]
 calm:=true
 fn:=fun _=>false
 pn:=[]
 xe:=fun _ _=>False
noncomputable def mS (P:Program)(w:World)(K:PySem.W.Frag)(mg:Str->Option Value)(base:Heap)(r:Nat)(C:aW)(f:Nat):Prop :=
 ∀(A:Around)(outer:List Env)(s:Shared)(H:Hp)(a:Addr)(us:List Value)(vs cvs:List V)(ds cs:List D)(st:aA)(R:VK)(Q:L2.VK)(E:L2.XK),
 cK r A->rB P w K mg base A outer s H->RZ H a f cvs->st a=none->aQ K st H->aH K H cs cvs->aH K H ds vs->aO vs us->C f (cs++ds) st R (fun _ _=>False)->(∀ v H',QD K H st R v H'->Q v H') ->
 codeAny (model P w) A (.call (.ref a) ⟨us,[]⟩) (CR dB outer P w H s Q E) s
theorem FR {H:Hp}{a:Addr}{clos:List (Str×Addr)}{xs:List Str}{vs:List V}(h:iB H a clos xs vs):xs.length=vs.length:=by
 induction h with
 |nil=>rfl
 |cons _ _ _ _ _ _ _ _ ih=>exact congrArg Nat.succ ih
theorem yZ {H:Hp}{a:Addr}{clos:List (Str×Addr)}{xs:List Str}{vs:List V}(h:iB H a clos xs vs):∀{i:Nat}{x:Str},xs[i]? = some x->∃ v cl o u,vs[i]? = some v/\clos.lookup x=some cl/\H cl=some (.frz o (.own a))/\o.data=.cell (some u)/\RelV v u:=by
 induction h with
 |nil=>intro i x e;simp at e
 |cons cl o u l k d r t ih =>
 intro i x e
 cases i with
 |zero=>simp at e;subst e;exact⟨_,cl,o,u,rfl,l,k,d,r⟩
 |succ i=>exact ih (by simpa using e)
section
variable {P:Program}{w:World}{K:PySem.W.Frag}{mg:Str->Option Value}{base:Heap}{T:jF}{clos:List (Str×Addr)}{a c':Addr}{A:Around}{outer:List Env}{s:Shared}{H:Hp}{us:List Value}{vs cvs:List V}
theorem VQ (S:LM T)(hd:A.handled=none)(e0:rB P w K mg base A outer s H)(inj:∀ x y c,clos.lookup x=some c->clos.lookup y=some c->x=y)(dom:∀ x c,clos.lookup x=some c->x∈T.aL)(cap:iB H a clos T.aL cvs)(hl:vs.length=T.ps.length)(r:aO vs us)
  {h₁:Heap}{tk:Nat}(hns:h₁.Ns s.heap.objs.size (fun y=>(T.ps.zip us).reverse.lookup y))(hk:∀ b o,s.heap.get? b=some o->h₁.get? b=some o):
  Inv (MQ P w K mg base T clos a c' A outer s (hZ H a)) [] (cvs.map some++vs.map some) (hZ H a) { s with heap:=h₁,toks:=tk }:=by
 have clen:=FR cap
 have cells:∀ x c,clos.lookup x=some c->∃ o u,H c=some (.frz o (.own a))/\o.data=.cell (some u):=fun x c e=>by
  obtain⟨i,hi⟩:=List.getElem?_of_mem (dom x c e)
  obtain⟨v,cl,o,u,_,l,k,d,_⟩:=yZ cap hi
  rw[e]at l;cases l
  exact⟨o,u,k,d⟩
 have hcl:∀{c o u},H c=some (.frz o (.own a))->o.data=.cell (some u)->h₁.IsCell c (some u):=fun{c o u} k d=>⟨o,hk _ _ (e0.bH c _ k).1,d⟩
 have noA:∀ b:Addr,b∉(MQ P w K mg base T clos a c' A outer s (hZ H a)).ex:=fun b z=>absurd (show b∈([]:List Addr)from z) (by simp)
 refine⟨⟨e0.mod,S.kind,rfl,rfl,Nat.le_refl _,inj,fun y hy=>?_,fun y c z _=>(nomatch (show false=true from z)),fun _=>hd,Around.frames_deeper e0.frames,.inr ⟨rfl,rfl⟩,fun b z=>absurd z (noA b),fun b o e=>⟨(e0.bs b o e).1,kP (e0.bs b o e).2⟩,e0.bsz,fun b _ _=>noA b,fun b z=>absurd z (noA b),e0.kB,fun b z=>kP (e0.frf b z)⟩,
  rfl,e0.bare,Un.kept hk,⟨_,hns,fun i y v h1 h2 h3=>?_⟩,fun y c h=>?_,kP (e0.bH.fresh (Nat.le_refl _)),fun y c h=>?_,fun p hp=>absurd (show p∈([]:List (Addr×Obj))from hp) (by simp),(T6 e0.bH).kept hk,?_⟩
 ·have hy:T.scope.names.lookup y=some .cell∨T.scope.names.lookup y=some .free:=hy
  rcases hy with hy|hy
  ·exact absurd rfl (S.nc _ (PySem.mem_of_lookup hy))
  ·obtain⟨i,hi⟩:=List.getElem?_of_mem (S.fr y hy)
   obtain⟨_,cl,_,_,_,l,_⟩:=yZ cap hi
   exact⟨cl,l⟩
 ·by_cases hi:i<T.aL.length
  ·have h1':T.aL[i]? = some y:=by
    have h1:(T.aL++T.ps)[i]? = some y:=h1
    rwa [List.getElem?_append_left hi]at h1
   obtain⟨v',cl,o,u,e1,l,k,d,rv⟩:=yZ cap h1'
   rw[List.getElem?_append_left (by rw[List.length_map,<-clen];exact hi),List.getElem?_map,e1]at h2
   cases h2
   exact⟨u,rv,.inr ⟨.inr (S.cf y (List.mem_of_getElem? h1')),cl,l,hcl k d⟩⟩
  ·have h1':T.ps[i-T.aL.length]? = some y:=by
    have h1:(T.aL++T.ps)[i]? = some y:=h1
    rwa [List.getElem?_append_right (by omega)]at h1
   have h2':vs[i-T.aL.length]? = some v:=by
    rw[List.getElem?_append_right (by rw[List.length_map,<-clen];omega),List.length_map,<-clen,List.getElem?_map]at h2
    cases e:vs[i-T.aL.length]? with
    |none=>rw[e]at h2;cases h2
    |some z=>rw[e]at h2;cases h2;rfl
   obtain⟨u,hu,rv⟩:=r.get h2'
   have ndp:T.ps.Nodup:=(List.nodup_append.mp S.nd).2.1
   refine⟨u,rv,.inl ⟨S.lo y (List.mem_of_getElem? h1'),?_⟩⟩
   exact vO ndp h1' hu
 ·obtain⟨o,u,k,d⟩:=cells y c h
  exact⟨some u,hcl k d⟩
 ·obtain⟨o,u,k,d⟩:=cells y c h
  exact rS k
 ·show _=(T.aL++T.ps).length
  rw[List.length_append,List.length_append,List.length_map,List.length_map,clen,hl]
end
end L3
end
section
namespace L3
open PySem PySem.Spec PyProof.Rows L2
section
variable {P:Program}{w:World}{K:PySem.W.Frag}{mg:Str->Option Value}{base:Heap}
theorem SN {G:Prog}{k r f n:Nat}{T:jF}{x:Ex}(hT:LT f=some T)(S:LM T)(hG:G.fns f=some ⟨n,n,[.ret x]⟩)(hn:n=T.aL.length+T.ps.length)
  (hbind:∀(clos:List (Str×Addr))(pm:Value)(c':Addr)(ctv:Value)(us:List Value),us.length=T.ps.length->bindArgs (PySem.W.kla_fn "<lambda>" T.q T.params T.body T.scope clos pm (.ref c') ctv) ⟨us,[]⟩=pure (T.ps.zip us))
  (hb:∀(clos:List (Str×Addr))(a c':Addr)(A:Around)(outer:List Env)(s:Shared)(H:Hp),cK r (A.deeper (PySem.W.envX T.q T.scope s.heap.objs.size a (.ref c') clos))->JE (MQ P w K mg base T clos a c' A outer s H) (aM G k) G.sub (fun _ _=>False) T.body x):
  mS P w K mg base (r+1) (aM G (k+1)) f:=by
 intro A outer s H a us vs cvs ds cs st R Q E hr e0 hF dZ ok rc rd rv hC hQ
 obtain⟨T',clos,pm,ctv,c',oc,ne0,t,e,ec,co,inj,dom,cap⟩:=hF
 rw[hT]at t;cases t
 simp only[aM,hG]at hC
 have clen:=FR cap
 have hlen:(cs++ds).length=n:=hC.1
 have hl:vs.length=T.ps.length:=by
  have h1:=rd.length
  have h2:=rc.length
  rw[List.length_append]at hlen;omega
 have hus:us.length=T.ps.length:=by rw[<-rv.length];exact hl
 obtain⟨vs0,t0,co1,co2⟩:=co
 have lim:s.heap.NoLimit:=e0.mod.nolimit.keeps fun b o z=>(e0.bs b o z).1
 refine PySem.W.kla_callFunE hr.depth (e0.bH a _ e).1 rfl S.co S.gen rfl ⟨c',oc,vs0,t0,rfl,(e0.bH c' _ ec).1,co1,co2⟩ ?_
 rw[hbind clos pm c' ctv us hus]
 refine wpAny_pure (wpAny_newFunctionEnv S.nc (fun y hy=>S.lo y.1 (List.of_mem_zip hy).1) (fun h₁ hns hsb=>⟨lim.fresh _ hsb,?_⟩) S.kind)
 show codeAny _ _ (.expr T.body (PySem.W.envX T.q T.scope s.heap.objs.size a (.ref c') clos)) _ _
 have hk:∀ b o,s.heap.get? b=some o->h₁.get? b=some o:=fun b o z=>hsb.extBut b o (Nat.ne_of_lt (Heap.lt_size z)) (Heap.get?_push_of_some _ z)
 refine PySem.W.kla_codeExpr ?_
 have I:=VQ (P:=P) (w:=w) (c':=c') (tk:=s.toks+(T.ps.zip us).length) S hr.hd e0 inj dom cap hl rv hns hk
 have hq:aG (aM G k) G.sub (fun _ _=>False) x (start n n (cs++ds)) st R:=by
  have:=hC.2
  simp only[cL,wpS]at this
  exact this
 have est:start n n (cs++ds)=cs.map some++ds.map some:=by simp [start]
 have hsr:cZ K (hZ H a) (start n n (cs++ds)) (cvs.map some++vs.map some):=by
  have rr:aH K (hZ H a) (cs++ds) (cvs++vs):=(rc.append rd).to M9
  rw[est,<-List.map_append,<-List.map_append]
  refine⟨by rw[List.length_map,List.length_map,rr.length],fun i d e=>?_⟩
  rw[List.getElem?_map,Option.map_eq_some_iff]at e
  obtain⟨d',e1,e2⟩:=e
  cases e2
  obtain⟨v,e3,e4⟩:=rr.get e1
  exact⟨v,by rw[List.getElem?_map,e3];rfl,e4⟩
 have key:=(hb clos a c' A outer s (hZ H a) (hr.deeper _)).h [] _ _ (hZ H a) (fun v H'=>QD K (hZ H a) st R v H') I ⟨start n n (cs++ds),st,R,hsr,S4 M9 ne0 ok dZ,hq,fun v H' z=>z⟩
 refine wpAny_mono key (fun u s' z=>?_) fun e s' z=>z.elim
 obtain⟨v,H',J,aZ,d,aB,s1,aN,r1,q1⟩:=z
 have jb:Un (sJ outer) [] (hZ H a) H' s.heap s'.heap:=J.base
 have nc:∀{b y},H' b=some y->∀ o,H b≠some (.frz o (.own a)):=fun{b y} h o z=>by
  have:=jb.free b o (e0.bH b _ z).1 (rS z) (by simp)
  rw[h]at this;cases this
 have aF:Step H' aB (xJ H H' a) aB:=fun b o eb n=>⟨by rw[fN (nc eb)];exact eb,n⟩
 refine⟨v,xJ H H' a,J.os,J.bare,⟨fun b o q n hb hx=>jb.keep b o q (kP n) hb hx,fun b o q n hb hx=>jb.slot b o q (kP n) hb hx,fun b o q n hx=>?_,fun b o q hx=>jb.there b o q hx,fun b xs q=>?_,fun b o u q=>?_,fun b ps q=>?_⟩,fun b o e=>?_,aZ,hQ v _ ⟨d,aB,fun b o eb n=>?_,fun b o e=>?_,r1.step aN aF,q1⟩⟩
 ·rw[fN (fun o z=>by rw[n]at z;cases z)];exact jb.free b o q (kP n) hx
 ·rw[fN (fun o z=>by rw[q]at z;cases z)];exact jb.pX b xs (pU q (fun _ z=>nomatch z))
 ·rcases nK H a b with⟨o',e',_⟩|⟨n,e'⟩
  ·rw[zL e',<-e'];exact q
  ·rw[fN n];exact jb.mB b o u (by rw[e'];exact q)
 ·obtain⟨more,z⟩:=jb.oB b ps (pU q (fun _ z=>nomatch z))
  exact⟨more,by rw[fN (fun o z=>by rw[q]at z;cases z)];exact z⟩
 ·rcases nK H a b with⟨o',e',_⟩|⟨n,e'⟩
  ·rw[zL e']at e;cases e
   have g:=jb.keep b o' (e0.bH b _ e').1 (rS e') (fun z=>by rw[e0.frf b z]at e';cases e') (by simp)
   exact⟨g,o',g⟩
  ·rw[fN n]at e
   exact(J.bH b o e).nZ (fun _ _ _ q=>q) (fun b' q=>by rw[fN (nc q)];exact q) fun b' xs q=>by rw[fN (nc q)];exact q
 ·rcases nK H a b with⟨o',e',_⟩|⟨n',e'⟩
  ·refine⟨by rw[zL e',<-e'];exact eb,aN.fresh ?_⟩
   exact jb.free b o' (e0.bH b _ e').1 (rS e') (by simp)
  ·obtain⟨h1,h2⟩:=s1 b o (by rw[e'];exact eb) n
   exact⟨by rw[fN n'];exact h1,h2⟩
 ·have h:=aN b o e
  obtain⟨o',h1,_⟩:=h.bears
  exact h.step aN aF (fN (nc h1))
end
end L3
end
section
namespace L3
open PySem PySem.Spec PyProof.Rows L2
theorem GO {σ:St}{i:Nat}{Q:D->Prop}(h:dO σ i Q):∃ d,σ[i]? = some (some d)/\Q d:=by
 unfold dO at h
 split at h
 ·rename_i d e;exact⟨d,e,h⟩
 ·exact h.elim
theorem IG {d:D}{st:aA}{K:Nat->Nat->List D->Prop}(h:vX d st K):∃ a f cs,d=.ref a/\st a=some (.fn f cs)/\K a f cs:=by
 cases d<;>first|exact False.elim h|skip
 rename_i a
 unfold vX at h
 simp only at h
 split at h
 ·rename_i f cs e;exact⟨a,f,cs,rfl,e,h⟩
 ·exact h.elim
theorem zC {st:aA}{a:Nat}:del st a a=none:=by unfold del;rw[if_pos rfl]
theorem zI {st:aA}{a b:Nat}(h:b≠a):del st a b=st b:=by unfold del;rw[if_neg h]
theorem JV {st:aA}{a b:Nat}{o:MO}(h:del st a b=some o):st b=some o/\b≠a:=by
 by_cases z:b=a
 ·rw[z,zC]at h;cases h
 ·rw[zI z]at h;exact⟨h,z⟩
section
variable {X:Cx}{C:aW}{sub:Nat->Nat->Bool}{i k:Nat}{x:Str}{p pos:Pos}{e:Expr}{es:List Expr}{xs:List Ex}{E0:L2.XK}
theorem IA {H:Hp}{h:Heap}{P:Program}{w:World}{a:Addr}{f:Nat}{vs:List V}(ok:fS P w H h)(F:RZ H a f vs):PySem.W.FnAt a h:=by
 obtain⟨T,clos,pm,ctv,c',oc,_,_,e,_⟩:=F
 exact⟨_,_,_,_,(ok a _ e).1⟩
theorem Fv (hL:∀ f T,LT f=some T->mS X.prog X.w X.K X.mg X.base k C f)(hr:cK k X.A)(hN:X.N[i]? = some x)(hv:RP X.env.scope x)(hx:nG dB X E0)(ha:PA X (e::es) (jT X.K (bE C sub (fun _ _=>False) xs)))
  (hd:(x==("__debug__" : Str))=false)(hcd:(x==("__classdict__" : Str))=false)(he:starEach (e::es) X.env=(false,eval e X.env)::starEach es X.env)(cS:(backTo pos (starEach es X.env)).any (·.1)=false):
  PE X (.Call (.Name x p) (e::es) [] pos) (bM X.K (aG C sub (fun _ _=>False) (.cv i xs))):=by
 intro pins s σ H Q I ⟨σd,st,R,r,ok,q,hq⟩
 obtain⟨d,ed,q0,q⟩:=GO q
 obtain⟨a,f0,cs0,rfl,ea0,_⟩:=IG q0
 obtain⟨v,ev,rep⟩:=r.2 i _ ed
 cases rep.bZ
 obtain⟨cvs0,F0,_⟩:=ok a _ ea0
 refine wpAny_Call_Name_kw (aV (L0 hN hv hd hcd pins s σ H (fun v' H1=>v'=.ref a/\H1=H) I ⟨_,ev,rfl,rfl⟩) fun u s1 z=>?_)
 obtain⟨v',H1,I1,rv,rfl,rfl⟩:=z
 obtain rfl:u=Value.ref a:=rv
 refine PySem.W.callWith_F (IA I1.bH F0) (aV (ha pos pins s1 σ H1 _ I1 ⟨σd,st,_,r,ok,q,fun vs H2 z=>z⟩) fun us s2 z=>?_) he cS
 obtain⟨vs,H2,I2,rvs,ds,aF,cW,bO,rds,q3⟩:=z
 obtain⟨a',f,cs,e1,ea,q4⟩:=IG q3
 cases e1
 have hO:=bO a _ ea
 obtain⟨cvs,F,rcs⟩:=id hO
 refine⟨IA I2.bH F,?_⟩
 have okd:aQ X.K (del aF a) H2:=fun b o e=>bO b o (JV e).1
 have hT:∃ T,LT f=some T:=by obtain⟨T,_,_,_,_,_,_,t,_⟩:=F;exact⟨T,t⟩
 obtain⟨T,hT⟩:=hT
 refine wpAny_call (codeAny_mono (hL f T hT X.A X.stack s2 H2 a us vs cvs ds cs (del aF a) _ Q E0 hr I2.K4 F zC okd rcs rds rvs q4 fun v H' z=>?_) fun r s' hq=>?_)
 ·obtain⟨d2,bB,s3,nO,r3,q5⟩:=z
  obtain⟨oa,ha1,_⟩:=hO.bears
  have h3:=s3 a oa ha1 zC
  refine hq v H' (.after cW ⟨d2,put bB a (.fn f cs),fun b o eb n=>?_,fun b o e=>?_,r3,q5⟩)
  ·have ba:b≠a:=fun z=>by rw[z,ea]at n;cases n
   obtain⟨h1,h2⟩:=s3 b o eb (by rw[zI ba];exact n)
   exact⟨h1,by rw[bK ba];exact h2⟩
  ·by_cases ba:b=a
   ·subst ba
    rw[bA]at e;cases e
    exact hO.step okd s3 (by rw[h3.1,ha1])
   ·rw[bK ba]at e;exact nO b o e
 ·cases r with
  |error e=>exact hx pins σ H2 s2 e s' I2 hq
  |ok fl =>
   cases fl with
   |ret u=>exact I2.after hq
   |next=>exact False.elim hq
   |brk=>exact False.elim hq
   |cont=>exact False.elim hq
end
end L3
end
section
namespace L3
open PySem PySem.Spec PyProof.Rows L2
theorem CT {σ:St}:∀{is:List Nat}{Q:List D->Prop},oJ σ is Q->∃ cs,cs.length=is.length/\(∀(j i:Nat),is[j]? = some i->∃ d,σ[i]? = some (some d)/\cs[j]? = some d)/\Q cs
 |[],Q,h=>⟨[],rfl,fun j i e=>by simp at e,h⟩
 |i::is,Q,h=>by
  obtain⟨d,e,h⟩:=GO h
  obtain⟨cs,l,g,q⟩:=CT (is:=is) h
  refine⟨d::cs,by simp [l],fun j i' e'=>?_,q⟩
  cases j with
  |zero=>simp at e';subst e';exact⟨d,e,rfl⟩
  |succ j=>exact g j i' (by simpa using e')
inductive lK (h:Heap)(cells:List (Str×Addr)):List Str->List V->Prop where
 |nil:lK h cells [] []
 |cons {x:Str}{xs:List Str}{v:V}{vs:List V}(cl:Addr)(o:Obj)(u:Value)(l:cells.lookup x=some cl)(k:h.get? cl=some o) (d:o.data=.cell (some u)) (r:RelV v u) (t:lK h cells xs vs):lK h cells (x::xs) (v::vs)
section
variable {X:Cx}{pins:List (Addr×Obj)}{σ:L2.St}{H:Hp}{s:Shared}{σd:St}
theorem AX (I:Inv X pins σ H s)(r:cZ X.K H σd σ):∀(xs:List Str)(aL:List Nat)(cs:List D),(∀(j:Nat)(x:Str),xs[j]? = some x->∃ i,aL[j]? = some i/\X.N[i]? = some x/\X.env.scope.names.lookup x=some .cell)->xs.length=aL.length->cs.length=aL.length->(∀(j i:Nat),aL[j]? = some i->∃ d,σd[i]? = some (some d)/\cs[j]? = some d) ->
  ∃ cvs,aH X.K H cs cvs/\lK s.heap X.env.cells xs cvs
 |[],[],[],_,_,_,_=>⟨[],.nil,.nil⟩
 |x::xs,c::aL,d::cs,hx,h1,h2,hg=>by
  obtain⟨cvs,rr,cc⟩:=AX I r xs aL cs (fun j y e=>by simpa using hx (j+1) y (by simpa using e)) (by simpa using h1) (by simpa using h2) (fun j i e=>by simpa using hg (j+1) i (by simpa using e))
  obtain⟨i,e1,e2,e3⟩:=hx 0 x rfl
  cases e1
  obtain⟨d',e4,e5⟩:=hg 0 c rfl
  cases e5
  obtain⟨v,e6,e7⟩:=r.2 c d e4
  obtain⟨m,hn,hl⟩:=I.loc
  obtain⟨u,rv,l⟩:=hl c x v e2 e6 (.inr (.inl e3))
  rcases l with⟨hk,_⟩|⟨_,cl,hc,o,ho,hd⟩
  ·have hk:X.env.scope.names.lookup x=some .local:=hk
   rw[e3]at hk;cases hk
  ·exact⟨v::cvs,.cons e7 rr,.cons cl o u hc ho hd rv cc⟩
 |[],_::_,_,_,h1,_,_=>by simp at h1
 |_::_,[],_,_,h1,_,_=>by simp at h1
 |[],[],_::_,_,_,h2,_=>by simp at h2
 |_::_,_::_,[],_,_,h2,_=>by simp at h2
end
theorem LK {h h':Heap}{cells:List (Str×Addr)}{xs:List Str}{vs:List V}(c:lK h cells xs vs)(k:∀ x cl o u,cells.lookup x=some cl->h.get? cl=some o->o.data=.cell u->h'.get? cl=some o):lK h' cells xs vs:=by
 induction c with
 |nil=>exact .nil
 |cons cl o u l q d r t ih=>exact .cons cl o u l (k _ _ _ _ l q d) d r ih
noncomputable def OH (clos:List (Str×Addr))(xs:List Str):List Addr:=xs.filterMap fun x=>clos.lookup x
noncomputable def hX (H:Hp)(h:Heap)(a:Addr)(fo:Obj)(l:List Addr):Hp:=fun b=>if b=a then some (.frz fo (.frz fo (.own a)))else if b∈l then(h.get? b).map fun o=>.frz o (.own a)else H b
noncomputable def wX (H:Hp)(l:List Addr):Hp:=fun b=>if b∈l then none else H b
section
variable {H:Hp}{h:Heap}{a b:Addr}{fo:Obj}{l:List Addr}
theorem G1:hX H h a fo l a=some (.frz fo (.frz fo (.own a))):=by unfold hX;rw[if_pos rfl]
theorem FL {o:Obj}(n:b≠a)(m:b∈l)(e:h.get? b=some o):hX H h a fo l b=some (.frz o (.own a)):=by unfold hX;rw[if_neg n,if_pos m,e];rfl
theorem uO (n:b≠a)(m:b∉l):hX H h a fo l b=H b:=by unfold hX;rw[if_neg n,if_neg m]
theorem MU (m:b∈l):wX H l b=none:=by unfold wX;rw[if_pos m]
theorem oX (m:b∉l):wX H l b=H b:=by unfold wX;rw[if_neg m]
theorem HA {clos:List (Str×Addr)}{xs ys:List Str}{vs:List V}(c:lK h clos xs vs)(na:∀ x cl,clos.lookup x=some cl->cl≠a)(sub:∀ x∈xs,x∈ys):iB (hX H h a fo (OH clos ys)) a clos xs vs:=by
 induction c with
 |nil=>exact .nil
 |cons cl o u l q d r t ih =>
 refine .cons cl o u l (FL (na _ _ l) ?_ q) d r (ih fun x hx=>sub x (List.mem_cons_of_mem _ hx))
 exact List.mem_filterMap.mpr ⟨_,sub _ (List.mem_cons_self ..),l⟩
end
end L3
end
section
namespace L3
open PySem PySem.Spec PyProof.Rows L2
noncomputable def rD (mg:Str->Option Value)(base:Heap):Prop:=∃ bm ob,mg "__builtins__" = some (.ref bm)/\bm≠builtinsNs/\base.get? bm=some ob/\ob.cls=.type "module" /\ ob.dict=some builtinsNs/\ob.data=.plain
section
variable {X:Cx}{pins:List (Addr×Obj)}{σ:L2.St}{H:Hp}{s:Shared}
theorem PM {P:Addr}{κ:CK}{T:jF}{clos:List (Str×Addr)}{lpos:Pos}{Q:Value->Shared->Prop}{E:Value->Shared->Prop}(I:Inv X pins σ H s)(hR:K2 X.K H P κ)(hBm:rD X.mg X.base)(hq:T.q=X.env.qual ++"<lambda>")(hκ:T.q=⟨κ.q.toArray⟩)(hln:κ.ln=lpos.line)(hcol:κ.col=lpos.col)(hcode:X.env.code=.ref κ.c)
  (hcl:closureFor T.scope X.env=pure clos)(hdef:defaultsOf T.params X.env=([],[]))
  (h:∀(pm ctv:Value)(c' a:Addr)(oc:Obj)(s':Shared)(H':Hp),Inv X pins σ H' s'->s'.os=s.os->s'.heap.get? a=some (PySem.W.kla_obj "<lambda>" T.q T.params T.body T.scope clos pm c' ctv)->H' a=none->H a=none->s.heap.objs.size<=a->H' c'=some (.frz oc (.own 0))->LL oc T.q->K2 X.K H' P κ ->
   (∀ b y,b≠P->H b=some y->H' b=some y)->(∀ b o,b≠P->s.heap.get? b=some o->s'.heap.get? b=some o)->Q (.ref a) s'):
  wpAny (model X.prog X.w) X.A (eval (.Lambda T.params T.body T.scope lpos) X.env) Q E s:=by
 obtain⟨hhd,hps⟩:=hR
 have hg:s.heap.Ns mainGlobals X.mg:=I.mod.glob.keeps I.bk
 have C:PySem.W.CodeHd s.heap κ.c P:=PySem.W.codeHd_of_K I.hU hhd
 have hPs:∃ ps,H P=some (.tbl ps):=by
  rcases hps with q|⟨_,_,q,_⟩
  ·exact⟨_,q⟩
  ·exact⟨_,q⟩
 have hne:∀{b:Addr}{o:Obj},X.base.get? b=some o->b≠P:=fun{b o} e z=>by
  obtain⟨ps,q⟩:=hPs
  have:=(I.bs b o e).2
  rw[z,q]at this;cases this
 have hgP:mainGlobals≠P:=by
  obtain⟨o,_,_,e,_⟩:=I.mod.glob
  exact hne e
 have hB:s.heap.BuiltinsAt X.mg P:=by
  obtain⟨bm,ob,b1,b2,b3,b4,b5,b6⟩:=hBm
  refine⟨bm,ob,b1,b2,fun z=>?_,hne b3,I.bk _ _ b3,b4,b5,b6⟩
  obtain⟨o,es,ep,e,hd,_⟩:=I.mod.glob
  rw[z,e]at b3;cases b3;rw[hd]at b6;cases b6
 refine PySem.W.kla_eval hdef ?_
 rw[<-hq]
 rcases hps with q|⟨c',oc,q,ec,co⟩
 ·have hP:s.heap.get? P=some (PySem.W.tabObj #[]):=I.bH P _ q
  refine PySem.W.kla_makeFunction (mg:=X.mg) hcl I.ok.glob hg hcode C hP True.intro rfl hgP hB fun c' ctv h' tk hx hge cN hrec htb=>?_
  obtain⟨c2,oc,vs,t,e2,hoc,hd,hv⟩:=hrec
  cases e2
  have hc0:H c'=none:=I.bH.fresh hge
  have cP:c'≠P:=fun z=>by rw[z,q]at hc0;cases hc0
  have hszle:s.heap.objs.size<=h'.objs.size:=Nat.le_trans hge (Nat.le_of_lt cN)
  have ha0:H h'.objs.size=none:=I.bH.fresh hszle
  have aP:h'.objs.size≠P:=fun z=>by rw[z,q]at ha0;cases ha0
  have ac:h'.objs.size≠c':=Nat.ne_of_gt cN
  have ko:∀ b o,b≠P->s.heap.get? b=some o->(h'.push (PySem.W.kla_obj "<lambda>" T.q T.params T.body T.scope clos ((X.mg "__name__").getD .none) c' ctv)).get? b=some o:=fun b o n e=>Heap.get?_push_of_some _ (hx b o n e)
  have kH:∀ b y,b≠P->H b=some y->upd (upd H P (.tbl #[rawInt lpos.line,rawInt lpos.col,.ref c'])) c' (.frz oc (.own 0)) b=some y:=fun b y n e=>by
   rw[aY (fun z=>by rw[z,hc0]at e;cases e),aY n];exact e
  have kN:∀ b,b≠P->b≠c'->H b=none->upd (upd H P (.tbl #[rawInt lpos.line,rawInt lpos.col,.ref c'])) c' (.frz oc (.own 0)) b=none:=fun b n n' e=>by rw[aY n',aY n];exact e
  have hPn:upd (upd H P (.tbl #[rawInt lpos.line,rawInt lpos.col,.ref c'])) c' (.frz oc (.own 0)) P=some (.tbl #[rawInt lpos.line,rawInt lpos.col,.ref c']):=by rw[aY cP.symm,cY]
  have nP:∀{b},H b=none->b≠P:=fun{b} n z=>by rw[z,q]at n;cases n
  refine h _ ctv c' h'.objs.size oc _ _ (I.un (t':=tk) (H':=upd (upd H P (.tbl #[rawInt lpos.line,rawInt lpos.col,.ref c'])) c' (.frz oc (.own 0))) ⟨fun b o e n _ _=>ko b o (nP n) e,fun b o e n _ _=>⟨o.slots,ko b o (nP n) e⟩,fun b o e n _=>kN b (nP n) (Nat.ne_of_lt (Nat.lt_of_lt_of_le (Heap.lt_size e) hge)) n,fun b o e _=>?_,fun b xs e=>kH b _ (fun z=>by rw[z,q]at e;cases e) e,fun b o u e=>kH b _ (fun z=>by rw[z,q]at e;cases e) e,fun b ps e=>?_⟩ (fun b o e=>?_)) rfl (Heap.get?_push_size _ rfl) (kN _ aP ac ha0) ha0 hszle cY ⟨vs,t,hd,hv⟩ ⟨hhd,.inr ⟨c',oc,?_,cY,by rw[<-hκ];exact⟨vs,t,hd,hv⟩⟩⟩ kH ko
  ·by_cases z:b=P
   ·subst z;exact⟨_,Heap.get?_push_of_some _ htb⟩
   ·exact⟨o,ko b o z e⟩
  ·by_cases z:b=P
   ·subst z
    rw[q]at e;cases e
    exact⟨#[rawInt lpos.line,rawInt lpos.col,.ref c'],hPn⟩
   ·exact⟨#[],by rw[kH b _ z e];simp⟩
  ·by_cases z:b=c'
   ·subst z
    rw[cY]at e;cases e
    exact⟨Heap.get?_push_of_some _ hoc,oc,Heap.get?_push_of_some _ hoc⟩
   ·rw[aY z]at e
    by_cases z2:b=P
    ·subst z2
     rw[cY]at e;cases e
     exact Heap.get?_push_of_some _ htb
    ·rw[aY z2]at e
     refine(I.bH b o e).nZ (fun c v hc w=>ko c v ?_ w) (fun b' w=>kH b' _ (fun z=>by rw[z,q]at w;cases w) w) fun b' xs w=>kH b' _ (fun z=>by rw[z,q]at w;cases w) w
     rcases hc with rfl|hc
     ·exact z2
     ·exact fun z=>by rw[z,q]at hc;cases hc
  ·rw[hPn,hln,hcol]
 ·have hP:s.heap.get? P=some (PySem.W.tabObj #[rawInt κ.ln,rawInt κ.col,.ref c']):=I.bH P _ q
  have hf:codeAmong lpos (#[rawInt κ.ln,rawInt κ.col,.ref c']:Array Value).toList=some (.ref c'):=by rw[hln,hcol];simp [codeAmong,rawInt]
  refine PySem.W.kla_makeFunctionHit (mg:=X.mg) hcl I.ok.glob hg hcode C hP True.intro hf hB fun ctv h' tk hk jH=>?_
  have ha0:H h'.objs.size=none:=I.bH.fresh jH
  refine h _ ctv c' h'.objs.size oc _ H (I.kept (t':=tk) fun b o e=>Heap.get?_push_of_some _ (hk b o e)) rfl (Heap.get?_push_size _ rfl) ha0 ha0 jH ec (by rw[hκ];exact co) ⟨hhd,.inr ⟨c',oc,q,ec,co⟩⟩ (fun _ _ _ e=>e) fun b o _ e=>Heap.get?_push_of_some _ (hk b o e)
end
end L3
end
section
namespace L3
open PySem PySem.Spec PyProof.Rows L2
theorem KN {h:Heap}{cells clos:List (Str×Addr)}{xs:List Str}{vs:List V}(c:lK h cells xs vs)(k:∀ x∈xs,clos.lookup x=cells.lookup x):lK h clos xs vs:=by
 induction c with
 |nil=>exact .nil
 |cons cl o u l q d r t ih=>exact .cons cl o u (by rw[k _ (List.mem_cons_self ..)];exact l) q d r (ih fun x hx=>k x (List.mem_cons_of_mem _ hx))
theorem GU {cells:List (Str×Addr)}{L:List Str}:∀(names:List (Str×NameKind))(cs:List (Str×Addr)){x:Str}{c:Addr},(∀ p∈names,p.2=.free->p.1∈L)->(∀ x c,cs.lookup x=some c->x∈L)->(jQ cells names cs).lookup x=some c->x∈L
 |[],cs,x,c,_,h,e=>h x c e
 |(n,k)::r,cs,x,c,hn,h,e=>by
  simp only[jQ]at e
  refine GU r _ (fun p hp=>hn p (List.mem_cons_of_mem _ hp)) (fun y d ed=>?_) e
  split at ed
  ·rename_i hk
   rw[List.lookup_cons]at ed
   split at ed
   ·rename_i q
    have q:y=n:=by simpa using q
    rw[q];exact hn (n,k) (List.mem_cons_self ..) (by simpa using hk)
   ·exact h y d ed
  ·exact h y d ed
theorem NO {h:Heap}{cells:List (Str×Addr)}{xs:List Str}{vs:List V}(c:lK h cells xs vs):∀ x∈xs,∃ cl o u,cells.lookup x=some cl/\h.get? cl=some o/\o.data=.cell (some u):=by
 induction c with
 |nil=>intro x hx;cases hx
 |cons cl o u l q d r t ih =>
 intro x hx
 rcases List.mem_cons.mp hx with rfl|hx
 ·exact⟨cl,o,u,l,q,d⟩
 ·exact ih x hx
section
variable {X:Cx}{C:aW}{sub:Nat->Nat->Bool}{k fid g:Nat}{f:Addr}{fd:FuncData}{ps:List Str}{n:Str}{p pos lpos:Pos}{e1 e2:Expr}{x1 x2:Ex}{T:jF}{aL:List Nat}{κ:CK}
theorem UX (F:eI X.prog X.w X.K X.mg X.base dB k f fd ps (eR X.K C fid))(hr:cK k X.A)(hg:Gl X n)(hm:X.mg n=some (.ref f))(hk:PySem.W.keepIn X.K (.ref f)=true)(hb:Binds X.K fd ps [])
  (h1:PE X e1 (bM X.K (aG C sub (fun _ _=>False) x1)))(h2:PE X e2 (bM X.K (aG C sub (fun _ _=>False) x2)))(hBm:rD X.mg X.base)(hT:LT g=some T)(hq:T.q=X.env.qual ++"<lambda>")(hκ:T.q=⟨κ.q.toArray⟩)(hln:κ.ln=lpos.line)(hcol:κ.col=lpos.col)(hcode:X.env.code=.ref κ.c)
  (hfn:∀ x,X.fn x=true)(hfree:∀ p∈T.scope.names,p.2=.free->p.1∈T.aL)(hcapf:∀ x∈T.aL,T.scope.names.lookup x=some .free)(hcap:∀(j:Nat)(x:Str),T.aL[j]? = some x->∃ i,aL[j]? = some i/\X.N[i]? = some x/\X.env.scope.names.lookup x=some .cell)(hlen:T.aL.length=aL.length)
  (hdef:defaultsOf T.params X.env=([],[]))(hdb:(n==("__debug__" : Str))=false)(he:starEach [e1,e2,.Lambda T.params T.body T.scope lpos] X.env=[(false,eval e1 X.env),(false,eval e2 X.env),(false,eval (.Lambda T.params T.body T.scope lpos) X.env)])(he2:starEach [e2,.Lambda T.params T.body T.scope lpos] X.env=[(false,eval e2 X.env),(false,eval (.Lambda T.params T.body T.scope lpos) X.env)]):
  PE X (.Call (.Name n p) [e1,e2,.Lambda T.params T.body T.scope lpos] [] pos) (bM X.K (aG C sub (fun _ _=>False) (.callL fid [x1,x2] g aL κ))):=by
 intro pins s σ H Q I ⟨σd,st,R,r,ok,q,hq0⟩
 refine wpAny_Call_Name_kw (xR I hg hm ?_ hdb)
 refine PySem.W.callWith_K (h₀:=X.base) I.ok.mod.kin hk ?_ (by rw[he,he2]) (by rw[he2];rfl)
 rw[he]
 show wpAny _ _ (spliced [(false,eval e1 X.env),(false,eval e2 X.env),(false,eval (.Lambda T.params T.body T.scope lpos) X.env)]) _ _ s
 refine Calls.spliced_cons (aV (h1 pins s σ H _ I ⟨σd,st,_,r,ok,q,fun v H' z=>z⟩) fun u1 s1 z=>?_)
 obtain⟨v1,H1,I1,rv1,d1,aC,ss1,aN,rd1,q1⟩:=z
 have r1:=r.step ok ss1
 refine Calls.spliced_cons (aV (h2 pins s1 σ H1 _ I1 ⟨σd,aC,_,r1,aN,q1,fun v H' z=>z⟩) fun u2 s2 z=>?_)
 obtain⟨v2,H2,I2,rv2,d2,aF,ss2,bO,rd2,q2⟩:=z
 have r2:=r1.step aN ss2
 obtain⟨⟨P,eP⟩,q3⟩:=q2
 obtain⟨cs,cl1,cl2,q4⟩:=CT q3
 obtain⟨cvs,rcs,cH⟩:=AX I2 r2 T.aL aL cs hcap hlen cl1 cl2
 have hcellsX:∀ p∈T.scope.names,p.2=.free->∃ c,X.env.cells.lookup p.1=some c:=fun p hp hf=>by
  obtain⟨j,hj⟩:=List.getElem?_of_mem (hfree p hp hf)
  obtain⟨i,_,_,e⟩:=hcap j _ hj
  exact I2.ok.has _ (.inl e)
 generalize hclos:jQ X.env.cells T.scope.names []=clos
 have hcl:closureFor T.scope X.env=pure clos:=by rw[<-hclos];exact nT hcellsX
 have csub:∀ x c,clos.lookup x=some c->X.env.cells.lookup x=some c:=fun x c e=>by rw[<-hclos]at e;exact jJ _ _ hcellsX (fun _ _ z=>by simp at z) e
 have chas:∀ x∈T.aL,clos.lookup x=X.env.cells.lookup x:=fun x hx=>by
  obtain⟨c,e⟩:=tD (cells:=X.env.cells) T.scope.names [] (hcapf x hx)
  rw[hclos]at e
  rw[e,csub x c e]
 have cdom:∀ x c,clos.lookup x=some c->x∈T.aL:=fun x c e=>by
  rw[<-hclos]at e
  exact GU T.scope.names [] (fun p hp hf=>hfree p hp hf) (fun x c z=>by simp at z) e
 have hCod:K2 X.K H2 P κ:=bO P _ eP
 refine Calls.spliced_cons (PM I2 hCod hBm hq hκ hln hcol hcode hcl hdef fun pm ctv c' a oc s3 H3' I3 os3 ea na na2 asz ec co hCod3 kH ko=>?_)
 refine Calls.spliced_nil ⟨I3.hU,?_⟩
 obtain⟨psP,hP2⟩:∃ ps,H2 P=some (.tbl ps):=by
  obtain⟨_,z|⟨_,_,z,_⟩⟩:=hCod
  ·exact⟨_,z⟩
  ·exact⟨_,z⟩
 have sizeP:∀ x c,X.env.cells.lookup x=some c->H2 c=none/\H3' c=none/\c≠a/\c≠P:=fun x c e=>by
  have h2:=I2.jG x c e
  have h3:=I3.jG x c e
  obtain⟨v,o,ho,_⟩:=I2.cell x c e
  refine⟨h2,h3,fun z=>?_,fun z=>?_⟩
  ·have cN:=Heap.lt_size ho
   rw[z]at cN
   exact absurd (Nat.lt_of_lt_of_le cN asz) (Nat.lt_irrefl _)
  ·rw[z,hP2]at h2;cases h2
 have ne0:a≠0:=fun z=>by
  have cN:=I2.lt
  rw[z]at asz
  exact absurd (Nat.lt_of_lt_of_le cN asz) (Nat.not_lt_zero _)
 have cH3:lK s3.heap clos T.aL cvs:=LK (KN cH chas) fun x cl o u e h0 _=>ko cl o (sizeP x cl (csub x cl e)).2.2.2 h0
 generalize hfo:PySem.W.kla_obj "<lambda>" T.q T.params T.body T.scope clos pm c' ctv=fo at ea
 generalize hl:OH clos T.aL=l
 have lmem:∀ c∈l,∃ x o,X.env.cells.lookup x=some c/\s3.heap.get? c=some o:=fun c hc=>by
  rw[<-hl]at hc
  obtain⟨x,hx,e⟩:=List.mem_filterMap.mp hc
  obtain⟨cl,o,u,e2,e3,_⟩:=NO cH3 x hx
  rw[e]at e2;cases e2
  exact⟨x,o,csub x c e,e3⟩
 have lH:∀ c∈l,H2 c=none/\H3' c=none/\c≠a/\c≠P:=fun c hc=>by
  obtain⟨x,_,e,_⟩:=lmem c hc
  exact sizeP x c e
 have nl:∀{b y},H3' b=some y->b≠a/\b∉l:=fun{b y} e=>⟨(fun z=>by rw[z,na]at e;cases e),(fun z=>by rw[(lH b z).2.1]at e;cases e)⟩
 have k3:∀{b y},H3' b=some y->hX H3' s3.heap a fo l b=some y:=fun{b y} e=>by rw[uO (nl e).1 (nl e).2];exact e
 have k23:∀{b y},b≠P->H2 b=some y->hX H3' s3.heap a fo l b=some y:=fun{b y} n e=>k3 (kH b y n e)
 have hst2:aF a=none:=bO.fresh na2
 have stepS:Step H2 aF (hX H3' s3.heap a fo l) (put aF a (.fn g cs)):=fun b o e nn=>by
  have ba:b≠a:=fun z=>by rw[z,na2]at e;cases e
  exact⟨k23 (fun z=>by rw[z,eP]at nn;cases nn) e,by rw[bK ba];exact nn⟩
 have e3:=I3.K4
 have nO:aQ X.K (put aF a (.fn g cs)) (hX H3' s3.heap a fo l):=fun b o e=>by
  by_cases ba:b=a
  ·subst ba
   rw[bA]at e;cases e
   refine⟨cvs,⟨T,clos,pm,ctv,c',oc,ne0,hT,by rw[hfo];exact G1,k3 ec,co,fun x y c h1 h2=>I2.ok.inj x y c (csub x c h1) (csub y c h2),cdom,?_⟩,rcs.step bO stepS⟩
   rw[<-hl]
   exact HA cH3 (fun x cl e=>(sizeP x cl (csub x cl e)).2.2.1) fun x hx=>hx
  ·rw[bK ba]at e
   by_cases bP:b=P
   ·subst bP
    rw[eP]at e;cases e
    obtain⟨z0,z|⟨c2,oc2,z1,z2,z3⟩⟩:=hCod3
    ·exact⟨z0,.inl (k3 z)⟩
    ·exact⟨z0,.inr ⟨c2,oc2,k3 z1,k3 z2,z3⟩⟩
   ·obtain⟨o',z,_⟩:=(bO b o e).bears
    exact(bO b o e).step bO stepS (by rw[k23 bP z,z])
 have env3:rB X.prog X.w X.K X.mg X.base X.A X.stack s3 (hX H3' s3.heap a fo l):=by
  refine⟨e3.frames,e3.mod,fun b o e=>⟨(e3.bs b o e).1,?_⟩,e3.bsz,e3.kB,fun b hb=>?_,fun b o e=>?_,e3.bare⟩
  ·have b1:b≠a:=fun z=>by
    have cN:=Heap.lt_size (I2.bk b o e)
    rw[z]at cN
    exact absurd (Nat.lt_of_lt_of_le cN asz) (Nat.lt_irrefl _)
   have b2:b∉l:=fun z=>by
    obtain⟨x,_,ex,_⟩:=lmem b z
    have cN:=Heap.lt_size (I2.ok.bs b o e).1
    exact absurd (Nat.lt_of_lt_of_le cN (I2.ok.cab x b (hfn x) ex)) (Nat.lt_irrefl _)
   rw[uO b1 b2];exact(e3.bs b o e).2
  ·have b1:b≠a:=fun z=>by
    obtain⟨_,o,ho,_⟩:=I2.stack.mem hb
    have cN:=Heap.lt_size ho
    rw[z]at cN
    exact absurd (Nat.lt_of_lt_of_le cN asz) (Nat.lt_irrefl _)
   have b2:b∉l:=fun z=>by
    obtain⟨x,_,ex,_⟩:=lmem b z
    rcases List.mem_cons.mp (I2.AI b hb)with e|hb
    ·exact I2.CS x b ex e
    ·obtain⟨_,o,ho,_⟩:=I2.ok.kB.mem hb
     exact absurd (Nat.lt_of_lt_of_le (Heap.lt_size ho) (I2.ok.cab x b (hfn x) ex)) (Nat.lt_irrefl _)
   rw[uO b1 b2];exact e3.frf b hb
  ·by_cases ba:b=a
   ·subst ba
    rw[G1]at e;cases e
    exact⟨ea,ea,fo,ea⟩
   ·by_cases bl:b∈l
    ·obtain⟨x,ob,_,eb⟩:=lmem b bl
     rw[FL ba bl eb]at e;cases e
     exact⟨eb,ob,eb⟩
    ·rw[uO ba bl]at e
     exact(I3.bH b o e).nZ (fun _ _ _ q=>q) (fun b' q=>k3 q) fun b' xs q=>k3 q
 have rr:aH X.K (hX H3' s3.heap a fo l) [d1,d2,.ref a] [v1,v2,.ref a]:=.cons ((rd1.step aN ss2).step bO stepS) (.cons (rd2.step bO stepS) (.cons (.ref a) .nil))
 have vv:aO [v1,v2,.ref a] [u1,u2,.ref a]:=.cons rv1 (.cons rv2 (.cons rfl .nil))
 have hsp:eR X.K C fid [v1,v2,.ref a] (hX H3' s3.heap a fo l) (fun v H'=>QD X.K (hX H3' s3.heap a fo l) (put aF a (.fn g cs)) (fun d aB=>R d (del aB a)) v H') E0:=⟨[d1,d2,.ref a],_,_,rr,nO,q4 a hst2,fun v H' z=>z⟩
 have hlen3:([u1,u2,.ref a]:List Value).length=ps.length:=by rw[<-vv.length];exact F.len _ _ _ _ hsp
 refine wpAny_call (codeAny_mono (F.run X.A X.stack s3 _ ⟨[u1,u2,.ref a],[]⟩ [u1,u2,.ref a] [v1,v2,.ref a] _ E0 hr env3 (hb s3 [u1,u2,.ref a] I3.hU (by rw[List.append_nil];exact hlen3)) vv hsp) fun rs s4 hq4=>?_)
 cases rs with
 |error e=>exact False.elim hq4
 |ok fl =>
  cases fl with
  |next=>exact False.elim hq4
  |brk=>exact False.elim hq4
  |cont=>exact False.elim hq4
  |ret u =>
   obtain⟨v,H4,os4,bare4,un,hok4,rv4,z4⟩:=hq4
   obtain⟨d,dI,s34,JX,r4,q5⟩:=z4
   have h4a:H4 a=some (.frz fo (.frz fo (.own a))):=un.mB a _ _ G1
   have h4l:∀ c∈l,∃ o,s3.heap.get? c=some o/\H4 c=some (.frz o (.own a))/\s4.heap.get? c=some o:=fun c hc=>by
    obtain⟨x,o,_,eo⟩:=lmem c hc
    have h:=un.mB c _ _ (FL (lH c hc).2.2.1 hc eo)
    exact⟨o,eo,h,(hok4 c _ h).1⟩
   have nb:∀{b y},H3' b=some y->b∉a::l:=fun{b y} e z=>by
    rcases List.mem_cons.mp z with z|z
    ·exact(nl e).1 z
    ·exact(nl e).2 z
   have keepO:∀ b o,s3.heap.get? b=some o->H3' b=none->(b∈a::l->s4.heap.get? b=some o):=fun b o e n z=>by
    rcases List.mem_cons.mp z with z|z
    ·subst z;rw[ea]at e;cases e;exact(hok4 b _ h4a).1
    ·obtain⟨o',e1,_,e2⟩:=h4l b z
     rw[e]at e1;cases e1;exact e2
   have lo:∀{b},b∉a::l->hX H3' s3.heap a fo l b=H3' b:=fun{b} z=>uO (fun w=>z (by rw[w];exact List.mem_cons_self ..)) fun w=>z (List.mem_cons_of_mem _ w)
   have kp:Kp H4 (wX H4 (a::l)) a:=fun b y e n1 n2=>by
    rw[oX];·exact e
    intro z
    rcases List.mem_cons.mp z with z|z
    ·rw[z,h4a]at e;exact n2 _ _ (Option.some.inj e).symm
    ·obtain⟨o,_,h,_⟩:=h4l b z
     rw[h]at e;exact n1 _ (Option.some.inj e).symm
   have I4:Inv X pins σ (wX H4 (a::l)) s4:=by
    refine I3.RN (ch:=[]) os4 ⟨fun b o e n hb hx=>?_,fun b o e n hb hx=>?_,fun b o e n hx=>?_,fun b o e hx=>un.there b o e hx,fun b xs e=>?_,fun b o u e=>?_,fun b ps e=>?_⟩ (fun b o e=>?_) bare4 (fun b z=>absurd z (by simp))
    ·by_cases z:b∈a::l
     ·exact keepO b o e n z
     ·exact un.keep b o e (by rw[lo z];exact n) hb hx
    ·by_cases z:b∈a::l
     ·exact⟨o.slots,keepO b o e n z⟩
     ·exact un.slot b o e (by rw[lo z];exact n) hb hx
    ·by_cases z:b∈a::l
     ·exact MU z
     ·rw[oX z];exact un.free b o e (by rw[lo z];exact n) hx
    ·rw[oX (nb e)];exact un.pX b xs (k3 e)
    ·rw[oX (nb e)];exact un.mB b o u (k3 e)
    ·rw[oX (nb e)];exact un.oB b ps (k3 e)
    ·by_cases z:b∈a::l
     ·rw[MU z]at e;cases e
     ·rw[oX z]at e
      exact(hok4 b o e).nZ (fun _ _ _ q=>q) (fun b' q=>kp b' _ q (fun _ z=>nomatch z) (fun _ _ z=>nomatch z)) fun b' xs q=>kp b' _ q (fun _ z=>nomatch z) (fun _ _ z=>nomatch z)
   refine⟨v,_,I4,rv4,hq0 v _ (.after ss1 (.after ss2 ⟨d,del dI a,fun b o e nn=>?_,fun b o e=>?_,r4.to kp,q5⟩))⟩
   ·obtain⟨z1,z2⟩:=stepS b o e nn
    obtain⟨z3,z4⟩:=s34 b o z1 z2
    have ba:b≠a:=fun z=>by rw[z,na2]at e;cases e
    have bl:b∉a::l:=fun z=>by
     rcases List.mem_cons.mp z with z|z
     ·exact ba z
     ·rw[(lH b z).1]at e;cases e
    exact⟨by rw[oX bl];exact z3,by rw[zI ba];exact z4⟩
   ·obtain⟨z1,z2⟩:=JV e
    exact IB kp ne0 z2 (JX b o z1)
end
end L3
end
section
namespace L3
open PySem PySem.Spec PyProof.Rows L2
theorem MG {P:Program}{w:World}{K:PySem.W.Frag}{mg mb:Str->Option Value}{k:Nat}{fa a:Addr}{fd:FuncData}{x:Str}{sp:Sp}{s₁:Shared}{vs:List Value}{ns:List Int}{tabs:List (CK×Addr)}
  (KX:K.In s₁.heap)(hns:s₁.heap.Ns mainGlobals mg)(hb:s₁.heap.Ns builtinsNs mb)(hbb:∀ x:Str,x ≠"__name__" -> mb x=bootBuiltins x)(hlim:s₁.heap.NoLimit)(hg:s₁.gens = #[])
  (hB:rD mg s₁.heap)(t1:∀ p∈tabs,s₁.heap.get? p.2=some { cls:=.none,data:=.fields #[] })(t2:∀ p∈tabs,PySem.W.codeHdIn K p.1.c p.2=true)(t3:∀ p∈tabs,K.lookup p.2=none)
  (ha:s₁.heap.get? a=some { cls:=.type "list", data:=.seq vs.toArray })(hi:IntsAre vs ns)(hl:ns.length<=sizeLine)(hr:cK k callerA)
  (F:∀ base:Heap,K.In base->base.Ns mainGlobals mg->rD mg base->eI P w K mg base dB k fa fd [x] sp)(hbind:∀(s:Shared)(u:Value),BindsTo s fd ⟨[u],[]⟩ [(x,u)])
  (hsp:∀ H:Hp,(∀ p∈tabs,H p.2=some (.tbl #[]))->kQ K H a (ns.map V.int)->sp [.ref a] H (fun v _=>v=.bl true) fun _ _ _=>False):
  codeAny (model P w) callerA (.call (.ref fa) ⟨[.ref a],[]⟩) (fun r s'=>r=.ok (.ret (.bool true))/\OldK s₁.heap s'.heap/\s'.os=s₁.os/\AllBare s'.gens) s₁:=by
 have rv:=C5 hi
 have lenV:=hi.length
 have aT:∀ p∈tabs,p.2≠a:=fun p hp z=>by
  have:=t1 p hp
  rw[z,ha]at this;cases this
 have core:∀ H:Hp,(∀ p∈tabs,H p.2=some (.tbl #[]))->kQ K H a (ns.map V.int)->fS P w H s₁.heap->(∀ b,H b≠none->b=a∨∃ p∈tabs,b=p.2)->(∀ b u,H b=some u->(∃ o xs,u=.frz o xs)∨∃ p∈tabs,b=p.2)->(H a≠none->K.lookup a=none) ->
   codeAny (model P w) callerA (.call (.ref fa) ⟨[.ref a],[]⟩) (fun r s'=>r=.ok (.ret (.bool true))/\OldK s₁.heap s'.heap/\s'.os=s₁.os/\AllBare s'.gens) s₁:=by
  intro H hT hS bH hA hO hK
  have base_of:∀{b:Addr}{o:Obj},s₁.heap.get? b=some o->H b=none->(qZ s₁.heap H).get? b=some o:=fun e n=>O6 e n
  have noK:∀{b:Addr}{o:Obj},K.lookup b=some o->H b=none:=fun{b o} e=>by
   cases q:H b with
   |none=>rfl
   |some u =>
    rcases hA b (by rw[q];simp)with z|⟨p,hp,z⟩
    ·subst z
     rw[hK (by rw[q];simp)]at e;cases e
    ·subst z
     rw[t3 p hp]at e;cases e
  have noA:∀{b:Addr}{o:Obj},s₁.heap.get? b=some o->(∀ xs,o.data≠.seq xs)->(∀ ps,o.data≠.fields ps)->H b=none:=fun{b o} e d1 d2=>by
   cases q:H b with
   |none=>rfl
   |some u =>
    rcases hA b (by rw[q];simp)with z|⟨p,hp,z⟩
    ·subst z
     rw[ha]at e;cases e
     exact absurd rfl (d1 _)
    ·subst z
     rw[t1 p hp]at e;cases e
     exact absurd rfl (d2 _)
  have nsK:∀{b:Addr}{m:Str->Option Value},s₁.heap.Ns b m->(qZ s₁.heap H).Ns b m:=fun{b m} ⟨o,es,ep,e,d,r⟩=>⟨o,es,ep,base_of e (noA e (fun _ z=>by rw[d]at z;cases z) (fun _ z=>by rw[d]at z;cases z)),d,r⟩
  have hKb:K.In (qZ s₁.heap H):=fun b o e=>base_of (KX b o e) (noK e)
  have hBb:rD mg (qZ s₁.heap H):=by
   obtain⟨bm,ob,b1,b2,b3,b4,b5,b6⟩:=hB
   exact⟨bm,ob,b1,b2,base_of b3 (noA b3 (fun _ z=>by rw[b6]at z;cases z) (fun _ z=>by rw[b6]at z;cases z)),b4,b5,b6⟩
  have hM:Mod K mg (qZ s₁.heap H):=⟨hKb,nsK hns,⟨mb,nsK hb,hbb⟩,let⟨mc,h1,h2⟩:=hlim;⟨mc,nsK h1,h2⟩⟩
  have e0:rB P w K mg (qZ s₁.heap H) callerA [] s₁ H:=⟨rfl,hM,fun b o e=>SH e,Nat.le_of_eq (OE _ _),trivial,fun b hb=>absurd (show b∈([]:List Addr)from hb) (by simp),bH,.of_eq hg⟩
  refine codeAny_mono ((F _ hKb (nsK hns) hBb).run callerA [] s₁ H ⟨[.ref a],[]⟩ [.ref a] [.ref a] _ _ hr e0 (hbind s₁ (.ref a)) (.cons rfl .nil) (hsp H hT hS)) fun r s' h=>?_
  cases r with
  |error e=>exact h.elim
  |ok fl =>
   cases fl with
   |next=>exact False.elim h
   |brk=>exact False.elim h
   |cont=>exact False.elim h
   |ret u =>
    obtain⟨v,H',os,bare,un,hok',r',q⟩:=h
    have q':v=.bl true:=q
    subst q'
    obtain rfl:u=Value.bool true:=r'
    have tb:∀ p∈tabs,∃ more,s'.heap.get? p.2=some { cls:=.none,data:=.fields (#[]++more) }:=fun p hp=>by
     obtain⟨more,z⟩:=un.oB p.2 _ (hT p hp)
     exact⟨more,hok' _ _ z⟩
    have fr:∀ b o,s₁.heap.get? b=some o->(¬∃ p∈tabs,b=p.2)->s'.heap.get? b=some o:=fun b o e nt=>by
     cases q:H b with
     |none=>exact un.keep b o e q (by intro z;exact absurd (show b∈([]:List Addr)from z) (by simp)) (by simp)
     |some u =>
      rcases hO b u q with⟨ob,xs,z⟩|z
      ·subst z
       have z2:=un.mB b ob _ q
       obtain⟨e1,_⟩:=bH b _ q
       obtain⟨e2,_⟩:=hok' b _ z2
       rw[e]at e1;cases e1
       exact e2
      ·exact absurd z nt
    refine⟨rfl,⟨fun b o e=>?_,fun b o e=>?_⟩,os,bare⟩
    ·by_cases h:∃ p∈tabs,b=p.2
     ·obtain⟨p,hp,z⟩:=h
      subst z
      obtain⟨more,z⟩:=tb p hp
      rw[t1 p hp]at e;cases e
      obtain⟨oc,ws,_,_,_,_,_,_,_,c1,c2,c3,c4,_⟩:=PySem.W.codeHd_of_K KX (t2 p hp)
      exact .inr (.inl ⟨⟨_,oc,ws,c1,c2,c3,c4⟩,rfl,#[],more,rfl,z⟩)
     ·exact .inl (fr b o e h)
    ·by_cases h:∃ p∈tabs,b=p.2
     ·obtain⟨p,hp,z⟩:=h
      subst z
      obtain⟨more,z⟩:=tb p hp
      exact⟨_,z⟩
     ·exact⟨o,fr b o e h⟩
 have tn:∀ b,b∈tabs.map (·.2)->∃ p∈tabs,b=p.2:=fun b hb=>by
  obtain⟨p,hp,z⟩:=List.mem_map.mp hb
  exact⟨p,hp,z.symm⟩
 have na:a∉tabs.map (·.2):=fun z=>by
  obtain⟨p,hp,e⟩:=tn a z
  exact aT p hp e.symm
 cases hk:K.lookup a with
 |some o =>
  have e:=KX a o hk
  rw[ha]at e
  cases e
  refine core (fun b=>if b∈tabs.map (·.2)then some (.tbl #[])else none) (fun p hp=>if_pos (List.mem_map.mpr ⟨p,hp,rfl⟩)) (.inr ⟨_,vs.toArray,_,hk,rfl,rfl,rfl,by rw[List.size_toArray,lenV];exact hl,by simpa using rv⟩) (fun b u z=>?_) (fun b z=>?_) (fun b u z=>?_) fun z=>absurd (if_neg na) z
  ·by_cases hb:b∈tabs.map (·.2)
   ·have z':=(if_pos hb).symm.trans z
    cases z'
    obtain⟨p,hp,e⟩:=tn b hb
    subst e
    exact t1 p hp
   ·have z':=(if_neg hb).symm.trans z
    cases z'
  ·by_cases hb:b∈tabs.map (·.2)
   ·exact .inr (tn b hb)
   ·exact absurd (if_neg hb) z
  ·by_cases hb:b∈tabs.map (·.2)
   ·exact .inr (tn b hb)
   ·have z':=(if_neg hb).symm.trans z
    cases z'
 |none =>
  refine core (fun b=>if b∈tabs.map (·.2)then some (.tbl #[])else if b=a then some (.frz { cls:=.type "list", data:=.seq vs.toArray } (.lst (ns.map V.int)))else none) (fun p hp=>if_pos (List.mem_map.mpr ⟨p,hp,rfl⟩)) (.inl ⟨{ cls:=.type "list", data:=.seq vs.toArray },(if_neg na).trans (if_pos rfl)⟩) (fun b u z=>?_) (fun b z=>?_) (fun b u z=>?_) fun _=>hk
  ·by_cases hb:b∈tabs.map (·.2)
   ·have z':=(if_pos hb).symm.trans z
    cases z'
    obtain⟨p,hp,e⟩:=tn b hb
    subst e
    exact t1 p hp
   ·have z1:=(if_neg hb).symm.trans z
    by_cases hb:b=a
    ·have z':=(if_pos hb).symm.trans z1
     cases z'
     subst hb
     exact⟨ha,by rw[List.length_map];exact hl,vs,_,rv,ha⟩
    ·have z':=(if_neg hb).symm.trans z1
     cases z'
  ·by_cases hb:b∈tabs.map (·.2)
   ·exact .inr (tn b hb)
   ·by_cases hb2:b=a
    ·exact .inl hb2
    ·exact absurd ((if_neg hb).trans (if_neg hb2)) z
  ·by_cases hb:b∈tabs.map (·.2)
   ·exact .inr (tn b hb)
   ·have z1:=(if_neg hb).symm.trans z
    by_cases hb2:b=a
    ·have z':=(if_pos hb2).symm.trans z1
     cases z'
     exact .inl ⟨_,_,rfl⟩
    ·have z':=(if_neg hb2).symm.trans z1
     cases z'
theorem S5 {K:PySem.W.Frag}{G:Prog}{k f:Nat}{tabs:List (CK×Addr)}(t2:∀ p∈tabs,PySem.W.codeHdIn K p.1.c p.2=true)(h:∀(ns:List Int)(st:aA),ns.length<=63->(∀ p∈tabs,∃ P,st P=some (.cod p.1))->aM G k f [.bF (ns.map .int)] st (fun d _=>d=.bl true) fun _ _=>False)(dj:(tabs.map (·.2)).Nodup)(H:Hp)(a:Addr)(ns:List Int)(hl:ns.length<=63)(hT:∀ p∈tabs,H p.2=some (.tbl #[]))(hF:kQ K H a (ns.map V.int)):
  eR K (aM G k) f [.ref a] H (fun v _=>v=.bl true) fun _ _ _=>False:=by
 have ri:∀ ns:List Int,aH K H (ns.map .int) (ns.map V.int):=fun ns=>by
  induction ns with
  |nil=>exact .nil
  |cons i r ih=>exact .cons (.int i) ih
 refine⟨[.bF (ns.map .int)],fun b=>(tabs.find? fun p=>p.2==b).map fun p=>.cod p.1,fun d _=>d=.bl true,.cons (.bF hF (ri ns)) .nil,fun b o e=>?_,h ns _ hl fun p hp=>⟨p.2,?_⟩,fun v H' ⟨d,aB,_,_,r,q⟩=>?_⟩
 ·obtain⟨p,e1,e2⟩:=Option.map_eq_some_iff.mp e
  have hp:=List.mem_of_find?_eq_some e1
  have hb:=List.find?_some e1
  have hb:p.2=b:=by simpa using hb
  subst hb
  cases e2
  exact⟨t2 p hp,.inl (hT p hp)⟩
 ·have key:∀(l:List (CK×Addr)),(l.map (·.2)).Nodup->∀ p∈l,(l.find? fun q=>q.2==p.2)=some p:=fun l=>by
   induction l with
   |nil=>intro _ p hp;cases hp
   |cons q r ih =>
    intro nd p hp
    rw[List.map_cons,List.nodup_cons]at nd
    rcases List.mem_cons.mp hp with z|hp
    ·subst z;simp
    ·rw[List.find?_cons_of_neg]
     ·exact ih nd.2 p hp
     ·intro z
      exact nd.1 (List.mem_map.mpr ⟨p,hp,(by simpa using z:q.2=p.2).symm⟩)
  show(List.find? (fun q=>q.2==p.2) tabs).map _=_
  rw[key tabs dj p hp];rfl
 ·subst q
  exact r.eO
theorem Cu {l:PySem.W.OpenLaw}{q:Program}{loose:List Str}{XP:(Str->Option Value)->Heap->Prop}{YP:World->Heap->Prop}{d:DefRec}{K:Params->PySem.W.Frag}{G:Prog}{r k f:Nat}{x:Str}{tabs:List (CK×Addr)}(hr:cK r callerA)(P4:∀(ns:List Int)(st:aA),ns.length<=63->(∀ p∈tabs,∃ P,st P=some (.cod p.1))->aM G k f [.bF (ns.map .int)] st (fun d _=>d=.bl true) fun _ _=>False)(dj:(tabs.map (·.2)).Nodup)(hn:l.most=some 63)(hdf:d.params.defaults=[])
 (hY:∀(w:World)(h:Heap),YP w h->(K w.params).In h)
 (hY2:∀(w:World)(h:Heap),YP w h->∀ p∈tabs,h.get? p.2=some { cls:=.none,data:=.fields #[] })
 (t2:∀(w:World)(p:CK×Addr),p∈tabs->PySem.W.codeHdIn (K w.params) p.1.c p.2=true)(t3:∀(w:World)(p:CK×Addr),p∈tabs->List.lookup p.2 (K w.params)=none)
 (F:∀(w:World)(mg:Str->Option Value)(fa:Addr)(h:Heap),(K w.params).In h->h.Ns mainGlobals mg->mg d.name=some (.ref fa) ->
  ∃ fd:FuncData,(∀(s:Shared)(u:Value),BindsTo s fd ⟨[u],[]⟩ [(x,u)])/\∀ base:Heap,(K w.params).In base->base.Ns mainGlobals mg->rD mg base->eI l.prog w (K w.params) mg base dB r fa fd [x] (eR (K w.params) (aM G k) f)):
 PySem.W.WalkO q loose XP YP l.row.toRowW d [] (fun f vs=>PySem.call f vs):=by
 refine Att.HM hn hdf fun w s₀ s₁ mg mb fa o pm cd doc a vs ns G Y ho hd hcd hmg hobj hints hlen hg=>?_
 have KX:=hY w _ Y
 obtain⟨fd,hb,hF⟩:=F w mg fa _ KX G.T.g hmg
 exact MG (tabs:=tabs) KX G.T.g G.T.b G.T.builtins G.T.nolimit hg G.T.bmain (hY2 w _ Y) (t2 w) (t3 w) hobj hints (Nat.le_trans hlen (by decide)) hr hF hb fun H hT hS=>S5 (t2 w) P4 dj H a ns hlen hT hS
end L3
end
section
namespace L3
open PySem PySem.Spec PyProof.Rows L2
theorem WQ {P:Program}{w:World}{K:PySem.W.Frag}{mg:Str->Option Value}{base:Heap}{G:Prog}{r k f:Nat}{fn:Fn}{x qual:Str}{st:Stmt}{a c:Addr}{fd:FuncData}{N ps:List Str}(F:vF K x qual st a fd)(hc:fd.code=.ref c)(S:kX N ps (aJ st))
  (hG:G.fns f=some fn)(hp:fn.np=ps.length)(hl:fn.nl=N.length)
  (hb:∀(A:Around)(outer:List Env)(s:Shared)(H:Hp)(E:L2.XK),cK r (A.deeper (envOfC qual (aJ st) s.heap.objs.size a (.ref c))) ->
   sP (dY dB P w K mg base N qual (aJ st) a (.ref c) A outer s H E).gT (aM G k) G.sub (eH st) fn.body):
  eI P w K mg base dB (r+1) a fd ps (eR K (aM G (k+1)) f):=by
 obtain⟨oc,od,kV,doc,pm,an,bD,ct,osl,rfl,lk,hcd⟩:=F.ex
 have hc:bD=.ref c:=hc
 subst hc
 refine R7 lk hcd S (fun vs H Q E h=>?_) fun A outer s H vs Q E hr h=>?_
 ·obtain⟨ds,aB,R,r,_,h,_⟩:=h
  simp only[aM,hG]at h
  rw[<-r.length,h.1,hp]
 ·obtain⟨ds,aB,R,r,ok,h,hq⟩:=h
  simp only[aM,hG]at h
  refine⟨_,(hb A outer s H E hr).h.gT,?_⟩
  refine⟨start fn.np fn.nl ds,aB,_,?_,ok,h.2,⟨fun σ' H' dF aX sr s' eQ q=>?_,fun v H' z=>hq v H' z,fun _ _ _ _ _ _ _ q=>q,fun _ _ _ _ _ _ _ q=>q,fun _ _ _ q=>q⟩⟩
  ·rw[hl];exact DO r h.1
  ·exact hq _ _ ⟨.non,aX,s',eQ,.non,q⟩
structure LV (X:Cx)(C:aW):Prop where
 h:∃ k,(∀ f T,LT f=some T->mS X.prog X.w X.K X.mg X.base k C f)/\cK k X.A
theorem Q6 {P:Program}{w:World}{K:PySem.W.Frag}{mg:Str->Option Value}{base:Heap}{G:Prog}{f:Nat}:mS P w K mg base 0 (aM G 0) f :=
 fun _ _ _ _ _ _ _ _ _ _ _ _ _ _ _ _ _ _ _ _ _ _ h=>False.elim h
section
variable {X:Cx}{C:aW}{sub:Nat->Nat->Bool}{E:XK}{e e1 e2 lam:Expr}{es:List Expr}{x1 x2:Ex}{xs:List Ex}{p pos lpos:Pos}{n:Str}{fid g:Nat}{T:jF}{aL:List Nat}{κ:CK}
theorem Jj (i:Nat)(hN:X.N[i]? = some n:=by kernel_rfl)(hv:X.env.scope.names.lookup n=some .free:=by kernel_rfl)(hd:(n==("__debug__" : Str))=false:=by kernel_rfl)
 (hcd:(n==("__classdict__" : Str))=false:=by kernel_rfl):JE X C sub E (.Name n pos) (.v i):=⟨KD (pv i hN (.inr (.inr hv)) hd hcd)⟩
theorem Jx (i:Nat)(L:LV X C)(ha:JA X C sub EF (e::es) xs)(hN:X.N[i]? = some n:=by kernel_rfl)(hv:X.env.scope.names.lookup n=some .local:=by kernel_rfl)
 (hd:(n==("__debug__" : Str))=false:=by kernel_rfl)(hcd:(n==("__classdict__" : Str))=false:=by kernel_rfl)(he:starEach (e::es) X.env=(false,eval e X.env)::starEach es X.env:=by kernel_rfl)(cS:(backTo pos (starEach es X.env)).any (·.1)=false:=by kernel_rfl):
 JE X C sub EF (.Call (.Name n p) (e::es) [] pos) (.cv i xs):=⟨let⟨k,h1,h2⟩:=L.h;Fv h1 h2 hN (.inl hv) D0 ha.h hd hcd he cS⟩
noncomputable def CB (aL:List Nat)(tc:List Str)(N:List Str)(names:List (Str×NameKind)):Bool:=match aL,tc with
 |[],[]=>true
 |i::is,x::xs=>(N[i]? == some x)&&(names.lookup x==some .cell)&&CB is xs N names
 |_,_=>false
theorem E6:∀(aL:List Nat)(tc N:List Str)(names:List (Str×NameKind)),CB aL tc N names=true->(∀(j:Nat)(x:Str),tc[j]? = some x->∃ i,aL[j]? = some i/\N[i]? = some x/\names.lookup x=some .cell)/\tc.length=aL.length
 |[],[],N,names,_=>⟨fun j x e=>by simp at e,rfl⟩
 |[],_::_,_,_,h=>by simp [CB]at h
 |_::_,[],_,_,h=>by simp [CB]at h
 |i::is,y::ys,N,names,h=>by
  simp only[CB,Bool.and_eq_true,beq_iff_eq]at h
  obtain⟨⟨h1,h2⟩,h3⟩:=h
  obtain⟨q1,q2⟩:=E6 is ys N names h3
  refine⟨fun j x e=>?_,by simp [q2]⟩
  cases j with
  |zero=>simp at e;subst e;exact⟨i,rfl,h1,h2⟩
  |succ j=>simpa using q1 j x (by simpa using e)
noncomputable def DZ (T:jF):Bool:=(T.scope.names.all fun p=>!(p.2 == .free)||T.aL.contains p.1)&&T.aL.all fun x=>T.scope.names.lookup x==some .free
theorem Je {pa:Arguments}{bo:Expr}{sc:Scope}(T:jF)(h:lM X C n fid)(h1:JE X C sub EF e1 x1)(h2:JE X C sub EF e2 x2)(hB:rD X.mg X.base)(hT:LT g=some T)(hcode:X.env.code=.ref κ.c)(hfn:∀ x,X.fn x=true)
 (hl1:pa=T.params:=by kernel_rfl)(hl2:bo=T.body:=by kernel_rfl)(hl3:sc=T.scope:=by kernel_rfl)(hq:T.q=X.env.qual ++"<lambda>":=by kernel_rfl)(hκ:T.q=⟨κ.q.toArray⟩:=by kernel_rfl)(hln:κ.ln=lpos.line:=by kernel_rfl)(hcol:κ.col=lpos.col:=by kernel_rfl)
 (hf:DZ T=true:=by kernel_rfl)(hc:CB aL T.aL X.N X.env.scope.names=true:=by kernel_rfl)(hdef:defaultsOf T.params X.env=([],[]):=by kernel_rfl)(hg:X.env.kindOf n=some .globalImplicit:=by kernel_rfl)(hdb:(n==("__debug__" : Str))=false:=by kernel_rfl)
 (he:starEach [e1,e2,(.Lambda pa bo sc lpos)] X.env=[(false,eval e1 X.env),(false,eval e2 X.env),(false,eval (.Lambda pa bo sc lpos) X.env)]:=by kernel_rfl)(he2:starEach [e2,(.Lambda pa bo sc lpos)] X.env=[(false,eval e2 X.env),(false,eval (.Lambda pa bo sc lpos) X.env)]:=by kernel_rfl):
 JE X C sub EF (.Call (.Name n p) [e1,e2,(.Lambda pa bo sc lpos)] [] pos) (.callL fid [x1,x2] g aL κ):=by
 subst hl1 hl2 hl3
 obtain⟨k,f,fd,ps,q1,q2,q3,q4,q5⟩:=h.h
 obtain⟨c1,c2⟩:=E6 _ _ _ _ hc
 simp only[DZ,Bool.and_eq_true,List.all_eq_true]at hf
 refine⟨UX q1 q2 hg q3 q4 q5 h1.h h2.h hB hT hq hκ hln hcol hcode hfn (fun p hp hf'=>?_) (fun x hx=>by simpa using hf.2 x hx) c1 c2 hdef hdb he he2⟩
 have:=hf.1 p hp
 rw[hf']at this
 simpa using this
end
noncomputable def rP (K:PySem.W.Frag)(mg:Str->Option Value)(n q:Str)(st:Stmt)(at_:At)(oc:Option Addr):Prop:=∃ a fd,vF K n q st a fd/\QH K mg n a at_/\∀ c,oc=some c->fd.code=.ref c
theorem qC.YG {K:PySem.W.Frag}{mg:Str->Option Value}{n q:Str}{st:Stmt}{at_:At}(h:qC K mg n q st at_):rP K mg n q st at_ none:=let⟨a,fd,h1,h2⟩:=h;⟨a,fd,h1,h2,fun _ z=>nomatch z⟩
theorem WH {K:PySem.W.Frag}{h:Heap}{mg:Str->Option Value}(X:K.In h)(G:h.Ns mainGlobals mg){n:Str}{st:Stmt}{f c:Addr}{oc:Value}{od an:Option Addr}{sl:Array (Option Value)}{kV dc pm ct:Value}
 (a:PySem.W.nsIn K mainGlobals n=some (some (.ref f)))(l:K.lookup f=some ⟨oc,od,.func (PySem.W.fnOf n n (jW st) (eH st) (aJ st) .none kV dc pm an (.ref c) ct),sl⟩)(cc:PySem.W.codeIn K (.ref c) n=true)(k:PySem.W.keepIn K (.ref f)=true):rP K mg n n st .top (some c) :=
 ⟨f,_,AV l cc k,PySem.W.mg_of X G a,fun _ z=>by cases z;rfl⟩
theorem G8 {K:PySem.W.Frag}{mg:Str->Option Value}{nm qn:Nat->Str}{ps:Nat->List Str}{st:Nat->Stmt}{at_:Nat->At}{cd:Nat->Option Addr}:∀(nf:Nat),(∀ i,i<nf->BS (nm i) (qn i) (ps i) (st i))->(∀ i,i<nf->rP K mg (nm i) (qn i) (st i) (at_ i) (cd i))->FuncData->∃ T:BD K mg nf nm qn ps st at_,∀ i,i<nf->∀ c,cd i=some c->(T.fd i).code=.ref c
 |0,_,_,d=>⟨⟨fun _=>0,fun _=>d,fun i h=>absurd h (by omega),fun i h=>absurd h (by omega),fun i h=>absurd h (by omega)⟩,fun i h=>absurd h (by omega)⟩
 |nf+1,B,H,d=>by
  obtain⟨T,hc⟩:=G8 nf (fun i h=>B i (by omega)) (fun i h=>H i (by omega)) d
  obtain⟨a,fd,hF,hm,hcd⟩:=H nf (by omega)
  refine⟨⟨fun i=>if i=nf then a else T.a i,fun i=>if i=nf then fd else T.fd i,fun i h=>?_,fun i h=>?_,fun i h=>?_⟩,fun i h=>?_⟩
  ·by_cases e:i=nf
   ·subst e;simpa using hF
   ·simpa only[if_neg e]using T.fn i (by omega)
  ·by_cases e:i=nf
   ·subst e;simpa using hF.binds (B i (by omega))
   ·simpa only[if_neg e]using T.bi i (by omega)
  ·by_cases e:i=nf
   ·subst e;simpa using hm
   ·simpa only[if_neg e]using T.mg i (by omega)
  ·by_cases e:i=nf
   ·subst e;simpa using hcd
   ·simpa only[if_neg e]using hc i (by omega)
theorem BK {P:Program}{w:World}{K:PySem.W.Frag}{mg:Str->Option Value}{base:Heap}{G:Prog}{nf:Nat}{nm qn:Nat->Str}{ps:Nat->List Str}{st:Nat->Stmt}{at_:Nat->At}(T:BD K mg nf nm qn ps st at_)
 (step:∀ k,(∀ i,i<nf->eI P w K mg base dB (2*k) (T.a i) (T.fd i) (ps i) (eR K (aM G k) i))->(∀ f Tx,LT f=some Tx->mS P w K mg base (2*k) (aM G k) f)->(∀ i,i<nf->eI P w K mg base dB (2*k+1+1) (T.a i) (T.fd i) (ps i) (eR K (aM G (k+1)) i))/\∀ f Tx,LT f=some Tx->mS P w K mg base (2*k+1+1) (aM G (k+1)) f):
 ∀ k,(∀ i,i<nf->eI P w K mg base dB (2*k) (T.a i) (T.fd i) (ps i) (eR K (aM G k) i))/\∀ f Tx,LT f=some Tx->mS P w K mg base (2*k) (aM G k) f
 |0=>⟨fun i _=>TN,fun f Tx _=>Q6⟩
 |k+1=>step k (BK T step k).1 (BK T step k).2
end L3
end
section
namespace L3
open PySem PySem.Spec PyProof.Rows L2
theorem xZ {α β:Type}[BEq α] [LawfulBEq α]:∀{l:List (α×β)}{a:α}{b:β},l.lookup a=some b->(a,b)∈l
 |[],_,_,h=>by cases h
 |(x,y)::r,a,b,h=>by
  rw[List.lookup_cons]at h
  split at h
  ·rename_i q
   have q:a=x:=by simpa using q
   subst q
   cases h
   exact List.mem_cons_self ..
  ·exact List.mem_cons_of_mem _ (xZ h)
theorem O5 {T:jF}(h1:T.scope.kind=.function:=by kernel_rfl)(h2:T.scope.isCoroutine=false:=by kernel_rfl)(h3:T.scope.isGenerator=false:=by kernel_rfl)(h4:(T.scope.names.all fun p=>!(p.2 == .cell))=true:=by kernel_rfl)(h5:(T.aL++T.ps).Nodup:=by decide +kernel)(h6:(T.ps.all fun x=>T.scope.names.lookup x==some .local)=true:=by kernel_rfl)(h7:DZ T=true:=by kernel_rfl):LM T:=by
 simp only[DZ,Bool.and_eq_true,List.all_eq_true]at h7
 rw[List.all_eq_true]at h4 h6
 refine⟨h1,h2,h3,fun x hx z=>?_,h5,fun x hx=>by simpa using h6 x hx,fun x hx=>?_,fun x hx=>by simpa using h7.2 x hx⟩
 ·have:=h4 x hx
  rw[z]at this
  simp at this
 ·have:=h7.1 _ (xZ hx)
  simpa using this
end L3
end
section
open L3 PySem
local macro_rules|`(tactic| walk_at"wpe")=>`(tactic| simp only[↓GR,↓CO,↓Dn,↓Dq,↓LA,↓An,↓Cr,↓VN,↓Ao,↓Fy,↓Eh,↓Az,↓YW,↓WI,↓Ef,↓WX,↓yT,↓Hy,↓Bn,↓XX,↓Bx,↓Ia,↓Ew,↓Ir,↓VJ,↓UN,↓OS,↓ZC,↓Ci,↓Eu,↓Cs,↓Ed,↓MZ,↓IY,↓Bj,↓ZT,↓Dd,↓sM,↓WS,↓YU,↓ZL,↓MC,↓XG,↓YK,↓VL,↓wZ,↓Dj,↓Ck,↓B9,↓W0,↓Gz,↓Hz,↓Ht,↓Gi,↓Ic,↓Hi,↓Gk,↓Iw,↓Bs,↓Bt,↓Bw,↓Be,↓V3,↓UB,↓SS,↓U4,↓PQ,↓Y4,↓ZH,↓YO,↓ZQ,↓cmp_gt,↓W9,↓TY,↓TH,↓O2,↓O0,↓KQ,↓HE,↓LF,↓HB,↓GF,↓HD,↓add_int,↓add_str,↓U9,↓JM,↓sub_int,↓mul_int,↓SR,↓P0,↓mod_int,↓pow_int,↓neg_int,↓UQ,↓SG,gP,↓jS,↓HY,↓E7,↓UY,Hc,Hg,Gm,Fx,Im,↓bQ,↓OA,↓WT,↓Y0,↓GV,↓Z8,Di,↓UH,↓PY,↓QO,↓NT,↓pR,↓rO,↓BM,↓QY,↓JY,↓LI,↓UW,↓LR,↓U2,↓FA,↓len_str,↓JF,↓M8,↓MA,↓SU,↓Ae,↓ZO,↓Z3,↓IV,↓GL,↓ZM,↓UM,↓CW,↓V1,↓W7,↓U1,↓QM,↓V7,↓VD,↓TB,↓A1,↓J6,↓UC,↓qI,↓vM,↓GI,↓JL,↓Y8,↓NA,List.map_cons,List.map_nil,List.cons_append,List.nil_append,List.replicate,List.append_nil,if_true,if_false,Bool.not_true,Bool.not_false,Bool.false_eq_true,reduceIte,List.set_cons_zero,List.set_cons_succ,true_and,and_true,tQ,KR,M0,K6,C4,DF,ED,C9,gH,TV,W4,S8,Option.getD_some,List.getElem?_cons_zero,List.getElem?_cons_succ,decide_eq_true_eq,Bool.and_eq_true,List.zip_cons_cons,List.zip_nil_left,List.zip_nil_right,List.foldl_cons,List.foldl_nil,List.length_cons,List.length_nil])
local macro_rules|`(tactic| walk_at"st")=>`(tactic| ((try dsimp only);(first|refine fI ?_|rw[M7]);(try walk_at"wpe")))
local macro_rules|`(tactic| walk_at"ex")=>`(tactic| ((try dsimp only);(try walk_at"wpe")))
section
namespace L3
open PySem
theorem bC {G:Prog}{f k:Nat}{fn:Fn}{ds:List D}{st:aA}{Q:VK}{E:XK}(h:G.fns f=some fn):aM G (k+1) f ds st Q E=(ds.length=fn.np/\cL (aM G k) G.sub fn.body ⟨fun _ aB=>Q .non aB,Q,fun _ _=>False,fun _ _=>False,fun c _ aB=>E c aB⟩ (start fn.np fn.nl ds) st):=by
 simp only[aM,h]
noncomputable def cB (as:List Nat)(st aB:aA):Prop:=∀ a o,a∉as->st a=some o->aB a=some o
theorem cB.refl {as:List Nat}{st:aA}:cB as st st:=fun _ _ _ h=>h
theorem cB.trans {as:List Nat}{a b c:aA}(h:cB as a b)(h':cB as b c):cB as a c:=fun x o n e=>h' x o n (h x o n e)
theorem cB.mono {as bs:List Nat}{st aB:aA}(h:cB as st aB)(s:∀ a∈as,a∈bs):cB bs st aB:=fun x o n e=>h x o (fun z=>n (s x z)) e
theorem Ext.keep {as:List Nat}{st aB:aA}(h:Ext st aB):cB as st aB:=fun x o _ e=>h x o e
theorem cB.put {as:List Nat}{st:aA}{a:Nat}{o:MO}(h:a∈as):cB as st (put st a o):=fun x u n e=>by rw[bK (fun z=>n (by rw[z];exact h))];exact e
noncomputable def sS (ns:List Int)(k:Int):Int:=if k<ns.length then(ns[k.toNat]?).getD 0 else if ns=[]then 0 else(ns[(k % ns.length).toNat]?).getD 0*31+k
noncomputable def pC (ns:List Int)(k many:Int):Int :=
 let d:=(sS ns k+7919*k+1)*48271 % 2147483647
 (d*d+7*d+k) % 2147483629 % many
theorem mH {ns:List Int}{k many:Int}(h:0<many):0<=pC ns k many:=Int.emod_nonneg _ (by omega)
theorem mO {ns:List Int}{k many:Int}(h:0<many):pC ns k many<many:=Int.emod_lt_of_pos _ h
noncomputable def qF:Fn:=⟨2,2,[.iff (.cmp .lt (.v 1) (.bi .len [(.v 0)])) [.ret (.ix (.v 0) (.v 1))] [],.iff (.cmp .eq (.v 0) (.lst [])) [.ret (.c (.int 0))] [],
 .ret (.bin .add (.bin .mul (.ix (.v 0) (.bin .mod (.v 1) (.bi .len [(.v 0)]))) (.c (.int 31))) (.v 1))]⟩
noncomputable def pV (ic:Nat):Fn:=⟨3,4,[.asg (.nm 3) (.bin .mod (.bin .mul (.bin .add (.bin .add (.call ic [(.v 0),(.v 1)]) (.bin .mul (.c (.int 7919)) (.v 1))) (.c (.int 1))) (.c (.int 48271))) (.c (.int 2147483647))),
 .ret (.bin .mod (.bin .mod (.bin .add (.bin .add (.bin .mul (.v 3) (.v 3)) (.bin .mul (.c (.int 7)) (.v 3))) (.v 1)) (.c (.int 2147483629))) (.v 2))]⟩
noncomputable def AO (im:Nat):Fn:=⟨3,3,[.asg (.ix (.v 1) (.c (.int 0))) (.bin .add (.ix (.v 1) (.c (.int 0))) (.c (.int 1))),.ret (.call im [(.v 0),(.ix (.v 1) (.c (.int 0))),(.v 2)])]⟩
theorem zO (ns:List Int):bV (ns.map .int)=true/\cX (ns.map .int)=0:=by
 induction ns with
 |nil=>exact⟨rfl,rfl⟩
 |cons n r ih=>exact⟨by simp only[List.map_cons,bV,bR,ih.1,Bool.and_self],by simp only[List.map_cons,cX,cQ,ih.2,Nat.max_self]⟩
theorem JH {ns:List Int}{k:Int}(h0:0<=k)(h1:k<ns.length):eJ (ns.map D.int) k=some (.int ((ns[k.toNat]?).getD 0)):=by
 obtain⟨n,rfl⟩:∃ n:Nat,k=n:=⟨k.toNat,by omega⟩
 rw[dW (by simp;omega)]
 simp only[List.getElem?_map,Int.toNat_natCast]
 rw[List.getElem?_eq_getElem (by omega)]
 rfl
section
variable {G:Prog}{k ic im iJ:Nat}{st:aA}{Q:VK}{E:XK}{ns:List Int}
theorem UK (hc:G.fns ic=some qF){i:Int}(hi:0<=i)(hQ:∀ aB,Ext st aB->Q (.int (sS ns i)) aB):aM G (k+1) ic [.bF (ns.map .int),.int i] st Q E:=by
 rw[bC hc]
 simp only[qF,start]
 refine⟨rfl,?_⟩
 refine fI ?_
 walk_at"wpe"
 simp only[List.length_map]
 by_cases h:i<ns.length
 ·simp only[h,decide_true,if_true]
  refine fI ?_
  walk_at"wpe"
  rw[JH hi h]
  walk_at"wpe"
  have:=hQ st .refl
  simp only[sS,h,if_true]at this
  exact this
 ·simp only[h,decide_false,Bool.false_eq_true,if_false,aE]
  refine fI ?_
  walk_at"wpe"
  refine⟨Nat.zero_le _,fun p hp=>?_⟩
  have hx:Ext st (put st p (.lst [])):=Ext.new hp
  dsimp only
  have e1:bN (put st p (.lst [])) (.bF (ns.map .int)) (.ref p)=ns.isEmpty:=by
   simp only[bN,bA,DH]
   cases ns with
   |nil=>rfl
   |cons n r=>rfl
  rw[e1]
  refine⟨⟨?_,Nat.zero_le _⟩,⟨?_,Nat.zero_le _⟩,?_⟩
  ·simp only[fM,(zO ns).1,(zO ns).2,Bool.true_and];rfl
  ·simp only[fM,bA,RC];rfl
  cases ns with
  |nil =>
   simp only[List.isEmpty_nil,if_true]
   refine fI ?_
   walk_at"wpe"
   have:=hQ _ hx
   simp only[sS,h,if_false,if_true]at this
   exact this
  |cons n r =>
   simp only[List.isEmpty_cons,Bool.false_eq_true,if_false,aE]
   refine fI ?_
   have hl:(0:Int)<((n::r).length:Int):=by simp only[List.length_cons];omega
   simp only[MC,LA,yT,CO,GR,WI,IY,MZ,Y6,XH,LR,FA,mod_int,HY,List.length_map,List.map_cons,List.cons_append,List.nil_append,List.map_nil]
   refine⟨by simpa using hl,?_⟩
   have hm0:0<=i % ((n::r).length:Int):=Int.emod_nonneg _ (by omega)
   have hm1:i % ((n::r).length:Int)<(n::r).length:=Int.emod_lt_of_pos _ hl
   have:=JH (ns:=n::r) hm0 hm1
   simp only[List.map_cons,List.length_cons]at this
   simp only[List.length_cons,List.length_map]
   rw[this]
   walk_at"wpe"
   refine⟨.inr ⟨by omega,by omega⟩,?_⟩
   have:=hQ _ hx
   simp only[sS,h,if_false]at this
   simpa using this
theorem yS (hm:G.fns im=some (pV ic))(hc:G.fns ic=some qF){i many:Int}(hi:0<=i)(hmany:0<many)(hQ:∀ aB,Ext st aB->Q (.int (pC ns i many)) aB):aM G (k+2) im [.bF (ns.map .int),.int i,.int many] st Q E:=by
 rw[bC hm]
 simp only[pV,start]
 refine⟨rfl,?_⟩
 refine fI ?_
 walk_at"wpe"
 refine UK hc hi fun aB e=>?_
 walk_at"wpe"
 refine⟨.inl ⟨by omega,by omega⟩,.inr ⟨by omega,by omega⟩,by omega,?_⟩
 refine fI ?_
 walk_at"wpe"
 have d0:0<=(sS ns i+7919*i+1)*48271 % 2147483647:=Int.emod_nonneg _ (by omega)
 have d1:(sS ns i+7919*i+1)*48271 % 2147483647<2147483647:=Int.emod_lt_of_pos _ (by omega)
 refine⟨.inl ⟨by omega,by omega⟩,.inl ⟨by omega,by omega⟩,by omega,hmany,?_⟩
 exact hQ aB e
theorem mI (hn:G.fns iJ=some (AO im))(hm:G.fns im=some (pV ic))(hc:G.fns ic=some qF){a:Nat}{i many:Int}(ha:st a=some (.lst [.int i]))(hi:0<=i)(hmany:0<many)
 (hQ:∀ aB,cB [a] st aB->aB a=some (.lst [.int (i+1)])->Q (.int (pC ns (i+1) many)) aB):aM G (k+3) iJ [.bF (ns.map .int),.ref a,.int many] st Q E:=by
 rw[bC hn]
 simp only[AO,start]
 refine⟨rfl,?_⟩
 refine fI ?_
 walk_at"wpe"
 rw[gM ha]
 walk_at"wpe"
 rw[aK ha]
 have e0:lG [D.int i].length 0=some 0:=rfl
 simp only[e0,bQ,List.set_cons_zero]
 refine fI ?_
 walk_at"wpe"
 rw[gM bA]
 walk_at"wpe"
 refine yS hm hc (by omega) hmany fun aB e=>?_
 refine hQ aB (fun x o n h=>e x o (by rw[bK (by simpa using n)];exact h)) (e a _ bA)
end
end L3
end
section
namespace L3
open PySem
inductive W1 where
 |not|before|once|sofar
 deriving DecidableEq
inductive W2 where
 |and|or|aV|same|since
 deriving DecidableEq
inductive Sy where
 |yes|no|cI (n:List Nat)|one (w:W1)(s:Sy)|two (w:W2)(s t:Sy)
 deriving DecidableEq
noncomputable def c1:W1->List Nat
 |.not=>W "not"
 |.before=>W "before"
 |.once=>W "once"
 |.sofar=>W "sofar"
noncomputable def c2:W2->List Nat
 |.and=>W "and"
 |.or=>W "or"
 |.aV=>W "then"
 |.same=>W "same"
 |.since=>W "since"
noncomputable def toD:Sy->D
 |.yes=>.tup [.str (W "yes")]
 |.no=>.tup [.str (W "no")]
 |.cI n=>.tup [.str (W "lamp"),.str n]
 |.one w s=>.tup [.str (c1 w),toD s]
 |.two w s t=>.tup [.str (c2 w),toD s,toD t]
noncomputable def aR:Sy->Nat
 |.one _ s=>aR s+1
 |.two _ s t=>max (aR s) (aR t)+1
 |_=>1
noncomputable def p1:W1->Bool
 |.not=>false
 |_=>true
noncomputable def p2:W2->Bool
 |.since=>true
 |_=>false
noncomputable def cnt:Sy->Nat
 |.one w s=>(if p1 w then 1 else 0)+cnt s
 |.two w s t=>(if p2 w then 1 else 0)+(cnt s+cnt t)
 |_=>0
noncomputable def over (names:List (List Nat)):Sy->Prop
 |.cI n=>n∈names
 |.one _ s=>over names s
 |.two _ s t=>over names s/\over names t
 |_=>True
theorem kS:∀ s:Sy,bR (toD s)=true
 |.yes=>rfl
 |.no=>rfl
 |.cI n=>rfl
 |.one w s=>by simp only[toD,bR,bV,kS s,Bool.and_self]
 |.two w s t=>by simp only[toD,bR,bV,kS s,kS t,Bool.and_self]
theorem oP:∀ s:Sy,cQ (toD s)=aR s
 |.yes=>rfl
 |.no=>rfl
 |.cI n=>rfl
 |.one w s=>by simp only[toD,cQ,cX,oP s,aR];omega
 |.two w s t=>by simp only[toD,cQ,cX,oP s,oP t,aR];omega
noncomputable def wQ (iJ is:Nat):Fn:=⟨5,7,[.asg (.nm 5) (.call iJ [(.v 0),(.v 1),(.c (.int 13))]),.iff (.or_ (.cmp .eq (.v 3) (.c (.int 0))) (.cmp .lt (.v 5) (.c (.int 3)))) [.ret (.tup [(.c (.str (W "lamp"))),(.ix (.v 2) (.call iJ [(.v 0),(.v 1),(.bi .len [(.v 2)])]))])] [],.iff (.cmp .eq (.v 5) (.c (.int 3))) [.ret (.tup [(.ix (.lst [(.c (.str (W "yes"))),(.c (.str (W "no")))]) (.call iJ [(.v 0),(.v 1),(.c (.int 2))]))])] [],.iff (.and_ (.cmp .gt (.v 5) (.c (.int 8))) (.cmp .gt (.ix (.v 4) (.c (.int 0))) (.c (.int 0)))) [.asg (.ix (.v 4) (.c (.int 0))) (.bin .sub (.ix (.v 4) (.c (.int 0))) (.c (.int 1))),.asg (.nm 6) (.call is [(.v 0),(.v 1),(.v 2),(.bin .sub (.v 3) (.c (.int 1))),(.v 4)]),.iff (.cmp .eq (.v 5) (.c (.int 12))) [.ret (.tup [(.c (.str (W "since"))),(.v 6),(.call is [(.v 0),(.v 1),(.v 2),(.bin .sub (.v 3) (.c (.int 1))),(.v 4)])])] [],.ret (.tup [(.ix (.lst [(.c (.str (W "before"))),(.c (.str (W "once"))),(.c (.str (W "sofar")))]) (.bin .sub (.v 5) (.c (.int 9)))),(.v 6)])] [],.asg (.nm 6) (.call is [(.v 0),(.v 1),(.v 2),(.bin .sub (.v 3) (.c (.int 1))),(.v 4)]),.iff (.or_ (.cmp .eq (.v 5) (.c (.int 4))) (.cmp .gt (.v 5) (.c (.int 8)))) [.ret (.tup [(.c (.str (W "not"))),(.v 6)])] [],.ret (.tup [(.ix (.lst [(.c (.str (W "and"))),(.c (.str (W "or"))),(.c (.str (W "then"))),(.c (.str (W "same")))]) (.bin .sub (.v 5) (.c (.int 5)))),(.v 6),(.call is [(.v 0),(.v 1),(.v 2),(.bin .sub (.v 3) (.c (.int 1))),(.v 4)])])]⟩
noncomputable def Drawn (a b:Nat)(i l:Int)(st aB:aA)(i' l':Int):Prop:=cB [a,b] st aB/\0<=i'/\aB a=some (.lst [.int i'])/\aB b=some (.lst [.int l'])
section
variable {G:Prog}{k ic im iJ is:Nat}{st:aA}{Q:VK}{E:XK}{ns:List Int}
theorem SO {xs:List (List Nat)}{v:Int}(h0:0<=v)(h1:v<xs.length):∃ x∈xs,eJ (xs.map D.str) v=some (.str x):=by
 obtain⟨n,rfl⟩:∃ n:Nat,v=n:=⟨v.toNat,by omega⟩
 have h:n<xs.length:=by omega
 refine⟨xs[n],List.getElem_mem h,?_⟩
 rw[dW (by simpa using h)]
 simp only[List.getElem?_map]
 rw[List.getElem?_eq_getElem h]
 rfl
theorem Bm {d:D}{r:List D}:lG (d::r).length 0=some 0:=by
 unfold lG
 rw[if_pos (by omega),if_pos (by simp only[List.length_cons];omega)]
 rfl
theorem cJ {ds:List D}{Q:VK}(hl:ds.length<=bI)(h:∀ p aB,Ext st aB->st p=none->aB p=some (.lst ds)->Q (.ref p) aB):fR ds st Q:=⟨hl,fun p hp=>h p _ (Ext.new hp) hp bA⟩
theorem NI (hs:G.fns is=some (wQ iJ is))(hn:G.fns iJ=some (AO im))(hm:G.fns im=some (pV ic))(hc:G.fns ic=some qF){names:List (List Nat)}(jZ:0<names.length){a b:Nat}(eF:a≠b):
  ∀(n:Nat){st:aA}{Q:VK}{E:XK}{i l:Int},st a=some (.lst [.int i])->st b=some (.lst [.int l])->0<=i->0<=l ->
   (∀ s aB i',over names s->aR s<=n+1->(cnt s:Int)<=l->cB [a,b] st aB->0<=i'->aB a=some (.lst [.int i'])->aB b=some (.lst [.int (l-cnt s)])->Q (toD s) aB) ->
   aM G (k+n+4) is [.bF (ns.map .int),.ref a,.tup (names.map .str),.int n,.ref b] st Q E:=by
 intro n
 have cI:∀{n:Nat}{st:aA}{Q:VK}{E:XK}{i l:Int}{K:Nat}{P:fW}{r:St},st a=some (.lst [.int i])->st b=some (.lst [.int l])->0<=i->0<=l ->
   (∀ s aB i',over names s->aR s<=n+1->(cnt s:Int)<=l->cB [a,b] st aB->0<=i'->aB a=some (.lst [.int i'])->aB b=some (.lst [.int (l-cnt s)])->P.rt (toD s) aB) ->
   cL (aM G (K+3)) G.sub [.ret (.tup [(.c (.str (W "lamp"))),(.ix (.v 2) (.call iJ [(.v 0),(.v 1),(.bi .len [(.v 2)])]))])] P (some (.bF (ns.map .int))::some (.ref a)::some (.tup (names.map .str))::r) st:=by
  intro n st Q E i l K P r ha hb hi hl hQ
  walk_at"st"
  simp only[List.length_map]
  refine mI hn hm hc ha hi (by omega) fun aC k1 a1=>?_
  walk_at"ex"
  obtain⟨x,hx,e⟩:=SO (xs:=names) (mH (ns:=ns) (k:=i+1) (many:=names.length) (by omega)) (mO (by omega))
  rw[e]
  walk_at"ex"
  have b1:aC b=some (.lst [.int l]):=k1 b _ (by simpa using eF.symm) hb
  exact hQ (.cI x) aC (i+1) hx (by simp [aR]) (by simp [cnt];omega) (k1.mono (by simp)) (by omega) a1 (by simpa [cnt]using b1)
 induction n with
 |zero =>
  intro st Q E i l ha hb hi hl hQ
  rw[bC hs]
  simp only[wQ,start]
  refine⟨rfl,?_⟩
  walk_at"st"
  refine mI hn hm hc ha hi (by omega) fun aC k1 a1=>?_
  walk_at"st"
  simp only[Int.natCast_zero,beq_self_eq_true,if_true]
  have b1:aC b=some (.lst [.int l]):=k1 b _ (by simpa using eF.symm) hb
  have kk:cB [a,b] st aC:=k1.mono (by simp)
  exact cI (n:=0) (Q:=Q) (E:=E) a1 b1 (by omega) hl fun s aB i' h1 h2 h3 h4 h5 h6 h7=>hQ s aB i' h1 h2 h3 (kk.trans h4) h5 h6 h7
 |succ n ih =>
  intro st Q E i l ha hb hi hl hQ
  rw[bC hs]
  simp only[wQ,start]
  refine⟨rfl,?_⟩
  walk_at"st"
  refine mI hn hm hc ha hi (by omega) fun aC k1 a1=>?_
  have v0:=mH (ns:=ns) (k:=i+1) (many:=13) (by omega)
  have v1:=mO (ns:=ns) (k:=i+1) (many:=13) (by omega)
  generalize pC ns (i+1) 13=v at v0 v1
  have b1:aC b=some (.lst [.int l]):=k1 b _ (by simpa using eF.symm) hb
  have kk:cB [a,b] st aC:=k1.mono (by simp)
  have hn0:(((n+1:Nat):Int)==0)=false:=by rw[beq_eq_false_iff_ne];omega
  have hn1:((n+1:Nat):Int)-1=(n:Int):=by omega
  walk_at"st"
  simp only[hn0,Bool.false_eq_true,if_false]
  by_cases h3:v<3
  ·simp only[h3,decide_true,if_true]
   exact cI (n:=n+1) (Q:=Q) (E:=E) a1 b1 (by omega) hl fun s aB i' h1 h2 h3 h4 h5 h6 h7=>hQ s aB i' h1 h2 h3 (kk.trans h4) h5 h6 h7
  simp only[h3,decide_false,Bool.false_eq_true,if_false,aE]
  walk_at"st"
  by_cases e3:v=3
  ·subst e3
   simp only[beq_self_eq_true,if_true]
   walk_at"st"
   refine cJ (by decide) fun p aF x2 hp jU=>?_
   walk_at"ex"
   have pa:p≠a:=fun z=>by rw[z,a1]at hp;cases hp
   have pb:p≠b:=fun z=>by rw[z,b1]at hp;cases hp
   refine mI hn hm hc (x2 a _ a1) (by omega) (by omega) fun bB k3 a3=>?_
   walk_at"ex"
   have w0:=mH (ns:=ns) (k:=i+1+1) (many:=2) (by omega)
   have w1:=mO (ns:=ns) (k:=i+1+1) (many:=2) (by omega)
   generalize pC ns (i+1+1) 2=w at w0 w1
   rw[gM (k3 p _ (by simpa using pa) jU)]
   have b3:bB b=some (.lst [.int l]):=k3 b _ (by simpa using eF.symm) (x2 b _ b1)
   have kk3:cB [a,b] st bB:=(kk.trans x2.keep).trans (k3.mono (by simp))
   obtain rfl|rfl:w=0∨w=1:=by omega
   ·walk_at"ex"
    exact hQ .yes bB _ trivial (by simp [aR]) (by simp [cnt];omega) kk3 (by omega) a3 (by simpa [cnt]using b3)
   ·walk_at"ex"
    exact hQ .no bB _ trivial (by simp [aR]) (by simp [cnt];omega) kk3 (by omega) a3 (by simpa [cnt]using b3)
  have e3':(v==3)=false:=by rw[beq_eq_false_iff_ne];exact e3
  simp only[e3',Bool.false_eq_true,if_false,aE]
  walk_at"st"
  have plain:∀{P:fW},(∀ s aB i',over names s->aR s<=n+1+1->(cnt s:Int)<=l->cB [a,b] st aB->0<=i'->aB a=some (.lst [.int i'])->aB b=some (.lst [.int (l-cnt s)])->P.rt (toD s) aB) ->
    cL (aM G (k+n+4)) G.sub [.asg (.nm 6) (.call is [(.v 0),(.v 1),(.v 2),(.bin .sub (.v 3) (.c (.int 1))),(.v 4)]),.iff (.or_ (.cmp .eq (.v 5) (.c (.int 4))) (.cmp .gt (.v 5) (.c (.int 8)))) [.ret (.tup [(.c (.str (W "not"))),(.v 6)])] [],.ret (.tup [(.ix (.lst [(.c (.str (W "and"))),(.c (.str (W "or"))),(.c (.str (W "then"))),(.c (.str (W "same")))]) (.bin .sub (.v 5) (.c (.int 5)))),(.v 6),(.call is [(.v 0),(.v 1),(.v 2),(.bin .sub (.v 3) (.c (.int 1))),(.v 4)])])] P [some (.bF (ns.map .int)),some (.ref a),some (.tup (names.map .str)),some (.int ((n+1:Nat):Int)),some (.ref b),some (.int v),none] aC:=by
   intro P hQ
   walk_at"st"
   rw[hn1]
   refine ih a1 b1 (by omega) hl fun s1 aF i2 o1 d1 cc1 k2 hi2 a2 b2=>?_
   walk_at"st"
   have hor:((v==4)||decide (8<v))=true∨(v=5∨v=6∨v=7∨v=8):=by
    by_cases q:v=4
    ·left;simp [q]
    ·by_cases q':8<v
     ·left;simp [q']
     ·right;omega
   rcases hor with hor|hor
   ·have go:cL (aM G (k+n+4)) G.sub [.ret (.tup [.c (.str (W "not")),.v 6])] { P with nx:=cL (aM G (k+n+4)) G.sub [.ret (.tup [(.ix (.lst [(.c (.str (W "and"))),(.c (.str (W "or"))),(.c (.str (W "then"))),(.c (.str (W "same")))]) (.bin .sub (.v 5) (.c (.int 5)))),(.v 6),(.call is [(.v 0),(.v 1),(.v 2),(.bin .sub (.v 3) (.c (.int 1))),(.v 4)])])] P } [some (.bF (ns.map .int)),some (.ref a),some (.tup (names.map .str)),some (.int ((n+1:Nat):Int)),some (.ref b),some (.int v),some (toD s1)] aF:=by
     walk_at"st"
     exact hQ (.one .not s1) aF i2 o1 (by simp only[aR];omega) (by simp [cnt,p1];omega) (kk.trans k2) hi2 a2 (by simpa [cnt,p1]using b2)
    by_cases q:v=4
    ·simp only[q,beq_self_eq_true,if_true]
     rw[q]at go;exact go
    ·have q1:(v==4)=false:=by rw[beq_eq_false_iff_ne];exact q
     have q2:8<v:=by simpa [q1]using hor
     simp only[q1,q2,Bool.false_eq_true,if_false,if_true]
     exact go
   ·have q1:(v==4)=false:=by rw[beq_eq_false_iff_ne];omega
    have q2:¬8<v:=by omega
    simp only[q1,q2,Bool.false_eq_true,if_false,aE]
    walk_at"st"
    refine cJ (by decide) fun p bB x3 hp hp3=>?_
    walk_at"ex"
    rw[gM hp3]
    have pa:p≠a:=fun z=>by rw[z,a2]at hp;cases hp
    have pb:p≠b:=fun z=>by rw[z,b2]at hp;cases hp
    have step:∀ w:W2,p2 w=false->∀{Q:VK},(∀ s aB i',over names s->aR s<=n+1+1->(cnt s:Int)<=l->cB [a,b] st aB->0<=i'->aB a=some (.lst [.int i'])->aB b=some (.lst [.int (l-cnt s)])->Q (toD s) aB) ->
      aM G (k+n+4) is [.bF (ns.map .int),.ref a,.tup (names.map .str),.int (((n+1:Nat):Int)-1),.ref b] bB (fun d aB=>Q (.tup [.str (c2 w),toD s1,d]) aB) fun c aB=>P.ex c [some (.bF (ns.map .int)),some (.ref a),some (.tup (names.map .str)),some (.int ((n+1:Nat):Int)),some (.ref b),some (.int v),some (toD s1)] aB:=by
     intro w hw Q hQ
     rw[hn1]
     refine ih (x3 a _ a2) (x3 b _ b2) hi2 (by omega) fun s2 dI i4 o2 d2 c2' k4 hi4 a4 b4=>?_
     refine hQ (.two w s1 s2) dI i4 ⟨o1,o2⟩ (by simp only[aR];omega) (by simp only[cnt,hw];simp;omega) ((kk.trans k2).trans (x3.keep.trans k4)) hi4 a4 ?_
     rw[b4];simp only[cnt,hw];simp;omega
    rcases hor with rfl|rfl|rfl|rfl
    ·walk_at"ex"; exact step .and rfl hQ
    ·walk_at"ex"; exact step .or rfl hQ
    ·walk_at"ex"; exact step .aV rfl hQ
    ·walk_at"ex"; exact step .same rfl hQ
  by_cases h8:8<v
  ·simp only[h8,if_true]
   rw[gM b1]
   walk_at"ex"
   by_cases hl0:0<l
   ·simp only[hl0,if_true]
    walk_at"st"
    rw[gM b1]
    walk_at"ex"
    rw[aK b1]
    simp only[Bm,bQ,List.set_cons_zero]
    have a2:(put aC b (.lst [.int (l-1)])) a=some (.lst [.int (i+1)]):=by rw[bK eF];exact a1
    have kp:cB [a,b] st (put aC b (.lst [.int (l-1)])):=kk.trans (cB.put (by simp))
    walk_at"st"
    rw[hn1]
    refine ih a2 bA (by omega) (by omega) fun s1 aF i2 o1 d1 cc1 k2 hi2 a3 b3=>?_
    walk_at"st"
    by_cases e12:v=12
    ·simp only[e12,beq_self_eq_true,if_true]
     walk_at"st"
     rw[hn1]
     refine ih a3 b3 hi2 (by omega) fun s2 dI i4 o2 d2 c2' k4 hi4 a4 b4=>?_
     refine hQ (.two .since s1 s2) dI i4 ⟨o1,o2⟩ (by simp only[aR];omega) (by simp [cnt,p2];omega) ((kp.trans k2).trans k4) hi4 a4 ?_
     rw[b4];simp [cnt,p2];omega
    ·have e12':(v==12)=false:=by rw[beq_eq_false_iff_ne];exact e12
     simp only[e12',Bool.false_eq_true,if_false,aE]
     walk_at"st"
     refine cJ (by decide) fun p bB x3 hp hp3=>?_
     walk_at"ex"
     rw[gM hp3]
     have fin:∀ w:W1,p1 w=true->Q (.tup [.str (c1 w),toD s1]) bB:=fun w hw=>by
      refine hQ (.one w s1) bB i2 o1 (by simp only[aR];omega) (by simp [cnt,hw];omega) ((kp.trans k2).trans x3.keep) hi2 (x3 _ _ a3) ?_
      rw[x3 _ _ b3];simp [cnt,hw];omega
     obtain rfl|rfl|rfl:v=9∨v=10∨v=11:=by omega
     ·walk_at"ex"; exact fin .before rfl
     ·walk_at"ex"; exact fin .once rfl
     ·walk_at"ex"; exact fin .sofar rfl
   ·simp only[hl0,if_false,aE]
    exact plain hQ
  ·simp only[h8,if_false,aE]
   exact plain hQ
end
end L3
end
section
namespace L3
open PySem
noncomputable def oK:List (List Nat):=[W "a", W "b", W "x", W "y", W "lamp", W "far", W "yesno", W "abcdefgh"]
noncomputable def oQ (fs gs:List (List Nat)):Bool:=decide (1<=fs.length)&&decide (fs.length<=2)&&decide (1<=gs.length)&&decide (gs.length<=2)&&decide ((fs++gs).Nodup)&&(fs++gs).all fun n=>oK.contains n
noncomputable def nW (t:Int):List (List Nat):=cut oK (some t) none++cut oK none (some t)
theorem MJ:∀(t:Fin 8)(f g:Fin 2),oQ (cut (nW (t.val:Nat)) none (some (1+(f.val:Nat)))) (cut (nW (t.val:Nat)) (some (1+(f.val:Nat))) (some (1+(f.val:Nat)+(1+(g.val:Nat)))))=true:=by decide +kernel
theorem LZ {t f g:Int}(h0:0<=t)(h1:t<8)(h2:0<=f)(h3:f<2)(h4:0<=g)(h5:g<2):oQ (cut (nW t) none (some (1+f))) (cut (nW t) (some (1+f)) (some (1+f+(1+g))))=true:=by
 have:=MJ ⟨t.toNat,by omega⟩ ⟨f.toNat,by omega⟩ ⟨g.toNat,by omega⟩
 simp only[Int.toNat_of_nonneg h0,Int.toNat_of_nonneg h2,Int.toNat_of_nonneg h4]at this
 exact this
theorem wM {α β:Type}(f:α->β)(xs:List α)(lo hi:Option Int):cut (xs.map f) lo hi=(cut xs lo hi).map f:=by
 simp only[cut,List.length_map,List.map_take,List.map_drop]
noncomputable def G3 (iJ:Nat):Fn:=⟨2,7,[.asg (.nm 2) (.lst [(.c (.str (W "a"))),(.c (.str (W "b"))),(.c (.str (W "x"))),(.c (.str (W "y"))),(.c (.str (W "lamp"))),(.c (.str (W "far"))),(.c (.str (W "yesno"))),(.c (.str (W "abcdefgh")))]),.asg (.nm 3) (.call iJ [(.v 0),(.v 1),(.c (.int 8))]),.asg (.nm 4) (.bin .add (.sl (.v 2) [(.v 3)] []) (.sl (.v 2) [] [(.v 3)])),.asg (.nm 5) (.bin .add (.c (.int 1)) (.call iJ [(.v 0),(.v 1),(.c (.int 2))])),.asg (.nm 6) (.bin .add (.c (.int 1)) (.call iJ [(.v 0),(.v 1),(.c (.int 2))])),.ret (.tup [(.bi .tuple [(.sl (.v 4) [] [(.v 5)])]),(.bi .tuple [(.sl (.v 4) [(.v 5)] [(.bin .add (.v 5) (.v 6))])])])]⟩
section
variable {G:Prog}{k ic im iJ is:Nat}{st:aA}{Q:VK}{E:XK}{ns:List Int}
theorem Q9 {inm:Nat}(hm':G.fns inm=some (G3 iJ))(hn:G.fns iJ=some (AO im))(hm:G.fns im=some (pV ic))(hc:G.fns ic=some qF){a:Nat}{i:Int}(ha:st a=some (.lst [.int i]))(hi:0<=i)
  (hQ:∀ fs gs aB i',oQ fs gs=true->cB [a] st aB->0<=i'->aB a=some (.lst [.int i'])->Q (.tup [.tup (fs.map .str),.tup (gs.map .str)]) aB):
  aM G (k+4) inm [.bF (ns.map .int),.ref a] st Q E:=by
 have hL:bI=16777216:=rfl
 rw[bC hm']
 simp only[G3,start]
 refine⟨rfl,?_⟩
 walk_at"st"
 refine cJ (by decide) fun p aC x1 hp hp1=>?_
 have pa:p≠a:=fun z=>by rw[z,ha]at hp;cases hp
 walk_at"st"
 refine mI hn hm hc (x1 a _ ha) hi (by omega) fun aF k2 a2=>?_
 have t0:=mH (ns:=ns) (k:=i+1) (many:=8) (by omega)
 have t1:=mO (ns:=ns) (k:=i+1) (many:=8) (by omega)
 generalize pC ns (i+1) 8=t at t0 t1
 have p2:=k2 p _ (by simpa using pa) hp1
 walk_at"st"
 rw[aK p2]
 intro q hq
 have x3:Ext aF (put aF q (.lst (cut [.str (W "a"),.str (W "b"),.str (W "x"),.str (W "y"),.str (W "lamp"),.str (W "far"),.str (W "yesno"),.str (W "abcdefgh")] (some t) none))):=Ext.new hq
 walk_at"ex"
 rw[aK (x3 p _ p2)]
 intro q' hq'
 have x4:=Ext.new (o:=.lst (cut [.str (W "a"),.str (W "b"),.str (W "x"),.str (W "y"),.str (W "lamp"),.str (W "far"),.str (W "yesno"),.str (W "abcdefgh")] none (some t))) hq'
 walk_at"ex"
 rw[aK (x4 q _ bA),aK bA]
 have eL:([.str (W "a"),.str (W "b"),.str (W "x"),.str (W "y"),.str (W "lamp"),.str (W "far"),.str (W "yesno"),.str (W "abcdefgh")]:List D)=oK.map .str:=rfl
 have er:cut ([.str (W "a"),.str (W "b"),.str (W "x"),.str (W "y"),.str (W "lamp"),.str (W "far"),.str (W "yesno"),.str (W "abcdefgh")]:List D) (some t) none++cut [.str (W "a"),.str (W "b"),.str (W "x"),.str (W "y"),.str (W "lamp"),.str (W "far"),.str (W "yesno"),.str (W "abcdefgh")] none (some t)=(nW t).map .str:=by
  rw[eL,wM,wM,<-List.map_append];rfl
 have lr:(nW t).length<=16:=by
  have l1:=wU (xs:=oK) (lo:=some t) (hi:=none)
  have l2:=wU (xs:=oK) (lo:=none) (hi:=some t)
  have l3:oK.length=8:=rfl
  simp only[nW,List.length_append];omega
 rw[er]
 refine cJ (by simp only[List.length_map];omega) fun r fY x5 hr hr5=>?_
 have k5:cB [a] st fY:=((x1.keep.trans k2).trans x3.keep).trans (x4.keep.trans x5.keep)
 have a5:fY a=some (.lst [.int (i+1)]):=x5 _ _ (x4 _ _ (x3 _ _ a2))
 have ra:r≠a:=fun z=>by rw[z,x4 _ _ (x3 _ _ a2)]at hr;cases hr
 walk_at"st"
 refine mI hn hm hc a5 (by omega) (by omega) fun nQ k6 a6=>?_
 have f0:=mH (ns:=ns) (k:=i+1+1) (many:=2) (by omega)
 have f1:=mO (ns:=ns) (k:=i+1+1) (many:=2) (by omega)
 generalize pC ns (i+1+1) 2=f at f0 f1
 walk_at"ex"
 walk_at"st"
 refine mI hn hm hc a6 (by omega) (by omega) fun qX k7 a7=>?_
 have g0:=mH (ns:=ns) (k:=i+1+1+1) (many:=2) (by omega)
 have g1:=mO (ns:=ns) (k:=i+1+1+1) (many:=2) (by omega)
 generalize pC ns (i+1+1+1) 2=g at g0 g1
 have r7:qX r=some (.lst ((nW t).map .str)):=k7 r _ (by simpa using ra) (k6 r _ (by simpa using ra) hr5)
 walk_at"ex"
 walk_at"st"
 rw[aK r7]
 intro u hu
 walk_at"ex"
 rw[aK bA]
 have xu:=Ext.new (o:=.lst (cut ((nW t).map D.str) none (some (1+f)))) hu
 have c1:=wU (xs:=(nW t).map D.str) (lo:=none) (hi:=some (1+f))
 have c2:=wU (xs:=(nW t).map D.str) (lo:=some (1+f)) (hi:=some (1+f+(1+g)))
 simp only[List.length_map]at c1 c2
 refine⟨by omega,?_⟩
 rw[aK (xu r _ r7)]
 intro u' hu'
 walk_at"ex"
 rw[aK bA]
 refine⟨by omega,?_⟩
 have xu':=Ext.new (o:=.lst (cut ((nW t).map D.str) (some (1+f)) (some (1+f+(1+g))))) hu'
 rw[wM,wM]at *
 exact hQ _ _ _ (i+1+1+1) (LZ t0 t1 f0 f1 g0 g1) ((k5.trans (k6.trans k7)).trans (xu.keep.trans xu'.keep)) (by omega) (xu' _ _ (xu _ _ a7))
end
end L3
end
section
namespace L3
open PySem
theorem XD (w w':W1):(c1 w==c1 w')=decide (w=w'):=by cases w<;>cases w'<;>decide +kernel
theorem WZ (w w':W2):(c2 w==c2 w')=decide (w=w'):=by cases w<;>cases w'<;>decide +kernel
theorem II (w:W1):(W "lamp" == c1 w)=false/\(c1 w==W "lamp")=false:=by cases w<;>decide +kernel
theorem cE {st:aA}{as bs:List D}:bN st (.tup as) (.tup bs)=iO st as bs:=by simp only[bN]
theorem bS {st:aA}{a b:D}{as bs:List D}:iO st (a::as) (b::bs)=(bN st a b&&iO st as bs):=by simp only[iO]
theorem pA {st:aA}:iO st [] []=true:=rfl
theorem kZ {st:aA}{b:D}{bs:List D}:iO st [] (b::bs)=false:=rfl
theorem kW {st:aA}{b:D}{bs:List D}:iO st (b::bs) []=false:=rfl
theorem N4:(W "yes" == W "no")=false/\(W "no" == W "yes")=false:=by decide +kernel
theorem oR {st:aA}:∀ s t:Sy,bN st (toD s) (toD t)=decide (s=t)
 |.yes,.yes=>by simp only[toD,cE,bS,gH,pA,beq_self_eq_true,Bool.and_self,decide_true]
 |.yes,.no=>by simp only[toD,cE,bS,gH,N4.1,Bool.false_and];rfl
 |.yes,.cI _=>by simp only[toD,cE,bS,kZ,Bool.and_false];rfl
 |.yes,.one _ _=>by simp only[toD,cE,bS,kZ,Bool.and_false];rfl
 |.yes,.two _ _ _=>by simp only[toD,cE,bS,kZ,Bool.and_false];rfl
 |.no,.yes=>by simp only[toD,cE,bS,gH,N4.2,Bool.false_and];rfl
 |.no,.no=>by simp only[toD,cE,bS,gH,pA,beq_self_eq_true,Bool.and_self,decide_true]
 |.no,.cI _=>by simp only[toD,cE,bS,kZ,Bool.and_false];rfl
 |.no,.one _ _=>by simp only[toD,cE,bS,kZ,Bool.and_false];rfl
 |.no,.two _ _ _=>by simp only[toD,cE,bS,kZ,Bool.and_false];rfl
 |.cI _,.yes=>by simp only[toD,cE,bS,kW,Bool.and_false];rfl
 |.cI _,.no=>by simp only[toD,cE,bS,kW,Bool.and_false];rfl
 |.cI m,.cI n=>by
  simp only[toD,cE,bS,pA,gH,beq_self_eq_true,Bool.and_true,Bool.true_and,Sy.cI.injEq]
  rw[Bool.beq_eq_decide_eq]
 |.cI m,.one w s=>by simp only[toD,cE,bS,gH,(II w).1,Bool.false_and];rfl
 |.cI _,.two _ _ _=>by simp only[toD,cE,bS,kZ,Bool.and_false];rfl
 |.one _ _,.yes=>by simp only[toD,cE,bS,kW,Bool.and_false];rfl
 |.one _ _,.no=>by simp only[toD,cE,bS,kW,Bool.and_false];rfl
 |.one w s,.cI m=>by simp only[toD,cE,bS,gH,(II w).2,Bool.false_and];rfl
 |.one w s,.one w' s'=>by
  simp only[toD,cE,bS,pA,gH,XD,oR s s',Bool.and_true,Sy.one.injEq]
  by_cases h:w=w'<;>by_cases h':s=s'<;>simp [h,h']
 |.one _ _,.two _ _ _=>by simp only[toD,cE,bS,kZ,Bool.and_false];rfl
 |.two _ _ _,.yes=>by simp only[toD,cE,bS,kW,Bool.and_false];rfl
 |.two _ _ _,.no=>by simp only[toD,cE,bS,kW,Bool.and_false];rfl
 |.two _ _ _,.cI _=>by simp only[toD,cE,bS,kW,Bool.and_false];rfl
 |.two _ _ _,.one _ _=>by simp only[toD,cE,bS,kW,Bool.and_false];rfl
 |.two w s t,.two w' s' t'=>by
  simp only[toD,cE,bS,pA,gH,WZ,oR s s',oR t t',Bool.and_true,Sy.two.injEq]
  by_cases h:w=w'<;>by_cases h':s=s'<;>by_cases h'':t=t'<;>simp [h,h',h'']
theorem HX {st:aA}(x:Sy)(f:List Sy):((f.map toD).any fun d=>bN st d (toD x))=f.contains x:=by
 induction f with
 |nil=>rfl
 |cons y r ih =>
 simp only[List.map_cons,List.any_cons,ih,oR,List.contains_cons]
 congr 1
 by_cases h:y=x
 ·simp [h]
 ·simp [h,Ne.symm h]
theorem NB (f:List Sy):bV (f.map toD)=true:=by
 induction f with
 |nil=>rfl
 |cons x r ih=>simp only[List.map_cons,bV,kS,ih,Bool.and_self]
theorem O7 {n:Nat}(f:List Sy)(h:∀ s∈f,aR s<=n):cX (f.map toD)<=n:=by
 induction f with
 |nil=>exact Nat.zero_le _
 |cons x r ih =>
 simp only[List.map_cons,cX,oP]
 have:=h x (by simp)
 have:=ih fun s hs=>h s (by simp [hs])
 omega
theorem C6 {st:aA}{s:Sy}(h:aR s<=60):plainS st (toD s):=⟨zK _ (kS s),Nat.le_trans (by rw[oP];exact h) (by decide)⟩
theorem AR {st:aA}{f:List Sy}(h:∀ s∈f,aR s<=60):dJ st (f.map toD):=⟨qN _ (NB f),Nat.le_trans (O7 f h) (by decide)⟩
noncomputable def wd:Sy->List Nat
 |.yes=>W "yes"
 |.no=>W "no"
 |.cI _=>W "lamp"
 |.one w _=>c1 w
 |.two w _ _=>c2 w
noncomputable def subs:Sy->List Sy
 |.one _ s=>[s]
 |.two _ s t=>[s,t]
 |_=>[]
noncomputable def bU:Sy->Bool
 |.one w _=>p1 w
 |.two w _ _=>p2 w
 |_=>false
noncomputable def fJ:Sy->Bool
 |.cI _=>true
 |_=>false
theorem mZ (s:Sy):∃ r,toD s=.tup (.str (wd s)::r):=by cases s<;>exact⟨_,rfl⟩
theorem Q5 {s:Sy}(h:fJ s=false):toD s=.tup (.str (wd s)::(subs s).map toD):=by cases s<;>first|rfl|cases h
noncomputable def lN:List (List Nat):=[W "before", W "once", W "sofar", W "since"]
theorem B1 (s:Sy):lN.contains (wd s)=bU s:=by
 cases s with
 |one w s=>cases w<;>(simp only[wd,bU];decide +kernel)
 |two w s t=>cases w<;>(simp only[wd,bU];decide +kernel)
 |_=>(simp only[wd,bU];decide +kernel)
theorem B7 (s:Sy):(wd s==W "lamp")=fJ s:=by
 cases s with
 |one w s=>cases w<;>(simp only[wd,fJ];decide +kernel)
 |two w s t=>cases w<;>(simp only[wd,fJ];decide +kernel)
 |_=>(simp only[wd,fJ];decide +kernel)
noncomputable def eS (f:List Sy)(s:Sy):List Sy:=if bU s && !f.contains s then f++[s]else f
noncomputable def aU:Sy->List Sy->List Sy
 |.one w s,f=>aU s (eS f (.one w s))
 |.two w s t,f=>aU t (aU s (eS f (.two w s t)))
 |_,f=>f
noncomputable def cO:List Sy->List Sy->List Sy
 |[],f=>f
 |s::r,f=>cO r (aU s f)
theorem X4 (s:Sy)(f:List Sy):aU s f=cO (subs s) (eS f s):=by
 cases s<;>simp [aU,subs,cO,eS,bU]
theorem HH (a b:List Sy)(f:List Sy):cO (a++b) f=cO b (cO a f):=by
 induction a generalizing f with
 |nil=>rfl
 |cons x r ih=>simp only[List.cons_append,cO,ih]
theorem ME (s:Sy)(r f:List Sy):cO (s::r) f=cO (subs s++r) (eS f s):=by rw[HH,<-X4];rfl
noncomputable def sz:Sy->Nat
 |.one _ s=>sz s+1
 |.two _ s t=>sz s+sz t+1
 |_=>1
noncomputable def fD (l:List Sy):Nat:=(l.map sz).sum
theorem EC:∀ s:Sy,sz s+1<=2 ^ aR s
 |.yes=>by decide
 |.no=>by decide
 |.cI _=>by simp only[sz,aR];decide
 |.one w s=>by have:=EC s;simp only[sz,aR,Nat.pow_succ];omega
 |.two w s t=>by
  have h1:=EC s
  have h2:=EC t
  have a:=Nat.pow_le_pow_right (n:=2) (by omega) (Nat.le_max_left (aR s) (aR t))
  have b:=Nat.pow_le_pow_right (n:=2) (by omega) (Nat.le_max_right (aR s) (aR t))
  simp only[sz,aR,Nat.pow_succ];omega
theorem IS (s:Sy):fD (subs s)+1=sz s:=by cases s<;>simp [subs,fD,sz]
theorem yW {s t:Sy}(h:t∈subs s):aR t<aR s:=by cases s<;>simp [subs]at h<;>simp only[aR]<;>(try rcases h with rfl|rfl)<;>(try subst h)<;>omega
theorem yU {f:List Sy}{s:Sy}{n:Nat}(h:∀ x∈f,aR x<=n)(hs:aR s<=n):∀ x∈eS f s,aR x<=n:=by
 unfold eS
 split
 ·intro x hx
  rcases List.mem_append.mp hx with hx|hx
  ·exact h x hx
  ·simp at hx;subst hx;exact hs
 ·exact h
theorem QW (f:List Sy)(s:Sy):(eS f s).length<=f.length+1:=by unfold eS;split<;>simp
theorem xE:∀(s:Sy){f:List Sy}{n:Nat},(∀ x∈f,aR x<=n)->aR s<=n->∀ x∈aU s f,aR x<=n
 |.yes,_,_,h,_=>h
 |.no,_,_,h,_=>h
 |.cI _,_,_,h,_=>h
 |.one w s,f,n,h,hs=>xE s (yU h hs) (by simp only[aR]at hs;omega)
 |.two w s t,f,n,h,hs=>xE t (xE s (yU h hs) (by simp only[aR]at hs;omega)) (by simp only[aR]at hs;omega)
end L3
end
section
namespace L3
open PySem
noncomputable def iA:Fn:=⟨1,1,[.iff (.cmp .eq (.ix (.v 0) (.c (.int 0))) (.c (.str (W "lamp")))) [.ret (.tup [])] [],.ret (.sl (.v 0) [(.c (.int 1))] [])]⟩
noncomputable def tB:D:=.tup (lN.map .str)
noncomputable def kY (iw:Nat):Fn:=⟨1,4,[.asg (.nm 1) (.lst []),.asg (.nm 2) (.bit .list .rev [(.v 0)]),.whl (.v 2) [.asg (.nm 3) (.cC .pop (.v 2) []),.iff (.and_ (.cmp .in_ (.ix (.v 3) (.c (.int 0))) (.c tB)) (.cmp .iU (.v 3) (.v 1))) [.ex (.cC .append (.v 1) [(.v 3)])] [],.ex (.cC .extend (.v 2) [(.bit .list .rev [(.call iw [(.v 3)])])])],.ret (.v 1)]⟩
section
variable {G:Prog}{k ip iw:Nat}{st:aA}{Q:VK}{E:XK}
theorem qS (hw:G.fns iw=some iA){s:Sy}(hQ:Q (.tup ((subs s).map toD)) st):aM G (k+1) iw [toD s] st Q E:=by
 rw[bC hw]
 simp only[iA,start]
 refine⟨rfl,?_⟩
 obtain⟨r,er⟩:=mZ s
 walk_at"st"
 rw[er]
 walk_at"ex"
 rw[B7,<-er]
 cases h:fJ s with
 |true =>
 simp only[if_true]
 walk_at"st"
 cases s<;>first|exact hQ|cases h
 |false =>
 simp only[Bool.false_eq_true,if_false,aE]
 walk_at"st"
 rw[Q5 h]
 walk_at"ex"
 exact hQ
end
end L3
end
section
namespace L3
open PySem
theorem K8 {C:aW}{sub:Nat->Nat->Bool}(hC:bL C C){c:Ex}{b:List Sx}{P:fW}(I:Nat->St->aA->Prop)
  (step:∀ m σ st,I m σ st->aG C sub (fun c aB=>P.ex c σ aB) c σ st fun d aB=>dM d aB fun k =>
   if k=true then cL C sub b { P with nx:=fun σ st=>∃ m',m'<m/\I m' σ st,ct:=fun σ st=>∃ m',m'<m/\I m' σ st,bk:=P.nx } σ aB else P.nx σ aB){m:Nat}{σ:St}{st:aA}(h:I m σ st):wpS C sub (.whl c b) P σ st:=by
 refine⟨m+1,?_⟩
 have key:∀(n m:Nat)(σ:St)(st:aA),m<n->I m σ st->nJ (fun next σ st=>aG C sub (fun c aB=>P.ex c σ aB) c σ st fun d aB=>dM d aB fun k =>
   if k=true then cL C sub b { P with nx:=next,ct:=next,bk:=P.nx } σ aB else P.nx σ aB) n σ st:=by
  intro n
  induction n with
  |zero=>intro m σ st h;omega
  |succ n ih =>
   intro m σ st hm hI
   refine aS hC (fun _ _ z=>z) c (fun d aB=>iG fun k=>?_) (step m σ st hI)
   split
   ·exact gS hC b ⟨fun σ st ⟨m',h1,h2⟩=>ih m' σ st (by omega) h2,fun _ _ z=>z,fun _ _ z=>z,fun σ st ⟨m',h1,h2⟩=>ih m' σ st (by omega) h2,fun _ _ _ z=>z⟩
   ·exact id
 exact key (m+1) m σ st (by omega) h
section
variable {G:Prog}{k ip iw iz:Nat}{st:aA}{Q:VK}{E:XK}
theorem iK (s:Sy)(r:List Sy):fD (s::r)=sz s+fD r:=by simp [fD]
theorem jV (a b:List Sy):fD (a++b)=fD a+fD b:=by simp [fD]
theorem OD (s:Sy):0<sz s:=by cases s<;>simp [sz]
theorem CD (r:List Sy):r.length<=fD r:=by
 induction r with
 |nil=>simp
 |cons s r ih=>have:=OD s;simp only[iK,List.length_cons];omega
theorem vC (hz:G.fns iz=some (kY iw))(hw:G.fns iw=some iA){l:Nat}{ss:List Sy}(hl:st l=some (.lst (ss.map toD)))(hd:∀ x∈ss,aR x<=60)(hs:fD ss<bI)
  (hQ:∀ p aB,Ext st aB->aB p=some (.lst ((cO ss []).map toD))->Q (.ref p) aB):aM G (k+2) iz [.ref l] st Q E:=by
 rw[bC hz]
 simp only[kY,start]
 refine⟨rfl,?_⟩
 walk_at"st"
 refine cJ (by decide) fun p aC x1 hp hp1=>?_
 walk_at"st"
 rw[aK (x1 l _ hl)]
 refine cJ (by have:=CD ss;simp only[List.length_reverse,List.length_map];omega) fun q aF x2 hq hq2=>?_
 have hpq:p≠q:=fun z=>by rw[z]at hp1;rw[hq]at hp1;cases hp1
 have p2:=x2 p _ hp1
 try dsimp only
 refine fI ?_
 refine K8 (lE G (Nat.le_refl _)) (fun m σ aB=>∃(stack f:List Sy)(o:Option D),σ=[some (.ref l),some (.ref p),some (.ref q),o]/\aB p=some (.lst (f.map toD))/\aB q=some (.lst (stack.map toD).reverse)/\fD stack=m /\
  (∀ x∈stack,aR x<=60)/\(∀ x∈f,aR x<=60)/\f.length+fD stack<bI/\cO stack f=cO ss []/\Ext st aB) ?_ (m:=fD ss) ⟨ss,[],none,rfl,p2,hq2,rfl,hd,by simp,by simpa using hs,rfl,fun a o e=>x2 a o (x1 a o e)⟩
 rintro m σ bB ⟨stack,f,o,rfl,hp3,hq3,hm,hds,hdf,hlen,yR,x3⟩
 walk_at"ex"
 rw[IC,gQ hq3]
 cases stack with
 |nil =>
  simp only[List.map_nil,List.reverse_nil,List.isEmpty_nil,Bool.not_true,Bool.false_eq_true,if_false]
  walk_at"st"
  refine hQ p bB x3 ?_
  rw[<-yR];exact hp3
 |cons s r =>
  have hne:(!((List.map toD (s::r)).reverse).isEmpty)=true:=by simp
  rw[hne]
  simp only[if_true]
  have hds':=hds s (by simp)
  rw[iK]at hm hlen
  have hsp:=OD s
  have hss:=IS s
  walk_at"st"
  rw[aK hq3]
  refine⟨trivial,?_⟩
  rw[aK hq3]
  have elast:((List.map toD (s::r)).reverse)[((List.map toD (s::r)).reverse).length-1]? = some (toD s):=by
   simp only[List.map_cons,List.reverse_cons,List.length_append,List.length_cons,List.length_nil]
   rw[List.getElem?_append_right (by simp)]
   simp
  have edrop:((List.map toD (s::r)).reverse).dropLast=(r.map toD).reverse:=by simp
  rw[elast,edrop,bQ]
  try dsimp only
  have hp4:(put bB q (.lst (r.map toD).reverse)) p=some (.lst (f.map toD)):=by rw[bK hpq];exact hp3
  have hx4:Ext st (put bB q (.lst (r.map toD).reverse)):=fun a u e=>by
   by_cases ha:a=q
   ·exfalso
    rw[ha]at e
    rw[x1 q _ e]at hq;cases hq
   ·rw[bK ha];exact x3 a u e
  have head:∀{P:fW}{dI:aA}{rest:List Sx},dI p=some (.lst (f.map toD)) ->
    (∀ aB,cB [p] dI aB->aB p=some (.lst ((eS f s).map toD))->cL (aM G (k+1)) G.sub rest P [some (.ref l),some (.ref p),some (.ref q),some (toD s)] aB) ->
    cL (aM G (k+1)) G.sub ((.iff (.and_ (.cmp .in_ (.ix (.v 3) (.c (.int 0))) (.c tB)) (.cmp .iU (.v 3) (.v 1))) [.ex (.cC .append (.v 1) [(.v 3)])] [])::rest) P [some (.ref l),some (.ref p),some (.ref q),some (toD s)] dI:=by
   intro P dI rest hb hN
   obtain⟨rr,er⟩:=mZ s
   walk_at"st"
   rw[er]
   simp only[tB]
   walk_at"ex"
   rw[<-er]
   refine⟨(mV lN).s,?_⟩
   have e1:(List.any (lN.map .str) fun d=>bN dI d (.str (wd s)))=bU s:=(sR (wd s) lN).trans (B1 s)
   rw[e1]
   cases hpp:bU s with
   |false =>
    simp only[Bool.false_eq_true,if_false,aE]
    refine hN dI .refl ?_
    simp only[eS,hpp,Bool.false_and,Bool.false_eq_true,if_false]
    exact hb
   |true =>
    simp only[if_true]
    rw[HN,gQ hb,HX]
    refine⟨C6 hds',AR hdf,?_⟩
    cases hc:f.contains s with
    |true =>
     simp only[Bool.not_true,Bool.false_eq_true,if_false,aE]
     refine hN dI .refl ?_
     simp only[eS,hpp,hc,Bool.not_true,Bool.and_false,Bool.false_eq_true,if_false]
     exact hb
    |false =>
     simp only[Bool.not_false,if_true]
     walk_at"st"
     rw[aK hb]
     refine⟨trivial,?_⟩
     rw[aK hb]
     refine⟨by simp only[List.length_map];omega,?_⟩
     rw[aE]
     refine hN _ (cB.put (by simp)) ?_
     rw[bA]
     simp only[eS,hpp,hc,Bool.not_false,Bool.and_self,if_true,List.map_append,List.map_cons,List.map_nil]
  refine head hp4 fun fY k5 hp5=>?_
  have hq5:fY q=some (.lst (r.map toD).reverse):=k5 q _ (by simpa using Ne.symm hpq) bA
  have hx5:Ext st fY:=fun a u e=>by
   by_cases ha:a=p
   ·exfalso
    rw[ha]at e;rw[hp]at e;cases e
   ·exact k5 a u (by simpa using ha) (hx4 a u e)
  walk_at"st"
  rw[aK hq5]
  refine⟨trivial,qS hw ?_⟩
  walk_at"ex"
  have hsl:=CD (subs s)
  have hrl:=CD r
  refine cJ (by simp only[List.length_reverse,List.length_map];omega) fun u nQ x6 hu hu6=>?_
  walk_at"ex"
  rw[aK (x6 q _ hq5),aK hu6]
  refine⟨by simp only[List.length_reverse,List.length_map];omega,?_⟩
  rw[aE]
  dsimp only
  refine⟨fD (subs s++r),by rw[jV];omega,subs s++r,eS f s,_,rfl,?_,?_,rfl,fun x hx=>?_,yU hdf hds',?_,?_,fun a v e=>?_⟩
  ·rw[bK hpq];exact x6 p _ hp5
  ·rw[bA];simp
  ·rcases List.mem_append.mp hx with hx|hx
   ·have:=yW hx;omega
   ·exact hds x (by simp [hx])
  ·have:=QW f s;rw[jV];omega
  ·rw[<-ME];exact yR
  ·by_cases ha:a=q
   ·exfalso
    rw[ha]at e
    rw[x1 q _ e]at hq;cases hq
   ·rw[bK ha];exact x6 a v (hx5 a v e)
end
end L3
end
section
namespace L3
open PySem
noncomputable def eG:List (List Nat):=[W "yes", W "no", W "not", W "and", W "or", W "then", W "same", W "before", W "once", W "sofar", W "since", W "foe", W "friend", W "promise", W "must", W "wish"]
noncomputable def dS:List Nat:=W "abcdefghijklmnopqrstuvwxyz"
noncomputable def gJ (nn lt lg:D):Fn:=⟨1,1,[.iff (.or_ (.not_ (.isi (.v 0) [.str])) (.cmp .in_ (.v 0) (.c nn))) [.ret (.c (.bl false))] [],.ret (.and_ (.chain .le .le (.c (.int 1)) (.bi .len [(.v 0)]) (.c lg)) (.bi .all [(.comp 1 [] [0] true none [(.v 0)] [] (.cmp .in_ (.v 0) (.c lt)))]))]⟩
noncomputable def eY (w:List Nat):Bool:=!(eG.any (·== w))&&decide (1<=w.length)&&decide (w.length<=8)&&w.all fun c=>occurs [c] dS
section
variable {G:Prog}{k i:Nat}{st:aA}{Q:VK}{E:XK}
theorem SF (st:aA)(w:List Nat):((eG.map D.str).any fun d=>bN st d (.str w))=eG.any (·== w):=by
 rw[List.any_map];rfl
theorem L4 (st:aA):dJ st (eG.map D.str):=⟨rfl,by decide⟩
noncomputable def PZ:D->Bool
 |.str x=>occurs x dS
 |_=>false
theorem CU:∀(w:List Nat),boolsOf ((w.map fun c=>D.str [c]).map fun d=>.bl (PZ d))=some (w.map fun c=>occurs [c] dS)
 |[]=>rfl
 |c::r=>by
  show(boolsOf ((r.map fun c=>D.str [c]).map fun d=>.bl (PZ d))).map (_ :: ·)=_
  rw[CU r];rfl
theorem A0 (h:G.fns i=some (gJ (.tup (eG.map .str)) (.str dS) (.int 8))){w:List Nat}(hw:w.length<=bI)(hQ:∀ aB,Ext st aB->Q (.bl (eY w)) aB):aM G (k+1) i [.str w] st Q E:=by
 have hL:bI=16777216:=rfl
 rw[bC h]
 simp only[gJ,start]
 refine⟨rfl,?_⟩
 walk_at"st"
 refine⟨L4 st,?_⟩
 rw[SF]
 cases c1:eG.any (·== w)with
 |true =>
  simp only[if_true]
  walk_at"st"
  have e:eY w=false:=by simp [eY,c1]
  rw[<-e];exact hQ _ (fun _ _ z=>z)
 |false =>
  simp only[Bool.false_eq_true,if_false]
  rw[aE]
  walk_at"st"
  refine⟨hw,?_⟩
  split
  ·rename_i g1
   split
   ·rename_i g2
    refine⟨hw,?_⟩
    refine comp_map (fun d=>.bl (PZ d)) _ [] st (fun aB x a ha=>by cases ha) ?_ (by simp only[List.length_map,List.length_nil];omega) fun aB x=>?_
    ·intro x hx aB K x1 hK
     obtain⟨c,hc,rfl⟩:=List.mem_map.mp hx
     exact hK aB .refl
    ·rw[List.nil_append]
     refine cJ (by simp only[List.length_map];omega) fun p aF x2 hp jU=>?_
     simp only[dN]
     rw[aK jU,CU]
     have e:eY w=(w.map fun c=>occurs [c] dS).all id:=by
      simp only[eY,c1,List.all_map]
      have h1:decide (1<=w.length)=true:=decide_eq_true (by omega)
      have h2:decide (w.length<=8)=true:=decide_eq_true (by omega)
      rw[h1,h2]
      rfl
     show Q _ _
     rw[<-e]
     exact hQ _ (x.trans x2)
   ·rename_i g2
    have e:eY w=decide ((w.length:Int)<=8):=by
     have h2:decide (w.length<=8)=false:=decide_eq_false (by omega)
     have h3:decide ((w.length:Int)<=8)=false:=decide_eq_false g2
     simp only[eY,h2,h3,Bool.and_false,Bool.false_and]
    rw[<-e];exact hQ _ .refl
  ·rename_i g1
   have e:eY w=false:=by
    have h1:decide (1<=w.length)=false:=decide_eq_false (by omega)
    simp only[eY,h1,Bool.and_false,Bool.false_and]
   rw[<-e];exact hQ _ .refl
end
end L3
end
section
namespace L3
open PySem
noncomputable def kM (fG dP:Nat)(sw:D):Fn:=⟨3,3,[.iff (.or_ (.cmp .lt (.v 2) (.c (.int 1))) (.or_ (.not_ (.isi (.v 1) [.tuple])) (.or_ (.cmp .lt (.bi .len [(.v 1)]) (.c (.int 1))) (.not_ (.isi (.ix (.v 1) (.c (.int 0))) [.str]))))) [.ret (.c (.bl false))] [],.iff (.cmp .eq (.ix (.v 1) (.c (.int 0))) (.c (.str (W "lamp")))) [.ret (.and_ (.cmp .eq (.bi .len [(.v 1)]) (.c (.int 2))) (.and_ (.call fG [(.ix (.v 1) (.c (.int 1)))]) (.cmp .in_ (.ix (.v 1) (.c (.int 1))) (.v 0))))] [],.iff (.or_ (.cmp .iU (.ix (.v 1) (.c (.int 0))) (.c sw)) (.cmp .ne (.bi .len [(.v 1)]) (.bin .add (.c (.int 1)) (.ix (.c sw) (.ix (.v 1) (.c (.int 0))))))) [.ret (.c (.bl false))] [],.ret (.bi .all [(.comp 1 [0,2] [0] true none [(.sl (.v 1) [(.c (.int 1))] [])] [] (.call dP [(.v 1),(.v 0),(.bin .sub (.v 2) (.c (.int 1)))]))])]⟩
section
variable {G:Prog}{k fG dP:Nat}{Q:VK}{E:XK}
noncomputable def uG:List D:=[(.str (W "yes")),(.str (W "no")),(.str (W "not")),(.str (W "before")),(.str (W "once")),(.str (W "sofar")),(.str (W "and")),(.str (W "or")),(.str (W "then")),(.str (W "same")),(.str (W "since"))]
noncomputable def wJ:List D:=[(.int 0),(.int 0),(.int 1),(.int 1),(.int 1),(.int 1),(.int 2),(.int 2),(.int 2),(.int 2),(.int 2)]
theorem iM {α:Type}:∀(ps:List α),boolsOf (ps.map fun _=>.bl true)=some (ps.map fun _=>true)
 |[]=>rfl
 |_::r=>by
  show(boolsOf (r.map fun _=>.bl true)).map (true :: ·)=_
  rw[iM r];rfl
theorem tU (h:G.fns dP=some (kM fG dP (.cM uG wJ))){nm:D}{w:List Nat}{ps:List D}{st:aA}{d:Int}(hd:1<=d)(hl:¬(w==W "lamp")=true)(hin:(uG.any fun x=>bG x (.str w))=true)(har:tK uG wJ (.str w)=some (.int ps.length))(hps:ps.length<=2)
  (hp:∀ x∈ps,∀(aB:aA)(Q':VK)(E':XK),Ext st aB->(∀ aX,Ext aB aX->Q' (.bl true) aX)->aM G k dP [nm,x,.int (d-1)] aB Q' E')(hQ:∀ aB,Ext st aB->Q (.bl true) aB):aM G (k+1) dP [nm,.tup (.str w::ps),.int d] st Q E:=by
 have hL:bI=16777216:=rfl
 rw[bC h]
 simp only[kM,start]
 refine⟨rfl,?_⟩
 walk_at"st"
 have n1:¬d<1:=by omega
 simp only[if_neg n1]
 have n2:¬((ps.length+1:Nat):Int)<1:=by omega
 simp only[List.length_cons,if_neg n2]
 walk_at"ex"
 rw[aE]
 walk_at"st"
 rw[if_neg hl]
 rw[aE]
 walk_at"st"
 rw[hin]
 simp only[Bool.not_true,Bool.false_eq_true,if_false]
 rw[har]
 show plainS st (.int (1+(ps.length:Int)))/\_
 refine⟨⟨rfl,Nat.zero_le _⟩,?_⟩
 have n3:¬(!bN st (.int ((ps.length+1:Nat):Int)) (.int (1+(ps.length:Int))))=true:=by
  have e:(((ps.length+1:Nat):Int)==1+(ps.length:Int))=true:=beq_iff_eq.mpr (by omega)
  simp only[bN,e,Bool.not_true,Bool.false_eq_true,not_false_iff]
 rw[if_neg n3,aE]
 walk_at"st"
 refine comp_map (fun _=>.bl true) ps [] st (fun aB x a ha=>by cases ha) (fun x hx aB K x1 hK=>hp x hx aB _ _ x1 fun aX x2=>hK aX x2) (by simp only[List.length_nil];omega) fun aB x1=>?_
 rw[List.nil_append]
 refine cJ (by simp only[List.length_map];omega) fun p aF x2 hp' jU=>?_
 simp only[dN]
 rw[aK jU,iM]
 show Q (.bl (((ps.map fun _=>true).all id))) _
 have e:(ps.map fun _=>true).all id=true:=by simp
 rw[e]
 exact hQ _ (x1.trans x2)
theorem DR {n:List Nat}(h:eY n=true):n.length<=8:=by
 simp only[eY,Bool.and_eq_true,decide_eq_true_eq]at h
 exact h.1.2
theorem iZ (st:aA):∀(names:List (List Nat)),dJ st (names.map D.str)
 |[]=>⟨rfl,Nat.zero_le _⟩
 |n::r=>⟨by simp only[List.map_cons,fT,fM,Bool.true_and];exact(iZ st r).1,by simp only[List.map_cons,cX,cQ];have:=(iZ st r).2;omega⟩
theorem LX (st:aA)(names:List (List Nat))(n:List Nat)(h:n∈names):((names.map D.str).any fun d=>bN st d (.str n))=true:=by
 rw[List.any_map]
 exact List.any_eq_true.mpr ⟨n,h,by show(n==n)=true;simp⟩
theorem NM (h:G.fns dP=some (kM fG dP (.cM uG wJ)))(hn:G.fns fG=some (gJ (.tup (eG.map .str)) (.str dS) (.int 8))){names:List (List Nat)}(jZ:∀ n∈names,eY n=true){n:List Nat}(ho:n∈names){st:aA}{d:Int}(hd:1<=d)
 (hQ:∀ aB,Ext st aB->Q (.bl true) aB):aM G (k+1+1) dP [.tup (names.map .str),.tup [.str (W "lamp"),.str n],.int d] st Q E:=by
 have hL:bI=16777216:=rfl
 rw[bC h]
 simp only[kM,start]
 refine⟨rfl,?_⟩
 walk_at"st"
 have n1:¬d<1:=by omega
 simp only[if_neg n1]
 walk_at"ex"
 have n2:¬((0+1+1:Nat):Int)<1:=by decide
 simp only[if_neg n2]
 walk_at"ex"
 rw[aE]
 walk_at"st"
 have n3:(W "lamp" == W "lamp")=true:=by simp
 simp only[n3,if_true]
 walk_at"st"
 rw[if_pos (by decide)]
 refine A0 (w:=n) hn (by have:=DR (jZ n ho);omega) fun aB x1=>?_
 rw[jZ n ho]
 show dJ aB (names.map .str)/\Q (.bl ((names.map D.str).any fun d=>bN aB d (.str n))) aB
 refine⟨iZ aB names,?_⟩
 rw[LX aB names n ho]
 exact hQ _ x1
theorem wO (h:G.fns dP=some (kM fG dP (.cM uG wJ)))(hn:G.fns fG=some (gJ (.tup (eG.map .str)) (.str dS) (.int 8))){names:List (List Nat)}(jZ:∀ n∈names,eY n=true):
  ∀(s:Sy){k:Nat}{st:aA}{Q:VK}{E:XK}{d:Int},over names s->(aR s:Int)<=d->(∀ aB,Ext st aB->Q (.bl true) aB)->aM G (k+aR s+1) dP [.tup (names.map .str),toD s,.int d] st Q E
 |.yes,k,st,Q,E,d,ho,hd,hQ=>by
  simp only[aR]at hd
  exact tU h (by omega) (by decide) (by decide) rfl (by decide) (fun x hx=>by cases hx) hQ
 |.no,k,st,Q,E,d,ho,hd,hQ=>by
  simp only[aR]at hd
  exact tU h (by omega) (by decide) (by decide) rfl (by decide) (fun x hx=>by cases hx) hQ
 |.cI n,k,st,Q,E,d,ho,hd,hQ=>by
  simp only[aR]at hd ⊢
  exact NM h hn jZ ho (by omega) hQ
 |.one w s,k,st,Q,E,d,ho,hd,hQ=>by
  simp only[aR]at hd ⊢
  refine tU (ps:=[toD s]) h (by omega) (by cases w<;>decide) (by cases w<;>decide) (by cases w<;>rfl) (by simp) (fun x hx aB Q' E' x1 hQ'=>?_) hQ
  simp only[List.mem_singleton]at hx
  subst hx
  have:=wO h hn jZ s (k:=k) (st:=aB) (Q:=Q') (E:=E') (d:=d-1) ho (by omega) hQ'
  exact this
 |.two w s t,k,st,Q,E,d,ho,hd,hQ=>by
  simp only[aR]at hd ⊢
  refine tU (ps:=[toD s,toD t]) h (by omega) (by cases w<;>decide) (by cases w<;>decide) (by cases w<;>rfl) (by simp) (fun x hx aB Q' E' x1 hQ'=>?_) hQ
  have l1:=Nat.le_max_left (aR s) (aR t)
  have l2:=Nat.le_max_right (aR s) (aR t)
  simp only[List.mem_cons,List.not_mem_nil,or_false]at hx
  rcases hx with rfl|rfl
  ·have:=wO h hn jZ s (k:=k+(max (aR s) (aR t)-aR s)) (st:=aB) (Q:=Q') (E:=E') (d:=d-1) ho.1 (by omega) hQ'
   have e:k+(max (aR s) (aR t)-aR s)+aR s+1=k+(max (aR s) (aR t)+1):=by omega
   rw[e]at this;exact this
  ·have:=wO h hn jZ t (k:=k+(max (aR s) (aR t)-aR t)) (st:=aB) (Q:=Q') (E:=E') (d:=d-1) ho.2 (by omega) hQ'
   have e:k+(max (aR s) (aR t)-aR t)+aR t+1=k+(max (aR s) (aR t)+1):=by omega
   rw[e]at this;exact this
end
end L3
end
section
namespace L3
open PySem
noncomputable def kG:Fn:=⟨3,3,[.ret (.and_ (.isi (.v 0) [.tuple]) (.chain .le .le (.v 1) (.bi .len [(.v 0)]) (.v 2)))]⟩
noncomputable def E1 (ir fG:Nat)(ml:D):Fn:=⟨2,3,[.iff (.or_ (.not_ (.call ir [(.v 0),(.c (.int 1)),(.c ml)])) (.not_ (.call ir [(.v 1),(.c (.int 1)),(.c ml)]))) [.ret (.c (.bl false))] [],.asg (.nm 2) (.bin .add (.v 0) (.v 1)),.ret (.and_ (.bi .all [(.comp 1 [] [0] true none [(.v 2)] [] (.call fG [(.v 0)]))]) (.cmp .eq (.bi .pZ [(.v 2)]) (.bi .len [(.v 2)])))]⟩
section
variable {G:Prog}{k ir fG il:Nat}{st:aA}{Q:VK}{E:XK}
theorem lD (h:G.fns ir=some kG){ds:List D}{lo hi:Int}(hQ:Q (.bl (decide (lo<=(ds.length:Int))&&decide ((ds.length:Int)<=hi))) st):aM G (k+1) ir [.tup ds,.int lo,.int hi] st Q E:=by
 rw[bC h]
 simp only[kG,start]
 refine⟨rfl,?_⟩
 walk_at"st"
 by_cases c:lo<=(ds.length:Int)
 ·rw[if_pos c]
  rw[decide_eq_true c,Bool.true_and]at hQ
  exact hQ
 ·rw[if_neg c]
  rw[decide_eq_false c,Bool.false_and]at hQ
  exact hQ
theorem DI:∀(ws seen:List (List Nat)),(seen++ws).Nodup->vB seen ws=ws.length
 |[],_,_=>rfl
 |w::r,seen,h=>by
  have e:seen.any (·== w)=false:=by
   rw[List.any_eq_false]
   intro x hx z
   have:x=w:=by simpa using z
   subst this
   rw[List.nodup_append]at h
   exact h.2.2 x hx x (by simp) rfl
  show(if seen.any (·== w)=true then 0 else 1)+vB (seen++[w]) r=_
  rw[e,DI r (seen++[w]) (by simpa using h)]
  simp only[Bool.false_eq_true,if_false,List.length_cons]
  omega
theorem zT:∀(ws:List (List Nat)),strsOf (ws.map .str)=some ws
 |[]=>rfl
 |w::r=>by
  show(strsOf (r.map .str)).map (w :: ·)=_
  rw[zT r];rfl
theorem ON (h:G.fns il=some (E1 ir fG (.int 2)))(hr:G.fns ir=some kG)(hn:G.fns fG=some (gJ (.tup (eG.map .str)) (.str dS) (.int 8))){fs gs:List (List Nat)}(h1:1<=fs.length)(h2:fs.length<=2)(h3:1<=gs.length)(h4:gs.length<=2)(h5:(fs++gs).Nodup)(h6:∀ n∈fs++gs,eY n=true)
  (hQ:∀ aB,Ext st aB->Q (.bl true) aB):aM G (k+2) il [.tup (fs.map .str),.tup (gs.map .str)] st Q E:=by
 have hL:bI=16777216:=rfl
 rw[bC h]
 simp only[E1,start]
 refine⟨rfl,?_⟩
 walk_at"st"
 refine lD hr ?_
 have e1:(decide ((1:Int)<=((fs.map D.str).length:Int))&&decide (((fs.map D.str).length:Int)<=2))=true:=by simp only[List.length_map,Bool.and_eq_true,decide_eq_true_eq];omega
 rw[e1]
 walk_at"ex"
 refine lD hr ?_
 have e2:(decide ((1:Int)<=((gs.map D.str).length:Int))&&decide (((gs.map D.str).length:Int)<=2))=true:=by simp only[List.length_map,Bool.and_eq_true,decide_eq_true_eq];omega
 rw[e2]
 walk_at"ex"
 rw[aE]
 walk_at"st"
 refine⟨by simp only[List.length_map];omega,?_⟩
 rw[<-List.map_append]
 walk_at"st"
 refine comp_map (fun _=>.bl true) _ [] st (fun aB x a ha=>by cases ha) (fun x hx aB K x1 hK=>?_) (by simp only[List.length_map,List.length_append,List.length_nil];omega) fun aB x1=>?_
 ·obtain⟨n,hn',rfl⟩:=List.mem_map.mp hx
  refine A0 (w:=n) hn (by have:=DR (h6 n hn');omega) fun aX x2=>?_
  rw[h6 n hn']
  exact hK aX x2
 ·rw[List.nil_append]
  refine cJ (by simp only[List.length_map,List.length_append];omega) fun p aF x2 hp' jU=>?_
  simp only[dN]
  rw[aK jU,iM]
  rw[bQ,zT,bQ]
  have e3:(List.map (fun _=>true) ((fs++gs).map D.str)).all id=true:=by simp
  rw[if_pos e3]
  refine⟨by simp only[List.length_append];omega,?_⟩
  have e4:(((vB [] (fs++gs):Nat):Int)==((((fs++gs).map D.str).length:Nat):Int))=true:=by
   rw[DI (fs++gs) [] (by simpa using h5),List.length_map];simp
  rw[e4]
  exact hQ _ (x1.trans x2)
end
end L3
end
section
namespace L3
open PySem
noncomputable def nL (dP:Nat)(dp:D):Fn:=⟨2,2,[.ret (.call dP [(.v 0),(.v 1),(.c dp)])]⟩
noncomputable def xD (ir iy:Nat):Fn:=⟨3,3,[.ret (.and_ (.call ir [(.v 1),(.c (.int 0)),(.v 2)]) (.bi .all [(.comp 1 [0] [0] true none [(.v 1)] [] (.call iy [(.v 1),(.v 0)]))]))]⟩
noncomputable def pH (hp:D):Fn:=⟨1,1,[.ret (.and_ (.isi (.v 0) [.int]) (.and_ (.not_ (.isi (.v 0) [.bool])) (.chain .le .le (.c (.int 1)) (.v 0) (.c hp))))]⟩
noncomputable def wR (ir ip iy:Nat):Fn:=⟨2,2,[.ret (.and_ (.call ir [(.v 1),(.c (.int 2)),(.c (.int 2))]) (.and_ (.call ip [(.ix (.v 1) (.c (.int 0)))]) (.call iy [(.v 0),(.ix (.v 1) (.c (.int 1)))])))]⟩
noncomputable def zG (ir iw:Nat)(mw:D):Fn:=⟨2,2,[.ret (.and_ (.call ir [(.v 1),(.c (.int 1)),(.c mw)]) (.bi .all [(.comp 1 [0] [0] true none [(.v 1)] [] (.call iw [(.v 1),(.v 0)]))]))]⟩
section
variable {G:Prog}{k ir fG dP iy ip iw ia:Nat}{st:aA}{Q:VK}{E:XK}{names:List (List Nat)}
theorem uU (hy:G.fns iy=some (nL dP (.int 8)))(h:G.fns dP=some (kM fG dP (.cM uG wJ)))(hn:G.fns fG=some (gJ (.tup (eG.map .str)) (.str dS) (.int 8)))(jZ:∀ n∈names,eY n=true){s:Sy}(ho:over names s)(hd:aR s<=8)
 (hQ:∀ aB,Ext st aB->Q (.bl true) aB):aM G (k+10) iy [.tup (names.map .str),toD s] st Q E:=by
 rw[bC hy]
 simp only[nL,start]
 refine⟨rfl,?_⟩
 walk_at"st"
 have:=wO h hn jZ s (k:=k+(8-aR s)) (st:=st) (Q:=Q) (E:=E) (d:=8) ho (by omega) hQ
 have e:k+(8-aR s)+aR s+1=k+9:=by omega
 rw[e]at this;exact this
theorem AM (ha:G.fns ia=some (xD ir iy))(hr:G.fns ir=some kG)(hy:G.fns iy=some (nL dP (.int 8)))(h:G.fns dP=some (kM fG dP (.cM uG wJ)))(hn:G.fns fG=some (gJ (.tup (eG.map .str)) (.str dS) (.int 8)))(jZ:∀ n∈names,eY n=true){ss:List Sy}{m:Int}
  (ho:∀ s∈ss,over names s/\aR s<=8)(hl:(ss.length:Int)<=m)(hl2:ss.length<=1000)(hQ:∀ aB,Ext st aB->Q (.bl true) aB):aM G (k+11) ia [.tup (names.map .str),.tup (ss.map toD),.int m] st Q E:=by
 have hL:bI=16777216:=rfl
 rw[bC ha]
 simp only[xD,start]
 refine⟨rfl,?_⟩
 walk_at"st"
 refine lD hr ?_
 have e1:(decide ((0:Int)<=((ss.map toD).length:Int))&&decide (((ss.map toD).length:Int)<=m))=true:=by simp only[List.length_map,Bool.and_eq_true,decide_eq_true_eq];omega
 rw[e1]
 walk_at"ex"
 refine comp_map (fun _=>.bl true) _ [] st (fun aB x a ha=>by cases ha) (fun x hx aB K x1 hK=>?_) (by simp only[List.length_map,List.length_nil];omega) fun aB x1=>?_
 ·obtain⟨s,hs,rfl⟩:=List.mem_map.mp hx
  exact uU hy h hn jZ (ho s hs).1 (ho s hs).2 fun aX x2=>hK aX x2
 ·rw[List.nil_append]
  refine cJ (by simp only[List.length_map];omega) fun p aF x2 hp' jU=>?_
  simp only[dN]
  rw[aK jU,iM,bQ]
  have e3:(List.map (fun _=>true) (ss.map toD)).all id=true:=by simp
  rw[e3]
  exact hQ _ (x1.trans x2)
theorem G9 (h:G.fns ip=some (pH (.int 99))){p:Int}(h1:1<=p)(h2:p<=99)(hQ:Q (.bl true) st):aM G (k+1) ip [.int p] st Q E:=by
 rw[bC h]
 simp only[pH,start]
 refine⟨rfl,?_⟩
 walk_at"st"
 rw[if_pos h1,decide_eq_true h2]
 exact hQ
theorem LJ (hw:G.fns iw=some (wR ir ip iy))(hr:G.fns ir=some kG)(hp:G.fns ip=some (pH (.int 99)))(hy:G.fns iy=some (nL dP (.int 8)))(h:G.fns dP=some (kM fG dP (.cM uG wJ)))(hn:G.fns fG=some (gJ (.tup (eG.map .str)) (.str dS) (.int 8)))(jZ:∀ n∈names,eY n=true){s:Sy}{p:Int}
 (h1:1<=p)(h2:p<=99)(ho:over names s)(hd:aR s<=8)(hQ:∀ aB,Ext st aB->Q (.bl true) aB):aM G (k+11) iw [.tup (names.map .str),.tup [.int p,toD s]] st Q E:=by
 rw[bC hw]
 simp only[wR,start]
 refine⟨rfl,?_⟩
 walk_at"st"
 refine lD hr ?_
 have e1:(decide ((2:Int)<=(([.int p,toD s]:List D).length:Int))&&decide ((([.int p,toD s]:List D).length:Int)<=2))=true:=rfl
 rw[e1]
 walk_at"ex"
 refine G9 hp h1 h2 ?_
 walk_at"ex"
 exact uU hy h hn jZ ho hd fun aX x2=>hQ aX x2
end
end L3
end
section
namespace L3
open PySem
noncomputable def sV (ih ib:Nat):Fn:=⟨2,2,[.iff (.cmp .eq (.ix (.v 1) (.c (.int 0))) (.c (.str (W "before")))) [.ret (.c (.bl false))] [],.iff (.cmp .eq (.ix (.v 1) (.c (.int 0))) (.c (.str (W "lamp")))) [.ret (.cmp .in_ (.ix (.v 1) (.c (.int 1))) (.v 0))] [],.ret (.bi .any [(.comp 1 [0] [0] true none [(.call ih [(.v 1)])] [] (.call ib [(.v 1),(.v 0)]))])]⟩
noncomputable def jC (gs:List (List Nat)):Sy->Bool
 |.cI n=>gs.any (·== n)
 |.one .before _=>false
 |.one _ s=>jC gs s
 |.two _ s t=>jC gs s||jC gs t
 |_=>false
section
variable {G:Prog}{k ih ib ir fG dP iy ip iw ia:Nat}{st:aA}{Q:VK}{E:XK}{names:List (List Nat)}
theorem HJ (ha:G.fns ia=some (zG ir iw (.int 5)))(hw:G.fns iw=some (wR ir ip iy))(hr:G.fns ir=some kG)(hp:G.fns ip=some (pH (.int 99)))(hy:G.fns iy=some (nL dP (.int 8)))(h:G.fns dP=some (kM fG dP (.cM uG wJ)))(hn:G.fns fG=some (gJ (.tup (eG.map .str)) (.str dS) (.int 8)))(jZ:∀ n∈names,eY n=true){ws:List (Int×Sy)}
  (ho:∀ w∈ws,1<=w.1/\w.1<=99/\over names w.2/\aR w.2<=8)(h1:1<=ws.length)(h2:ws.length<=5)(hQ:∀ aB,Ext st aB->Q (.bl true) aB):aM G (k+12) ia [.tup (names.map .str),.tup (ws.map fun w=>.tup [.int w.1,toD w.2])] st Q E:=by
 have hL:bI=16777216:=rfl
 rw[bC ha]
 simp only[zG,start]
 refine⟨rfl,?_⟩
 walk_at"st"
 refine lD hr ?_
 have e1:(decide ((1:Int)<=((ws.map fun w=>D.tup [.int w.1,toD w.2]).length:Int))&&decide (((ws.map fun w=>D.tup [.int w.1,toD w.2]).length:Int)<=5))=true:=by simp only[List.length_map,Bool.and_eq_true,decide_eq_true_eq];omega
 rw[e1]
 walk_at"ex"
 refine comp_map (fun _=>.bl true) _ [] st (fun aB x a ha=>by cases ha) (fun x hx aB K x1 hK=>?_) (by simp only[List.length_map,List.length_nil];omega) fun aB x1=>?_
 ·obtain⟨s,hs,rfl⟩:=List.mem_map.mp hx
  obtain⟨o1,o2,o3,o4⟩:=ho s hs
  exact LJ hw hr hp hy h hn jZ o1 o2 o3 o4 fun aX x2=>hK aX x2
 ·rw[List.nil_append]
  refine cJ (by simp only[List.length_map];omega) fun p aF x2 hp' jU=>?_
  simp only[dN]
  rw[aK jU,iM,bQ]
  have e3:(List.map (fun _=>true) (ws.map fun w=>D.tup [.int w.1,toD w.2])).all id=true:=by simp
  rw[e3]
  exact hQ _ (x1.trans x2)
end
end L3
end
section
namespace L3
open PySem
theorem gI {α:Type}{g:aA->Prop}{turn:D->aA->(Option D->aA->Prop)->Prop}{R:List D->aA->Prop}(t f:α->D):∀(xs:List α)(acc:List D)(st:aA),
  (∀ aB,Ext st aB->g aB)->(∀ x∈xs,∀ aB (K:Option D->aA->Prop),Ext st aB->(∀ aX,Ext aB aX->K (some (f x)) aX)->turn (t x) aB K) ->
  acc.length+xs.length<=bI->(∀ aB,Ext st aB->R (acc++xs.map f) aB)->iP g turn (xs.map t) acc st R
 |[],acc,st,hg,_,_,hR=>⟨hg st .refl,by simpa using hR st .refl⟩
 |x::xs,acc,st,hg,ht,hl,hR=>by
  simp only[List.length_cons]at hl
  refine⟨hg st .refl,by omega,ht x (by simp) st _ .refl fun aX h''=>?_⟩
  exact gI t f xs (acc++[f x]) aX (fun aB h=>hg aB (h''.trans h)) (fun y hy aB K h=>ht y (by simp [hy]) aB K (h''.trans h)) (by simp only[List.length_append,List.length_cons,List.length_nil];omega) fun aB h=>by simpa using hR aB (h''.trans h)
theorem zM {α:Type}(b:α->Bool):∀(ps:List α),boolsOf (ps.map fun x=>.bl (b x))=some (ps.map b)
 |[]=>rfl
 |x::r=>by
  show(boolsOf (r.map fun x=>.bl (b x))).map (b x :: ·)=_
  rw[zM b r];rfl
section
variable {G:Prog}{k ih ib:Nat}{Q:VK}{E:XK}{gs:List (List Nat)}
theorem sU (h:G.fns ib=some (sV ih ib))(hh:G.fns ih=some iA){s:Sy}{st:aA}(h1:¬(wd s==W "before")=true)(h2:fJ s=false)(h3:¬(wd s==W "lamp")=true)(h4:(subs s).length<=2)
 (hp:∀ x∈subs s,∀(aB:aA)(Q':VK)(E':XK),Ext st aB->(∀ aX,Ext aB aX->Q' (.bl (jC gs x)) aX)->aM G (k+1) ib [.tup (gs.map .str),toD x] aB Q' E')(hQ:∀ aB,Ext st aB->Q (.bl ((subs s).any (jC gs))) aB):aM G (k+2) ib [.tup (gs.map .str),toD s] st Q E:=by
 have hL:bI=16777216:=rfl
 rw[bC h]
 simp only[sV,start]
 refine⟨rfl,?_⟩
 obtain⟨r,er⟩:=mZ s
 rw[er]
 walk_at"st"
 rw[if_neg h1,aE]
 walk_at"st"
 rw[if_neg h3,aE]
 walk_at"st"
 rw[<-er]
 refine qS hh ?_
 walk_at"ex"
 refine gI toD (fun x=>.bl (jC gs x)) _ [] st (fun aB x a ha=>by cases ha) (fun x hx aB K x1 hK=>hp x hx aB _ _ x1 fun aX x2=>hK aX x2) (by simp only[List.length_nil];omega) fun aB x1=>?_
 rw[List.nil_append]
 refine cJ (by simp only[List.length_map];omega) fun p aF x2 hp' jU=>?_
 simp only[dN]
 rw[aK jU,zM,bQ,List.any_map]
 exact hQ _ (x1.trans x2)
theorem xK (h:G.fns ib=some (sV ih ib))(hh:G.fns ih=some iA):∀(s:Sy){k:Nat}{st:aA}{Q:VK}{E:XK},(∀ aB,Ext st aB->Q (.bl (jC gs s)) aB)->aM G (k+aR s+1) ib [.tup (gs.map .str),toD s] st Q E
 |.yes,k,st,Q,E,hQ=>sU (k:=k) h hh (by decide) rfl (by decide) (by decide) (fun x hx=>by cases hx) hQ
 |.no,k,st,Q,E,hQ=>sU (k:=k) h hh (by decide) rfl (by decide) (by decide) (fun x hx=>by cases hx) hQ
 |.cI n,k,st,Q,E,hQ=>by
  rw[bC h]
  simp only[sV,start,toD]
  refine⟨rfl,?_⟩
  walk_at"st"
  have n1:¬(W "lamp" == W "before")=true:=by decide
  rw[if_neg n1,aE]
  walk_at"st"
  have n3:(W "lamp" == W "lamp")=true:=by decide
  rw[if_pos n3]
  walk_at"st"
  refine⟨iZ st gs,?_⟩
  have e:((gs.map D.str).any fun d=>bN st d (.str n))=jC gs (.cI n):=by rw[List.any_map];rfl
  rw[e]
  exact hQ _ .refl
 |.one w s,k,st,Q,E,hQ=>by
  by_cases hw:w=.before
  ·subst hw
   rw[bC h]
   simp only[sV,start,toD,c1]
   refine⟨rfl,?_⟩
   walk_at"st"
   have n1:(W "before" == W "before")=true:=by decide
   rw[if_pos n1]
   walk_at"st"
   exact hQ _ .refl
  ·have e0:k+aR (.one w s)+1=(k+aR s)+2:=by simp only[aR];omega
   rw[e0]
   refine sU h hh (show ¬(c1 w==W "before")=true by cases w<;>first|decide|exact absurd rfl hw) rfl (show ¬(c1 w==W "lamp")=true by cases w<;>decide) (by simp [subs]) (fun x hx aB Q' E' x1 hQ'=>?_) (fun aB x1=>?_)
   ·simp only[subs,List.mem_cons,List.not_mem_nil,or_false]at hx
    rw[hx]at hQ' ⊢
    exact xK h hh s (k:=k) (st:=aB) (Q:=Q') (E:=E') hQ'
   ·have e1:(subs (.one w s)).any (jC gs)=jC gs (.one w s):=by
     cases w<;>first|exact absurd rfl hw|simp [subs,jC]
    rw[e1];exact hQ aB x1
 |.two w s t,k,st,Q,E,hQ=>by
  have l1:=Nat.le_max_left (aR s) (aR t)
  have l2:=Nat.le_max_right (aR s) (aR t)
  have e0:k+aR (.two w s t)+1=(k+max (aR s) (aR t))+2:=by simp only[aR];omega
  rw[e0]
  refine sU h hh (show ¬(c2 w==W "before")=true by cases w<;>decide) rfl (show ¬(c2 w==W "lamp")=true by cases w<;>decide) (by simp [subs]) (fun x hx aB Q' E' x1 hQ'=>?_) (fun aB x1=>by simpa [subs,jC]using hQ aB x1)
  simp only[subs,List.mem_cons,List.not_mem_nil,or_false]at hx
  rcases hx with hx|hx
  ·rw[hx]at hQ' ⊢
   have:=xK h hh s (k:=k+(max (aR s) (aR t)-aR s)) (st:=aB) (Q:=Q') (E:=E') hQ'
   have e:k+(max (aR s) (aR t)-aR s)+aR s+1=k+max (aR s) (aR t)+1:=by omega
   rw[e]at this;exact this
  ·rw[hx]at hQ' ⊢
   have:=xK h hh t (k:=k+(max (aR s) (aR t)-aR t)) (st:=aB) (Q:=Q') (E:=E') hQ'
   have e:k+(max (aR s) (aR t)-aR t)+aR t+1=k+max (aR s) (aR t)+1:=by omega
   rw[e]at this;exact this
end
end L3
end
section
namespace L3
open PySem
noncomputable def BH (ia ib:Nat)(mp:D):Fn:=⟨3,3,[.ret (.and_ (.call ia [(.v 0),(.v 2),(.c mp)]) (.not_ (.bi .any [(.comp 1 [1] [0] true none [(.v 2)] [] (.call ib [(.v 1),(.v 0)]))])))]⟩
noncomputable def FP:Fn:=⟨3,3,[.ret (.bin .add (.bin .add (.bi .list [(.v 0)]) (.bi .list [(.v 1)])) (.comp 1 [] [0] true none [(.v 2)] [] (.ix (.v 0) (.c (.int 1)))))]⟩
section
variable {G:Prog}{k ih ib ir fG dP iy ia iap io:Nat}{st:aA}{Q:VK}{E:XK}{names gs:List (List Nat)}
theorem K7 (hp:G.fns iap=some (BH ia ib (.int 3)))(hb:G.fns ib=some (sV ih ib))(hh:G.fns ih=some iA)(ha:G.fns ia=some (xD ir iy))(hr:G.fns ir=some kG)(hy:G.fns iy=some (nL dP (.int 8)))(h:G.fns dP=some (kM fG dP (.cM uG wJ)))(hn:G.fns fG=some (gJ (.tup (eG.map .str)) (.str dS) (.int 8)))(jZ:∀ n∈names,eY n=true){ss:List Sy}
  (ho:∀ s∈ss,over names s/\aR s<=8)(hl:ss.length<=3)(hbare:∀ s∈ss,jC gs s=false)(hQ:∀ aB,Ext st aB->Q (.bl true) aB):aM G (k+12) iap [.tup (names.map .str),.tup (gs.map .str),.tup (ss.map toD)] st Q E:=by
 have hL:bI=16777216:=rfl
 rw[bC hp]
 simp only[BH,start]
 refine⟨rfl,?_⟩
 walk_at"st"
 refine AM ha hr hy h hn jZ ho (by omega) (by omega) fun aC y1=>?_
 walk_at"ex"
 refine gI toD (fun _=>.bl false) _ [] aC (fun aB x a ha=>by cases ha) (fun x hx aB K x1 hK=>?_) (by simp only[List.length_nil];omega) fun aB x1=>?_
 ·have e:k+11=(k+10-aR x)+aR x+1:=by have:=(ho x hx).2;omega
  rw[e]
  refine xK hb hh x fun aX x2=>?_
  rw[hbare x hx]
  exact hK aX x2
 ·rw[List.nil_append]
  refine cJ (by simp only[List.length_map];omega) fun p aF x2 hp' jU=>?_
  simp only[dN]
  rw[aK jU,zM (fun _=>false),bQ]
  have e3:(ss.map fun _=>false).any id=false:=by simp
  rw[e3]
  exact hQ _ ((y1.trans x1).trans x2)
theorem N5 (h:G.fns io=some FP){ps ms:List Sy}{ws:List (Int×Sy)}(h1:ps.length<=1000)(h2:ms.length<=1000)(h3:ws.length<=1000)
 (hQ:∀ p aB,Ext st aB->aB p=some (.lst ((ps++ms++ws.map (·.2)).map toD))->Q (.ref p) aB):aM G (k+1) io [.tup (ps.map toD),.tup (ms.map toD),.tup (ws.map fun w=>.tup [.int w.1,toD w.2])] st Q E:=by
 have hL:bI=16777216:=rfl
 rw[bC h]
 simp only[FP,start]
 refine⟨rfl,?_⟩
 walk_at"st"
 refine cJ (by simp only[List.length_map];omega) fun p aC x1 hp hp1=>?_
 walk_at"ex"
 refine cJ (by simp only[List.length_map];omega) fun q aF x2 hq hq2=>?_
 walk_at"ex"
 rw[aK (x2 _ _ hp1),aK hq2]
 refine cJ (by simp only[List.length_map,List.length_append];omega) fun r bB x3 hr hr3=>?_
 refine gI (fun w:Int×Sy=>D.tup [.int w.1,toD w.2]) (fun w=>toD w.2) _ [] bB (fun aB x a ha=>by cases ha) (fun x hx aB K y1 hK=>hK aB .refl) (by simp only[List.length_nil];omega) fun dI x4=>?_
 rw[List.nil_append]
 refine cJ (by simp only[List.length_map];omega) fun u fY x5 hu hu5=>?_
 show bY fY r fun xs=>bY fY u fun ys=>fR (xs++ys) fY Q
 rw[aK (x5 _ _ (x4 _ _ hr3)),aK hu5]
 refine cJ (by simp only[List.length_map,List.length_append];omega) fun v nQ x6 hv hv6=>?_
 refine hQ v nQ (((((x1.trans x2).trans x3).trans x4).trans x5).trans x6) ?_
 rw[hv6]
 simp only[List.map_append,List.map_map]
 rfl
end
end L3
end
section
namespace L3
open PySem
noncomputable def BZ (ir il iap ia iaw ipi io:Nat)(mm mp:D):Fn:=⟨1,6,[.iff (.or_ (.not_ (.call ir [(.v 0),(.c (.int 5)),(.c (.int 5))])) (.not_ (.call il [(.ix (.v 0) (.c (.int 0))),(.ix (.v 0) (.c (.int 1)))]))) [.ret (.c (.bl false))] [],.asg (.nm 1) (.ix (.v 0) (.c (.int 1))),.asg (.nm 2) (.bin .add (.ix (.v 0) (.c (.int 0))) (.v 1)),.asg (.nm 3) (.ix (.v 0) (.c (.int 2))),.asg (.nm 4) (.ix (.v 0) (.c (.int 3))),.asg (.nm 5) (.ix (.v 0) (.c (.int 4))),.iff (.or_ (.not_ (.call iap [(.v 2),(.v 1),(.v 3)])) (.not_ (.call ia [(.v 2),(.v 4),(.c mm)]))) [.ret (.c (.bl false))] [],.ret (.and_ (.call iaw [(.v 2),(.v 5)]) (.cmp .le (.bi .len [(.call ipi [(.call io [(.v 3),(.v 4),(.v 5)])])]) (.c mp)))]⟩
structure Bk where
 fs:List (List Nat)
 gs:List (List Nat)
 ps:List Sy
 ms:List Sy
 ws:List (Int×Sy)
noncomputable def Bk.d (b:Bk):D:=.tup [.tup (b.fs.map .str),.tup (b.gs.map .str),.tup (b.ps.map toD),.tup (b.ms.map toD),.tup (b.ws.map fun w=>.tup [.int w.1,toD w.2])]
noncomputable def Bk.names (b:Bk):List (List Nat):=b.fs++b.gs
noncomputable def Bk.says (b:Bk):List Sy:=b.ps++b.ms++b.ws.map (·.2)
structure Bk.Ok (b:Bk):Prop where
 f1:1<=b.fs.length
 f2:b.fs.length<=2
 g1:1<=b.gs.length
 g2:b.gs.length<=2
 nd:b.names.Nodup
 nm:∀ n∈b.names,eY n=true
 p1:b.ps.length<=3
 p2:∀ s∈b.ps,over b.names s/\aR s<=8
 p3:∀ s∈b.ps,jC b.gs s=false
 m1:b.ms.length<=3
 m2:∀ s∈b.ms,over b.names s/\aR s<=8
 w1:1<=b.ws.length
 w2:b.ws.length<=5
 w3:∀ w∈b.ws,1<=w.1/\w.1<=99/\over b.names w.2/\aR w.2<=8
section
variable {G:Prog}{k ih ib ir fG dP iy ia iap io il iaw ipi ip iw ibk:Nat}{st:aA}{Q:VK}{E:XK}
theorem HK (h:G.fns ir=some kG){ds:List D}{lo hi:Int}(h1:lo<=(ds.length:Int))(h2:(ds.length:Int)<=hi)(hQ:Q (.bl true) st):aM G (k+1) ir [.tup ds,.int lo,.int hi] st Q E :=
 lD h (by rw[decide_eq_true h1,decide_eq_true h2];exact hQ)
end
end L3
end
section
namespace L3
open PySem
section
variable {G:Prog}{k ir il iap ia iaw ipi io ibk:Nat}{Q:VK}{E:XK}
theorem HQ (hbk:G.fns ibk=some (BZ ir il iap ia iaw ipi io (.int 3) (.int 4)))(hr:G.fns ir=some kG){F J P M V N:D}{st:aA}{Φ:Nat->aA->Prop}
 (h1:∀(st:aA)(Q:VK)(E:XK),(∀ aB,Ext st aB->Q (.bl true) aB)->aM G (k+12) il [F,J] st Q E)(h2:∀(st:aA)(Q:VK),Q N st->gZ .add F J st Q)
 (h3:∀(st:aA)(Q:VK)(E:XK),(∀ aB,Ext st aB->Q (.bl true) aB)->aM G (k+12) iap [N,J,P] st Q E)(h4:∀(st:aA)(Q:VK)(E:XK),(∀ aB,Ext st aB->Q (.bl true) aB)->aM G (k+12) ia [N,M,.int 3] st Q E)
 (h5:∀(st:aA)(Q:VK)(E:XK),(∀ aB,Ext st aB->Q (.bl true) aB)->aM G (k+12) iaw [N,V] st Q E)(h6:∀(st:aA)(Q:VK)(E:XK),(∀ l aB,Ext st aB->Φ l aB->Q (.ref l) aB)->aM G (k+12) io [P,M,V] st Q E)
 (h7:∀(l:Nat)(st:aA)(Q:VK)(E:XK),Φ l st->(∀ p aB (xs:List D),Ext st aB->xs.length<=4->aB p=some (.lst xs)->Q (.ref p) aB)->aM G (k+12) ipi [.ref l] st Q E)
 (hQ:∀ aB,Ext st aB->Q (.bl true) aB):aM G (k+13) ibk [.tup [F,J,P,M,V]] st Q E:=by
 rw[bC hbk]
 simp only[BZ,start]
 refine⟨rfl,?_⟩
 walk_at"st"
 refine HK hr (Int.le_refl 5) (Int.le_refl 5) ?_
 walk_at"ex"
 refine h1 _ _ _ fun aC x1=>?_
 walk_at"ex"
 rw[aE]
 try dsimp only
 refine fI ?_
 rw[sM,yT,CO]
 simp only[↓B9,↓GR]
 rw[jS,show eJ [F,J,P,M,V] 1=some J from rfl,bQ,wZ]
 simp only[List.set_cons_succ,List.set_cons_zero]
 refine fI ?_
 rw[sM,LA,yT,CO]
 simp only[↓B9,↓GR]
 rw[jS,show eJ [F,J,P,M,V] 0=some F from rfl,bQ,CO]
 simp only[List.set_cons_succ,List.set_cons_zero,↓W0]
 refine h2 _ _ ?_
 rw[wZ]
 simp only[List.set_cons_succ,List.set_cons_zero]
 refine fI ?_
 rw[sM,yT,CO]
 simp only[List.set_cons_succ,List.set_cons_zero,↓B9,↓GR]
 rw[jS,show eJ [F,J,P,M,V] 2=some P from rfl,bQ,wZ]
 simp only[List.set_cons_succ,List.set_cons_zero]
 refine fI ?_
 rw[sM,yT,CO]
 simp only[List.set_cons_succ,List.set_cons_zero,↓B9,↓GR]
 rw[jS,show eJ [F,J,P,M,V] 3=some M from rfl,bQ,wZ]
 simp only[List.set_cons_succ,List.set_cons_zero]
 refine fI ?_
 rw[sM,yT,CO]
 simp only[List.set_cons_succ,List.set_cons_zero,↓B9,↓GR]
 rw[jS,show eJ [F,J,P,M,V] 4=some V from rfl,bQ,wZ]
 simp only[List.set_cons_succ,List.set_cons_zero]
 walk_at"st"
 refine h3 _ _ _ fun aF x2=>?_
 walk_at"ex"
 refine h4 _ _ _ fun bB x3=>?_
 walk_at"ex"
 rw[aE]
 walk_at"st"
 refine h5 _ _ _ fun dI x4=>?_
 walk_at"ex"
 refine h6 _ _ _ fun l fY x5 hl=>?_
 walk_at"ex"
 refine h7 _ _ _ _ hl fun p nQ xs x6 hx hp=>?_
 walk_at"ex"
 unfold dH
 rw[hp]
 show Q (.bl (decide ((xs.length:Int)<=4))) nQ
 rw[decide_eq_true (show(xs.length:Int)<=4 by omega)]
 exact hQ _ (((((x1.trans x2).trans x3).trans x4).trans x5).trans x6)
end
end L3
end
section
namespace L3
open PySem
section
variable {G:Prog}{k ih ib ir fG dP iy ia iap io il iaw ipi ip iw ibk:Nat}{st:aA}{Q:VK}{E:XK}
theorem J9 (hbk:G.fns ibk=some (BZ ir il iap ia iaw ipi io (.int 3) (.int 4)))(hla:G.fns il=some (E1 ir fG (.int 2)))(hap:G.fns iap=some (BH ia ib (.int 3)))(hb:G.fns ib=some (sV ih ib))(hh:G.fns ih=some iA)(ha:G.fns ia=some (xD ir iy))(hr:G.fns ir=some kG)(hy:G.fns iy=some (nL dP (.int 8)))(h:G.fns dP=some (kM fG dP (.cM uG wJ)))
  (hn:G.fns fG=some (gJ (.tup (eG.map .str)) (.str dS) (.int 8)))(haw:G.fns iaw=some (zG ir iw (.int 5)))(hw:G.fns iw=some (wR ir ip iy))(hp:G.fns ip=some (pH (.int 99)))(ho:G.fns io=some FP)(hpi:G.fns ipi=some (kY ih)){b:Bk}(B:b.Ok)(hs:fD b.says<bI)(hd:∀ x∈b.says,aR x<=60)(hc:(cO b.says []).length<=4)
  (hQ:∀ aB,Ext st aB->Q (.bl true) aB):aM G (k+13) ibk [b.d] st Q E:=by
 have hL:bI=16777216:=rfl
 have f2:=B.f2
 have g2:=B.g2
 have p1:=B.p1
 have m1:=B.m1
 have w2:=B.w2
 refine HQ hbk hr (N:=.tup (b.names.map .str)) (Φ:=fun l st=>st l=some (.lst (b.says.map toD))) (fun st Q E q=>ON (k:=k+10) hla hr hn B.f1 B.f2 B.g1 B.g2 B.nd B.nm q) (fun st Q q=>?_) (fun st Q E q=>K7 (k:=k) hap hb hh ha hr hy h hn B.nm B.p2 B.p1 B.p3 q)
  (fun st Q E q=>AM (k:=k+1) ha hr hy h hn B.nm B.m2 (by omega) (by omega) q) (fun st Q E q=>HJ (k:=k) haw hw hr hp hy h hn B.nm B.w3 B.w1 B.w2 q) (fun st Q E q=>N5 (k:=k+11) ho (by omega) (by omega) (by omega) fun p aB x e=>q p aB x e)
  (fun l st Q E e q=>vC (k:=k+10) hpi hh e hd hs fun p aB x e'=>q p aB _ x (by simpa using hc) e') hQ
 show _/\Q _ st
 refine⟨by simp only[List.length_map];omega,?_⟩
 rw[<-List.map_append]
 exact q
end
end L3
end
section
namespace L3
noncomputable def iW (f g:Nat->Bool):Nat->Bool
 |0=>g 0
 |t+1=>g (t+1)||(f (t+1)&&iW f g t)
noncomputable def EB (names:List (List Nat))(aI:List (List Bool))(n:List Nat)(t:Nat):Bool:=(((aI[t]?).getD [])[names.idxOf n]?).getD false
noncomputable def hv (names:List (List Nat))(aI:List (List Bool)):Sy->Nat->Bool
 |.yes,_=>true
 |.no,_=>false
 |.cI n,t=>EB names aI n t
 |.one .not s,t=>!hv names aI s t
 |.one .before s,t=>decide (0<t)&&hv names aI s (t-1)
 |.one .once s,t=>(List.range (t+1)).any (hv names aI s)
 |.one .sofar s,t=>(List.range (t+1)).all (hv names aI s)
 |.two .and s u,t=>hv names aI s t&&hv names aI u t
 |.two .or s u,t=>hv names aI s t||hv names aI u t
 |.two .aV s u,t=>hv names aI u t || !hv names aI s t
 |.two .same s u,t=>hv names aI s t==hv names aI u t
 |.two .since s u,t=>iW (hv names aI s) (hv names aI u) t
noncomputable def oG:Sy->Sy
 |.one .before s=>s
 |s=>s
noncomputable def fO:Sy->Bool
 |.one .sofar _=>true
 |_=>false
noncomputable def kA (names:List (List Nat))(aI:List (List Bool))(t:Nat)(p:Sy):Bool:=if t=0 then fO p else hv names aI (oG p) (t-1)
noncomputable def fZ:Sy->Bool->List Bool->Bool
 |.one .before _,m,_=>m
 |.one .once _,m,a::_=>m||a
 |.one .sofar _,m,a::_=>m&&a
 |.two .since _ _,m,a::b::_=>b||(m&&a)
 |_,_,_=>false
noncomputable def sT:Sy->List Bool->Bool
 |.yes,_=>true
 |.one .not _,a::_=>!a
 |.two .and _ _,a::b::_=>a&&b
 |.two .or _ _,a::b::_=>a||b
 |.two .aV _ _,a::b::_=>b || !a
 |.two .same _ _,a::b::_=>a==b
 |_,_=>false
section
variable {names:List (List Nat)}{aI:List (List Bool)}
theorem BF (f:Nat->Bool)(t:Nat):(List.range (t+1)).any f=((List.range t).any f||f t):=by rw[List.range_succ];simp
theorem BP (f:Nat->Bool)(t:Nat):(List.range (t+1)).all f=((List.range t).all f&&f t):=by rw[List.range_succ];simp
theorem VG {s:Sy}(h:bU s=true)(t:Nat):hv names aI s t=fZ s (kA names aI t s) ((subs s).map fun u=>hv names aI u t):=by
 cases s with
 |one w a =>
  cases w with
  |not=>cases h
  |before =>
   cases t with
   |zero=>simp [hv,fZ,kA,fO]
   |succ t=>simp [hv,fZ,kA,oG]
  |once =>
   cases t with
   |zero=>simp [hv,fZ,kA,fO,subs]
   |succ t=>simp only[hv,fZ,kA,oG,subs,List.map_cons];rw[BF];simp
  |sofar =>
   cases t with
   |zero=>simp [hv,fZ,kA,fO,subs]
   |succ t=>simp only[hv,fZ,kA,oG,subs,List.map_cons];rw[BP];simp
 |two w a b =>
  cases w with
  |since =>
   cases t with
   |zero=>simp [hv,fZ,kA,fO,subs,iW]
   |succ t =>
    simp only[hv,fZ,kA,oG,subs,List.map_cons,iW]
    simp [Bool.and_comm]
  |_=>cases h
 |_=>cases h
theorem YT {s:Sy}(h:bU s=false)(hl:fJ s=false)(t:Nat):hv names aI s t=sT s ((subs s).map fun u=>hv names aI u t):=by
 cases s with
 |one w a=>cases w<;>first|rfl|cases h
 |two w a b=>cases w<;>first|rfl|cases h
 |cI n=>cases hl
 |_=>rfl
end
end L3
end
section
namespace L3
open PySem
local macro_rules|`(tactic| walk_at"wd")=>`(tactic| (first|rw[if_pos (by decide +kernel)]|rw[if_neg (by decide +kernel)]))
noncomputable def B8:Fn:=⟨2,2,[.iff (.cmp .eq (.v 0) (.c (.str (W "not")))) [.ret (.not_ (.ix (.v 1) (.c (.int 0))))] [],.iff (.cmp .eq (.v 0) (.c (.str (W "and")))) [.ret (.and_ (.ix (.v 1) (.c (.int 0))) (.ix (.v 1) (.c (.int 1))))] [],.iff (.cmp .eq (.v 0) (.c (.str (W "or")))) [.ret (.or_ (.ix (.v 1) (.c (.int 0))) (.ix (.v 1) (.c (.int 1))))] [],.iff (.cmp .eq (.v 0) (.c (.str (W "then")))) [.ret (.or_ (.ix (.v 1) (.c (.int 1))) (.not_ (.ix (.v 1) (.c (.int 0)))))] [],.iff (.cmp .eq (.v 0) (.c (.str (W "same")))) [.ret (.cmp .eq (.ix (.v 1) (.c (.int 0))) (.ix (.v 1) (.c (.int 1))))] [],.ret (.cmp .eq (.v 0) (.c (.str (W "yes"))))]⟩
noncomputable def xQ:Fn:=⟨3,3,[.iff (.cmp .eq (.v 0) (.c (.str (W "before")))) [.ret (.v 1)] [],.iff (.cmp .eq (.v 0) (.c (.str (W "once")))) [.ret (.or_ (.v 1) (.ix (.v 2) (.c (.int 0))))] [],.iff (.cmp .eq (.v 0) (.c (.str (W "sofar")))) [.ret (.and_ (.v 1) (.ix (.v 2) (.c (.int 0))))] [],.ret (.or_ (.ix (.v 2) (.c (.int 1))) (.and_ (.v 1) (.ix (.v 2) (.c (.int 0)))))]⟩
section
variable {G:Prog}{k i:Nat}{st:aA}{Q:VK}{E:XK}
theorem xG {q:Nat}{bs:List Bool}{j:Nat}{b:Bool}(hq:st q=some (.lst (bs.map .bl)))(hb:bs[j]? = some b):lZ (.ref q) (.int (j:Nat)) st Q=Q (.bl b) st:=by
 have hj:j<bs.length:=by
  by_cases h:j<bs.length
  ·exact h
  ·rw[List.getElem?_eq_none (by omega)]at hb;cases hb
 rw[gM hq,dW (by simpa using hj),List.getElem?_map,hb]
 rfl
theorem YL (h:G.fns i=some B8){s:Sy}(hp:bU s=false)(hl:fJ s=false){q:Nat}{bs:List Bool}(hb:bs.length=(subs s).length)(hq:st q=some (.lst (bs.map .bl)))(hQ:Q (.bl (sT s bs)) st):aM G (k+1) i [.str (wd s),.ref q] st Q E:=by
 rw[bC h]
 simp only[B8,start]
 refine⟨rfl,?_⟩
 cases s with
 |yes =>
  simp only[wd]
  iterate 5 (walk_at"st"; walk_at"wd"; rw[aE])
  walk_at"st"
  have e:(W "yes" == W "yes")=true:=by decide +kernel
  rw[e]
  exact hQ
 |no =>
  simp only[wd]
  iterate 5 (walk_at"st"; walk_at"wd"; rw[aE])
  walk_at"st"
  have e:(W "no" == W "yes")=false:=by decide +kernel
  rw[e]
  exact hQ
 |cI n=>cases hl
 |one w a =>
  cases w with
  |not =>
   simp only[wd,c1]
   match bs,hb,hq,hQ with
   |[b],_,hq,hQ =>
    have i0:=fun(Q:VK)=>xG (st:=st) (Q:=Q) (j:=0) hq rfl
    simp only[Int.natCast_zero]at i0
    walk_at"st"; walk_at"wd"
    walk_at"st"
    rw[i0]
    walk_at"ex"
    exact hQ
  |_=>cases hp
 |two w a c =>
  match bs,hb,hq,hQ with
  |[b,b'],_,hq,hQ =>
   have i0:=fun(Q:VK)=>xG (st:=st) (Q:=Q) (j:=0) hq rfl
   have i1:=fun(Q:VK)=>xG (st:=st) (Q:=Q) (j:=1) hq rfl
   simp only[Int.natCast_zero]at i0
   have e1:((1:Nat):Int)=1:=rfl
   rw[e1]at i1
   cases w with
   |and =>
    simp only[wd,c2]
    iterate 1 (walk_at"st"; walk_at"wd"; rw[aE])
    walk_at"st"; walk_at"wd"
    walk_at"st"
    rw[i0]
    walk_at"ex"
    cases b with
    |false=>simpa [sT]using hQ
    |true=>simp only[if_true];rw[i1];simpa [sT]using hQ
   |or =>
    simp only[wd,c2]
    iterate 2 (walk_at"st"; walk_at"wd"; rw[aE])
    walk_at"st"; walk_at"wd"
    walk_at"st"
    rw[i0]
    walk_at"ex"
    cases b with
    |true=>simpa [sT]using hQ
    |false=>simp only[Bool.false_eq_true,if_false];rw[i1];simpa [sT]using hQ
   |aV =>
    simp only[wd,c2]
    iterate 3 (walk_at"st"; walk_at"wd"; rw[aE])
    walk_at"st"; walk_at"wd"
    walk_at"st"
    rw[i1]
    walk_at"ex"
    cases b' with
    |true=>simpa [sT]using hQ
    |false=>simp only[Bool.false_eq_true,if_false];walk_at"ex"; rw[i0];walk_at"ex"; simpa [sT]using hQ
   |same =>
    simp only[wd,c2]
    iterate 4 (walk_at"st"; walk_at"wd"; rw[aE])
    walk_at"st"; walk_at"wd"
    walk_at"st"
    rw[i0]
    rw[i1]
    walk_at"ex"
    exact hQ
   |since=>cases hp
theorem VH (h:G.fns i=some xQ){s:Sy}(hp:bU s=true){q:Nat}{m:Bool}{bs:List Bool}(hb:bs.length=(subs s).length)(hq:st q=some (.lst (bs.map .bl)))(hQ:Q (.bl (fZ s m bs)) st):aM G (k+1) i [.str (wd s),.bl m,.ref q] st Q E:=by
 rw[bC h]
 simp only[xQ,start]
 refine⟨rfl,?_⟩
 cases s with
 |one w a =>
  match bs,hb,hq,hQ with
  |[b],_,hq,hQ =>
   have i0:=fun(Q:VK)=>xG (st:=st) (Q:=Q) (j:=0) hq rfl
   simp only[Int.natCast_zero]at i0
   cases w with
   |not=>cases hp
   |before =>
    simp only[wd,c1]
    walk_at"st"; walk_at"wd"
    walk_at"st"
    exact hQ
   |once =>
    simp only[wd,c1]
    iterate 1 (walk_at"st"; walk_at"wd"; rw[aE])
    walk_at"st"; walk_at"wd"
    walk_at"st"
    cases m with
    |true=>simpa [fZ]using hQ
    |false=>simp only[Bool.false_eq_true,if_false];rw[i0];simpa [fZ]using hQ
   |sofar =>
    simp only[wd,c1]
    iterate 2 (walk_at"st"; walk_at"wd"; rw[aE])
    walk_at"st"; walk_at"wd"
    walk_at"st"
    cases m with
    |false=>simpa [fZ]using hQ
    |true=>simp only[if_true];rw[i0];simpa [fZ]using hQ
 |two w a c =>
  match bs,hb,hq,hQ with
  |[b,b'],_,hq,hQ =>
   have i0:=fun(Q:VK)=>xG (st:=st) (Q:=Q) (j:=0) hq rfl
   have i1:=fun(Q:VK)=>xG (st:=st) (Q:=Q) (j:=1) hq rfl
   simp only[Int.natCast_zero]at i0
   have e1:((1:Nat):Int)=1:=rfl
   rw[e1]at i1
   cases w with
   |since =>
    simp only[wd,c2]
    iterate 3 (walk_at"st"; walk_at"wd"; rw[aE])
    walk_at"st"
    rw[i1]
    walk_at"ex"
    cases b' with
    |true=>simpa [fZ]using hQ
    |false =>
     simp only[Bool.false_eq_true,if_false]
     cases m with
     |false=>simpa [fZ]using hQ
     |true=>simp only[if_true];rw[i0];simpa [fZ]using hQ
   |_=>cases hp
 |_=>cases hp
end
end L3
end
section
namespace L3
open PySem
mutual
theorem P5 {st:aA}:∀(a b:D),bR a=true->bN st a b=bG a b
 |.non,b,_=>by cases b<;>simp only[bN,bG]
 |.bl _,b,_=>by cases b<;>simp only[bN,bG]
 |.int _,b,_=>by cases b<;>simp only[bN,bG]
 |.str _,b,_=>by cases b<;>simp only[bN,bG]
 |.tup as,b,h=>by
  cases b with
  |tup bs=>simp only[bN,bG];exact RL as bs (by simpa [bR]using h)
  |_=>simp only[bN,bG]
 |.ref _,_,h=>by simp [bR]at h
 |.cM _ _,_,h=>by simp [bR]at h
 |.bF _,_,h=>by simp [bR]at h
 |.exc _,_,h=>by simp [bR]at h
theorem RL {st:aA}:∀(as bs:List D),bV as=true->iO st as bs=gF as bs
 |[],[],_=>rfl
 |[],_::_,_=>rfl
 |_::_,[],_=>rfl
 |a::as,b::bs,h=>by
  simp only[bV,Bool.and_eq_true]at h
  simp only[iO,gF]
  rw[P5 a b h.1,RL as bs h.2]
end
theorem JK (s t:Sy):bG (toD s) (toD t)=decide (s=t):=by rw[<-P5 (st:=fun _=>none) _ _ (kS s)];exact oR s t
theorem GG (x:Sy)(f:List Sy):((f.map toD).any fun d=>bG d (toD x))=f.contains x:=by
 rw[<-HX (st:=fun _=>none),List.any_map,List.any_map]
 congr 1
 funext y
 simp only[Function.comp]
 rw[P5 _ _ (kS y)]
theorem wW:∀ s:Sy,iC (toD s)=true
 |.yes=>rfl
 |.no=>rfl
 |.cI n=>rfl
 |.one w s=>by simp only[toD,iC,iN,wW s,Bool.and_self]
 |.two w s t=>by simp only[toD,iC,iN,wW s,wW t,Bool.and_self]
theorem nD {s:Sy}(h:aR s<=8):keyed (toD s):=by
 have h1:=wW s
 have h2:=oP s
 obtain⟨r,e⟩:=mZ s
 rw[e]at h1 h2 ⊢
 simp only[iC]at h1
 simp only[cQ]at h2
 exact⟨h1,by omega⟩
theorem uZ {st:aA}{n:List Nat}:∀{names:List (List Nat)},n∈names->findD st (.str n) (names.map .str)=some (names.idxOf n)
 |[],h=>by cases h
 |m::r,h=>by
  simp only[List.map_cons,findD,gH]
  by_cases e:m=n
  ·subst e;simp [List.idxOf_cons]
  ·rw[if_neg (by simpa using e),uZ (by simpa [Ne.symm e]using h)]
   rw[List.idxOf_cons,beq_eq_false_iff_ne.mpr e];rfl
theorem CL {st:aA}{s:Sy}:∀{ps:List Sy},s∈ps->findD st (toD s) (ps.map toD)=some (ps.idxOf s)
 |[],h=>by cases h
 |m::r,h=>by
  simp only[List.map_cons,findD,oR]
  by_cases e:m=s
  ·subst e;simp [List.idxOf_cons]
  ·rw[if_neg (by simpa using e),CL (by simpa [Ne.symm e]using h)]
   rw[List.idxOf_cons,beq_eq_false_iff_ne.mpr e];rfl
noncomputable def iY (names:List (List Nat))(aU:List Sy):Sy->D
 |.cI n=>.int (names.idxOf n:Nat)
 |s=>if bU s then .int (aU.idxOf s:Nat)else .non
noncomputable def DE (aU:List Sy):Sy->Prop
 |.one w s=>(p1 w=true->Sy.one w s∈aU)/\DE aU s
 |.two w s t=>(p2 w=true->Sy.two w s t∈aU)/\DE aU s/\DE aU t
 |_=>True
structure Good (names:List (List Nat))(aU:List Sy)(s:Sy):Prop where
 ov:over names s
 dp:aR s<=8
 pp:DE aU s
theorem Good.subs {names:List (List Nat)}{aU:List Sy}{s t:Sy}(h:Good names aU s)(ht:t∈subs s):Good names aU t:=by
 have hd:=yW ht
 have h0:=h.dp
 cases s with
 |one w a =>
 simp only[L3.subs,List.mem_singleton]at ht;subst ht
 exact⟨h.ov,by omega,h.pp.2⟩
 |two w a b =>
 simp only[L3.subs,List.mem_cons,List.not_mem_nil,or_false]at ht
 rcases ht with rfl|rfl
 ·exact⟨h.ov.1,by omega,h.pp.2.1⟩
 ·exact⟨h.ov.2,by omega,h.pp.2.2⟩
 |_=>cases ht
theorem Good.mem {names:List (List Nat)}{aU:List Sy}{s:Sy}(h:Good names aU s)(hp:bU s=true):s∈aU:=by
 cases s with
 |one w a=>exact h.pp.1 hp
 |two w a b=>exact h.pp.1 hp
 |_=>cases hp
noncomputable def Eb (st:aA)(lr:Nat)(names:List (List Nat))(aU R:List Sy)(j:Nat)(s:Sy)(d:D):Prop:=∃(q:Nat)(is:List Nat),d=.tup [.str (wd s),iY names aU s,.ref q]/\q≠lr/\st q=some (.lst (is.map fun i=>.int (i:Nat)))/\is.length=(subs s).length /\
 ∀(m i:Nat)(t:Sy),is[m]? = some i->(subs s)[m]? = some t->i<j/\R[i]? = some t
noncomputable def XC (st:aA)(lr:Nat)(names:List (List Nat))(aU R:List Sy)(rows:List D):Prop:=rows.length=R.length/\∀ j s d,R[j]? = some s->rows[j]? = some d->Eb st lr names aU R j s d
noncomputable def vJ (n:Nat):List D:=(List.range n).map fun i=>.int (i:Nat)
noncomputable def oF (names:List (List Nat))(lp lr ld:Nat):List (List Nat×D):=[(W "names", .tup (names.map .str)),(W "pieces", .ref lp),(W "rows", .ref lr),(W "row_of", .ref ld)]
structure gN (st:aA)(p lp lr ld:Nat)(names:List (List Nat))(aU R:List Sy)(xs:List (List Nat×D)):Prop where
 ins:st p=some (.ins (W "Table") (oF names lp lr ld++xs))
 pc:st lp=some (.lst (aU.map toD))
 rows:∃ rows,st lr=some (.lst rows)/\XC st lr names aU R rows
 tab:st ld=some (.tab (R.map toD) (vJ R.length))
 ne:lp≠lr
 nd:R.Nodup
 gd:∀ s∈R,Good names aU s
 len:R.length<=5000
 pd:∀ s∈aU,aR s<=60
theorem PC {names:List (List Nat)}{lp lr ld:Nat}{xs:List (List Nat×D)}:dA (oF names lp lr ld++xs) (W "names")=some (.tup (names.map .str)):=by
 simp only[oF,List.cons_append,dA];rw[if_pos True.intro]
theorem vH {names:List (List Nat)}{lp lr ld:Nat}{xs:List (List Nat×D)}:dA (oF names lp lr ld++xs) (W "pieces")=some (.ref lp):=by
 simp only[oF,List.cons_append,dA];rw[if_neg (by decide +kernel),if_pos True.intro]
theorem BV {names:List (List Nat)}{lp lr ld:Nat}{xs:List (List Nat×D)}:dA (oF names lp lr ld++xs) (W "rows")=some (.ref lr):=by
 simp only[oF,List.cons_append,dA];rw[if_neg (by decide +kernel),if_neg (by decide +kernel),if_pos True.intro]
theorem mK {names:List (List Nat)}{lp lr ld:Nat}{xs:List (List Nat×D)}:dA (oF names lp lr ld++xs) (W "row_of")=some (.ref ld):=by
 simp only[oF,List.cons_append,dA];rw[if_neg (by decide +kernel),if_neg (by decide +kernel),if_neg (by decide +kernel),if_pos True.intro]
theorem jA {names:List (List Nat)}{lp lr ld:Nat}{xs:List (List Nat×D)}{f:List Nat}(h1:W "names" ≠ f)(h2:W "pieces" ≠ f)(h3:W "rows" ≠ f)(h4:W "row_of" ≠ f):dA (oF names lp lr ld++xs) f=dA xs f:=by
 simp only[oF,List.cons_append,List.nil_append,dA];rw[if_neg h1,if_neg h2,if_neg h3,if_neg h4]
theorem gN.keep {st aB:aA}{p lp lr ld:Nat}{names:List (List Nat)}{aU R:List Sy}{xs:List (List Nat×D)}(T:gN st p lp lr ld names aU R xs)(h:Ext st aB):gN aB p lp lr ld names aU R xs:=by
 obtain⟨rows,r1,r2,r3⟩:=T.rows
 refine⟨h _ _ T.ins,h _ _ T.pc,⟨rows,h _ _ r1,r2,fun j s d e1 e2=>?_⟩,h _ _ T.tab,T.ne,T.nd,T.gd,T.len,T.pd⟩
 obtain⟨q,is,a1,a2,a3,a4⟩:=r3 j s d e1 e2
 exact⟨q,is,a1,a2,h _ _ a3,a4⟩
theorem EM {s:Sy}:∀{R:List Sy}{vs:List D}{j:Nat}{d:D},R.Nodup->R[j]? = some s->vs[j]? = some d->vs.length=R.length->kO (R.map toD) vs (toD s)=some d
 |[],_,_,_,_,h,_,_=>by simp at h
 |x::R,[],_,_,_,_,_,h=>by simp at h
 |x::R,v::vs,0,d,nd,h,hv,hl=>by
  simp at h hv
  subst h hv
  simp only[List.map_cons,kO,JK,decide_true,if_true]
 |x::R,v::vs,j+1,d,nd,h,hv,hl=>by
  simp at h hv hl
  have hx:x≠s:=fun e=>by subst e;exact(List.nodup_cons.mp nd).1 (List.mem_of_getElem? h)
  simp only[List.map_cons,kO,JK]
  rw[if_neg (by simpa using hx)]
  exact EM (List.nodup_cons.mp nd).2 h hv hl
theorem UT (n:Nat):(vJ n).length=n:=by simp [vJ]
theorem XZ {n j:Nat}(h:j<n):(vJ n)[j]? = some (.int (j:Nat)):=by simp [vJ,h]
theorem gN.look {st:aA}{p lp lr ld:Nat}{names:List (List Nat)}{aU R:List Sy}{xs:List (List Nat×D)}(T:gN st p lp lr ld names aU R xs){s:Sy}{j:Nat}(h:R[j]? = some s):kO (R.map toD) (vJ R.length) (toD s)=some (.int (j:Nat)):=by
 have hj:j<R.length:=by
  by_cases q:j<R.length
  ·exact q
  ·rw[List.getElem?_eq_none (by omega)]at h;cases h
 exact EM T.nd h (XZ hj) (UT _)
end L3
end
section
namespace L3
open PySem
noncomputable def rR:Fn:=⟨2,2,[.iff (.cmp .eq (.ix (.v 1) (.c (.int 0))) (.c (.str (W "lamp")))) [.ret (.cC .index (.fld (W "Table") (W "names") (.v 0)) [(.ix (.v 1) (.c (.int 1)))])] [],.iff (.cmp .in_ (.ix (.v 1) (.c (.int 0))) (.c tB)) [.ret (.cC .index (.fld (W "Table") (W "pieces") (.v 0)) [(.v 1)])] [],.ret (.c .non)]⟩
noncomputable def GW:Fn:=⟨2,2,[.iff (.cmp .eq (.ix (.v 1) (.c (.int 0))) (.c (.str (W "before")))) [.ret (.dix (.fld (W "Table") (W "row_of") (.v 0)) (.ix (.v 1) (.c (.int 1))))] [],.ret (.dix (.fld (W "Table") (W "row_of") (.v 0)) (.v 1))]⟩
noncomputable def zW (iph inh:Nat):Fn:=⟨3,8,[.asg (.nm 3) (.lst []),.iD (.tp [4,5,6]) none [(.fld (W "Table") (W "rows") (.v 0))] [.asg (.nm 7) (.comp 1 [3] [0] true none [(.v 6)] [] (.ix (.v 1) (.v 0))),.iff (.cmp .eq (.v 4) (.c (.str (W "lamp")))) [.ex (.cC .append (.v 3) [(.ix (.v 2) (.v 5))])] [.iff (.cmp .in_ (.v 4) (.c tB)) [.ex (.cC .append (.v 3) [(.call iph [(.v 4),(.ix (.v 1) (.v 5)),(.v 7)])])] [.ex (.cC .append (.v 3) [(.call inh [(.v 4),(.v 7)])])]]],.ret (.v 3)]⟩
noncomputable def FY:Fn:=⟨2,2,[.ret (.bi .tuple [(.comp 1 [1] [0] true none [(.fld (W "Table") (W "remembered_rows") (.v 0))] [] (.ix (.v 1) (.v 0)))])]⟩
theorem nE {α:Type}(t:α->D){g:aA->Prop}{turn:D->(St->aA->Prop)->St->aA->Prop}{N:St->aA->Prop}(I:List α->St->aA->Prop)(hg:∀ xs σ st,I xs σ st->g st)
 (ht:∀ x r σ st (M:St->aA->Prop),I (x::r) σ st->(∀ σ' aB,I r σ' aB->M σ' aB)->turn (t x) M σ st)(hN:∀ σ st,I [] σ st->N σ st):∀(xs:List α)(σ:St)(st:aA),I xs σ st->vU g turn N (xs.map t) σ st
 |[],σ,st,h=>⟨hg _ _ _ h,hN _ _ h⟩
 |x::xs,σ,st,h=>⟨hg _ _ _ h,ht x xs σ st _ h fun σ' aB h'=>nE t I hg ht hN xs σ' aB h'⟩
theorem yO {names:List (List Nat)}{aU:List Sy}{s:Sy}(hl:fJ s=false)(hp:bU s=true):iY names aU s=.int (aU.idxOf s:Nat):=by
 unfold iY
 split
 ·simp [fJ]at hl
 ·rw[if_pos hp]
theorem K5 {names:List (List Nat)}{aU:List Sy}{s:Sy}(hl:fJ s=false)(hp:bU s=false):iY names aU s=.non:=by
 unfold iY
 split
 ·simp [fJ]at hl
 ·rw[hp];rfl
section
variable {G:Prog}{k i iph inh:Nat}{st:aA}{Q:VK}{E:XK}{p lp lr ld:Nat}{names:List (List Nat)}{aU R:List Sy}{xs:List (List Nat×D)}
theorem L1 (h:G.fns i=some rR)(tins:st p=some (.ins (W "Table") (oF names lp lr ld++xs)))(tpc:st lp=some (.lst (aU.map toD)))(tpd:∀ s∈aU,aR s<=60){s:Sy}(g:Good names aU s)(hQ:Q (iY names aU s) st):aM G (k+1) i [.ref p,toD s] st Q E:=by
 rw[bC h]
 simp only[rR,start]
 refine⟨rfl,?_⟩
 obtain⟨r,er⟩:=mZ s
 cases hl:fJ s with
 |true =>
  cases s with
  |cI n =>
   simp only[toD]
   walk_at"st"
   rw[if_pos (by decide +kernel)]
   walk_at"st"
   rw[fX tins PC]
   walk_at"ex"
   rw[vK,rO,zD,rO]
   refine⟨True.intro,tQ,iZ st names,?_⟩
   rw[uZ g.ov,bQ]
   exact hQ
  |_=>cases hl
 |false =>
  have h1:(wd s==W "lamp")=false:=by rw[B7];exact hl
  have eP:∀ st:aA,(List.any (lN.map .str) fun d=>bN st d (.str (wd s)))=bU s:=fun st=>(sR (wd s) lN).trans (B1 s)
  rw[er]
  walk_at"st"
  rw[if_neg (by rw[h1];exact Bool.false_ne_true),aE]
  walk_at"st"
  simp only[tB]
  walk_at"ex"
  refine⟨(mV lN).s,?_⟩
  rw[eP st]
  cases hp:bU s with
  |true =>
   simp only[if_true]
   walk_at"st"
   rw[fX tins vH]
   walk_at"ex"
   rw[vK,BM,aK tpc,zD,BM,aK tpc,<-er]
   refine⟨True.intro,C6 (by have:=g.dp;omega),AR tpd,?_⟩
   rw[CL (g.mem hp),bQ]
   have e:iY names aU s=.int (aU.idxOf s:Nat):=yO hl hp
   rw[e]at hQ
   exact hQ
  |false =>
   simp only[Bool.false_eq_true,if_false,aE]
   walk_at"st"
   have e:iY names aU s=.non:=K5 hl hp
   rw[e]at hQ
   exact hQ
theorem L6 (s:Sy)(hp:bU s=true):(wd s==W "before")=true/\(∃ a,s=.one .before a)∨(wd s==W "before")=false/\oG s=s:=by
 cases s with
 |one w a=>cases w<;>first|exact .inl ⟨by simp only[wd,c1];decide +kernel,a,rfl⟩|exact .inr ⟨by simp only[wd,c1];decide +kernel,rfl⟩|cases hp
 |two w a b=>cases w<;>first|exact .inr ⟨by simp only[wd,c2];decide +kernel,rfl⟩|cases hp
 |_=>cases hp
theorem Ac (h:G.fns i=some GW)(T:gN st p lp lr ld names aU R xs){s:Sy}(hp:bU s=true)(hd:aR s<=8){j:Nat}(hj:R[j]? = some (oG s))(hQ:Q (.int (j:Nat)) st):aM G (k+1) i [.ref p,toD s] st Q E:=by
 rw[bC h]
 simp only[GW,start]
 refine⟨rfl,?_⟩
 rcases L6 s hp with⟨e1,a,rfl⟩|⟨e1,e2⟩
 ·simp only[toD,c1]
  walk_at"st"
  rw[if_pos (by decide +kernel)]
  walk_at"st"
  rw[fX T.ins mK]
  walk_at"ex"
  simp only[oG]at hj
  simp only[aR]at hd
  rw[zS T.tab (nD (by omega)) (T.look hj)]
  exact hQ
 ·obtain⟨r,er⟩:=mZ s
  rw[er]
  walk_at"st"
  rw[if_neg (by rw[e1];exact Bool.false_ne_true),aE]
  walk_at"st"
  rw[fX T.ins mK]
  walk_at"ex"
  rw[e2]at hj
  rw[<-er,zS T.tab (nD hd) (T.look hj)]
  exact hQ
theorem SV (h:G.fns i=some (zW iph inh))(hn:G.fns inh=some B8)(hpa:G.fns iph=some xQ)(T:gN st p lp lr ld names aU R xs){mem set:List Bool}(V:Sy->Bool)
  (v1:∀ n∈names,set[names.idxOf n]? = some (V (.cI n)))(v2:∀ s∈aU,bU s=true->∃ m,mem[aU.idxOf s]? = some m/\V s=fZ s m ((subs s).map V))(v3:∀ s,bU s=false->fJ s=false->V s=sT s ((subs s).map V))
  (hQ:∀ aB q,st q=none->Ext st aB->aB q=some (.lst (R.map fun s=>.bl (V s)))->Q (.ref q) aB):aM G (k+2) i [.ref p,.tup (mem.map .bl),.tup (set.map .bl)] st Q E:=by
 have hL:bI=16777216:=rfl
 rw[bC h]
 simp only[zW,start]
 refine⟨rfl,?_⟩
 walk_at"st"
 refine cJ (by simp) fun q aC x1 hq hq1=>?_
 obtain⟨rows,r1,r2,r3⟩:=T.rows
 have T1:=T.keep x1
 walk_at"st"
 rw[fX T1.ins BV]
 rw[pR,aK (x1 _ _ r1)]
 have ez:rows=(R.zip rows).map Prod.snd:=by rw[List.map_snd_zip (by omega)]
 rw[ez]
 have qlr:q≠lr:=fun z=>by rw[z,r1]at hq;cases hq
 refine nE Prod.snd (I:=fun r σ aB=>∃ j o4 o5 o6 o7,r=(R.zip rows).drop j/\σ=[some (.ref p),some (.tup (mem.map .bl)),some (.tup (set.map .bl)),some (.ref q),o4,o5,o6,o7]/\cB [q] aC aB/\aB q=some (.lst ((R.take j).map fun s=>.bl (V s)))) (fun r σ aB ⟨j,_,_,_,_,_,_,k1,_⟩=>?_) (fun x r σ aB M ⟨j,o4,o5,o6,o7,e1,e2,k1,k2⟩ hM=>?_) (fun σ aB ⟨j,o4,o5,o6,o7,e1,e2,k1,k2⟩=>?_) _ _ _ ⟨0,none,none,none,none,rfl,rfl,.refl,by simpa using hq1⟩
 ·intro a ha
  simp only[List.mem_singleton]at ha
  subst ha
  rw[x1 _ _ r1]
  exact k1 _ _ (by simpa using qlr.symm) (x1 _ _ r1)
 ·-- a row
  have hz:j<(R.zip rows).length:=by
   by_cases z:j<(R.zip rows).length
   ·exact z
   ·rw[List.drop_eq_nil_of_le (by omega)]at e1;cases e1
  have hjR:j<R.length:=by rw[List.length_zip]at hz;omega
  have hjr:j<rows.length:=by rw[List.length_zip]at hz;omega
  rw[List.drop_eq_getElem_cons hz]at e1
  injection e1 with e3 e4
  have ex:x=(R[j],rows[j]):=by rw[e3];simp
  obtain⟨s,d⟩:=x
  injection ex with es ed
  have hs:R[j]? = some s:=by rw[List.getElem?_eq_getElem hjR,es]
  have hd:rows[j]? = some d:=by rw[List.getElem?_eq_getElem hjr,ed]
  obtain⟨qq,is,f1,f2,f3,f4,f5⟩:=r3 j s d hs hd
  have gs:=T.gd s (List.mem_of_getElem? hs)
  have hlR:=T.len
  subst e2
  have qqq:qq≠q:=fun z=>by rw[z,hq]at f3;cases f3
  have f3':aB qq=some (.lst (is.map fun i=>.int (i:Nat))):=k1 _ _ (by simpa using qqq) (x1 _ _ f3)
  have hsub:(subs s).length<=2:=by cases s<;>simp [subs]
  show jE false [4,5,6] d _ _
  rw[f1]
  walk_at"ex"
  walk_at"st"
  rw[aK f3']
  have hval:∀ i∈is,∃ t,R[i]? = some t/\i<j:=fun i hi=>by
   obtain⟨m,hm⟩:=List.mem_iff_getElem?.mp hi
   have hml:m<(subs s).length:=by
    have:m<is.length:=by
     by_cases z:m<is.length
     ·exact z
     ·rw[List.getElem?_eq_none (by omega)]at hm;cases hm
    omega
   obtain⟨a,b⟩:=f5 m i _ hm (List.getElem?_eq_getElem hml)
   exact⟨_,b,a⟩
  refine gI (fun i:Nat=>D.int (i:Nat)) (fun i=>.bl (V ((R[i]?).getD .yes))) is [] aB (fun aX y a ha=>?_) (fun i hi aX K y1 hK=>?_) (by simp only[List.length_nil];omega) fun aF y2=>?_
  ·simp only[List.mem_singleton]at ha
   subst ha
   rw[f3',y _ _ f3']
  ·obtain⟨t,ht,hij⟩:=hval i hi
   show lZ _ _ aX _
   have hlen:i<((R.take j).map fun s=>D.bl (V s)).length:=by simp;omega
   rw[gM (y1 _ _ k2),dW hlen,List.getElem?_map,List.getElem?_take,if_pos hij,ht]
   have:=hK aX .refl
   rw[ht]at this
   exact this
  rw[List.nil_append]
  have hparts:(is.map fun i=>D.bl (V ((R[i]?).getD .yes)))=((subs s).map V).map .bl:=by
   apply List.ext_getElem?
   intro m
   rw[List.getElem?_map,List.getElem?_map,List.getElem?_map]
   cases hm:is[m]? with
   |none =>
    have:is.length<=m:=by
     by_cases z:m<is.length
     ·rw[List.getElem?_eq_getElem z]at hm;cases hm
     ·omega
    rw[List.getElem?_eq_none (by omega)];rfl
   |some i =>
    have hml:m<(subs s).length:=by
     have:m<is.length:=by
      by_cases z:m<is.length
      ·exact z
      ·rw[List.getElem?_eq_none (by omega)]at hm;cases hm
     omega
    obtain⟨_,b⟩:=f5 m i _ hm (List.getElem?_eq_getElem hml)
    rw[List.getElem?_eq_getElem hml]
    simp only[Option.map_some]
    rw[b];rfl
  rw[hparts]
  refine cJ (by simp only[List.length_map];omega) fun pp bB y3 hpp rJ=>?_
  walk_at"ex"
  have k3:bB q=some (.lst ((R.take j).map fun s=>.bl (V s))):=y3 _ _ (y2 _ _ k2)
  have kk3:cB [q] aC bB:=fun a o na e=>y3 _ _ (y2 _ _ (k1 a o na e))
  have fin:∀(σ':St),(∃ o4 o5 o6 o7,σ'=[some (.ref p),some (.tup (mem.map .bl)),some (.tup (set.map .bl)),some (.ref q),o4,o5,o6,o7])->∀ b,b=V s->M σ' (put bB q (.lst (((R.take j).map fun s=>.bl (V s))++[.bl b]))):=fun σ' ⟨o4,o5,o6,o7,e⟩ b hb=>by
   refine hM σ' _ ⟨j+1,o4,o5,o6,o7,e4,e,fun a o na e=>by rw[bK (by simpa using na)];exact kk3 a o na e,?_⟩
   rw[bA,List.take_succ,hs,hb]
   simp
  have hlq:((R.take j).map fun s=>D.bl (V s)).length<bI:=by simp;omega
  cases hl:fJ s with
  |true =>
   cases s with
   |cI n =>
    simp only[wd]
    walk_at"st"
    rw[if_pos (by decide +kernel)]
    walk_at"st"
    rw[aK k3]
    refine⟨True.intro,?_⟩
    simp only[iY]
    have hv:=v1 n gs.ov
    have hlen:names.idxOf n<(set.map D.bl).length:=by
     rw[List.length_map]
     by_cases z:names.idxOf n<set.length
     ·exact z
     ·rw[List.getElem?_eq_none (by omega)]at hv;cases hv
    rw[jS,dW hlen,List.getElem?_map,hv,Option.map_some,bQ,aK k3]
    refine⟨hlq,?_⟩
    simp only[aE]
    exact fin _ ⟨_,_,_,_,rfl⟩ _ rfl
   |_=>cases hl
  |false =>
   have h1:(wd s==W "lamp")=false:=by rw[B7];exact hl
   have eP:∀ st:aA,(List.any (lN.map .str) fun d=>bN st d (.str (wd s)))=bU s:=fun st=>(sR (wd s) lN).trans (B1 s)
   walk_at"st"
   rw[if_neg (by rw[h1];exact Bool.false_ne_true)]
   walk_at"st"
   simp only[tB]
   walk_at"ex"
   refine⟨(mV lN).s,?_⟩
   rw[eP bB]
   cases hp:bU s with
   |true =>
    simp only[if_true]
    walk_at"st"
    rw[aK k3]
    refine⟨True.intro,?_⟩
    obtain⟨m,hm,hV⟩:=v2 s (gs.mem hp) hp
    have e:iY names aU s=.int (aU.idxOf s:Nat):=yO hl hp
    rw[e]
    have hlen:aU.idxOf s<(mem.map D.bl).length:=by
     rw[List.length_map]
     by_cases z:aU.idxOf s<mem.length
     ·exact z
     ·rw[List.getElem?_eq_none (by omega)]at hm;cases hm
    walk_at"ex"
    (try rw[jS])
    rw[dW hlen,List.getElem?_map,hm,Option.map_some,bQ]
    refine VH hpa hp (by simp) rJ ?_
    rw[aK k3]
    refine⟨hlq,?_⟩
    simp only[aE]
    exact fin _ ⟨_,_,_,_,rfl⟩ _ hV.symm
   |false =>
    simp only[Bool.false_eq_true,if_false]
    walk_at"st"
    rw[aK k3]
    refine⟨True.intro,?_⟩
    refine YL hn hp hl (by simp) rJ ?_
    rw[aK k3]
    refine⟨hlq,?_⟩
    simp only[aE]
    exact fin _ ⟨_,_,_,_,rfl⟩ _ (v3 s hp hl).symm
 ·-- the end
  subst e2
  have hj:R.length<=j:=by
   have:(R.zip rows).length<=j:=by
    by_cases z:j<(R.zip rows).length
    ·rw[List.drop_eq_getElem_cons z]at e1;cases e1
    ·omega
   rw[List.length_zip]at this;omega
  rw[List.take_of_length_le hj]at k2
  walk_at"st"
  exact hQ aB q hq (fun a o e=>k1 a o (by intro z;simp only[List.mem_singleton]at z;rw[z,hq]at e;cases e) (x1 a o e)) k2
end
end L3
end
section
namespace L3
open PySem
noncomputable def vZ (ie iw ipo:Nat):Fn:=⟨2,4,[.iff (.din false (.v 1) (.fld (W "Table") (W "row_of") (.v 0))) [.ret (.c .non)] [],.iD (.nm 2) none [(.call iw [(.v 1)])] [.ex (.mcl (W "Table") (W "enter") ie (.v 0) [(.v 2)])],.asg (.nm 3) (.comp 1 [0] [0] true none [(.call iw [(.v 1)])] [] (.dix (.fld (W "Table") (W "row_of") (.v 1)) (.v 0))),.asg (.dk (.fld (W "Table") (W "row_of") (.v 0)) (.v 1)) (.bi .len [(.fld (W "Table") (W "rows") (.v 0))]),.ex (.cC .append (.fld (W "Table") (W "rows") (.v 0)) [(.tup [(.ix (.v 1) (.c (.int 0))),(.mcl (W "Table") (W "place_of") ipo (.v 0) [(.v 1)]),(.v 3)])])]⟩
theorem gU {α:Type}{xs:List α}{j:Nat}{x:α}(h:xs[j]? = some x):j<xs.length:=by
 by_cases q:j<xs.length
 ·exact q
 ·rw[List.getElem?_eq_none (by omega)]at h;cases h
section
variable {G:Prog}{k i ie iw ipo:Nat}{st:aA}{Q:VK}{E:XK}{p lp lr ld lm:Nat}{names:List (List Nat)}{aU R:List Sy}{xs fs:List (List Nat×D)}
theorem Z5 (h:G.fns i=some FY)(ins:st p=some (.ins (W "Table") fs))(hf:dA fs (W "remembered_rows")=some (.ref lm)){js:List Nat}(hlm:st lm=some (.lst (js.map fun j=>.int (j:Nat)))){q:Nat}{V:Sy->Bool}(hq:st q=some (.lst (R.map fun s=>.bl (V s))))(hl:js.length=aU.length)(hl2:aU.length<=5000)
  (hj:∀(m j:Nat)(s:Sy),js[m]? = some j->aU[m]? = some s->R[j]? = some (oG s))(hQ:∀ aB,Ext st aB->Q (.tup (aU.map fun s=>.bl (V (oG s)))) aB):aM G (k+1) i [.ref p,.ref q] st Q E:=by
 have hL:bI=16777216:=rfl
 rw[bC h]
 simp only[FY,start]
 refine⟨rfl,?_⟩
 walk_at"st"
 rw[fX ins hf,pR,aK hlm]
 refine gI (fun j:Nat=>D.int (j:Nat)) (fun j=>.bl (V ((R[j]?).getD .yes))) js [] st (fun aX y a ha=>?_) (fun j hjs aX K y1 hK=>?_) (by simp only[List.length_nil];omega) fun aF y2=>?_
 ·simp only[List.mem_singleton]at ha
  subst ha
  rw[hlm,y _ _ hlm]
 ·obtain⟨m,hm⟩:=List.mem_iff_getElem?.mp hjs
  have hml:m<aU.length:=by have:=gU hm;omega
  have ht:=hj m j _ hm (List.getElem?_eq_getElem hml)
  show lZ _ _ aX _
  have hlen:j<(R.map fun s=>D.bl (V s)).length:=by simpa using gU ht
  rw[gM (y1 _ _ hq),dW hlen,List.getElem?_map,ht]
  have:=hK aX .refl
  rw[ht]at this
  exact this
 rw[List.nil_append]
 have e:(js.map fun j=>D.bl (V ((R[j]?).getD .yes)))=aU.map fun s=>.bl (V (oG s)):=by
  apply List.ext_getElem?
  intro m
  rw[List.getElem?_map,List.getElem?_map]
  cases hm:js[m]? with
  |none =>
   have:js.length<=m:=by
    by_cases z:m<js.length
    ·rw[List.getElem?_eq_getElem z]at hm;cases hm
    ·omega
   rw[List.getElem?_eq_none (by omega)];rfl
  |some j =>
   have hml:m<aU.length:=by have:=gU hm;omega
   have ht:=hj m j _ hm (List.getElem?_eq_getElem hml)
   rw[List.getElem?_eq_getElem hml]
   simp only[Option.map_some]
   rw[ht];rfl
 rw[e]
 refine cJ (by simp only[List.length_map];omega) fun pp bB y3 hpp rJ=>?_
 walk_at"ex"
 rw[aK rJ]
 refine⟨by simp only[List.length_map];omega,hQ bB (y2.trans y3)⟩
theorem QV (h:G.fns ie=some (vZ ie iw ipo))(hw:G.fns iw=some iA)(hpo:G.fns ipo=some rR)(hxe:dA xs (W "enter")=none)(hxp:dA xs (W "place_of")=none):∀(n:Nat){s:Sy}{k:Nat}{st:aA}{Q:VK}{E:XK}{R:List Sy},aR s<=n->gN st p lp lr ld names aU R xs->Good names aU s->R.length+sz s<=5000 ->
  (∀ aB R',cB [lr,ld] st aB->gN aB p lp lr ld names aU R' xs->(∀ x∈R,x∈R')->s∈R'->(∀ x∈R',x∈R∨sz x<=sz s)->R'.length<=R.length+sz s->Q .non aB) ->
  aM G (k+n+2) ie [.ref p,toD s] st Q E:=by
 have hL:bI=16777216:=rfl
 intro n
 induction n with
 |zero=>intro s k st Q E R hn;cases s<;>simp [aR]at hn
 |succ n ih =>
  intro s k st Q E R hn T g hlen hQ
  rw[bC h]
  simp only[vZ,start]
  refine⟨rfl,?_⟩
  have kd:=nD g.dp
  walk_at"st"
  rw[fX T.ins mK,Y1 T.tab kd,GG]
  (try walk_at"ex")
  cases hc:R.contains s with
  |true =>
   simp only[if_true]
   walk_at"st"
   have hs:s∈R:=by simpa using hc
   exact hQ st R .refl T (fun x hx=>hx) hs (fun x hx=>.inl hx) (by omega)
  |false =>
   have hs:s∉R:=by simpa using hc
   simp only[Bool.false_eq_true,if_false,aE]
   walk_at"st"
   refine qS (k:=k+n+1) hw ?_
   walk_at"ex"
   have hss:=IS s
   have hsub:(subs s).length<=2:=by cases s<;>simp [subs]
   have hszL:∀(l:List Sy)(t:Sy),t∈l->sz t<=fD l:=fun l=>by
    induction l with
    |nil=>intro t ht;cases ht
    |cons a l ihl =>
     intro t ht
     rw[iK]
     rcases List.mem_cons.mp ht with rfl|ht
     ·omega
     ·have:=ihl t ht;omega
   refine nE toD (I:=fun r σ aB=>∃ R1 o2 dn,subs s=dn++r/\σ=[some (.ref p),some (toD s),o2,none]/\cB [lr,ld] st aB/\gN aB p lp lr ld names aU R1 xs/\(∀ x∈R,x∈R1)/\(∀ t∈dn,t∈R1)/\(∀ x∈R1,x∈R∨sz x<sz s)/\R1.length<=R.length+fD dn) (fun r σ aB hI a ha=>by cases ha) (fun x r σ aB M ⟨R1,o2,dn,e1,e2,k1,T1,a1,a2,a3,a4⟩ hM=>?_) (fun σ aB ⟨R1,o2,dn,e1,e2,k1,T1,a1,a2,a3,a4⟩=>?_) _ _ _ ⟨R,none,[],rfl,rfl,.refl,T,fun x hx=>hx,fun t ht=>(by cases ht),fun x hx=>.inl hx,by simp [fD]⟩
   ·-- a part
    subst e2
    have hx:x∈subs s:=by rw[e1];simp
    have hxd:=yW hx
    have hdn:fD dn+sz x<=fD (subs s):=by rw[e1,jV,iK];omega
    walk_at"st"
    rw[sN T1.ins (by rw[jA (by decide +kernel) (by decide +kernel) (by decide +kernel) (by decide +kernel)];exact hxe)]
    refine⟨True.intro,?_⟩
    refine ih (k:=k) (by omega) T1 (g.subs hx) (by omega) fun aF R2 b1 b2 b3 b4 b5 b6=>?_
    rw[aE]
    refine hM _ aF ⟨R2,_,dn++[x],by simp [e1],rfl,k1.trans b1,b2,fun y hy=>b3 y (a1 y hy),fun t ht=>?_,fun y hy=>?_,?_⟩
    ·rcases List.mem_append.mp ht with ht|ht
     ·exact b3 t (a2 t ht)
     ·simp only[List.mem_singleton]at ht;subst ht;exact b4
    ·rcases b5 y hy with hy|hy
     ·exact a3 y hy
     ·exact .inr (by omega)
    ·rw[jV];simp only[iK];simp only[fD,List.map_nil,List.sum_nil]at *;omega
   ·-- the saying itself
    subst e2
    rw[List.append_nil]at e1
    subst e1
    have hs1:s∉R1:=fun z=>by
     rcases a3 s z with z|z
     ·exact hs z
     ·omega
    walk_at"st"
    refine qS (k:=k+n+1) hw ?_
    walk_at"ex"
    have hidx:∀ t∈subs s,R1[R1.idxOf t]? = some t:=fun t ht=>by
     have hm:=a2 t ht
     have:=List.idxOf_lt_length_iff.mpr hm
     rw[List.getElem?_eq_getElem this]
     simp
    refine gI toD (fun t=>.int (R1.idxOf t:Nat)) _ [] aB (fun aX y a ha=>by cases ha) (fun t ht aX K y1 hK=>?_) (by simp only[List.length_nil];omega) fun aF y2=>?_
    ·have T'':=T1.keep y1
     show rF _ _ _ aX _
     rw[fX T''.ins mK]
     have gt:=g.subs ht
     show rE _ _ aX _
     rw[zS T''.tab (nD gt.dp) (T''.look (hidx t ht))]
     exact hK aX .refl
    rw[List.nil_append]
    refine cJ (by simp only[List.length_map];omega) fun q bB y3 hq hq3=>?_
    have T3:=T1.keep (y2.trans y3)
    have kk3:cB [lr,ld] st bB:=k1.trans (y2.trans y3).keep
    obtain⟨rows,r1,r2,r3⟩:=T3.rows
    walk_at"ex"
    walk_at"st"
    rw[fX T3.ins BV]
    rw[JF,gQ r1]
    rw[fX T3.ins mK]
    have hnew:(((R1.map toD).any fun d=>bG d (toD s))=false):=by rw[GG];simpa using hs1
    have hl1:R1.length<5000:=by omega
    rw[Cv T3.tab kd hnew (by simp;omega)]
    generalize hst4:put bB ld (.tab (R1.map toD++[toD s]) (vJ R1.length++[.int (rows.length:Nat)]))=dI
    have lrld:lr≠ld:=fun z=>by rw[z,T3.tab]at r1;cases r1
    have pld:p≠ld:=fun z=>by have:=T3.ins;rw[z,T3.tab]at this;cases this
    have plr:p≠lr:=fun z=>by have:=T3.ins;rw[z,r1]at this;cases this
    have lpld:lp≠ld:=fun z=>by have:=T3.pc;rw[z,T3.tab]at this;cases this
    have ins4:dI p=some (.ins (W "Table") (oF names lp lr ld++xs)):=by rw[<-hst4,bK pld];exact T3.ins
    have lr4:dI lr=some (.lst rows):=by rw[<-hst4,bK lrld];exact r1
    have q4:dI q=some (.lst ((subs s).map fun t=>.int (R1.idxOf t:Nat))):=by
     rw[<-hst4,bK (fun z=>by rw[z,T3.tab]at hq3;cases hq3)];exact hq3
    have tab4:dI ld=some (.tab ((R1++[s]).map toD) (vJ (R1++[s]).length)):=by
     rw[<-hst4,bA,r2]
     simp [vJ,List.range_succ]
    have qlr:q≠lr:=fun z=>by
     rw[z]at hq
     obtain⟨rows',r1',_⟩:=(T1.keep y2).rows
     rw[r1']at hq;cases hq
    walk_at"st"
    rw[fX ins4 BV,A1,aK lr4]
    refine⟨True.intro,?_⟩
    obtain⟨r,er⟩:=mZ s
    rw[er]
    walk_at"ex"
    rw[<-er,sN ins4 (by rw[jA (by decide +kernel) (by decide +kernel) (by decide +kernel) (by decide +kernel)];exact hxp)]
    refine⟨True.intro,?_⟩
    have T4:gN (put dI lr (.lst (rows++[.tup [.str (wd s),iY names aU s,.ref q]]))) p lp lr ld names aU (R1++[s]) xs:=by
     have keep4:∀ a o,a≠lr->a≠ld->bB a=some o->(put dI lr (.lst (rows++[.tup [.str (wd s),iY names aU s,.ref q]]))) a=some o:=fun a o n1 n2 e=>by
      rw[bK n1,<-hst4,bK n2];exact e
     refine⟨keep4 _ _ plr pld T3.ins,keep4 _ _ T3.ne lpld T3.pc,⟨_,bA,by simp [r2],fun j t d ht hd=>?_⟩,?_,T3.ne,?_,?_,by simp;omega,T3.pd⟩
     ·by_cases hj:j<R1.length
      ·rw[List.getElem?_append_left hj]at ht
       rw[List.getElem?_append_left (by omega)]at hd
       obtain⟨q',is,c1,c2,c3,c4,c5⟩:=r3 j t d ht hd
       refine⟨q',is,c1,c2,keep4 _ _ c2 (fun z=>by rw[z,T3.tab]at c3;cases c3) c3,c4,fun m i' t' h1 h2=>?_⟩
       obtain⟨d1,d2⟩:=c5 m i' t' h1 h2
       exact⟨d1,by rw[List.getElem?_append_left (gU d2)];exact d2⟩
      ·have hj2:j=R1.length:=by have:=gU ht;simp at this;omega
       subst hj2
       rw[List.getElem?_append_right (Nat.le_refl _)]at ht
       rw[List.getElem?_append_right (by omega)]at hd
       simp at ht
       simp [r2]at hd
       subst ht hd
       refine⟨q,(subs s).map fun t=>R1.idxOf t,rfl,qlr,?_,by simp,fun m i' t' h1 h2=>?_⟩
       ·rw[bK qlr,q4,List.map_map];rfl
       ·rw[List.getElem?_map,h2]at h1
        simp at h1
        subst h1
        have ht':=List.mem_of_getElem? h2
        have:=hidx t' ht'
        exact⟨gU this,by rw[List.getElem?_append_left (gU this)];exact this⟩
     ·rw[bK lrld.symm];exact tab4
     ·rw[List.nodup_append]
      exact⟨T3.nd,by simp,fun a ha b hb=>by simp only[List.mem_singleton]at hb;subst hb;exact fun z=>hs1 (z▸ha)⟩
     ·intro t ht
      rcases List.mem_append.mp ht with ht|ht
      ·exact T3.gd t ht
      ·simp only[List.mem_singleton]at ht;subst ht;exact g
    refine L1 (k:=k+n+1) hpo ins4 (by rw[<-hst4,bK lpld];exact T3.pc) T3.pd g ?_
    rw[aK lr4]
    refine⟨by omega,?_⟩
    simp only[aE]
    refine hQ _ (R1++[s]) (fun a o na e=>?_) T4 (fun x hx=>by simp [a1 x hx]) (by simp) (fun x hx=>?_) (by simp;omega)
    ·simp only[List.mem_cons,List.not_mem_nil,or_false,not_or]at na
     rw[bK na.1,<-hst4,bK na.2]
     exact kk3 a o (by simp [na]) e
    ·rcases List.mem_append.mp hx with hx|hx
     ·rcases a3 x hx with hx|hx
      ·exact .inl hx
      ·exact .inr (by omega)
     ·simp only[List.mem_singleton]at hx;subst hx;exact .inr (Nat.le_refl _)
end
end L3
end
section
namespace L3
open PySem
noncomputable def tW (iz ie irr:Nat):Fn:=⟨3,4,[.asg (.fl (W "Table") (W "names") (.v 0)) (.v 1),.asg (.fl (W "Table") (W "pieces") (.v 0)) (.call iz [(.v 2)]),.asg (.fl (W "Table") (W "rows") (.v 0)) (.lst []),.asg (.fl (W "Table") (W "row_of") (.v 0)) .dnew,.iD (.nm 3) none [(.v 2)] [.ex (.mcl (W "Table") (W "enter") ie (.v 0) [(.v 3)])],.asg (.fl (W "Table") (W "first_memory") (.v 0)) (.bi .tuple [(.comp 1 [] [0] true none [(.fld (W "Table") (W "pieces") (.v 0))] [] (.cmp .eq (.ix (.v 0) (.c (.int 0))) (.c (.str (W "sofar")))))]),.asg (.fl (W "Table") (W "remembered_rows") (.v 0)) (.comp 1 [0] [0] true none [(.fld (W "Table") (W "pieces") (.v 0))] [] (.mcl (W "Table") (W "remembered_row") irr (.v 1) [(.v 0)]))]⟩
theorem GX {f:List Sy}{s x:Sy}(h:x∈f):x∈eS f s:=by
 unfold eS;split
 ·exact List.mem_append_left _ h
 ·exact h
theorem G6 {f:List Sy}{s:Sy}(h:bU s=true):s∈eS f s:=by
 unfold eS
 rw[h]
 cases hc:f.contains s with
 |true=>simpa using hc
 |false=>simp
theorem lC:∀(s:Sy){f:List Sy}{x:Sy},x∈f->x∈aU s f
 |.yes,_,_,h=>h
 |.no,_,_,h=>h
 |.cI _,_,_,h=>h
 |.one w s,_,_,h=>lC s (GX h)
 |.two w s t,_,_,h=>lC t (lC s (GX h))
theorem oS {f g:List Sy}(h:∀ x∈f,x∈g):∀ s:Sy,DE f s->DE g s
 |.yes,_=>trivial
 |.no,_=>trivial
 |.cI _,_=>trivial
 |.one w s,⟨a,b⟩=>⟨fun q=>h _ (a q),oS h s b⟩
 |.two w s t,⟨a,b,c⟩=>⟨fun q=>h _ (a q),oS h s b,oS h t c⟩
theorem AE:∀(s:Sy)(f:List Sy),DE (aU s f) s
 |.yes,_=>trivial
 |.no,_=>trivial
 |.cI _,_=>trivial
 |.one w s,f=>⟨fun q=>lC s (G6 q),AE s _⟩
 |.two w s t,f=>⟨fun q=>lC t (lC s (G6 q)),oS (fun x hx=>lC t hx) s (AE s _),AE t _⟩
theorem FQ:∀(l:List Sy){f:List Sy}{x:Sy},x∈f->x∈cO l f
 |[],_,_,h=>h
 |s::l,_,_,h=>FQ l (lC s h)
theorem HU:∀(l:List Sy)(f:List Sy)(s:Sy),s∈l->DE (cO l f) s
 |[],_,_,h=>by cases h
 |a::l,f,s,h=>by
  rcases List.mem_cons.mp h with rfl|h
  ·exact oS (fun x hx=>FQ l hx) s (AE s f)
  ·exact HU l _ s h
theorem ND {R f:List Sy}{s:Sy}(hf:∀ x∈f,x∈R)(hs:s∈R):∀ x∈eS f s,x∈R:=by
 unfold eS;split
 ·intro x hx
  rcases List.mem_append.mp hx with hx|hx
  ·exact hf x hx
  ·simp only[List.mem_singleton]at hx;subst hx;exact hs
 ·exact hf
theorem D7 {R:List Sy}(cl:∀ s∈R,∀ t∈subs s,t∈R):∀(s:Sy){f:List Sy},s∈R->(∀ x∈f,x∈R)->∀ x∈aU s f,x∈R
 |.yes,_,hs,hf=>hf
 |.no,_,hs,hf=>hf
 |.cI _,_,hs,hf=>hf
 |.one w s,f,hs,hf=>D7 cl s (cl _ hs s (by simp [subs])) (ND hf hs)
 |.two w s t,f,hs,hf=>D7 cl t (cl _ hs t (by simp [subs])) (D7 cl s (cl _ hs s (by simp [subs])) (ND hf hs))
theorem MF {R:List Sy}(cl:∀ s∈R,∀ t∈subs s,t∈R):∀(l f:List Sy),(∀ s∈l,s∈R)->(∀ x∈f,x∈R)->∀ x∈cO l f,x∈R
 |[],_,_,hf=>hf
 |s::l,f,hl,hf=>MF cl l _ (fun t ht=>hl t (by simp [ht])) (D7 cl s (hl s (by simp)) hf)
theorem CG {f:List Sy}{s:Sy}(hf:∀ x∈f,bU x=true):∀ x∈eS f s,bU x=true:=by
 unfold eS
 by_cases h:(bU s && !f.contains s)=true
 ·rw[if_pos h]
  simp only[Bool.and_eq_true]at h
  intro x hx
  rcases List.mem_append.mp hx with hx|hx
  ·exact hf x hx
  ·simp only[List.mem_singleton]at hx;subst hx;exact h.1
 ·rw[if_neg h];exact hf
theorem tS:∀(s:Sy){f:List Sy},(∀ x∈f,bU x=true)->∀ x∈aU s f,bU x=true
 |.yes,_,hf=>hf
 |.no,_,hf=>hf
 |.cI _,_,hf=>hf
 |.one w s,f,hf=>tS s (CG hf)
 |.two w s t,f,hf=>tS t (tS s (CG hf))
theorem DQ:∀(l f:List Sy),(∀ x∈f,bU x=true)->∀ x∈cO l f,bU x=true
 |[],_,hf=>hf
 |s::l,f,hf=>DQ l _ (tS s hf)
theorem zJ:∀(l:List Sy){f:List Sy}{n:Nat},(∀ x∈f,aR x<=n)->(∀ x∈l,aR x<=n)->∀ x∈cO l f,aR x<=n
 |[],_,_,hf,_=>hf
 |s::l,f,n,hf,hl=>zJ l (xE s hf (hl s (by simp))) fun x hx=>hl x (by simp [hx])
theorem QG (s:Sy):(wd s==W "sofar")=fO s:=by
 cases s with
 |one w s=>cases w<;>(simp only[wd,fO,c1];decide +kernel)
 |two w s t=>cases w<;>(simp only[wd,fO,c2];decide +kernel)
 |_=>(simp only[wd,fO];decide +kernel)
theorem mP {f:List Nat}{d:D}:∀{fs:List (List Nat×D)},dA fs f=none->pD f d fs=fs++[(f,d)]
 |[],_=>rfl
 |(g,x)::r,h=>by
  simp only[dA]at h
  by_cases q:g=f
  ·rw[if_pos q]at h;cases h
  ·rw[if_neg q]at h
   simp only[pD,if_neg q,mP h,List.cons_append]
theorem gN.closed {st:aA}{p lp lr ld:Nat}{names:List (List Nat)}{aU R:List Sy}{xs:List (List Nat×D)}(T:gN st p lp lr ld names aU R xs):∀ s∈R,∀ t∈subs s,t∈R:=by
 intro s hs t ht
 obtain⟨rows,_,r2,r3⟩:=T.rows
 obtain⟨j,hj⟩:=List.mem_iff_getElem?.mp hs
 have hjr:j<rows.length:=by have:=gU hj;omega
 obtain⟨q,is,_,_,_,c4,c5⟩:=r3 j s _ hj (List.getElem?_eq_getElem hjr)
 obtain⟨m,hm⟩:=List.mem_iff_getElem?.mp ht
 have hmi:m<is.length:=by have:=gU hm;omega
 exact List.mem_of_getElem? (c5 m _ t (List.getElem?_eq_getElem hmi) hm).2
noncomputable def NL (aU:List Sy)(lm:Nat):List (List Nat×D):=[(W "first_memory", .tup (aU.map fun s=>.bl (fO s))),(W "remembered_rows", .ref lm)]
section
variable {G:Prog}{k i ie iw ipo iz irr iti:Nat}{st:aA}{Q:VK}{E:XK}{p l:Nat}{names:List (List Nat)}{ss:List Sy}
structure Table (st:aA)(p:Nat)(names:List (List Nat))(aU R:List Sy):Prop where
 h:∃(lp lr ld lm:Nat)(js:List Nat),gN st p lp lr ld names aU R (NL aU lm)/\st lm=some (.lst (js.map fun(j:Nat)=>.int (j:Nat)))/\js.length=aU.length/\(∀(m j:Nat)(s:Sy),js[m]? = some j->aU[m]? = some s->R[j]? = some (oG s))/\(∀ s∈aU,bU s=true)
theorem HC (h:G.fns iti=some (tW iz ie irr))(hz:G.fns iz=some (kY iw))(he:G.fns ie=some (vZ ie iw ipo))(hw:G.fns iw=some iA)(hpo:G.fns ipo=some rR)(hrr:G.fns irr=some GW)(hp:st p=some (.ins (W "Table") []))(hl:st l=some (.lst (ss.map toD)))
  (ho:∀ s∈ss,over names s/\aR s<=8)(hs:fD ss<=5000)(yR:(cO ss []).length<=5000)(hQ:∀ aB R,cB [p] st aB->Table aB p names (cO ss []) R->(∀ s∈ss,s∈R)->Q .non aB):aM G (k+12) iti [.ref p,.tup (names.map .str),.ref l] st Q E:=by
 have hL:bI=16777216:=rfl
 rw[bC h]
 simp only[tW,start]
 refine⟨rfl,?_⟩
 have pl:p≠l:=fun z=>by rw[z,hl]at hp;cases hp
 walk_at"st"
 rw[xA hp (by simp)]
 have e1:pD (W "names") (.tup (names.map .str)) []=[(W "names", .tup (names.map .str))]:=rfl
 rw[e1]
 generalize hst1:put st p (.ins (W "Table") [(W "names", .tup (names.map .str))])=aC
 have p1:aC p=some (.ins (W "Table") [(W "names", .tup (names.map .str))]):=by rw[<-hst1,bA]
 have k1:cB [p] st aC:=by rw[<-hst1];exact cB.put (by simp)
 have l1:aC l=some (.lst (ss.map toD)):=k1 _ _ (by simpa using pl.symm) hl
 walk_at"st"
 refine vC (k:=k+9) hz hw l1 (fun x hx=>by have:=(ho x hx).2;omega) (by omega) fun lp aF x2 lp2=>?_
 walk_at"ex"
 rw[xA (x2 _ _ p1) (by simp),mP (by simp only[dA];rw[if_neg (by decide +kernel)])]
 generalize hst3:put aF p _=bB
 have p3:bB p=some (.ins (W "Table") ([(W "names", .tup (names.map .str))]++[(W "pieces", .ref lp)])):=by rw[<-hst3,bA]
 have k3:cB [p] st bB:=k1.trans (x2.keep.trans (by rw[<-hst3];exact cB.put (by simp)))
 have plp:p≠lp:=fun z=>by rw[<-z,x2 _ _ p1]at lp2;cases lp2
 have lp3:bB lp=some (.lst ((cO ss []).map toD)):=by rw[<-hst3,bK plp.symm];exact lp2
 walk_at"st"
 refine cJ (by decide) fun lr dI x4 hlr lr4=>?_
 walk_at"ex"
 rw[xA (x4 _ _ p3) (by simp),mP (by simp only[List.cons_append,List.nil_append,dA];rw[if_neg (by decide +kernel),if_neg (by decide +kernel)])]
 generalize hst5:put dI p _=fY
 have plr:p≠lr:=fun z=>by rw[<-z,p3]at hlr;cases hlr
 have lplr:lp≠lr:=fun z=>by rw[<-z,lp3]at hlr;cases hlr
 have llr:l≠lr:=fun z=>by rw[<-z,k3 _ _ (by simpa using pl.symm) hl]at hlr;cases hlr
 have p5:fY p=some (.ins (W "Table") ([(W "names", .tup (names.map .str))]++[(W "pieces", .ref lp)]++[(W "rows", .ref lr)])):=by rw[<-hst5,bA]
 have k5:cB [p] st fY:=k3.trans (x4.keep.trans (by rw[<-hst5];exact cB.put (by simp)))
 have lp5:fY lp=some (.lst ((cO ss []).map toD)):=by rw[<-hst5,bK plp.symm];exact x4 _ _ lp3
 have lr5:fY lr=some (.lst []):=by rw[<-hst5,bK plr.symm];exact lr4
 walk_at"st"
 intro ld hld
 generalize hst6:put fY ld (.tab [] [])=nQ
 have x6:Ext fY nQ:=by rw[<-hst6];exact Ext.new hld
 have ld6:nQ ld=some (.tab [] []):=by rw[<-hst6,bA]
 rw[xA (x6 _ _ p5) (by simp),mP (by simp only[List.cons_append,List.nil_append,dA];rw[if_neg (by decide +kernel),if_neg (by decide +kernel),if_neg (by decide +kernel)])]
 generalize hst7:put nQ p _=qX
 have pld:p≠ld:=fun z=>by rw[<-z,p5]at hld;cases hld
 have lld:l≠ld:=fun z=>by rw[<-z,k5 _ _ (by simpa using pl.symm) hl]at hld;cases hld
 have p7:qX p=some (.ins (W "Table") (oF names lp lr ld++[])):=by rw[<-hst7,bA];rfl
 have k7:cB [p] st qX:=k5.trans (x6.keep.trans (by rw[<-hst7];exact cB.put (by simp)))
 have o7:∀ a o,a≠p->fY a=some o->qX a=some o:=fun a o na e=>by rw[<-hst7,bK na];exact x6 _ _ e
 have pd:∀ s∈cO ss [],aR s<=60:=fun s oI=>zJ ss (n:=60) (by simp) (fun x hx=>by have:=(ho x hx).2;omega) s oI
 have T7:gN qX p lp lr ld names (cO ss []) [] []:=⟨p7,o7 _ _ plp.symm lp5,⟨[],o7 _ _ plr.symm lr5,rfl,fun j s d e=>by simp at e⟩,by rw[<-hst7,bK pld.symm];exact ld6,lplr,List.nodup_nil,fun s oI=>(by cases oI),by simp,pd⟩
 have l7:qX l=some (.lst (ss.map toD)):=k7 _ _ (by simpa using pl.symm) hl
 have hszL:∀(l:List Sy)(t:Sy),t∈l->sz t<=fD l:=fun l=>by
  induction l with
  |nil=>intro t ht;cases ht
  |cons a l ihl =>
   intro t ht
   rw[iK]
   rcases List.mem_cons.mp ht with rfl|ht
   ·omega
   ·have:=ihl t ht;omega
 walk_at"st"
 rw[aK l7]
 refine nE toD (I:=fun r σ aB=>∃ R1 o3 dn,ss=dn++r/\σ=[some (.ref p),some (.tup (names.map .str)),some (.ref l),o3]/\cB [lr,ld] qX aB/\gN aB p lp lr ld names (cO ss []) R1 []/\(∀ t∈dn,t∈R1)/\R1.length<=fD dn) (fun r σ aB ⟨R1,o3,dn,e1,e2,k1,T1,a2,a4⟩=>?_) (fun x r σ aB M ⟨R1,o3,dn,e1,e2,k1,T1,a2,a4⟩ hM=>?_) (fun σ aB ⟨R1,o3,dn,e1,e2,k1,T1,a2,a4⟩=>?_) _ _ _ ⟨[],none,[],rfl,rfl,.refl,T7,fun t ht=>(by cases ht),by simp [fD]⟩
 ·intro a ha
  simp only[List.mem_singleton]at ha
  subst ha
  rw[l7,k1 _ _ (by simp [llr,lld]) l7]
 ·-- a saying
  subst e2
  have hx:x∈ss:=by rw[e1];simp
  have hdn:fD dn+sz x<=fD ss:=by rw[e1,jV,iK];omega
  walk_at"st"
  rw[sN T1.ins (by rw[jA (by decide +kernel) (by decide +kernel) (by decide +kernel) (by decide +kernel)];rfl)]
  refine⟨True.intro,?_⟩
  refine QV (k:=k+1) he hw hpo rfl rfl 8 (ho x hx).2 T1 ⟨(ho x hx).1,(ho x hx).2,HU ss [] x hx⟩ (by omega) fun aF R2 b1 b2 b3 b4 b5 b6=>?_
  rw[aE]
  refine hM _ aF ⟨R2,_,dn++[x],by simp [e1],rfl,k1.trans b1,b2,fun t ht=>?_,?_⟩
  ·rcases List.mem_append.mp ht with ht|ht
   ·exact b3 t (a2 t ht)
   ·simp only[List.mem_singleton]at ht;subst ht;exact b4
  ·rw[jV];simp only[iK];simp only[fD,List.map_nil,List.sum_nil]at *;omega
 ·-- behind them
  subst e2
  rw[List.append_nil]at e1
  have zN:∀ s∈ss,s∈R1:=fun s oI=>a2 s (by rw[<-e1];exact oI)
  have kk:cB [p,lr,ld] st aB:=(k7.mono (by simp)).trans (k1.mono (by simp))
  walk_at"st"
  rw[fX T1.ins vH,pR,aK T1.pc]
  refine gI toD (fun s=>.bl (fO s)) (cO ss []) [] aB (fun aX y a ha=>?_) (fun t ht aX K y1 hK=>?_) (by simp only[List.length_nil];omega) fun aF y2=>?_
  ·simp only[List.mem_singleton]at ha
   subst ha
   rw[T1.pc,y _ _ T1.pc]
  ·obtain⟨r,er⟩:=mZ t
   rw[er]
   walk_at"ex"
   rw[QG]
   exact hK aX .refl
  rw[List.nil_append]
  refine cJ (by simp only[List.length_map];omega) fun pp bB y3 hpp rJ=>?_
  walk_at"ex"
  rw[aK rJ]
  refine⟨by simp only[List.length_map];omega,?_⟩
  have T3:=T1.keep (y2.trans y3)
  rw[xA T3.ins (by simp [oF]),mP (by rw[jA (by decide +kernel) (by decide +kernel) (by decide +kernel) (by decide +kernel)];rfl)]
  generalize hst8:put bB p _=qW
  have nep:∀ a o,a≠p->bB a=some o->qW a=some o:=fun a o na e=>by rw[<-hst8,bK na];exact e
  have lpp:lp≠p:=plp.symm
  have T8:gN qW p lp lr ld names (cO ss []) R1 [(W "first_memory", .tup ((cO ss []).map fun s=>.bl (fO s)))]:=by
   obtain⟨rows,r1,r2,r3⟩:=T3.rows
   refine⟨by rw[<-hst8,bA,List.append_assoc];rfl,nep _ _ lpp T3.pc,⟨rows,nep _ _ plr.symm r1,r2,fun j s d h1 h2=>?_⟩,nep _ _ pld.symm T3.tab,T3.ne,T3.nd,T3.gd,T3.len,T3.pd⟩
   obtain⟨q,is,c1,c2,c3,c4⟩:=r3 j s d h1 h2
   exact⟨q,is,c1,c2,nep _ _ (fun z=>by rw[z,T3.ins]at c3;cases c3) c3,c4⟩
  have cl:=T8.closed
  have hin:∀ s∈cO ss [],oG s∈R1:=fun s oI=>by
   have h1:=MF cl ss [] zN (fun x hx=>by cases hx) s oI
   cases s with
   |one w a =>
    cases w with
    |before=>exact cl _ h1 a (by simp [subs])
    |_=>exact h1
   |_=>exact h1
  have hpast:=DQ ss [] (fun x hx=>by cases hx)
  walk_at"st"
  rw[fX T8.ins vH,pR,aK T8.pc]
  refine gI toD (fun s=>.int (R1.idxOf (oG s):Nat)) (cO ss []) [] qW (fun aX y a ha=>?_) (fun t ht aX K y1 hK=>?_) (by simp only[List.length_nil];omega) fun Fq y9=>?_
  ·simp only[List.mem_singleton]at ha
   subst ha
   rw[T8.pc,y _ _ T8.pc]
  ·have T'':=T8.keep y1
   walk_at"ex"
   rw[sN T''.ins (by rw[jA (by decide +kernel) (by decide +kernel) (by decide +kernel) (by decide +kernel)];simp only[dA];rw[if_neg (by decide +kernel)])]
   refine⟨True.intro,?_⟩
   have cN:=List.idxOf_lt_length_iff.mpr (hin t ht)
   have hd8:aR t<=8:=zJ ss (n:=8) (by simp) (fun x hx=>(ho x hx).2) t ht
   refine Ac (k:=k+10) hrr T'' (hpast t ht) hd8 (j:=R1.idxOf (oG t)) (by rw[List.getElem?_eq_getElem cN];simp) ?_
   exact hK aX .refl
  rw[List.nil_append]
  refine cJ (by simp only[List.length_map];omega) fun lm RB y10 hlm hlm10=>?_
  walk_at"ex"
  have T10:=T8.keep (y9.trans y10)
  rw[xA T10.ins (by simp [oF]),mP (by rw[jA (by decide +kernel) (by decide +kernel) (by decide +kernel) (by decide +kernel)];simp only[dA];rw[if_neg (by decide +kernel)])]
  simp only[aE]
  generalize hst11:put RB p _=Aj
  have nep2:∀ a o,a≠p->RB a=some o->Aj a=some o:=fun a o na e=>by rw[<-hst11,bK na];exact e
  refine hQ Aj R1 (fun a o na e=>?_) ⟨lp,lr,ld,lm,(cO ss []).map fun s=>R1.idxOf (oG s),?_,?_,by simp,fun m j s h1 h2=>?_,hpast⟩ zN
  ·simp only[List.mem_singleton]at na
   have h7:=k7 a o (by simpa using na) e
   have alr:a≠lr:=fun z=>by rw[<-z,k3 a o (by simpa using na) e]at hlr;cases hlr
   have ald:a≠ld:=fun z=>by rw[<-z,k5 a o (by simpa using na) e]at hld;cases hld
   exact nep2 a o na ((y9.trans y10) _ _ (nep a o na ((y2.trans y3) _ _ (k1 a o (by simp [alr,ald]) h7))))
  ·obtain⟨rows,r1,r2,r3⟩:=T10.rows
   refine⟨by rw[<-hst11,bA,List.append_assoc];rfl,nep2 _ _ lpp T10.pc,⟨rows,nep2 _ _ plr.symm r1,r2,fun j s d h1 h2=>?_⟩,nep2 _ _ pld.symm T10.tab,T10.ne,T10.nd,T10.gd,T10.len,T10.pd⟩
   obtain⟨q,is,c1,c2,c3,c4⟩:=r3 j s d h1 h2
   exact⟨q,is,c1,c2,nep2 _ _ (fun z=>by rw[z,T10.ins]at c3;cases c3) c3,c4⟩
  ·rw[nep2 _ _ (fun z=>by rw[z,(T8.keep y9).ins]at hlm;cases hlm) hlm10,List.map_map];rfl
  ·rw[List.getElem?_map,h2]at h1
   simp at h1
   subst h1
   have cN:=List.idxOf_lt_length_iff.mpr (hin s (List.mem_of_getElem? h2))
   rw[List.getElem?_eq_getElem cN];simp
end
end L3
end
section
namespace L3
open PySem
noncomputable def pL:Fn:=⟨2,2,[.ret (.and_ (.isi (.v 0) [.tuple]) (.and_ (.cmp .eq (.bi .len [(.v 0)]) (.v 1)) (.bi .all [(.comp 1 [] [0] true none [(.v 0)] [] (.isi (.v 0) [.bool]))])))]⟩
theorem Table.keep {st aB:aA}{p:Nat}{names:List (List Nat)}{aU R:List Sy}(T:Table st p names aU R)(h:Ext st aB):Table aB p names aU R:=by
 obtain⟨lp,lr,ld,lm,js,a,b,c⟩:=T.h
 exact⟨lp,lr,ld,lm,js,a.keep h,h _ _ b,c⟩
theorem Table.row {st:aA}{p:Nat}{names:List (List Nat)}{aU R:List Sy}(T:Table st p names aU R):∃ ld fs,st p=some (.ins (W "Table") fs)/\dA fs (W "row_of")=some (.ref ld)/\st ld=some (.tab (R.map toD) (vJ R.length))/\∀ s∈R,aR s<=8/\kO (R.map toD) (vJ R.length) (toD s)=some (.int (R.idxOf s:Nat)):=by
 obtain⟨lp,lr,ld,lm,js,a,b,c⟩:=T.h
 refine⟨ld,_,a.ins,mK,a.tab,fun s hs=>⟨(a.gd s hs).dp,?_⟩⟩
 have cN:=List.idxOf_lt_length_iff.mpr hs
 exact a.look (by rw[List.getElem?_eq_getElem cN];simp)
end L3
end
section
namespace L3
open PySem
noncomputable def jL (bs:List Bool):D:=.tup (bs.map .bl)
noncomputable def LN (G:Prog)(ibk kb:Nat)(b:Bk):Prop:=∀(k:Nat)(st:aA)(Q:VK)(E:XK),(∀ aB,Ext st aB->Q (.bl true) aB)->aM G (k+kb) ibk [b.d] st Q E
section
variable {G:Prog}{k i ibk kb ich icp ist ie iw ipo iz irr iti io iri ima mG iph inh:Nat}{st:aA}{Q:VK}{E:XK}{b:Bk}
theorem K9 (h:G.fns ist=some pL){bs:List Bool}{n:Nat}(hn:bs.length=n)(hl:n<=100)(hQ:∀ aB,Ext st aB->Q (.bl true) aB):aM G (k+1) ist [jL bs,.int n] st Q E:=by
 have hL:bI=16777216:=rfl
 rw[bC h]
 simp only[pL,start,jL]
 refine⟨rfl,?_⟩
 walk_at"st"
 have e1:(((bs.map D.bl).length:Int)==(n:Int))=true:=by rw[List.length_map,hn];simp
 simp only[e1,if_true]
 walk_at"ex"
 refine gI D.bl (fun _=>.bl true) bs [] st (fun aX y a ha=>by cases ha) (fun t ht aX K y1 hK=>hK aX .refl) (by simp only[List.length_nil];omega) fun aF y2=>?_
 rw[List.nil_append]
 refine cJ (by simp only[List.length_map];omega) fun pp bB y3 hpp rJ=>?_
 walk_at"ex"
 rw[aK rJ,iM,bQ]
 have e2:(bs.map fun _=>true).all id=true:=by simp
 rw[e2]
 exact hQ bB (y2.trans y3)
end
end L3
end
section
namespace L3
open PySem
local macro_rules|`(tactic| walk_at"wd")=>`(tactic| (first|rw[if_pos (by decide +kernel)]|rw[if_neg (by decide +kernel)]))
noncomputable def E4 (ih:Nat):Fn:=⟨4,8,[.asg (.nm 4) (.ix (.v 1) (.c (.int 0))),.iff (.cmp .eq (.v 4) (.c (.str (W "lamp")))) [.ret (.ix (.ix (.v 2) (.v 3)) (.cC .index (.v 0) [(.ix (.v 1) (.c (.int 1)))]))] [],.iff (.or_ (.cmp .eq (.v 4) (.c (.str (W "yes")))) (.cmp .eq (.v 4) (.c (.str (W "no"))))) [.ret (.cmp .eq (.v 4) (.c (.str (W "yes"))))] [],.iff (.cmp .eq (.v 4) (.c (.str (W "before")))) [.ret (.and_ (.cmp .gt (.v 3) (.c (.int 0))) (.call ih [(.v 0),(.ix (.v 1) (.c (.int 1))),(.v 2),(.bin .sub (.v 3) (.c (.int 1)))]))] [],.iff (.cmp .eq (.v 4) (.c (.str (W "once")))) [.ret (.cmp .ne (.comp 1 [0,1,2] [0] true (some .range) [(.bin .add (.v 3) (.c (.int 1)))] [(.call ih [(.v 1),(.ix (.v 2) (.c (.int 1))),(.v 3),(.v 0)])] (.v 0)) (.lst []))] [],.iff (.cmp .eq (.v 4) (.c (.str (W "sofar")))) [.ret (.cmp .eq (.comp 1 [0,1,2] [0] true (some .range) [(.bin .add (.v 3) (.c (.int 1)))] [(.not_ (.call ih [(.v 1),(.ix (.v 2) (.c (.int 1))),(.v 3),(.v 0)]))] (.v 0)) (.lst []))] [],.iff (.cmp .eq (.v 4) (.c (.str (W "since")))) [.iD (.nm 5) (some .range) [(.v 3),(.neg (.c (.int 1))),(.neg (.c (.int 1)))] [.iff (.call ih [(.v 0),(.ix (.v 1) (.c (.int 2))),(.v 2),(.v 5)]) [.ret (.c (.bl true))] [],.iff (.not_ (.call ih [(.v 0),(.ix (.v 1) (.c (.int 1))),(.v 2),(.v 5)])) [.ret (.c (.bl false))] []],.ret (.c (.bl false))] [],.asg (.nm 6) (.call ih [(.v 0),(.ix (.v 1) (.c (.int 1))),(.v 2),(.v 3)]),.iff (.cmp .eq (.v 4) (.c (.str (W "not")))) [.ret (.not_ (.v 6))] [],.asg (.nm 7) (.call ih [(.v 0),(.ix (.v 1) (.c (.int 2))),(.v 2),(.v 3)]),.iff (.cmp .eq (.v 4) (.c (.str (W "and")))) [.ret (.and_ (.v 6) (.v 7))] [],.iff (.cmp .eq (.v 4) (.c (.str (W "or")))) [.ret (.or_ (.v 6) (.v 7))] [],.iff (.cmp .eq (.v 4) (.c (.str (W "then")))) [.ret (.or_ (.v 7) (.not_ (.v 6)))] [],.ret (.cmp .eq (.v 6) (.v 7))]⟩
theorem tY {α:Type}{g:aA->Prop}{turn:D->aA->(Option D->aA->Prop)->Prop}{R:List D->aA->Prop}(t:α->D)(f:α->Option D):∀(xs:List α)(acc:List D)(st:aA),
  (∀ aB,Ext st aB->g aB)->(∀ x∈xs,∀ aB (K:Option D->aA->Prop),Ext st aB->(∀ aX,Ext aB aX->K (f x) aX)->turn (t x) aB K) ->
  acc.length+xs.length<=bI->(∀ aB,Ext st aB->R (acc++xs.filterMap f) aB)->iP g turn (xs.map t) acc st R
 |[],acc,st,hg,_,_,hR=>⟨hg st .refl,by simpa using hR st .refl⟩
 |x::xs,acc,st,hg,ht,hl,hR=>by
  simp only[List.length_cons]at hl
  refine⟨hg st .refl,by omega,ht x (by simp) st _ .refl fun aX h''=>?_⟩
  cases hf:f x with
  |none =>
   exact tY t f xs acc aX (fun aB h=>hg aB (h''.trans h)) (fun y hy aB K h=>ht y (by simp [hy]) aB K (h''.trans h)) (by omega) fun aB h=>by simpa [hf]using hR aB (h''.trans h)
  |some d =>
   exact tY t f xs (acc++[d]) aX (fun aB h=>hg aB (h''.trans h)) (fun y hy aB K h=>ht y (by simp [hy]) aB K (h''.trans h)) (by simp only[List.length_append,List.length_cons,List.length_nil];omega) fun aB h=>by simpa [hf]using hR aB (h''.trans h)
theorem zQ:∀ is:List Int,bV (is.map .int)=true
 |[]=>rfl
 |i::is=>by simp only[List.map_cons,bV,bR,zQ is,Bool.and_self]
theorem C7:∀ is:List Int,cX (is.map .int)=0
 |[]=>rfl
 |i::is=>by simp only[List.map_cons,cX,cQ,C7 is];rfl
theorem oN {st:aA}{p:Nat}{is:List Int}(h:st p=some (.lst (is.map .int))):plainS st (.ref p):=by
 refine⟨?_,Nat.zero_le _⟩
 simp only[fM,h,RC,zQ,C7];rfl
theorem eq_nil {st:aA}{p q:Nat}{xs:List D}(h:st p=some (.lst xs))(h':st q=some (.lst [])):bN st (.ref p) (.ref q)=xs.isEmpty:=by
 simp only[bN,h,h',DH]
 cases xs<;>rfl
theorem EG (f:Nat->Bool)(n:Nat):((List.range n).filterMap fun k=>if f k=true then some (D.int (k:Nat))else none)=(((List.range n).filter f).map fun(k:Nat)=>(k:Int)).map .int:=by
 generalize List.range n=l
 induction l with
 |nil=>rfl
 |cons a l ih =>
 by_cases h:f a=true
 ·simp only[List.filterMap_cons,h,if_true,List.filter_cons,List.map_cons,ih]
 ·simp only[List.filterMap_cons,h,List.filter_cons,ih];simp [h]
theorem C2 (f:Nat->Bool)(l:List Nat):((((l.filter f).map fun(k:Nat)=>(k:Int)).map D.int).isEmpty) = !l.any f:=by
 induction l with
 |nil=>rfl
 |cons a l ih =>
 by_cases h:f a=true
 ·simp [h]
 ·simp only[List.filter_cons,h,List.any_cons];simp [h]at ih ⊢;exact ih
theorem nB (n:Nat):kD 0 n=(List.range n).map fun k=>D.int (k:Nat):=by
 unfold kD;congr 1;funext k;simp
section
variable {G:Prog}{ih l:Nat}{names:List (List Nat)}{aI:List (List Bool)}
theorem OR (h:G.fns ih=some (E4 ih))(hp:∀ bs∈aI,bs.length=names.length)(cS:aI.length<=1000):∀(n:Nat){s:Sy}{k t:Nat}{st:aA}{Q:VK}{E:XK},aR s<=n->over names s->t<aI.length->st l=some (.lst (aI.map jL)) ->
  (∀ aB,Ext st aB->Q (.bl (hv names aI s t)) aB)->aM G (k+n) ih [.tup (names.map .str),toD s,.ref l,.int t] st Q E:=by
 have hL:bI=16777216:=rfl
 intro n
 induction n with
 |zero=>intro s k t st Q E hn;cases s<;>simp [aR]at hn
 |succ n ih' =>
  intro s k t st Q E hn ho ht hl hQ
  rw[show k+(n+1)=(k+n)+1 from rfl,bC h]
  simp only[E4,start]
  refine⟨rfl,?_⟩
  cases s with
  |yes =>
   simp only[toD]
   walk_at"st"
   walk_at"st"; walk_at"wd"; rw[aE]
   walk_at"st"; walk_at"wd"
   have e:(W "yes" == W "yes")=true:=by decide +kernel
   simp only[e,if_true]
   walk_at"st"
   rw[e]
   exact hQ st .refl
  |no =>
   simp only[toD]
   walk_at"st"
   walk_at"st"; walk_at"wd"; rw[aE]
   walk_at"st"; walk_at"wd"
   have e:(W "no" == W "no")=true:=by decide +kernel
   simp only[e,if_true]
   walk_at"st"
   have e:(W "no" == W "yes")=false:=by decide +kernel
   rw[e]
   exact hQ st .refl
  |cI m =>
   simp only[toD]
   walk_at"st"
   walk_at"st"; walk_at"wd"
   walk_at"st"
   have hx:=List.getElem?_eq_getElem ht
   rw[gM hl,dW (by simpa using ht),List.getElem?_map,hx,Option.map_some,bQ]
   walk_at"ex"
   rw[vK,rO,zD,rO]
   refine⟨True.intro,tQ,iZ st names,?_⟩
   rw[uZ ho,bQ]
   have hlen:=hp _ (List.mem_of_getElem? hx)
   have cN:names.idxOf m<(aI[t]).length:=by rw[hlen];exact List.idxOf_lt_length_iff.mpr ho
   simp only[jL]
   rw[jS,dW (by simpa using cN),List.getElem?_map,List.getElem?_eq_getElem cN,Option.map_some,bQ]
   have:=hQ st .refl
   simp only[hv,EB,hx,Option.getD_some]at this
   rw[List.getElem?_eq_getElem cN]at this
   exact this
  |one w a =>
   simp only[aR]at hn
   have ho':over names a:=ho
   cases w with
   |not =>
    simp only[toD,c1]
    walk_at"st"
    walk_at"st"; walk_at"wd"; rw[aE]
    walk_at"st"; walk_at"wd"; walk_at"wd"; rw[aE]
    iterate 4 (walk_at"st"; walk_at"wd"; rw[aE])
    walk_at"st"
    refine ih' (s:=a) (by omega) ho' ht hl fun aC x1=>?_
    walk_at"st"; walk_at"wd"
    walk_at"st"
    exact hQ aC x1
   |before =>
    simp only[toD,c1]
    walk_at"st"
    walk_at"st"; walk_at"wd"; rw[aE]
    walk_at"st"; walk_at"wd"; walk_at"wd"; rw[aE]
    walk_at"st"; walk_at"wd"
    walk_at"st"
    by_cases h0:t=0
    ·subst h0
     rw[if_neg (by simp)]
     exact hQ st .refl
    ·rw[if_pos (by simp;omega),show(t:Int)-1=((t-1:Nat):Int)by omega]
     refine ih' (s:=a) (by omega) ho' (by omega) hl fun aC x1=>?_
     have:=hQ aC x1
     simp only[hv]at this
     rw[decide_eq_true (by omega),Bool.true_and]at this
     exact this
   |once =>
    simp only[toD,c1]
    walk_at"st"
    walk_at"st"; walk_at"wd"; rw[aE]
    walk_at"st"; walk_at"wd"; walk_at"wd"; rw[aE]
    walk_at"st"; walk_at"wd"; rw[aE]
    walk_at"st"; walk_at"wd"
    walk_at"st"
    refine⟨by unfold dX;omega,?_⟩
    rw[show((t:Int)+1).toNat=t+1 by omega,nB]
    refine tY (fun k:Nat=>D.int (k:Nat)) (fun k=>if hv names aI a k=true then some (D.int (k:Nat))else none) (List.range (t+1)) [] st (fun aB y a ha=>by cases ha) (fun j hj aB K y1 hK=>?_) (by simp;omega) fun aC y1=>?_
    ·refine ih' (s:=a) (by omega) ho' (by have:=List.mem_range.mp hj;omega) (y1 _ _ hl) fun aF x2=>?_
     have:=hK aF x2
     walk_at"ex"
     cases hb:hv names aI a j with
     |true=>simpa [hb]using this
     |false=>simpa [hb]using this
    rw[List.nil_append,EG]
    refine cJ (by simp only[List.length_map];have:=List.length_filter_le (hv names aI a) (List.range (t+1));simp at this;omega) fun p aF x2 hp' jU=>?_
    walk_at"ex"
    refine cJ (by simp) fun q bB x3 hq hq3=>?_
    walk_at"ex"
    refine⟨oN (x3 _ _ jU),oN (is:=[]) hq3,?_⟩
    rw[eq_nil (x3 _ _ jU) hq3,C2,Bool.not_not]
    exact hQ bB ((y1.trans x2).trans x3)
   |sofar =>
    simp only[toD,c1]
    walk_at"st"
    walk_at"st"; walk_at"wd"; rw[aE]
    walk_at"st"; walk_at"wd"; walk_at"wd"; rw[aE]
    iterate 2 (walk_at"st"; walk_at"wd"; rw[aE])
    walk_at"st"; walk_at"wd"
    walk_at"st"
    refine⟨by unfold dX;omega,?_⟩
    rw[show((t:Int)+1).toNat=t+1 by omega,nB]
    refine tY (fun k:Nat=>D.int (k:Nat)) (fun k=>if(!hv names aI a k)=true then some (D.int (k:Nat))else none) (List.range (t+1)) [] st (fun aB y a ha=>by cases ha) (fun j hj aB K y1 hK=>?_) (by simp;omega) fun aC y1=>?_
    ·refine ih' (s:=a) (by omega) ho' (by have:=List.mem_range.mp hj;omega) (y1 _ _ hl) fun aF x2=>?_
     have:=hK aF x2
     walk_at"ex"
     cases hb:hv names aI a j with
     |true=>simpa [hb]using this
     |false=>simpa [hb]using this
    rw[List.nil_append,EG (fun k=>!hv names aI a k)]
    refine cJ (by simp only[List.length_map];have:=List.length_filter_le (fun k=>!hv names aI a k) (List.range (t+1));simp at this ⊢;omega) fun p aF x2 hp' jU=>?_
    walk_at"ex"
    refine cJ (by simp) fun q bB x3 hq hq3=>?_
    walk_at"ex"
    refine⟨oN (x3 _ _ jU),oN (is:=[]) hq3,?_⟩
    rw[eq_nil (x3 _ _ jU) hq3,C2]
    have:=hQ bB ((y1.trans x2).trans x3)
    simp only[hv]at this
    have e:(!(List.range (t+1)).any fun k=>!hv names aI a k)=(List.range (t+1)).all (hv names aI a):=by
     rw[List.not_any_eq_all_not];simp
    rw[e]
    exact this
  |two w a b =>
   simp only[aR]at hn
   have ho1:over names a:=ho.1
   have ho2:over names b:=ho.2
   cases w with
   |since =>
    simp only[toD,c2]
    walk_at"st"
    walk_at"st"; walk_at"wd"; rw[aE]
    walk_at"st"; walk_at"wd"; walk_at"wd"; rw[aE]
    iterate 3 (walk_at"st"; walk_at"wd"; rw[aE])
    walk_at"st"; walk_at"wd"
    walk_at"st"
    rw[A2]
    refine⟨rfl,by unfold dX;omega,by unfold dX;omega,?_⟩
    rw[show((t:Int) - -1).toNat=t+1 by omega]
    have er:mM (t:Int) (t+1)=(List.range (t+1)).map fun k=>D.int ((t:Int)-(k:Nat)):=rfl
    rw[er]
    have hsf:∀ u,iW (hv names aI a) (hv names aI b) u=(hv names aI b u||(hv names aI a u&&(decide (0<u)&&iW (hv names aI a) (hv names aI b) (u-1)))):=fun u=>by
     cases u with
     |zero=>simp [iW]
     |succ u=>simp [iW]
    refine nE (fun k:Nat=>D.int ((t:Int)-(k:Nat))) (I:=fun rest σ aB=>∃ m o5,m<=t+1/\rest=(List.range (t+1)).drop m/\σ=[some (.tup (names.map .str)),some (.tup [.str (W "since"),toD a,toD b]),some (.ref l),some (.int (t:Nat)),some (.str (W "since")),o5,none,none]/\Ext st aB/\hv names aI (Sy.two .since a b) t=(decide (m<=t)&&iW (hv names aI a) (hv names aI b) (t-m))) (fun rest σ aB _ x hx=>?_) (fun x rest σ aB M ⟨m,o5,e0,e1,e2,x4,e5⟩ hM=>?_) (fun σ aB ⟨m,o5,e0,e1,e2,x4,e5⟩=>?_) _ _ _ ⟨0,none,Nat.zero_le _,rfl,rfl,.refl,by simp [hv]⟩
    ·cases hx
    ·subst e2
     have hm:m<(List.range (t+1)).length:=by
      by_cases z:m<(List.range (t+1)).length
      ·exact z
      ·rw[List.drop_eq_nil_of_le (by omega)]at e1;cases e1
     rw[List.drop_eq_getElem_cons hm]at e1
     injection e1 with e3 e4
     simp only[List.getElem_range]at e3
     subst e3
     simp only[List.length_range]at hm
     have eu:(t:Int)-(x:Nat)=((t-x:Nat):Int):=by omega
     rw[eu]
     rw[decide_eq_true (by omega),Bool.true_and,hsf]at e5
     walk_at"st"
     refine ih' (s:=b) (by omega) ho2 (by omega) (x4 _ _ hl) fun aC x1=>?_
     walk_at"ex"
     cases hb:hv names aI b (t-x)with
     |true =>
      simp only[if_true]
      walk_at"st"
      rw[hb,Bool.true_or]at e5
      have:=hQ aC (x4.trans x1)
      rw[e5]at this
      exact this
     |false =>
      simp only[Bool.false_eq_true,if_false,aE]
      walk_at"st"
      refine ih' (s:=a) (by omega) ho1 (by omega) (x1 _ _ (x4 _ _ hl)) fun aF x2=>?_
      walk_at"ex"
      cases ha:hv names aI a (t-x)with
      |false =>
       simp only[Bool.not_false,if_true]
       walk_at"st"
       rw[hb,ha]at e5
       have:=hQ aF ((x4.trans x1).trans x2)
       rw[e5]at this
       exact this
      |true =>
       simp only[Bool.not_true,Bool.false_eq_true,if_false,aE]
       rw[hb,ha,Bool.false_or,Bool.true_and]at e5
       refine hM _ aF ⟨x+1,_,by omega,e4,rfl,(x4.trans x1).trans x2,?_⟩
       rw[e5]
       have e7:t-x-1=t-(x+1):=by omega
       rw[e7]
       congr 1
       rw[decide_eq_decide]
       omega
    ·subst e2
     have hm:t+1<=m:=by
      by_cases z:m<(List.range (t+1)).length
      ·rw[List.drop_eq_getElem_cons z]at e1;cases e1
      ·simpa using z
     rw[decide_eq_false (by omega),Bool.false_and]at e5
     walk_at"st"
     have:=hQ aB x4
     rw[e5]at this
     exact this
   |and =>
    simp only[toD,c2]
    walk_at"st"
    walk_at"st"; walk_at"wd"; rw[aE]
    walk_at"st"; walk_at"wd"; walk_at"wd"; rw[aE]
    iterate 4 (walk_at"st"; walk_at"wd"; rw[aE])
    walk_at"st"
    refine ih' (s:=a) (by omega) ho1 ht hl fun aC x1=>?_
    walk_at"st"; walk_at"wd"; rw[aE]
    walk_at"st"
    refine ih' (s:=b) (by omega) ho2 ht (x1 _ _ hl) fun aF x2=>?_
    walk_at"st"; walk_at"wd"
    walk_at"st"
    have:=hQ aF (x1.trans x2)
    simp only[hv]at this
    cases ha:hv names aI a t with
    |false=>simpa [ha]using this
    |true=>simpa [ha]using this
   |or =>
    simp only[toD,c2]
    walk_at"st"
    walk_at"st"; walk_at"wd"; rw[aE]
    walk_at"st"; walk_at"wd"; walk_at"wd"; rw[aE]
    iterate 4 (walk_at"st"; walk_at"wd"; rw[aE])
    walk_at"st"
    refine ih' (s:=a) (by omega) ho1 ht hl fun aC x1=>?_
    walk_at"st"; walk_at"wd"; rw[aE]
    walk_at"st"
    refine ih' (s:=b) (by omega) ho2 ht (x1 _ _ hl) fun aF x2=>?_
    walk_at"st"; walk_at"wd"; rw[aE]
    walk_at"st"; walk_at"wd"
    walk_at"st"
    have:=hQ aF (x1.trans x2)
    simp only[hv]at this
    cases ha:hv names aI a t with
    |false=>simpa [ha]using this
    |true=>simpa [ha]using this
   |aV =>
    simp only[toD,c2]
    walk_at"st"
    walk_at"st"; walk_at"wd"; rw[aE]
    walk_at"st"; walk_at"wd"; walk_at"wd"; rw[aE]
    iterate 4 (walk_at"st"; walk_at"wd"; rw[aE])
    walk_at"st"
    refine ih' (s:=a) (by omega) ho1 ht hl fun aC x1=>?_
    walk_at"st"; walk_at"wd"; rw[aE]
    walk_at"st"
    refine ih' (s:=b) (by omega) ho2 ht (x1 _ _ hl) fun aF x2=>?_
    iterate 2 (walk_at"st"; walk_at"wd"; rw[aE])
    walk_at"st"; walk_at"wd"
    walk_at"st"
    have:=hQ aF (x1.trans x2)
    simp only[hv]at this
    cases hb:hv names aI b t with
    |false=>simpa [hb]using this
    |true=>simpa [hb]using this
   |same =>
    simp only[toD,c2]
    walk_at"st"
    walk_at"st"; walk_at"wd"; rw[aE]
    walk_at"st"; walk_at"wd"; walk_at"wd"; rw[aE]
    iterate 4 (walk_at"st"; walk_at"wd"; rw[aE])
    walk_at"st"
    refine ih' (s:=a) (by omega) ho1 ht hl fun aC x1=>?_
    walk_at"st"; walk_at"wd"; rw[aE]
    walk_at"st"
    refine ih' (s:=b) (by omega) ho2 ht (x1 _ _ hl) fun aF x2=>?_
    iterate 3 (walk_at"st"; walk_at"wd"; rw[aE])
    walk_at"st"
    exact hQ aF (x1.trans x2)
end
end L3
end
section
namespace L3
open PySem
noncomputable def KO (im:Nat):Fn:=⟨4,8,[.asg (.nm 4) (.call im [(.v 0),(.v 1),(.bin .pow (.c (.int 10)) (.c (.int 9)))]),.asg (.nm 5) (.lst []),.iD (.nm 6) (some .range) [(.call im [(.v 0),(.bin .add (.v 1) (.c (.int 1))),(.bin .add (.v 3) (.c (.int 1)))])] [.asg (.nm 7) (.bin .mod (.bin .mul (.bin .add (.bin .add (.v 4) (.bin .mul (.bin .mul (.c (.int 104729)) (.v 6)) (.v 6))) (.bin .mul (.c (.int 7919)) (.v 6))) (.c (.int 48271))) (.c (.int 2147483647))),.ex (.cC .append (.v 5) [(.bi .tuple [(.comp 1 [7] [0] true (some .range) [(.v 2)] [] (.cmp .eq (.bin .mod (.bin .fdiv (.v 1) (.ix (.lst [(.c (.int 13)),(.c (.int 26)),(.c (.int 52)),(.c (.int 104))]) (.v 0))) (.c (.int 2))) (.c (.int 1))))])])],.ret (.v 5)]⟩
noncomputable def cst (j:Nat):Int:=([13,26,52,104]:List Int).getD j 1
theorem UU (j:Nat)(h:j<4):0<cst j/\cst j<1073741824:=by
 match j,h with
 |0,_=>decide
 |1,_=>decide
 |2,_=>decide
 |3,_=>decide
section
variable {G:Prog}{k i im ic:Nat}{st:aA}{Q:VK}{E:XK}{ns:List Int}
theorem IF (h:G.fns i=some (KO im))(hm:G.fns im=some (pV ic))(hc:G.fns ic=some qF){at_ most:Int}{n:Nat}(ha:0<=at_)(hn:n<=4)(hmo:0<=most)(hmo2:most<=100)
  (hQ:∀ p aB (aI:List (List Bool)),Ext st aB->aB p=some (.lst (aI.map jL))->(∀ bs∈aI,bs.length=n)->(aI.length:Int)<=most->Q (.ref p) aB):aM G (k+3) i [.bF (ns.map .int),.int at_,.int n,.int most] st Q E:=by
 have hL:bI=16777216:=rfl
 rw[bC h]
 simp only[KO,start]
 refine⟨rfl,?_⟩
 walk_at"st"
 refine⟨by decide,?_⟩
 refine yS hm hc ha (by decide) fun aC x1=>?_
 walk_at"st"
 refine cJ (by simp) fun q aF x2 hq hq2=>?_
 walk_at"st"
 refine yS hm hc (by omega) (by omega) fun bB x3=>?_
 have v0:=mH (ns:=ns) (k:=at_+1) (many:=most+1) (by omega)
 have v1:=mO (ns:=ns) (k:=at_+1) (many:=most+1) (by omega)
 generalize pC ns (at_+1) (most+1)=v at v0 v1
 generalize pC ns at_ (10 ^ Int.toNat 9)=seed
 walk_at"ex"
 refine⟨by unfold dX;omega,?_⟩
 rw[nB]
 have hq1:aC q=none:=hq
 refine nE (fun j:Nat=>D.int (j:Nat)) (I:=fun rest σ aB=>∃ m o6 o7 aI,m<=v.toNat/\rest=(List.range v.toNat).drop m/\σ=[some (.bF (ns.map .int)),some (.int at_),some (.int n),some (.int most),some (.int seed),some (.ref q),o6,o7]/\cB [q] bB aB/\aB q=some (.lst (aI.map jL))/\(∀ bs∈aI,bs.length=n)/\aI.length=m) (fun rest σ aB _ a ha=>?_) (fun x rest σ aB M ⟨m,o6,o7,aI,e0,e1,e2,x4,e5,e6,e7⟩ hM=>?_) (fun σ aB ⟨m,o6,o7,aI,e0,e1,e2,x4,e5,e6,e7⟩=>?_) _ _ _ ⟨0,none,none,[],Nat.zero_le _,rfl,rfl,.refl,x3 _ _ hq2,by simp,rfl⟩
 ·cases ha
 ·subst e2
  have hm':m<(List.range v.toNat).length:=by
   by_cases z:m<(List.range v.toNat).length
   ·exact z
   ·rw[List.drop_eq_nil_of_le (by omega)]at e1;cases e1
  rw[List.drop_eq_getElem_cons hm']at e1
  injection e1 with e3 e4
  simp only[List.getElem_range]at e3
  subst e3
  simp only[List.length_range]at hm'
  walk_at"st"
  refine⟨.inl (by unfold nI;omega),.inr (by unfold nI;omega),.inl (by unfold nI;omega),.inr (by unfold nI;omega),by decide,?_⟩
  generalize (seed+104729*(x:Int)*(x:Int)+7919*(x:Int))*48271 % 2147483647=dr
  walk_at"st"
  rw[aK e5]
  refine⟨True.intro,by unfold dX;omega,?_⟩
  rw[show((n:Int)).toNat=n by omega,nB]
  refine gI (fun j:Nat=>D.int (j:Nat)) (fun j=>.bl (dr / cst j % 2==1)) (List.range n) [] aB (fun aX y a ha=>by cases ha) (fun j hj aX K y1 hK=>?_) (by simp;omega) fun fY y5=>?_
  ·have hj':=List.mem_range.mp hj
   refine cJ (by decide) fun u nQ x6 hu hu6=>?_
   have hat:eJ [D.int 13,D.int 26,D.int 52,D.int 104] ((j:Nat):Int)=some (.int (cst j)):=by
    rw[dW (by simp;omega)]
    match j,(by omega:j<4)with
    |0,_=>rfl
    |1,_=>rfl
    |2,_=>rfl
    |3,_=>rfl
   rw[gM hu6,hat,bQ]
   walk_at"ex"
   refine⟨UU j (by omega),by decide,?_⟩
   exact hK nQ x6
  rw[List.nil_append]
  refine cJ (by simp;omega) fun u nQ x6 hu hu6=>?_
  walk_at"ex"
  rw[aK hu6]
  refine⟨by simp;omega,?_⟩
  have q6:=x6 _ _ (y5 _ _ e5)
  rw[aK q6]
  refine⟨by simp;omega,?_⟩
  simp only[aE]
  refine hM _ _ ⟨x+1,_,_,aI++[(List.range n).map fun j=>dr / cst j % 2==1],by omega,e4,rfl,fun a o na e=>by rw[bK (by simpa using na)];exact x6 _ _ (y5 _ _ (x4 a o na e)),?_,fun bs hbs=>?_,by simp [e7]⟩
  ·rw[bA];simp [jL,List.map_map,Function.comp]
  ·rcases List.mem_append.mp hbs with hbs|hbs
   ·exact e6 bs hbs
   ·simp only[List.mem_singleton]at hbs;subst hbs;simp
 ·subst e2
  have hm':v.toNat<=m:=by
   by_cases z:m<(List.range v.toNat).length
   ·rw[List.drop_eq_getElem_cons z]at e1;cases e1
   ·simpa using z
  walk_at"st"
  refine hQ q aB aI (fun a o e=>x4 a o (fun z=>?_) (x3 _ _ (x2 _ _ (x1 _ _ e)))) e5 e6 (by omega)
  simp only[List.mem_singleton]at z
  rw[z]at e
  rw[x1 _ _ e]at hq;cases hq
end
end L3
end
section
namespace L3
open PySem
theorem FD {fs gs:List (List Nat)}(h:oQ fs gs=true):1<=fs.length/\fs.length<=2/\1<=gs.length/\gs.length<=2/\(fs++gs).Nodup/\∀ n∈fs++gs,n∈oK:=by
 simp only[oQ,Bool.and_eq_true,decide_eq_true_eq,List.all_eq_true]at h
 obtain⟨⟨⟨⟨⟨a,b⟩,c⟩,d⟩,e⟩,f⟩:=h
 exact⟨a,b,c,d,e,fun n hn=>by simpa using f n hn⟩
theorem BA:∀ n∈oK,eY n=true:=by decide +kernel
noncomputable def lU (l:List Sy):Nat:=(l.map cnt).sum
theorem EJ (f:List Sy)(s:Sy):(eS f s).length<=f.length+(if bU s=true then 1 else 0):=by
 unfold eS
 cases h:bU s with
 |true=>simp only[Bool.true_and,if_true];split<;>simp
 |false=>simp
theorem xO:∀(s:Sy)(f:List Sy),(aU s f).length<=f.length+cnt s
 |.yes,f=>by simp [aU]
 |.no,f=>by simp [aU]
 |.cI _,f=>by simp [aU]
 |.one w s,f=>by
  have h1:=xO s (eS f (.one w s))
  have h2:=EJ f (.one w s)
  simp only[bU]at h2
  simp only[aU,cnt]
  cases h:p1 w<;>simp [h]at h2 ⊢<;>omega
 |.two w s t,f=>by
  have h1:=xO s (eS f (.two w s t))
  have h2:=EJ f (.two w s t)
  have h3:=xO t (aU s (eS f (.two w s t)))
  simp only[bU]at h2
  simp only[aU,cnt]
  cases h:p2 w<;>simp [h]at h2 ⊢<;>omega
theorem E5:∀(l f:List Sy),(cO l f).length<=f.length+lU l
 |[],f=>by simp [cO,lU]
 |s::l,f=>by
  have h1:=E5 l (aU s f)
  have h2:=xO s f
  have:lU (s::l)=cnt s+lU l:=by simp [lU]
  simp only[cO];omega
theorem Jd {a b c:Nat}{x:Int}(h:(a:Int)<=x)(h':(b:Int)<=x-a):((a+b:Nat):Int)<=x:=by omega
theorem Jt {a b:Nat}{x:Int}:x-(a:Int)-(b:Int)=x-((a+b:Nat):Int):=by omega
theorem Jp {b:Nat}{x:Int}(h:(b:Int)<=x):0<=x-(b:Int):=by omega
theorem draws {turn:D->aA->(Option D->aA->Prop)->Prop}{R:List D->aA->Prop}{m lf:Nat}{ok:Sy->Prop}{SE:aA}
 (ht:∀(x:D)(st:aA)(K:Option D->aA->Prop)(i c:Int),0<=i->0<=c->st m=some (.lst [.int i])->st lf=some (.lst [.int c])->(∀ s aB i',ok s->(cnt s:Int)<=c->cB [m,lf] st aB->0<=i'->aB m=some (.lst [.int i'])->aB lf=some (.lst [.int (c-cnt s)])->K (some (toD s)) aB)->turn x st K):
 ∀(xs:List D)(ss:List Sy){st:aA}{i c:Int},0<=i->0<=c->st m=some (.lst [.int i])->st lf=some (.lst [.int c])->ss.length+xs.length<bI ->
  (∀ ss' aB i',(∀ s∈ss',ok s)->ss'.length=xs.length->(lU ss':Int)<=c->cB [m,lf] st aB->0<=i'->aB m=some (.lst [.int i'])->aB lf=some (.lst [.int (c-lU ss')])->R ((ss++ss').map toD) aB) ->
  iP (same [] SE) turn xs (ss.map toD) st R
 |[],ss,st,i,c,hi,hc,hm,hl,hn,h=>⟨EY,by have q:=h [] st i (fun _ h=>nomatch h) rfl (by simpa [lU]using hc) .refl hi hm (by simpa [lU]using hl);rw[List.append_nil]at q;exact q⟩
 |x::xs,ss,st,i,c,hi,hc,hm,hl,hn,h=>⟨EY,by rw[List.length_map];simp only[List.length_cons]at hn;omega,ht x st _ i c hi hc hm hl fun s aB i' o1 o2 k1 hi' m1 l1=>by
 have q:=draws (SE:=SE) ht xs (ss++[s]) hi' (Jp o2) m1 l1 (by simp only[List.length_append,List.length_cons,List.length_nil]at hn ⊢;omega) (fun ss' aX i'' p1 p2 p3 p4 p5 p6 p7=>by
  have e:lU (s::ss')=cnt s+lU ss':=by simp [lU]
  have z:=h (s::ss') aX i'' (fun s' oI=>by
  rcases List.mem_cons.mp oI with rfl|oI
  ·exact o1
  ·exact p1 s' oI) (by simp [p2]) (by rw[e];exact Jd (c:=0) o2 p3) (k1.trans p4) p5 p6 (by rw[e,<-Jt];exact p7)
  rw[List.append_assoc]
  exact z)
 rw[List.map_append]at q
 exact q⟩
end L3
end
section
namespace L3
open PySem
theorem PX {α:Type}(xs:List α){t:Nat}(h:t<=xs.length):cut xs none (some (t:Int))=xs.take t:=by
 simp only[cut,bX]
 rw[if_neg (by omega)]
 simp [Nat.min_eq_left h]
theorem NQ {n:Nat}:∀(l:List Sy),(∀ s∈l,aR s<=4)->fD l<=l.length*15
 |[],_=>by simp [fD]
 |s::l,h=>by
  have h1:=EC s
  have h2:=h s (by simp)
  have h3:=NQ (n:=n) l fun x hx=>h x (by simp [hx])
  have h4:2 ^ aR s<=2 ^ 4:=Nat.pow_le_pow_right (by decide) h2
  rw[iK]
  simp only[List.length_cons]
  omega
end L3
end
section
namespace L3
open PySem
section
variable {G:Prog}{k i:Nat}{st:aA}{Q:VK}{E:XK}{b:Bk}{r p l1 l2 l3:Nat}{R:List Sy}{V:Sy->Bool}{q:Nat}
theorem Af (hR:∀ s∈R,True){s:Sy}(hs:s∈R)(hq:st q=some (.lst (R.map fun s=>.bl (V s)))){Q':VK}:lZ (.ref q) (.int (R.idxOf s:Nat)) st Q'=Q' (.bl (V s)) st:=by
 have cN:=List.idxOf_lt_length_iff.mpr hs
 rw[gM hq,dW (by simpa using cN),List.getElem?_map,List.getElem?_eq_getElem cN]
 simp [cT]
end
end L3
end
section
namespace L3
open PySem
noncomputable def Bk.aU (b:Bk):List Sy:=cO b.says []
end L3
end
section
namespace L3
open PySem
section
variable {names:List (List Nat)}{pl:List (List Bool)}{x:List Bool}
theorem DU {f g f' g':Nat->Bool}:∀ t,(∀ k,k<=t->f k=f' k/\g k=g' k)->iW f g t=iW f' g' t
 |0,h=>(h 0 (Nat.le_refl _)).2
 |t+1,h=>by
  simp only[iW]
  rw[(h (t+1) (Nat.le_refl _)).1,(h (t+1) (Nat.le_refl _)).2,DU t fun k hk=>h k (by omega)]
theorem S1 {f g:Nat->Bool}(n:Nat)(h:∀ k,k<n->f k=g k):(List.range n).any f=(List.range n).any g:=by
 induction n with
 |zero=>rfl
 |succ n ih=>rw[BF,BF,ih fun k hk=>h k (by omega),h n (by omega)]
theorem VF {f g:Nat->Bool}(n:Nat)(h:∀ k,k<n->f k=g k):(List.range n).all f=(List.range n).all g:=by
 induction n with
 |zero=>rfl
 |succ n ih=>rw[BP,BP,ih fun k hk=>h k (by omega),h n (by omega)]
theorem fU:∀(s:Sy)(t:Nat),t<pl.length->hv names (pl++[x]) s t=hv names pl s t
 |.yes,_,_=>rfl
 |.no,_,_=>rfl
 |.cI n,t,h=>by simp only[hv,EB];rw[List.getElem?_append_left h]
 |.one .not s,t,h=>by simp only[hv];rw[fU s t h]
 |.one .before s,t,h=>by simp only[hv];rw[fU s (t-1) (by omega)]
 |.one .once s,t,h=>by simp only[hv];exact S1 _ fun k hk=>fU s k (by omega)
 |.one .sofar s,t,h=>by simp only[hv];exact VF _ fun k hk=>fU s k (by omega)
 |.two .and s u,t,h=>by simp only[hv];rw[fU s t h,fU u t h]
 |.two .or s u,t,h=>by simp only[hv];rw[fU s t h,fU u t h]
 |.two .aV s u,t,h=>by simp only[hv];rw[fU s t h,fU u t h]
 |.two .same s u,t,h=>by simp only[hv];rw[fU s t h,fU u t h]
 |.two .since s u,t,h=>by simp only[hv];exact DU t fun k hk=>⟨fU s k (by omega),fU u k (by omega)⟩
end
noncomputable def Bk.mem (b:Bk)(pl:List (List Bool)):List Bool:=b.aU.map (kA b.names pl pl.length)
end L3
end
section
namespace L3
open PySem
noncomputable def D5 (mG ima:Nat):Fn:=⟨3,7,[.asg (.nm 3) (.lst []),.asg (.nm 4) (.fld (W "Table") (W "first_memory") (.v 0)),.iD (.nm 5) none [(.v 1)] [.asg (.nm 6) (.mcl (W "Table") (W "held_at") mG (.v 0) [(.v 4),(.v 5)]),.ex (.cC .append (.v 3) [(.cv 2 [(.v 6)])]),.asg (.nm 4) (.mcl (W "Table") (W "memory_after") ima (.v 0) [(.v 6)])],.ret (.v 3)]⟩
theorem OO {st aB:aA}{a:Nat}(x:Ext st aB):Ext (del st a) (del aB a):=fun b o e=>by
 by_cases z:b=a
 ·rw[z]at e;unfold del at e;rw[if_pos rfl]at e;cases e
 ·rw[wD z]at e ⊢;exact x _ _ e
theorem TZ {st aB:aA}{a:Nat}{o:MO}(h:st a=some o)(x:Ext (del st a) aB):Ext st (put aB a o):=fun b o' e=>by
 by_cases z:b=a
 ·subst z;rw[h]at e;cases e;exact bA
 ·rw[bK z];exact x _ _ (by rw[wD z];exact e)
section
variable {G:Prog}{k i ima mG iph inh p l f:Nat}{st:aA}{Q:VK}{E:XK}{names:List (List Nat)}{aU R:List Sy}{aI:List (List Bool)}{cs:List D}{cl:Nat}
theorem U8 (h:G.fns i=some (D5 mG ima))(hma:G.fns ima=some FY)(hha:G.fns mG=some (zW iph inh))(hn:G.fns inh=some B8)(hpa:G.fns iph=some xQ)(T0:Table st p names aU R)(yR:aU.length<=5000)(hl:st l=some (.lst (aI.map jL)))(hp:∀ bs∈aI,bs.length=names.length)(cS:aI.length<=1000)(hc:st cl=some (.fn f cs))(F:Nat->D)
  (hf:∀(t q:Nat)(aB:aA)(K:VK)(E':XK),t<aI.length->Ext (del st cl) aB->aB q=some (.lst (R.map fun s=>.bl (hv names aI s t)))->(∀ aX,Ext aB aX->K (F t) aX)->aM G (k+2) f (cs++[.ref q]) aB K E')
  (hQ:∀ u aB,st u=none->Ext st aB->aB u=some (.lst ((List.range aI.length).map F))->Q (.ref u) aB):aM G (k+3) i [.ref p,.ref l,.ref cl] st Q E:=by
 have hL:bI=16777216:=rfl
 obtain⟨lp,lr,ld,lm,js,T,hlm,hjl,hjs,hpast⟩:=T0.h
 rw[bC h]
 simp only[D5,start]
 refine⟨rfl,?_⟩
 walk_at"st"
 refine cJ (by simp) fun u aC x1 hu hu1=>?_
 walk_at"ex"
 walk_at"st"
 rw[fX (T.keep x1).ins (x:=.tup (aU.map fun s=>.bl (fO s))) (by rw[jA (by decide +kernel) (by decide +kernel) (by decide +kernel) (by decide +kernel)];simp only[NL,dA];rw[if_pos True.intro])]
 walk_at"ex"
 have l1:=x1 _ _ hl
 walk_at"st"
 rw[aK l1]
 have lu:l≠u:=fun z=>by rw[<-z,hl]at hu;cases hu
 refine nE jL (I:=fun rest σ aB=>∃ t o5 o6,t<=aI.length/\rest=aI.drop t/\σ=[some (.ref p),some (.ref l),some (.ref cl),some (.ref u),some (.tup (aU.map fun s=>.bl (kA names aI t s))),o5,o6]/\Ext st aB/\aB u=some (.lst ((List.range t).map F))) (fun rest σ aB h=>?_) (fun x rest σ aB M h hM=>?_) (fun σ aB h=>?_) _ _ _ ⟨0,none,none,Nat.zero_le _,rfl,by simp [kA],x1,hu1⟩
 ·obtain⟨t,o5,o6,e0,e1,e2,x4,u4⟩:=h
  intro a ha
  simp only[List.mem_singleton]at ha
  subst ha
  rw[l1,x4 _ _ hl]
 ·obtain⟨t,o5,o6,e0,e1,e2,x4,u4⟩:=h
  subst e2
  have ht':t<aI.length:=by
   by_cases z:t<aI.length
   ·exact z
   ·rw[List.drop_eq_nil_of_le (by omega)]at e1;cases e1
  rw[List.drop_eq_getElem_cons ht']at e1
  injection e1 with e3 e4
  have hx:aI[t]? = some x:=by rw[List.getElem?_eq_getElem ht',e3]
  have hxl:x.length=names.length:=hp x (List.mem_of_getElem? hx)
  have T4:=T.keep x4
  walk_at"st"
  rw[sN T4.ins (by rw[jA (by decide +kernel) (by decide +kernel) (by decide +kernel) (by decide +kernel)];simp only[NL,dA];rw[if_neg (by decide +kernel),if_neg (by decide +kernel)])]
  refine⟨True.intro,?_⟩
  have em:(aU.map fun s=>D.bl (kA names aI t s))=(aU.map fun s=>kA names aI t s).map .bl:=by rw[List.map_map];rfl
  rw[em]
  refine SV (k:=k) hha hn hpa T4 (set:=x) (fun s=>hv names aI s t) (fun n hn'=>?_) (fun s oI hps=>⟨kA names aI t s,?_,VG hps t⟩) (fun s h1 h2=>YT h1 h2 t) fun fY q hq0 x5 hq=>?_
  ·have cN:names.idxOf n<x.length:=by rw[hxl];exact List.idxOf_lt_length_iff.mpr hn'
   simp only[hv,EB,hx,Option.getD_some]
   rw[List.getElem?_eq_getElem cN];rfl
  ·have cN:=List.idxOf_lt_length_iff.mpr oI
   rw[List.getElem?_map,List.getElem?_eq_getElem cN];simp
  walk_at"ex"
  have u5:=x5 _ _ u4
  walk_at"st"
  rw[aK u5]
  refine⟨True.intro,?_⟩
  rw[RJ (x5 _ _ (x4 _ _ hc)),RJ (x5 _ _ (x4 _ _ hc))]
  refine⟨True.intro,?_⟩
  have x45:=x4.trans x5
  have qc:q≠cl:=fun z=>by rw[z,x4 _ _ hc]at hq0;cases hq0
  refine hf t q _ _ _ ht' (OO x45) (by rw[wD qc];exact hq) fun st6' x6'=>?_
  have x6:=TZ (x45 _ _ hc) x6'
  generalize put st6' cl (.fn f cs)=nQ at x6
  walk_at"ex"
  have u6:=x6 _ _ u5
  rw[aK u6]
  refine⟨by simp only[List.length_map,List.length_range];omega,?_⟩
  have qu:q≠u:=fun z=>by rw[z,u4]at hq0;cases hq0
  generalize hst7:put nQ u (.lst ((List.range t).map F++[F t]))=qX
  have x7:Ext st qX:=fun a o e=>by
   have au:a≠u:=fun z=>by rw[z,hu]at e;cases e
   rw[<-hst7,bK au];exact x6 _ _ (x5 _ _ (x4 _ _ e))
  have u7:qX u=some (.lst ((List.range t).map F++[F t])):=by rw[<-hst7,bA]
  have q7:qX q=some (.lst (R.map fun s=>.bl (hv names aI s t))):=by rw[<-hst7,bK qu];exact x6 _ _ hq
  have T7:=T.keep x7
  walk_at"st"
  rw[sN T7.ins (by rw[jA (by decide +kernel) (by decide +kernel) (by decide +kernel) (by decide +kernel)];simp only[NL,dA];rw[if_neg (by decide +kernel),if_neg (by decide +kernel)])]
  refine⟨True.intro,?_⟩
  refine Z5 (k:=k+1) (aU:=aU) hma T7.ins (lm:=lm) (by rw[jA (by decide +kernel) (by decide +kernel) (by decide +kernel) (by decide +kernel)];simp only[NL,dA];rw[if_neg (by decide +kernel),if_pos True.intro]) (x7 _ _ hlm) q7 hjl yR hjs fun qW x8=>?_
  walk_at"ex"
  simp only[aE]
  refine hM _ qW ⟨t+1,some (jL x),some (.ref q),ht',e4,?_,x7.trans x8,?_⟩
  ·simp [kA]
  ·rw[x8 _ _ u7,List.range_succ,List.map_append];rfl
 ·obtain⟨t,o5,o6,e0,e1,e2,x4,u4⟩:=h
  subst e2
  have hj:aI.length<=t:=by
   by_cases z:t<aI.length
   ·rw[List.drop_eq_getElem_cons z]at e1;cases e1
   ·omega
  have et:t=aI.length:=by omega
  subst et
  walk_at"st"
  exact hQ u _ hu x4 u4
end
theorem VS {st aF:aA}{a:Nat}{o:MO}(ha:st a=none)(x:Ext (put st a o) aF):Ext st (del aF a):=fun b o' e=>by
 have ne:b≠a:=fun z=>by rw[z,ha]at e;cases e
 rw[wD ne];exact x _ _ (BR ha e)
theorem TX {st aF:aA}{a u:Nat}{o o':MO}(hu:put st a o u=none)(h:aF u=some o'):del aF a u=some o':=by
 have ne:u≠a:=fun z=>by rw[z,bA]at hu;cases hu
 rw[wD ne];exact h
end L3
end
section
namespace L3
open PySem
theorem LY {names:List (List Nat)}(s:Sy){t:Nat}:∀(rest pl:List (List Bool)),t<pl.length->hv names (pl++rest) s t=hv names pl s t
 |[],pl,_=>by rw[List.append_nil]
 |x::rest,pl,h=>by
  have e:pl++x::rest=(pl++[x])++rest:=by simp
  rw[e,LY s rest (pl++[x]) (by simp;omega),fU s t h]
theorem TL {names:List (List Nat)}(aI:List (List Bool))(s:Sy){t:Nat}(h:t<aI.length):hv names (aI.take (t+1)) s t=hv names aI s t:=by
 have e:=LY (names:=names) s (aI.drop (t+1)) (aI.take (t+1)) (t:=t) (by simp;omega)
 rw[List.take_append_drop]at e
 exact e.symm
end L3
end
section
namespace L3
open PySem
noncomputable def qH (ibk:Nat):Fn:=⟨1,1,[.iff (.not_ (.call ibk [(.v 0)])) [.rais 3 [(.c (.str (W "no book")))]] [],.ret (.v 0)]⟩
noncomputable def tP (ist:Nat):Fn:=⟨2,3,[.asg (.nm 2) (.bin .add (.bi .len [(.ix (.v 0) (.c (.int 0)))]) (.bi .len [(.ix (.v 0) (.c (.int 1)))])),.iff (.or_ (.not_ (.isi (.v 1) [.list])) (.not_ (.bi .all [(.comp 1 [2] [0] true none [(.v 1)] [] (.call ist [(.v 0),(.v 1)]))]))) [.rais 4 [(.c (.str (W "no play for this book")))]] [],.ret (.v 1)]⟩
noncomputable def EI (iy:Nat):Fn:=⟨2,2,[.iff (.not_ (.call iy [(.v 0),(.v 1)])) [.rais 2 [(.c (.str (W "no saying over these names")))]] [],.ret (.v 1)]⟩
noncomputable def BO (ich ics icp iti itd ihl:Nat)(κ:CK):Fn:=⟨3,6,[.ex (.call ich [(.v 0)]),.asg (.nm 3) (.bin .add (.ix (.v 0) (.c (.int 0))) (.ix (.v 0) (.c (.int 1)))),.ex (.call ics [(.v 3),(.v 1)]),.ex (.call icp [(.v 0),(.v 2)]),.iff (.not_ (.v 2)) [.rais 4 [(.c (.str (W "a play without a turn has no last one")))]] [],.asg (.nm 4) (.mk (W "Table") iti [(.v 3),(.lst [(.v 1)])]),.asg (.nm 5) (.dix (.fld (W "Table") (W "row_of") (.v 4)) (.v 1)),.ret (.ix (.callL itd [(.v 4),(.v 2)] ihl [5] κ) (.neg (.c (.int 1))))]⟩
noncomputable def B4:Fn:=⟨2,2,[.ret (.ix (.v 1) (.v 0))]⟩
section
variable {G:Prog}{k i ich ics icp ibk ist iy iti itd ihl iz ie irr iw ipo ima mG iph inh:Nat}{st:aA}{Q:VK}{E:XK}{b:Bk}{κ:CK}
theorem HF (h:G.fns ich=some (qH ibk))(hb:LN G ibk 13 b)(hQ:∀ aB,Ext st aB->Q b.d aB):aM G (k+14) ich [b.d] st Q E:=by
 rw[bC h]
 simp only[qH,start]
 refine⟨rfl,?_⟩
 walk_at"st"
 refine hb k _ _ _ fun aC x1=>?_
 walk_at"ex"
 simp only[aE]
 walk_at"st"
 exact hQ aC x1
theorem HG (h:G.fns icp=some (tP ist))(hs:G.fns ist=some pL)(B:b.Ok){l:Nat}{aI:List (List Bool)}(hl:st l=some (.lst (aI.map jL)))(hp:∀ bs∈aI,bs.length=b.names.length)(cS:aI.length<=1000)
  (hQ:∀ aB,Ext st aB->Q (.ref l) aB):aM G (k+2) icp [b.d,.ref l] st Q E:=by
 have hL:bI=16777216:=rfl
 have f2:=B.f2
 have g2:=B.g2
 have jZ:b.names.length=b.fs.length+b.gs.length:=by simp [Bk.names]
 rw[bC h]
 simp only[tP,start,Bk.d]
 refine⟨rfl,?_⟩
 walk_at"st"
 walk_at"st"
 rw[gQ hl]
 (try simp only[Bool.not_true,Bool.false_eq_true,if_false])
 walk_at"ex"
 rw[aK hl]
 have en:((b.fs.map D.str).length:Int)+((b.gs.map D.str).length:Int)=(b.names.length:Nat):=by rw[jZ];simp
 refine gI jL (fun _=>.bl true) aI [] st (fun aX y a ha=>?_) (fun t ht aX K y1 hK=>?_) (by simp only[List.length_nil];omega) fun aF y2=>?_
 ·simp only[List.mem_singleton]at ha
  subst ha
  rw[hl,y _ _ hl]
 ·rw[en]
  exact K9 hs (hp t ht) (by omega) fun bB y3=>hK bB y3
 rw[List.nil_append]
 refine cJ (by simp only[List.length_map];omega) fun pp bB y3 hpp rJ=>?_
 walk_at"ex"
 rw[aK rJ,iM,bQ]
 have e2:(aI.map fun _=>true).all id=true:=by simp
 rw[e2]
 simp only[Bool.not_true,Bool.false_eq_true,if_false,aE]
 walk_at"st"
 exact hQ bB (y2.trans y3)
theorem MD (h:G.fns i=some (BO ich ics icp iti itd ihl κ))(hcod:∃ P,st P=some (.cod κ))(hch:G.fns ich=some (qH ibk))(hb:LN G ibk 13 b)(hcs:G.fns ics=some (EI iy)){s:Sy}(hy:∀(k:Nat)(st:aA)(Q:VK)(E:XK),(∀ aB,Ext st aB->Q (.bl true) aB)->aM G (k+10) iy [.tup (b.names.map .str),toD s] st Q E)(hcp:G.fns icp=some (tP ist))(dZ:G.fns ist=some pL)
  (ht:G.fns iti=some (tW iz ie irr))(hz:G.fns iz=some (kY iw))(he:G.fns ie=some (vZ ie iw ipo))(hw:G.fns iw=some iA)(hpo:G.fns ipo=some rR)(hrr:G.fns irr=some GW)
  (hma:G.fns ima=some FY)(hha:G.fns mG=some (zW iph inh))(hn:G.fns inh=some B8)(hpa:G.fns iph=some xQ)(htd:G.fns itd=some (D5 mG ima))(hhl:G.fns ihl=some B4)
  (B:b.Ok)(ho:over b.names s)(hd8:aR s<=8)(jH:fD [s]<=5000)(yR:(cO [s] []).length<=5000){l:Nat}{aI:List (List Bool)}(hl:st l=some (.lst (aI.map jL)))(hp:∀ bs∈aI,bs.length=b.names.length)(cS:aI.length<=1000)(hp0:0<aI.length)
  (hQ:∀ aB,Ext st aB->Q (.bl (hv b.names aI s (aI.length-1))) aB):aM G (k+15) i [b.d,toD s,.ref l] st Q E:=by
 have hL:bI=16777216:=rfl
 have f2:=B.f2
 have g2:=B.g2
 have Q0:∀{Q:VK}{st:aA},lZ b.d (.int 0) st Q=Q (.tup (b.fs.map .str)) st:=rfl
 have Q1:∀{Q:VK}{st:aA},lZ b.d (.int 1) st Q=Q (.tup (b.gs.map .str)) st:=rfl
 have en:(b.fs.map D.str++b.gs.map D.str)=b.names.map .str:=by simp [Bk.names]
 rw[bC h]
 simp only[BO,start]
 refine⟨rfl,?_⟩
 walk_at"st"
 refine HF (k:=k) hch hb fun aC x1=>?_
 walk_at"st"
 rw[Q0,Q1]
 walk_at"ex"
 refine⟨by simp only[List.length_map];omega,?_⟩
 rw[en]
 walk_at"st"
 rw[bC hcs]
 simp only[EI,start]
 refine⟨rfl,?_⟩
 walk_at"st"
 refine hy (k+3) _ _ _ fun aF x2=>?_
 walk_at"ex"
 simp only[aE]
 walk_at"st"
 walk_at"st"
 refine HG (k:=k+12) hcp dZ B (x2 _ _ (x1 _ _ hl)) hp cS fun bB x3=>?_
 have l3:=x3 _ _ (x2 _ _ (x1 _ _ hl))
 walk_at"st"
 rw[IC,gQ l3]
 have hne:(aI.map jL).isEmpty=false:=by
  cases aI with
  |nil=>cases hp0
  |cons _ _=>rfl
 rw[hne]
 walk_at"ex"
 simp only[Bool.not_false,Bool.not_true,Bool.false_eq_true,if_false,aE]
 walk_at"st"
 refine cJ (by show 1<=bI;decide) fun sl dI x4 hsl sl4=>?_
 intro p hp4
 have psl:p≠sl:=fun z=>by rw[z,sl4]at hp4;cases hp4
 refine HC (k:=k+2) ht hz he hw hpo hrr bA (l:=sl) (ss:=[s]) (by rw[bK psl.symm];exact sl4) (fun x hx=>by simp only[List.mem_singleton]at hx;subst hx;exact⟨ho,hd8⟩) jH yR fun fY R k5 T5 hR=>⟨rfl,?_⟩
 have x5:Ext dI fY:=fun a o e=>k5 a o (by intro z;simp only[List.mem_singleton]at z;rw[z,hp4]at e;cases e) (BR hp4 e)
 walk_at"ex"
 obtain⟨ld,fs,i1,i2,i3,i4⟩:=T5.row
 have hsR:s∈R:=hR s (by simp)
 walk_at"st"
 rw[fX i1 i2]
 walk_at"ex"
 rw[zS i3 (nD (i4 s hsR).1) (i4 s hsR).2]
 walk_at"ex"
 walk_at"st"
 have l5:=x5 _ _ (x4 _ _ l3)
 refine⟨hcod.imp fun P e=>x5 _ _ (x4 _ _ (x3 _ _ (x2 _ _ (x1 _ _ e)))),?_⟩
 intro ca hca
 have xn:=Ext.new (o:=.fn ihl [.int (R.idxOf s:Nat)]) hca
 refine U8 (k:=k+11) htd hma hha hn hpa (T5.keep xn) yR (xn _ _ l5) hp cS bA (fun t=>D.bl (hv b.names aI s t)) (fun t q aB K E' ht' x6 hq hK=>?_) fun u st6' hu x6' hu6'=>?_
 ·rw[bC hhl]
  simp only[B4,start]
  refine⟨rfl,?_⟩
  simp only[List.cons_append,List.nil_append,List.map_cons,List.map_nil]
  walk_at"st"
  rw[Af (fun _ _=>trivial) hsR hq]
  exact hK aB .refl
 ·have hu6:=TX hu hu6'
  have x6:=VS hca x6'
  generalize del st6' ca=nQ at hu6 x6
  walk_at"ex"
  rw[gM hu6]
  have ea:eJ ((List.range aI.length).map fun t=>D.bl (hv b.names aI s t)) (-1)=some (.bl (hv b.names aI s (aI.length-1))):=by
   unfold eJ lG
   rw[List.length_map,List.length_range,if_neg (by decide),if_pos (by omega)]
   simp only[Option.bind_some]
   rw[show((-1:Int)+(aI.length:Int)).toNat=aI.length-1 by omega,List.getElem?_map,List.getElem?_range (by omega)]
   rfl
  rw[ea,bQ]
  exact hQ nQ (x1.trans (x2.trans (x3.trans (x4.trans (x5.trans x6)))))
end
end L3
end
section
namespace L3
open PySem
noncomputable def NR (inm is ipl iho ih:Nat):Fn:=⟨1,10,[.asg (.nm 1) (.lst [(.c (.int 4))]),.asg (.tp [2,3]) (.call inm [(.v 0),(.v 1)]),.asg (.nm 4) (.bin .add (.v 2) (.v 3)),.asg (.nm 5) (.call is [(.v 0),(.v 1),(.v 4),(.c (.int 3)),(.lst [(.c (.int 4))])]),.asg (.nm 6) (.bin .add (.call ipl [(.v 0),(.c (.int 0)),(.bi .len [(.v 4)]),(.c (.int 5))]) (.call ipl [(.v 0),(.c (.int 2)),(.bi .len [(.v 4)]),(.c (.int 1))])),.asg (.nm 7) (.tup [(.v 2),(.v 3),(.tup []),(.tup []),(.tup [(.tup [(.c (.int 1)),(.tup [(.c (.str (W "yes")))])])])]),.iD (.nm 8) (some .range) [(.bi .len [(.v 6)])] [.asg (.nm 9) (.call iho [(.v 7),(.v 5),(.sl (.v 6) [] [(.bin .add (.v 8) (.c (.int 1)))])]),.iff (.or_ (.not_ (.isi (.v 9) [.bool])) (.cmp .ne (.v 9) (.call ih [(.v 4),(.v 5),(.v 6),(.v 8)]))) [.ret (.c (.bl false))] []],.ret (.c (.bl true))]⟩
noncomputable def jK (fs gs:List (List Nat)):Bk:=⟨fs,gs,[],[],[(1,.yes)]⟩
theorem SW {fs gs:List (List Nat)}(h:oQ fs gs=true):(jK fs gs).Ok:=by
 obtain⟨f1,f2,g1,g2,nd,n8⟩:=FD h
 refine⟨f1,f2,g1,g2,nd,fun n hn=>BA n (n8 n hn),Nat.zero_le _,?_,?_,Nat.zero_le _,?_,Nat.le_refl _,by show 1<=5;decide,?_⟩
 ·intro s hs;cases hs
 ·intro s hs;cases hs
 ·intro s hs;cases hs
 ·intro w hw
  simp only[jK,List.mem_singleton]at hw
  subst hw
  exact⟨by decide,by decide,True.intro,by decide⟩
theorem VY (fs gs:List (List Nat)):(jK fs gs).d=.tup [.tup (fs.map .str),.tup (gs.map .str),.tup [],.tup [],.tup [.tup [.int 1,.tup [.str (W "yes")]]]]:=rfl
theorem U5 (s:Sy):(cO [s] []).length<=cnt s:=by
 have:=E5 [s] []
 have e:lU [s]=cnt s:=by simp [lU]
 simp at this;omega
section
variable {G:Prog}{k il inm is ipl iho ih ic im iJ ich ics icp ibk ist iy dP fG iti itd ihl iz ie irr iw ipo ima mG iph inh:Nat}{st:aA}{E:XK}{ns:List Int}
theorem Dm {κ:CK}(hcod:∃ P,st P=some (.cod κ))(h:G.fns il=some (NR inm is ipl iho ih))(jZ:G.fns inm=some (G3 iJ))(hs:G.fns is=some (wQ iJ is))(hn:G.fns iJ=some (AO im))(hm:G.fns im=some (pV ic))(hc:G.fns ic=some qF)(cS:G.fns ipl=some (KO im))
  (hho:G.fns iho=some (BO ich ics icp iti itd ihl κ))(hch:G.fns ich=some (qH ibk))(hb:∀ b:Bk,b.Ok->fD b.says<bI->(∀ x∈b.says,aR x<=60)->(cO b.says []).length<=4->LN G ibk 13 b)(hcs:G.fns ics=some (EI iy))(hy:G.fns iy=some (nL dP (.int 8)))(hsw:G.fns dP=some (kM fG dP (.cM uG wJ)))(hsn:G.fns fG=some (gJ (.tup (eG.map .str)) (.str dS) (.int 8)))(hcp:G.fns icp=some (tP ist))(dZ:G.fns ist=some pL)
  (ht:G.fns iti=some (tW iz ie irr))(hz:G.fns iz=some (kY iw))(he:G.fns ie=some (vZ ie iw ipo))(hw:G.fns iw=some iA)(hpo:G.fns ipo=some rR)(hrr:G.fns irr=some GW)
  (hma:G.fns ima=some FY)(hha:G.fns mG=some (zW iph inh))(hnh:G.fns inh=some B8)(hpa:G.fns iph=some xQ)(htd:G.fns itd=some (D5 mG ima))(hhl:G.fns ihl=some B4)(hh:G.fns ih=some (E4 ih)):aM G (k+16) il [.bF (ns.map .int)] st (fun d _=>d=.bl true) E:=by
 have hL:bI=16777216:=rfl
 rw[bC h]
 simp only[NR,start]
 refine⟨rfl,?_⟩
 walk_at"st"
 refine cJ (by show 1<=bI;decide) fun m aC x1 hm0 m1=>?_
 walk_at"st"
 refine Q9 (k:=k+11) jZ hn hm hc m1 (by decide) fun fs gs aF i2 bH k2 hi2 m2=>?_
 obtain⟨f1,f2,g1,g2,nd,n8⟩:=FD bH
 have B:=SW bH
 have en:(fs.map D.str++gs.map D.str)=(jK fs gs).names.map .str:=by simp [Bk.names,jK]
 have hn4:(jK fs gs).names.length<=4:=by simp [Bk.names,jK];omega
 walk_at"ex"
 walk_at"st"
 refine⟨by simp only[List.length_map];omega,?_⟩
 rw[en]
 walk_at"st"
 refine cJ (by show 1<=bI;decide) fun lf bB x3 hlf lf3=>?_
 have mlf:m≠lf:=fun z=>by rw[<-z,m2]at hlf;cases hlf
 refine NI (k:=k+8) hs hn hm hc (names:=(jK fs gs).names) (by simp [Bk.names,jK];omega) mlf 3 (x3 _ _ m2) lf3 hi2 (by decide) fun s dI i4 ho hd4 hcn k4 hi4 m4 lf4=>?_
 have hB:=hb (jK fs gs) B (by show fD [Sy.yes]<bI;decide) (fun x hx=>by simp [Bk.says,jK]at hx;subst hx;decide) (by show(cO [Sy.yes] []).length<=4;decide)
 have jH:fD [s]<=5000:=by have:=NQ (n:=0) [s] (fun x hx=>by simp only[List.mem_singleton]at hx;subst hx;omega);simp at this;omega
 have yR:(cO [s] []).length<=5000:=by have:=U5 s;omega
 have HO:∀{st:aA}{Q:VK}{E:XK}{l:Nat}{aI:List (List Bool)},(∃ P,st P=some (.cod κ))->st l=some (.lst (aI.map jL))->(∀ bs∈aI,bs.length=(jK fs gs).names.length)->aI.length<=1000->0<aI.length->(∀ aB,Ext st aB->Q (.bl (hv (jK fs gs).names aI s (aI.length-1))) aB)->aM G (k+15) iho [(jK fs gs).d,toD s,.ref l] st Q E:=fun h0 h1 h2 h3 h4 hQ =>
  MD (k:=k) hho h0 hch hB hcs (fun k st Q E hq=>uU hy hsw hsn (fun n hn=>BA n (n8 n hn)) ho (by omega) hq) hcp dZ ht hz he hw hpo hrr hma hha hnh hpa htd hhl B ho (by omega) jH yR h1 h2 h3 h4 hQ
 have hcod4:∃ P,dI P=some (.cod κ):=hcod.imp fun P e=>by
  have nm:P≠m:=fun z=>by rw[z,hm0]at e;cases e
  have e2:=k2 _ _ (by simpa using nm) (x1 _ _ e)
  have nl:P≠lf:=fun z=>by rw[z,hlf]at e2;cases e2
  exact k4 _ _ (by simp [nm,nl]) (x3 _ _ e2)
 walk_at"ex"
 walk_at"st"
 rw[List.length_map]
 refine IF (k:=k+12) cS hm hc (by decide) hn4 (by decide) (by decide) fun p1 fY pl1 x5 hp5 hb1 hl1=>?_
 walk_at"ex"
 refine IF (k:=k+12) cS hm hc (by decide) hn4 (by decide) (by decide) fun p2 nQ pl2 x6 hp6 hb2 hl2=>?_
 rw[JM,aK (x6 _ _ hp5),aK hp6,<-List.map_append]
 refine cJ (by simp only[List.length_map,List.length_append];omega) fun l qX x7 hl hl7=>?_
 have hpb:∀ bs∈pl1++pl2,bs.length=(jK fs gs).names.length:=fun bs hbs=>by
  rcases List.mem_append.mp hbs with z|z
  ·exact hb1 bs z
  ·exact hb2 bs z
 have hpn:(pl1++pl2).length<=100:=by simp only[List.length_append];omega
 generalize pl1++pl2=aI at hl7 hpb hpn
 walk_at"ex"
 walk_at"st"
 rw[<-VY]
 generalize hnn:(jK fs gs).names=names at *
 generalize (jK fs gs).d=bd at HO ⊢
 walk_at"st"
 rw[gQ hl7]
 walk_at"ex"
 simp only[List.length_map]
 refine⟨by unfold dX;omega,?_⟩
 rw[show((aI.length:Int)).toNat=aI.length by omega,nB]
 refine nE (fun j:Nat=>D.int (j:Nat)) (I:=fun rest σ aB=>∃ t o8 o9,rest=List.range' t (aI.length-t)/\t<=aI.length/\σ=[some (.bF (ns.map .int)),some (.ref m),some (.tup (fs.map .str)),some (.tup (gs.map .str)),some (.tup (names.map .str)),some (toD s),some (.ref l),some bd,o8,o9]/\Ext qX aB) (fun rest σ aB h=>fun a ha=>by cases ha) (fun t rest σ aB M h hM=>?_) (fun σ aB h=>?_) _ _ _ ⟨0,none,none,by rw[List.range_eq_range'];rfl,Nat.zero_le _,rfl,.refl⟩
 ·obtain⟨t',o8,o9,e1,e2,e3,x8⟩:=h
  subst e3
  have htl:t'<aI.length:=by
   refine Nat.lt_of_not_le fun z=>?_
   rw[show aI.length-t'=0 by omega]at e1;cases e1
  rw[show aI.length-t'=(aI.length-(t'+1))+1 by omega,List.range'_succ]at e1
  injection e1 with e1 e1'
  subst e1
  have l8:=x8 _ _ hl7
  have epre:cut (aI.map jL) none (some ((t:Int)+1))=(aI.take (t+1)).map jL:=by rw[show(t:Int)+1=((t+1:Nat):Int)by omega,PX _ (by simp;omega),List.map_take]
  have pfx:(aI.take (t+1)).length=t+1:=by simp;omega
  walk_at"st"
  rw[aK l8]
  intro p3 hp3
  rw[epre]
  refine HO (hcod4.imp fun P e=>Ext.new hp3 _ _ (x8 _ _ (x7 _ _ (x6 _ _ (x5 _ _ e))))) bA (fun bs hbs=>hpb bs (List.mem_of_mem_take hbs)) (by rw[pfx];omega) (by rw[pfx];omega) fun Fq x9=>?_
  rw[pfx,show t+1-1=t by omega,TL aI s htl]
  walk_at"ex"
  have l9:=x9 _ _ (Ext.new hp3 _ _ l8)
  walk_at"st"
  refine OR hh hpb (by omega) 4 (k:=k+11) hd4 ho htl l9 fun RB x10=>?_
  walk_at"ex"
  have eb:∀ c:Bool,(c==c)=true:=fun c=>by cases c<;>rfl
  rw[eb]
  simp only[Bool.not_true,Bool.false_eq_true,if_false,aE]
  exact hM _ _ ⟨t+1,_,_,e1',by omega,rfl,x8.trans ((Ext.new hp3).trans (x9.trans x10))⟩
 ·obtain⟨t',o8,o9,e1,e2,e3,x8⟩:=h
  subst e3
  walk_at"st"
end
end L3
end
end
namespace L3
open PySem PySem.Spec PyProof.Rows L2
noncomputable def g_LETTERS:D:=(.str (W "abcdefghijklmnopqrstuvwxyz"))
noncomputable def g_LONGEST_NAME:D:=(.int 8)
noncomputable def g_NO_NAMES:D:=(.tup [(.str (W "yes")),(.str (W "no")),(.str (W "not")),(.str (W "and")),(.str (W "or")),(.str (W "then")),(.str (W "same")),(.str (W "before")),(.str (W "once")),(.str (W "sofar")),(.str (W "since")),(.str (W "foe")),(.str (W "friend")),(.str (W "promise")),(.str (W "must")),(.str (W "wish"))])
noncomputable def g_DEEPEST:D:=(.int 8)
noncomputable def g_SAYINGS_WITHIN:D:=(.cM [(.str (W "yes")),(.str (W "no")),(.str (W "not")),(.str (W "before")),(.str (W "once")),(.str (W "sofar")),(.str (W "and")),(.str (W "or")),(.str (W "then")),(.str (W "same")),(.str (W "since"))] [(.int 0),(.int 0),(.int 1),(.int 1),(.int 1),(.int 1),(.int 2),(.int 2),(.int 2),(.int 2),(.int 2)])
noncomputable def g_PAST_WORDS:D:=(.tup [(.str (W "before")),(.str (W "once")),(.str (W "sofar")),(.str (W "since"))])
noncomputable def g_MOST_LAMPS:D:=(.int 2)
noncomputable def g_MOST_PROMISES:D:=(.int 3)
noncomputable def g_MOST_MUSTS:D:=(.int 3)
noncomputable def g_MOST_WISHES:D:=(.int 5)
noncomputable def g_HIGHEST_PRICE:D:=(.int 99)
noncomputable def g_MOST_PIECES:D:=(.int 4)
noncomputable abbrev qB:Nat:=0
noncomputable abbrev kI:Nat:=1
noncomputable abbrev gO:Nat:=2
noncomputable abbrev pO:Nat:=3
noncomputable abbrev eT:Nat:=4
noncomputable abbrev mW:Nat:=5
noncomputable abbrev kR:Nat:=6
noncomputable abbrev xX:Nat:=7
noncomputable abbrev nU:Nat:=8
noncomputable abbrev nV:Nat:=9
noncomputable abbrev rK:Nat:=10
noncomputable abbrev zP:Nat:=11
noncomputable abbrev DB:Nat:=12
noncomputable abbrev uV:Nat:=13
noncomputable abbrev uN:Nat:=14
noncomputable abbrev vP:Nat:=15
noncomputable abbrev C3:Nat:=16
noncomputable abbrev yC:Nat:=17
noncomputable abbrev wL:Nat:=18
noncomputable abbrev pW:Nat:=19
noncomputable abbrev nR:Nat:=20
noncomputable abbrev pK:Nat:=21
noncomputable abbrev kE:Nat:=22
noncomputable abbrev qP:Nat:=23
noncomputable abbrev lQ:Nat:=24
noncomputable abbrev uQ:Nat:=25
noncomputable abbrev rY:Nat:=26
noncomputable abbrev sO:Nat:=27
noncomputable abbrev H0:Nat:=28
noncomputable abbrev sF:Nat:=29
noncomputable abbrev lX:Nat:=30
noncomputable abbrev gY:Nat:=31
noncomputable abbrev gG:Nat:=32
noncomputable abbrev vW:Nat:=33
noncomputable abbrev rC:Nat:=34
noncomputable abbrev eD:Nat:=35
noncomputable abbrev RD:Nat:=36
noncomputable abbrev qJ:Nat:=37
noncomputable def jD:CK:=⟨254,187,37,W "holds.<locals>.<lambda>"⟩
noncomputable def DG:Fn:=⟨1,1,[.iff (.or_ (.not_ (.isi (.v 0) [.str])) (.cmp .in_ (.v 0) (.c g_NO_NAMES))) [.ret (.c (.bl false))] [],.ret (.and_ (.chain .le .le (.c (.int 1)) (.bi .len [(.v 0)]) (.c g_LONGEST_NAME)) (.bi .all [(.comp 1 [] [0] true none [(.v 0)] [] (.cmp .in_ (.v 0) (.c g_LETTERS)))]))]⟩
noncomputable def yD:Fn:=⟨2,2,[.ret (.call gO [(.v 0),(.v 1),(.c g_DEEPEST)])]⟩
noncomputable def nF:Fn:=⟨3,3,[.iff (.or_ (.cmp .lt (.v 2) (.c (.int 1))) (.or_ (.not_ (.isi (.v 1) [.tuple])) (.or_ (.cmp .lt (.bi .len [(.v 1)]) (.c (.int 1))) (.not_ (.isi (.ix (.v 1) (.c (.int 0))) [.str]))))) [.ret (.c (.bl false))] [],.iff (.cmp .eq (.ix (.v 1) (.c (.int 0))) (.c (.str (W "lamp")))) [.ret (.and_ (.cmp .eq (.bi .len [(.v 1)]) (.c (.int 2))) (.and_ (.call qB [(.ix (.v 1) (.c (.int 1)))]) (.cmp .in_ (.ix (.v 1) (.c (.int 1))) (.v 0))))] [],.iff (.or_ (.cmp .iU (.ix (.v 1) (.c (.int 0))) (.c g_SAYINGS_WITHIN)) (.cmp .ne (.bi .len [(.v 1)]) (.bin .add (.c (.int 1)) (.ix (.c g_SAYINGS_WITHIN) (.ix (.v 1) (.c (.int 0))))))) [.ret (.c (.bl false))] [],.ret (.bi .all [(.comp 1 [0,2] [0] true none [(.sl (.v 1) [(.c (.int 1))] [])] [] (.call gO [(.v 1),(.v 0),(.bin .sub (.v 2) (.c (.int 1)))]))])]⟩
noncomputable def oW:Fn:=⟨2,2,[.iff (.not_ (.call kI [(.v 0),(.v 1)])) [.rais 2 [(.c (.str (W "no saying over these names")))]] [],.ret (.v 1)]⟩
noncomputable def oU:Fn:=⟨1,1,[.iff (.cmp .eq (.ix (.v 0) (.c (.int 0))) (.c (.str (W "lamp")))) [.ret (.tup [])] [],.ret (.sl (.v 0) [(.c (.int 1))] [])]⟩
noncomputable def yK:Fn:=⟨1,4,[.asg (.nm 1) (.lst []),.asg (.nm 2) (.bit .list .rev [(.v 0)]),.whl (.v 2) [.asg (.nm 3) (.cC .pop (.v 2) []),.iff (.and_ (.cmp .in_ (.ix (.v 3) (.c (.int 0))) (.c g_PAST_WORDS)) (.cmp .iU (.v 3) (.v 1))) [.ex (.cC .append (.v 1) [(.v 3)])] [],.ex (.cC .extend (.v 2) [(.bit .list .rev [(.call eT [(.v 3)])])])],.ret (.v 1)]⟩
noncomputable def FZ:Fn:=⟨3,3,[.ret (.and_ (.isi (.v 0) [.tuple]) (.chain .le .le (.v 1) (.bi .len [(.v 0)]) (.v 2)))]⟩
noncomputable def yI:Fn:=⟨2,3,[.iff (.or_ (.not_ (.call kR [(.v 0),(.c (.int 1)),(.c g_MOST_LAMPS)])) (.not_ (.call kR [(.v 1),(.c (.int 1)),(.c g_MOST_LAMPS)]))) [.ret (.c (.bl false))] [],.asg (.nm 2) (.bin .add (.v 0) (.v 1)),.ret (.and_ (.bi .all [(.comp 1 [] [0] true none [(.v 2)] [] (.call qB [(.v 0)]))]) (.cmp .eq (.bi .pZ [(.v 2)]) (.bi .len [(.v 2)])))]⟩
noncomputable def uE:Fn:=⟨3,3,[.ret (.and_ (.call kR [(.v 1),(.c (.int 0)),(.v 2)]) (.bi .all [(.comp 1 [0] [0] true none [(.v 1)] [] (.call kI [(.v 1),(.v 0)]))]))]⟩
noncomputable def uD:Fn:=⟨2,2,[.iff (.cmp .eq (.ix (.v 1) (.c (.int 0))) (.c (.str (W "before")))) [.ret (.c (.bl false))] [],.iff (.cmp .eq (.ix (.v 1) (.c (.int 0))) (.c (.str (W "lamp")))) [.ret (.cmp .in_ (.ix (.v 1) (.c (.int 1))) (.v 0))] [],.ret (.bi .any [(.comp 1 [0] [0] true none [(.call eT [(.v 1)])] [] (.call nV [(.v 1),(.v 0)]))])]⟩
noncomputable def rQ:Fn:=⟨3,3,[.ret (.and_ (.call nU [(.v 0),(.v 2),(.c g_MOST_PROMISES)]) (.not_ (.bi .any [(.comp 1 [1] [0] true none [(.v 2)] [] (.call nV [(.v 1),(.v 0)]))])))]⟩
noncomputable def A9:Fn:=⟨1,1,[.ret (.and_ (.isi (.v 0) [.int]) (.and_ (.not_ (.isi (.v 0) [.bool])) (.chain .le .le (.c (.int 1)) (.v 0) (.c g_HIGHEST_PRICE))))]⟩
noncomputable def C8:Fn:=⟨2,2,[.ret (.and_ (.call kR [(.v 1),(.c (.int 2)),(.c (.int 2))]) (.and_ (.call zP [(.ix (.v 1) (.c (.int 0)))]) (.call kI [(.v 0),(.ix (.v 1) (.c (.int 1)))])))]⟩
noncomputable def uS:Fn:=⟨2,2,[.ret (.and_ (.call kR [(.v 1),(.c (.int 1)),(.c g_MOST_WISHES)]) (.bi .all [(.comp 1 [0] [0] true none [(.v 1)] [] (.call DB [(.v 1),(.v 0)]))]))]⟩
noncomputable def uT:Fn:=⟨3,3,[.ret (.bin .add (.bin .add (.bi .list [(.v 0)]) (.bi .list [(.v 1)])) (.comp 1 [] [0] true none [(.v 2)] [] (.ix (.v 0) (.c (.int 1)))))]⟩
noncomputable def CM:Fn:=⟨1,6,[.iff (.or_ (.not_ (.call kR [(.v 0),(.c (.int 5)),(.c (.int 5))])) (.not_ (.call xX [(.ix (.v 0) (.c (.int 0))),(.ix (.v 0) (.c (.int 1)))]))) [.ret (.c (.bl false))] [],.asg (.nm 1) (.ix (.v 0) (.c (.int 1))),.asg (.nm 2) (.bin .add (.ix (.v 0) (.c (.int 0))) (.v 1)),.asg (.nm 3) (.ix (.v 0) (.c (.int 2))),.asg (.nm 4) (.ix (.v 0) (.c (.int 3))),.asg (.nm 5) (.ix (.v 0) (.c (.int 4))),.iff (.or_ (.not_ (.call rK [(.v 2),(.v 1),(.v 3)])) (.not_ (.call nU [(.v 2),(.v 4),(.c g_MOST_MUSTS)]))) [.ret (.c (.bl false))] [],.ret (.and_ (.call uV [(.v 2),(.v 5)]) (.cmp .le (.bi .len [(.call mW [(.call uN [(.v 3),(.v 4),(.v 5)])])]) (.c g_MOST_PIECES)))]⟩
noncomputable def DP:Fn:=⟨1,1,[.iff (.not_ (.call vP [(.v 0)])) [.rais 3 [(.c (.str (W "no book")))]] [],.ret (.v 0)]⟩
noncomputable def yM:Fn:=⟨2,2,[.iff (.cmp .eq (.v 0) (.c (.str (W "not")))) [.ret (.not_ (.ix (.v 1) (.c (.int 0))))] [],.iff (.cmp .eq (.v 0) (.c (.str (W "and")))) [.ret (.and_ (.ix (.v 1) (.c (.int 0))) (.ix (.v 1) (.c (.int 1))))] [],.iff (.cmp .eq (.v 0) (.c (.str (W "or")))) [.ret (.or_ (.ix (.v 1) (.c (.int 0))) (.ix (.v 1) (.c (.int 1))))] [],.iff (.cmp .eq (.v 0) (.c (.str (W "then")))) [.ret (.or_ (.ix (.v 1) (.c (.int 1))) (.not_ (.ix (.v 1) (.c (.int 0)))))] [],.iff (.cmp .eq (.v 0) (.c (.str (W "same")))) [.ret (.cmp .eq (.ix (.v 1) (.c (.int 0))) (.ix (.v 1) (.c (.int 1))))] [],.ret (.cmp .eq (.v 0) (.c (.str (W "yes"))))]⟩
noncomputable def vR:Fn:=⟨3,3,[.iff (.cmp .eq (.v 0) (.c (.str (W "before")))) [.ret (.v 1)] [],.iff (.cmp .eq (.v 0) (.c (.str (W "once")))) [.ret (.or_ (.v 1) (.ix (.v 2) (.c (.int 0))))] [],.iff (.cmp .eq (.v 0) (.c (.str (W "sofar")))) [.ret (.and_ (.v 1) (.ix (.v 2) (.c (.int 0))))] [],.ret (.or_ (.ix (.v 2) (.c (.int 1))) (.and_ (.v 1) (.ix (.v 2) (.c (.int 0)))))]⟩
noncomputable def pG:Fn:=⟨3,4,[.asg (.fl (W "Table") (W "names") (.v 0)) (.v 1),.asg (.fl (W "Table") (W "pieces") (.v 0)) (.call mW [(.v 2)]),.asg (.fl (W "Table") (W "rows") (.v 0)) (.lst []),.asg (.fl (W "Table") (W "row_of") (.v 0)) .dnew,.iD (.nm 3) none [(.v 2)] [.ex (.mcl (W "Table") (W "enter") nR (.v 0) [(.v 3)])],.asg (.fl (W "Table") (W "first_memory") (.v 0)) (.bi .tuple [(.comp 1 [] [0] true none [(.fld (W "Table") (W "pieces") (.v 0))] [] (.cmp .eq (.ix (.v 0) (.c (.int 0))) (.c (.str (W "sofar")))))]),.asg (.fl (W "Table") (W "remembered_rows") (.v 0)) (.comp 1 [0] [0] true none [(.fld (W "Table") (W "pieces") (.v 0))] [] (.mcl (W "Table") (W "remembered_row") kE (.v 1) [(.v 0)]))]⟩
noncomputable def uJ:Fn:=⟨2,4,[.iff (.din false (.v 1) (.fld (W "Table") (W "row_of") (.v 0))) [.ret (.c .non)] [],.iD (.nm 2) none [(.call eT [(.v 1)])] [.ex (.mcl (W "Table") (W "enter") nR (.v 0) [(.v 2)])],.asg (.nm 3) (.comp 1 [0] [0] true none [(.call eT [(.v 1)])] [] (.dix (.fld (W "Table") (W "row_of") (.v 1)) (.v 0))),.asg (.dk (.fld (W "Table") (W "row_of") (.v 0)) (.v 1)) (.bi .len [(.fld (W "Table") (W "rows") (.v 0))]),.ex (.cC .append (.fld (W "Table") (W "rows") (.v 0)) [(.tup [(.ix (.v 1) (.c (.int 0))),(.mcl (W "Table") (W "place_of") pK (.v 0) [(.v 1)]),(.v 3)])])]⟩
noncomputable def oT:Fn:=⟨2,2,[.iff (.cmp .eq (.ix (.v 1) (.c (.int 0))) (.c (.str (W "lamp")))) [.ret (.cC .index (.fld (W "Table") (W "names") (.v 0)) [(.ix (.v 1) (.c (.int 1)))])] [],.iff (.cmp .in_ (.ix (.v 1) (.c (.int 0))) (.c g_PAST_WORDS)) [.ret (.cC .index (.fld (W "Table") (W "pieces") (.v 0)) [(.v 1)])] [],.ret (.c .non)]⟩
noncomputable def kF:Fn:=⟨2,2,[.iff (.cmp .eq (.ix (.v 1) (.c (.int 0))) (.c (.str (W "before")))) [.ret (.dix (.fld (W "Table") (W "row_of") (.v 0)) (.ix (.v 1) (.c (.int 1))))] [],.ret (.dix (.fld (W "Table") (W "row_of") (.v 0)) (.v 1))]⟩
noncomputable def qE:Fn:=⟨3,8,[.asg (.nm 3) (.lst []),.iD (.tp [4,5,6]) none [(.fld (W "Table") (W "rows") (.v 0))] [.asg (.nm 7) (.comp 1 [3] [0] true none [(.v 6)] [] (.ix (.v 1) (.v 0))),.iff (.cmp .eq (.v 4) (.c (.str (W "lamp")))) [.ex (.cC .append (.v 3) [(.ix (.v 2) (.v 5))])] [.iff (.cmp .in_ (.v 4) (.c g_PAST_WORDS)) [.ex (.cC .append (.v 3) [(.call wL [(.v 4),(.ix (.v 1) (.v 5)),(.v 7)])])] [.ex (.cC .append (.v 3) [(.call yC [(.v 4),(.v 7)])])]]],.ret (.v 3)]⟩
noncomputable def lJ:Fn:=⟨2,2,[.ret (.bi .tuple [(.comp 1 [1] [0] true none [(.fld (W "Table") (W "remembered_rows") (.v 0))] [] (.ix (.v 1) (.v 0)))])]⟩
noncomputable def vN:Fn:=⟨2,2,[.ret (.and_ (.isi (.v 0) [.tuple]) (.and_ (.cmp .eq (.bi .len [(.v 0)]) (.v 1)) (.bi .all [(.comp 1 [] [0] true none [(.v 0)] [] (.isi (.v 0) [.bool]))])))]⟩
noncomputable def rZ:Fn:=⟨2,3,[.asg (.nm 2) (.bin .add (.bi .len [(.ix (.v 0) (.c (.int 0)))]) (.bi .len [(.ix (.v 0) (.c (.int 1)))])),.iff (.or_ (.not_ (.isi (.v 1) [.list])) (.not_ (.bi .all [(.comp 1 [2] [0] true none [(.v 1)] [] (.call uQ [(.v 0),(.v 1)]))]))) [.rais 4 [(.c (.str (W "no play for this book")))]] [],.ret (.v 1)]⟩
noncomputable def sH:Fn:=⟨3,7,[.asg (.nm 3) (.lst []),.asg (.nm 4) (.fld (W "Table") (W "first_memory") (.v 0)),.iD (.nm 5) none [(.v 1)] [.asg (.nm 6) (.mcl (W "Table") (W "held_at") qP (.v 0) [(.v 4),(.v 5)]),.ex (.cC .append (.v 3) [(.cv 2 [(.v 6)])]),.asg (.nm 4) (.mcl (W "Table") (W "memory_after") lQ (.v 0) [(.v 6)])],.ret (.v 3)]⟩
noncomputable def JD:Fn:=⟨3,6,[.ex (.call C3 [(.v 0)]),.asg (.nm 3) (.bin .add (.ix (.v 0) (.c (.int 0))) (.ix (.v 0) (.c (.int 1)))),.ex (.call pO [(.v 3),(.v 1)]),.ex (.call rY [(.v 0),(.v 2)]),.iff (.not_ (.v 2)) [.rais 4 [(.c (.str (W "a play without a turn has no last one")))]] [],.asg (.nm 4) (.mk (W "Table") pW [(.v 3),(.lst [(.v 1)])]),.asg (.nm 5) (.dix (.fld (W "Table") (W "row_of") (.v 4)) (.v 1)),.ret (.ix (.callL sO [(.v 4),(.v 2)] qJ [5] jD) (.neg (.c (.int 1))))]⟩
noncomputable def sL:Fn:=⟨2,2,[.iff (.cmp .lt (.v 1) (.bi .len [(.v 0)])) [.ret (.ix (.v 0) (.v 1))] [],.iff (.cmp .eq (.v 0) (.lst [])) [.ret (.c (.int 0))] [],.ret (.bin .add (.bin .mul (.ix (.v 0) (.bin .mod (.v 1) (.bi .len [(.v 0)]))) (.c (.int 31))) (.v 1))]⟩
noncomputable def wB:Fn:=⟨3,4,[.asg (.nm 3) (.bin .mod (.bin .mul (.bin .add (.bin .add (.call sF [(.v 0),(.v 1)]) (.bin .mul (.c (.int 7919)) (.v 1))) (.c (.int 1))) (.c (.int 48271))) (.c (.int 2147483647))),.ret (.bin .mod (.bin .mod (.bin .add (.bin .add (.bin .mul (.v 3) (.v 3)) (.bin .mul (.c (.int 7)) (.v 3))) (.v 1)) (.c (.int 2147483629))) (.v 2))]⟩
noncomputable def yQ:Fn:=⟨3,3,[.asg (.ix (.v 1) (.c (.int 0))) (.bin .add (.ix (.v 1) (.c (.int 0))) (.c (.int 1))),.ret (.call lX [(.v 0),(.ix (.v 1) (.c (.int 0))),(.v 2)])]⟩
noncomputable def uK:Fn:=⟨5,7,[.asg (.nm 5) (.call gY [(.v 0),(.v 1),(.c (.int 13))]),.iff (.or_ (.cmp .eq (.v 3) (.c (.int 0))) (.cmp .lt (.v 5) (.c (.int 3)))) [.ret (.tup [(.c (.str (W "lamp"))),(.ix (.v 2) (.call gY [(.v 0),(.v 1),(.bi .len [(.v 2)])]))])] [],.iff (.cmp .eq (.v 5) (.c (.int 3))) [.ret (.tup [(.ix (.lst [(.c (.str (W "yes"))),(.c (.str (W "no")))]) (.call gY [(.v 0),(.v 1),(.c (.int 2))]))])] [],.iff (.and_ (.cmp .gt (.v 5) (.c (.int 8))) (.cmp .gt (.ix (.v 4) (.c (.int 0))) (.c (.int 0)))) [.asg (.ix (.v 4) (.c (.int 0))) (.bin .sub (.ix (.v 4) (.c (.int 0))) (.c (.int 1))),.asg (.nm 6) (.call gG [(.v 0),(.v 1),(.v 2),(.bin .sub (.v 3) (.c (.int 1))),(.v 4)]),.iff (.cmp .eq (.v 5) (.c (.int 12))) [.ret (.tup [(.c (.str (W "since"))),(.v 6),(.call gG [(.v 0),(.v 1),(.v 2),(.bin .sub (.v 3) (.c (.int 1))),(.v 4)])])] [],.ret (.tup [(.ix (.lst [(.c (.str (W "before"))),(.c (.str (W "once"))),(.c (.str (W "sofar")))]) (.bin .sub (.v 5) (.c (.int 9)))),(.v 6)])] [],.asg (.nm 6) (.call gG [(.v 0),(.v 1),(.v 2),(.bin .sub (.v 3) (.c (.int 1))),(.v 4)]),.iff (.or_ (.cmp .eq (.v 5) (.c (.int 4))) (.cmp .gt (.v 5) (.c (.int 8)))) [.ret (.tup [(.c (.str (W "not"))),(.v 6)])] [],.ret (.tup [(.ix (.lst [(.c (.str (W "and"))),(.c (.str (W "or"))),(.c (.str (W "then"))),(.c (.str (W "same")))]) (.bin .sub (.v 5) (.c (.int 5)))),(.v 6),(.call gG [(.v 0),(.v 1),(.v 2),(.bin .sub (.v 3) (.c (.int 1))),(.v 4)])])]⟩
noncomputable def vY:Fn:=⟨2,7,[.asg (.nm 2) (.lst [(.c (.str (W "a"))),(.c (.str (W "b"))),(.c (.str (W "x"))),(.c (.str (W "y"))),(.c (.str (W "lamp"))),(.c (.str (W "far"))),(.c (.str (W "yesno"))),(.c (.str (W "abcdefgh")))]),.asg (.nm 3) (.call gY [(.v 0),(.v 1),(.c (.int 8))]),.asg (.nm 4) (.bin .add (.sl (.v 2) [(.v 3)] []) (.sl (.v 2) [] [(.v 3)])),.asg (.nm 5) (.bin .add (.c (.int 1)) (.call gY [(.v 0),(.v 1),(.c (.int 2))])),.asg (.nm 6) (.bin .add (.c (.int 1)) (.call gY [(.v 0),(.v 1),(.c (.int 2))])),.ret (.tup [(.bi .tuple [(.sl (.v 4) [] [(.v 5)])]),(.bi .tuple [(.sl (.v 4) [(.v 5)] [(.bin .add (.v 5) (.v 6))])])])]⟩
noncomputable def xW:Fn:=⟨4,8,[.asg (.nm 4) (.call lX [(.v 0),(.v 1),(.bin .pow (.c (.int 10)) (.c (.int 9)))]),.asg (.nm 5) (.lst []),.iD (.nm 6) (some .range) [(.call lX [(.v 0),(.bin .add (.v 1) (.c (.int 1))),(.bin .add (.v 3) (.c (.int 1)))])] [.asg (.nm 7) (.bin .mod (.bin .mul (.bin .add (.bin .add (.v 4) (.bin .mul (.bin .mul (.c (.int 104729)) (.v 6)) (.v 6))) (.bin .mul (.c (.int 7919)) (.v 6))) (.c (.int 48271))) (.c (.int 2147483647))),.ex (.cC .append (.v 5) [(.bi .tuple [(.comp 1 [7] [0] true (some .range) [(.v 2)] [] (.cmp .eq (.bin .mod (.bin .fdiv (.v 1) (.ix (.lst [(.c (.int 13)),(.c (.int 26)),(.c (.int 52)),(.c (.int 104))]) (.v 0))) (.c (.int 2))) (.c (.int 1))))])])],.ret (.v 5)]⟩
noncomputable def uR:Fn:=⟨4,8,[.asg (.nm 4) (.ix (.v 1) (.c (.int 0))),.iff (.cmp .eq (.v 4) (.c (.str (W "lamp")))) [.ret (.ix (.ix (.v 2) (.v 3)) (.cC .index (.v 0) [(.ix (.v 1) (.c (.int 1)))]))] [],.iff (.or_ (.cmp .eq (.v 4) (.c (.str (W "yes")))) (.cmp .eq (.v 4) (.c (.str (W "no"))))) [.ret (.cmp .eq (.v 4) (.c (.str (W "yes"))))] [],.iff (.cmp .eq (.v 4) (.c (.str (W "before")))) [.ret (.and_ (.cmp .gt (.v 3) (.c (.int 0))) (.call eD [(.v 0),(.ix (.v 1) (.c (.int 1))),(.v 2),(.bin .sub (.v 3) (.c (.int 1)))]))] [],.iff (.cmp .eq (.v 4) (.c (.str (W "once")))) [.ret (.cmp .ne (.comp 1 [0,1,2] [0] true (some .range) [(.bin .add (.v 3) (.c (.int 1)))] [(.call eD [(.v 1),(.ix (.v 2) (.c (.int 1))),(.v 3),(.v 0)])] (.v 0)) (.lst []))] [],.iff (.cmp .eq (.v 4) (.c (.str (W "sofar")))) [.ret (.cmp .eq (.comp 1 [0,1,2] [0] true (some .range) [(.bin .add (.v 3) (.c (.int 1)))] [(.not_ (.call eD [(.v 1),(.ix (.v 2) (.c (.int 1))),(.v 3),(.v 0)]))] (.v 0)) (.lst []))] [],.iff (.cmp .eq (.v 4) (.c (.str (W "since")))) [.iD (.nm 5) (some .range) [(.v 3),(.neg (.c (.int 1))),(.neg (.c (.int 1)))] [.iff (.call eD [(.v 0),(.ix (.v 1) (.c (.int 2))),(.v 2),(.v 5)]) [.ret (.c (.bl true))] [],.iff (.not_ (.call eD [(.v 0),(.ix (.v 1) (.c (.int 1))),(.v 2),(.v 5)])) [.ret (.c (.bl false))] []],.ret (.c (.bl false))] [],.asg (.nm 6) (.call eD [(.v 0),(.ix (.v 1) (.c (.int 1))),(.v 2),(.v 3)]),.iff (.cmp .eq (.v 4) (.c (.str (W "not")))) [.ret (.not_ (.v 6))] [],.asg (.nm 7) (.call eD [(.v 0),(.ix (.v 1) (.c (.int 2))),(.v 2),(.v 3)]),.iff (.cmp .eq (.v 4) (.c (.str (W "and")))) [.ret (.and_ (.v 6) (.v 7))] [],.iff (.cmp .eq (.v 4) (.c (.str (W "or")))) [.ret (.or_ (.v 6) (.v 7))] [],.iff (.cmp .eq (.v 4) (.c (.str (W "then")))) [.ret (.or_ (.v 7) (.not_ (.v 6)))] [],.ret (.cmp .eq (.v 6) (.v 7))]⟩
noncomputable def R3:Fn:=⟨1,10,[.asg (.nm 1) (.lst [(.c (.int 4))]),.asg (.tp [2,3]) (.call vW [(.v 0),(.v 1)]),.asg (.nm 4) (.bin .add (.v 2) (.v 3)),.asg (.nm 5) (.call gG [(.v 0),(.v 1),(.v 4),(.c (.int 3)),(.lst [(.c (.int 4))])]),.asg (.nm 6) (.bin .add (.call rC [(.v 0),(.c (.int 0)),(.bi .len [(.v 4)]),(.c (.int 5))]) (.call rC [(.v 0),(.c (.int 2)),(.bi .len [(.v 4)]),(.c (.int 1))])),.asg (.nm 7) (.tup [(.v 2),(.v 3),(.tup []),(.tup []),(.tup [(.tup [(.c (.int 1)),(.tup [(.c (.str (W "yes")))])])])]),.iD (.nm 8) (some .range) [(.bi .len [(.v 6)])] [.asg (.nm 9) (.call H0 [(.v 7),(.v 5),(.sl (.v 6) [] [(.bin .add (.v 8) (.c (.int 1)))])]),.iff (.or_ (.not_ (.isi (.v 9) [.bool])) (.cmp .ne (.v 9) (.call eD [(.v 4),(.v 5),(.v 6),(.v 8)]))) [.ret (.c (.bl false))] []],.ret (.c (.bl true))]⟩
noncomputable def AH:Fn:=⟨2,2,[.ret (.ix (.v 1) (.v 0))]⟩
noncomputable def Gw:Nat->Option Fn
 |0=>some DG
 |1=>some yD
 |2=>some nF
 |3=>some oW
 |4=>some oU
 |5=>some yK
 |6=>some FZ
 |7=>some yI
 |8=>some uE
 |9=>some uD
 |10=>some rQ
 |11=>some A9
 |12=>some C8
 |13=>some uS
 |14=>some uT
 |15=>some CM
 |16=>some DP
 |17=>some yM
 |18=>some vR
 |19=>some pG
 |20=>some uJ
 |21=>some oT
 |22=>some kF
 |23=>some qE
 |24=>some lJ
 |25=>some vN
 |26=>some rZ
 |27=>some sH
 |28=>some JD
 |29=>some sL
 |30=>some wB
 |31=>some yQ
 |32=>some uK
 |33=>some vY
 |34=>some xW
 |35=>some uR
 |36=>some R3
 |37=>some AH
 |_=>none
noncomputable def Hk:Nat->Nat->Bool
 |0,0=>true
 |1,1=>true
 |1,0=>true
 |2,2=>true
 |2,1=>true
 |2,0=>true
 |3,3=>true
 |3,1=>true
 |3,0=>true
 |4,4=>true
 |4,1=>true
 |4,0=>true
 |_,_=>false
noncomputable def G:Prog:=⟨Gw,Hk⟩
noncomputable def cD:Nat->Stmt
 |0=>bd 12
 |1=>bd 13
 |2=>bd 14
 |3=>bd 15
 |4=>bd 16
 |5=>bd 17
 |6=>bd 25
 |7=>bd 26
 |8=>bd 27
 |9=>bd 28
 |10=>bd 29
 |11=>bd 30
 |12=>bd 31
 |13=>bd 32
 |14=>bd 33
 |15=>bd 34
 |16=>bd 35
 |17=>bd 37
 |18=>bd 38
 |19=>rX (bd 39) 0
 |20=>rX (bd 39) 1
 |21=>rX (bd 39) 2
 |22=>rX (bd 39) 3
 |23=>rX (bd 39) 4
 |24=>rX (bd 39) 5
 |25=>bd 40
 |26=>bd 41
 |27=>bd 42
 |28=>bd 43
 |29=>bd 45
 |30=>bd 46
 |31=>bd 47
 |32=>bd 48
 |33=>bd 49
 |34=>bd 50
 |35=>bd 51
 |36=>bd 52
 |_=>.Pass ⟨0,0,0,0⟩
def oH:Nat->Str
 |0 =>"is_name"
 |1 =>"is_saying"
 |2 =>"is_saying_within"
 |3 =>"checked_saying"
 |4 =>"sayings_within"
 |5 =>"pieces_in"
 |6 =>"is_row"
 |7 =>"are_lamps"
 |8 =>"are_sayings"
 |9 =>"stands_bare"
 |10 =>"are_promises"
 |11 =>"is_price"
 |12 =>"is_wish"
 |13 =>"are_wishes"
 |14 =>"sayings_of"
 |15 =>"is_book"
 |16 =>"checked"
 |17 =>"now_holds"
 |18 =>"past_holds"
 |19 =>"__init__"
 |20 =>"enter"
 |21 =>"place_of"
 |22 =>"remembered_row"
 |23 =>"held_at"
 |24 =>"memory_after"
 |25 =>"is_setting"
 |26 =>"checked_play"
 |27 =>"told_by_turn"
 |28 =>"holds"
 |29 =>"_law_cell_at"
 |30 =>"_law_mixed"
 |31 =>"_law_next"
 |32 =>"_law_saying"
 |33 =>"_law_names"
 |34 =>"_law_play"
 |35 =>"_law_holds"
 |36 =>"law"
 |_ =>""
def eV:Nat->Str
 |0 =>"is_name"
 |1 =>"is_saying"
 |2 =>"is_saying_within"
 |3 =>"checked_saying"
 |4 =>"sayings_within"
 |5 =>"pieces_in"
 |6 =>"is_row"
 |7 =>"are_lamps"
 |8 =>"are_sayings"
 |9 =>"stands_bare"
 |10 =>"are_promises"
 |11 =>"is_price"
 |12 =>"is_wish"
 |13 =>"are_wishes"
 |14 =>"sayings_of"
 |15 =>"is_book"
 |16 =>"checked"
 |17 =>"now_holds"
 |18 =>"past_holds"
 |19 =>"Table.__init__"
 |20 =>"Table.enter"
 |21 =>"Table.place_of"
 |22 =>"Table.remembered_row"
 |23 =>"Table.held_at"
 |24 =>"Table.memory_after"
 |25 =>"is_setting"
 |26 =>"checked_play"
 |27 =>"told_by_turn"
 |28 =>"holds"
 |29 =>"_law_cell_at"
 |30 =>"_law_mixed"
 |31 =>"_law_next"
 |32 =>"_law_saying"
 |33 =>"_law_names"
 |34 =>"_law_play"
 |35 =>"_law_holds"
 |36 =>"law"
 |_ =>""
def lP:Nat->At
 |0=>.top
 |1=>.top
 |2=>.top
 |3=>.top
 |4=>.top
 |5=>.top
 |6=>.top
 |7=>.top
 |8=>.top
 |9=>.top
 |10=>.top
 |11=>.top
 |12=>.top
 |13=>.top
 |14=>.top
 |15=>.top
 |16=>.top
 |17=>.top
 |18=>.top
 |19=>(.init (W "Table"))
 |20=>(.cC (W "Table"))
 |21=>(.cC (W "Table"))
 |22=>(.cC (W "Table"))
 |23=>(.cC (W "Table"))
 |24=>(.cC (W "Table"))
 |25=>.top
 |26=>.top
 |27=>.top
 |28=>.top
 |29=>.top
 |30=>.top
 |31=>.top
 |32=>.top
 |33=>.top
 |34=>.top
 |35=>.top
 |36=>.top
 |_=>.top
def lW:Nat->List Str
 |0=>["thing"]
 |1=>["names","thing"]
 |2=>["names","thing","deepest"]
 |3=>["names","saying"]
 |4=>["saying"]
 |5=>["sayings"]
 |6=>["thing","fewest","most"]
 |7=>["foe","friend"]
 |8=>["names","things","most"]
 |9=>["names","saying"]
 |10=>["names","friend","things"]
 |11=>["thing"]
 |12=>["names","thing"]
 |13=>["names","things"]
 |14=>["promises","musts","wishes"]
 |15=>["thing"]
 |16=>["book"]
 |17=>["word","parts"]
 |18=>["word","remembered","parts"]
 |19=>["self","names","sayings"]
 |20=>["self","saying"]
 |21=>["self","saying"]
 |22=>["self","piece"]
 |23=>["self","memory","setting"]
 |24=>["self","held"]
 |25=>["thing","lamps"]
 |26=>["book","play"]
 |27=>["table","play","tell"]
 |28=>["book","saying","play"]
 |29=>["_law_script","_law_k"]
 |30=>["_law_script","_law_k","_law_many"]
 |31=>["_law_script","_law_m","_law_many"]
 |32=>["_law_script","_law_m","_law_names_here","_law_deep","_law_left"]
 |33=>["_law_script","_law_m"]
 |34=>["_law_script","_law_at","_law_lamps","_law_most"]
 |35=>["_law_names_here","_law_saying_here","_law_play_here","_law_turn"]
 |36=>["_law_script"]
 |_=>[]
noncomputable def LU:Nat->Option Addr
 |28=>some 254
 |_=>none
structure Zt (K:PySem.W.Frag)(mg:Str->Option Value):Prop where
 b_isinstance:mg "isinstance" = none
 b_str:mg "str" = none
 b_len:mg "len" = none
 b_all:mg "all" = none
 b_tuple:mg "tuple" = none
 b_list:mg "list" = none
 b_reversed:mg "reversed" = none
 b_set:mg "set" = none
 b_any:mg "any" = none
 b_int:mg "int" = none
 b_bool:mg "bool" = none
 b_range:mg "range" = none
 g_NO_NAMES:GC K mg "NO_NAMES" g_NO_NAMES
 g_LONGEST_NAME:GC K mg "LONGEST_NAME" g_LONGEST_NAME
 g_LETTERS:GC K mg "LETTERS" g_LETTERS
 g_DEEPEST:GC K mg "DEEPEST" g_DEEPEST
 g_SAYINGS_WITHIN:GC K mg "SAYINGS_WITHIN" g_SAYINGS_WITHIN
 g_PAST_WORDS:GC K mg "PAST_WORDS" g_PAST_WORDS
 g_MOST_LAMPS:GC K mg "MOST_LAMPS" g_MOST_LAMPS
 g_MOST_PROMISES:GC K mg "MOST_PROMISES" g_MOST_PROMISES
 g_HIGHEST_PRICE:GC K mg "HIGHEST_PRICE" g_HIGHEST_PRICE
 g_MOST_WISHES:GC K mg "MOST_WISHES" g_MOST_WISHES
 g_MOST_MUSTS:GC K mg "MOST_MUSTS" g_MOST_MUSTS
 g_MOST_PIECES:GC K mg "MOST_PIECES" g_MOST_PIECES
 c_Table:xF K (W "Table")
 a_Table_names:vL K (W "Table") (W "names")
 a_Table_pieces:vL K (W "Table") (W "pieces")
 a_Table_rows:vL K (W "Table") (W "rows")
 a_Table_row_of:vL K (W "Table") (W "row_of")
 a_Table_first_memory:vL K (W "Table") (W "first_memory")
 a_Table_remembered_rows:vL K (W "Table") (W "remembered_rows")
section
variable {P:Program}{w:World}{K:PySem.W.Frag}{mg:Str->Option Value}{base:Heap}
theorem wV {k:Nat}(T:BD K mg 37 oH eV lW cD lP)(IH:∀ i,i<37->eI P w K mg base dB (2*k) (T.a i) (T.fd i) (lW i) (eR K (aM G k) i)){X:Cx}(e1:X.prog=P)(e2:X.w=w)(e3:X.K=K)(e4:X.mg=mg)(e5:X.base=base)(hr:cK (2*k+1) X.A)(i:Nat)(h:Nat.blt i 37=true)(ha:lP i=.top):lM X (aM G k) (oH i) i:=by
 subst e1 e2 e3 e4 e5
 have h:i<37:=Nat.ble_eq.mp h
 have q:=T.mg i h
 rw[ha]at q
 exact⟨2*k,T.a i,T.fd i,lW i,IH i h,hr.mono (by omega),q,(T.fn i h).kp,T.bi i h⟩
theorem xI {k:Nat}(T:BD K mg 37 oH eV lW cD lP)(IH:∀ i,i<37->eI P w K mg base dB (2*k) (T.a i) (T.fd i) (lW i) (eR K (aM G k) i)){X:Cx}(e1:X.prog=P)(e2:X.w=w)(e3:X.K=K)(e4:X.mg=mg)(e5:X.base=base)(hr:cK (2*k+1) X.A)(i:Nat)(c:List Nat)(h:Nat.blt i 37=true)(ha:lP i=.cC c):nA X (aM G k) c (oH i) i:=by
 subst e1 e2 e3 e4 e5
 have h:i<37:=Nat.ble_eq.mp h
 have q:=T.mg i h
 rw[ha]at q
 obtain⟨C0,q1,q2,q3⟩:=q
 exact⟨2*k,T.a i,T.fd i,lW i,C0,IH i h,hr.mono (by omega),T.bi i h,q1,q2,q3⟩
theorem BQ {k:Nat}(T:BD K mg 37 oH eV lW cD lP)(IH:∀ i,i<37->eI P w K mg base dB (2*k) (T.a i) (T.fd i) (lW i) (eR K (aM G k) i)){X:Cx}(e1:X.prog=P)(e2:X.w=w)(e3:X.K=K)(e4:X.mg=mg)(e5:X.base=base)(hr:cK (2*k+1) X.A)(i:Nat)(c:List Nat)(h:Nat.blt i 37=true)(ha:lP i=.init c){n:Str}(hn:n=⟨c.toArray⟩:=by kernel_rfl):wA X (aM G k) c n i:=by
 subst e1 e2 e3 e4 e5
 have h:i<37:=Nat.ble_eq.mp h
 have q:=T.mg i h
 rw[ha]at q
 obtain⟨C0,q1,q2,q3⟩:=q
 exact⟨2*k,T.a i,T.fd i,lW i,C0,IH i h,hr,T.bi i h,q1,by rw[hn];exact q2,q3⟩
noncomputable abbrev TT (K:PySem.W.Frag)(mg:Str->Option Value):=BD K mg 37 oH eV lW cD lP
noncomputable abbrev IT (P:Program)(w:World)(base:Heap)(T:TT K mg)(k:Nat):Prop:=∀ i,i<37->eI P w K mg base dB (2*k) (T.a i) (T.fd i) (lW i) (eR K (aM G k) i)
noncomputable abbrev OT (P:Program)(w:World)(base:Heap)(T:TT K mg)(k i:Nat):Prop:=eI P w K mg base dB (2*k+1+1) (T.a i) (T.fd i) (lW i) (eR K (aM G (k+1)) i)
theorem fB (i:Nat){k:Nat}{fn:Fn}{N:List Str}(T:TT K mg)(IH:IT P w base T k)(hi:Nat.blt i 37=true)(S:kX N (lW i) (aJ (cD i)))(hG:G.fns i=some fn)(hp:fn.np=(lW i).length)(hl:fn.nl=N.length)
 (hb:∀(bD:Value)(A:Around)(outer:List Env)(s:Shared)(H:Hp)(E:L2.XK)(hr:cK (2*k+1) (A.deeper (envOfC (eV i) (aJ (cD i)) s.heap.objs.size (T.a i) bD)))(m:bL (aM G k) (aM G k))(u:(A.deeper (envOfC (eV i) (aJ (cD i)) s.heap.objs.size (T.a i) bD)).units+180<PySem.cLine)
 (c:∀ j,Nat.blt j 37=true->lP j=.top->lM (dY dB P w K mg base N (eV i) (aJ (cD i)) (T.a i) bD A outer s H E).gT (aM G k) (oH j) j)(cm:∀ j c,Nat.blt j 37=true->lP j=.cC c->nA (dY dB P w K mg base N (eV i) (aJ (cD i)) (T.a i) bD A outer s H E).gT (aM G k) c (oH j) j)(ck:∀ j c,Nat.blt j 37=true->lP j=.init c->∀{n:Str}(hn:n=⟨c.toArray⟩:=by kernel_rfl),wA (dY dB P w K mg base N (eV i) (aJ (cD i)) (T.a i) bD A outer s H E).gT (aM G k) c n j)(nd:N.Nodup),
 sP (dY dB P w K mg base N (eV i) (aJ (cD i)) (T.a i) bD A outer s H E).gT (aM G k) G.sub (eH (cD i)) fn.body):OT P w base T k i :=
 NG (fn:=fn) (T.fn i (Nat.ble_eq.mp hi)) S hG hp hl fun bD A outer s H E hr=>hb bD A outer s H E hr (lE G (Nat.le_refl k)) (D2 hr) (wV (X:=(dY dB P w K mg base N (eV i) (aJ (cD i)) (T.a i) bD A outer s H E).gT) T IH rfl rfl rfl rfl rfl hr) (xI (X:=(dY dB P w K mg base N (eV i) (aJ (cD i)) (T.a i) bD A outer s H E).gT) T IH rfl rfl rfl rfl rfl hr) (@BQ P w K mg base k T IH (dY dB P w K mg base N (eV i) (aJ (cD i)) (T.a i) bD A outer s H E).gT rfl rfl rfl rfl rfl hr) S.nd
noncomputable abbrev XE (P:Program)(w:World)(K:PySem.W.Frag)(mg:Str->Option Value)(base:Heap)(k:Nat):Prop:=∀ f Tx,LT f=some Tx->mS P w K mg base (2*k) (aM G k) f
theorem Ie (i:Nat){k:Nat}{fn:Fn}{N:List Str}(T:TT K mg)(IH:IT P w base T k)(IL:XE P w K mg base k)(hi:Nat.blt i 37=true)(S:kX N (lW i) (aJ (cD i)))(hG:G.fns i=some fn)(hp:fn.np=(lW i).length)(hl:fn.nl=N.length)
 (hb:∀(bD:Value)(A:Around)(outer:List Env)(s:Shared)(H:Hp)(E:L2.XK)(hr:cK (2*k+1) (A.deeper (envOfC (eV i) (aJ (cD i)) s.heap.objs.size (T.a i) bD)))(m:bL (aM G k) (aM G k))(u:(A.deeper (envOfC (eV i) (aJ (cD i)) s.heap.objs.size (T.a i) bD)).units+180<PySem.cLine)
 (c:∀ j,Nat.blt j 37=true->lP j=.top->lM (dY dB P w K mg base N (eV i) (aJ (cD i)) (T.a i) bD A outer s H E).gT (aM G k) (oH j) j)(cm:∀ j c,Nat.blt j 37=true->lP j=.cC c->nA (dY dB P w K mg base N (eV i) (aJ (cD i)) (T.a i) bD A outer s H E).gT (aM G k) c (oH j) j)(ck:∀ j c,Nat.blt j 37=true->lP j=.init c->∀{n:Str}(hn:n=⟨c.toArray⟩:=by kernel_rfl),wA (dY dB P w K mg base N (eV i) (aJ (cD i)) (T.a i) bD A outer s H E).gT (aM G k) c n j)(nd:N.Nodup)(L:LV (dY dB P w K mg base N (eV i) (aJ (cD i)) (T.a i) bD A outer s H E).gT (aM G k)),
 sP (dY dB P w K mg base N (eV i) (aJ (cD i)) (T.a i) bD A outer s H E).gT (aM G k) G.sub (eH (cD i)) fn.body):OT P w base T k i :=
 NG (fn:=fn) (T.fn i (Nat.ble_eq.mp hi)) S hG hp hl fun bD A outer s H E hr=>hb bD A outer s H E hr (lE G (Nat.le_refl k)) (D2 hr) (wV (X:=(dY dB P w K mg base N (eV i) (aJ (cD i)) (T.a i) bD A outer s H E).gT) T IH rfl rfl rfl rfl rfl hr) (xI (X:=(dY dB P w K mg base N (eV i) (aJ (cD i)) (T.a i) bD A outer s H E).gT) T IH rfl rfl rfl rfl rfl hr) (@BQ P w K mg base k T IH (dY dB P w K mg base N (eV i) (aJ (cD i)) (T.a i) bD A outer s H E).gT rfl rfl rfl rfl rfl hr) S.nd ⟨2*k,IL,hr.mono (by omega)⟩
theorem Hr (i:Nat){k:Nat}{fn:Fn}{N:List Str}(T:TT K mg)(IH:IT P w base T k){cc:Addr}(hcd:(T.fd i).code=.ref cc)(hi:Nat.blt i 37=true)(S:kX N (lW i) (aJ (cD i)))(hG:G.fns i=some fn)(hp:fn.np=(lW i).length)(hl:fn.nl=N.length)
 (hb:∀(A:Around)(outer:List Env)(s:Shared)(H:Hp)(E:L2.XK)(hr:cK (2*k+1) (A.deeper (envOfC (eV i) (aJ (cD i)) s.heap.objs.size (T.a i) (.ref cc))))(m:bL (aM G k) (aM G k))(u:(A.deeper (envOfC (eV i) (aJ (cD i)) s.heap.objs.size (T.a i) (.ref cc))).units+180<PySem.cLine)
 (c:∀ j,Nat.blt j 37=true->lP j=.top->lM (dY dB P w K mg base N (eV i) (aJ (cD i)) (T.a i) (.ref cc) A outer s H E).gT (aM G k) (oH j) j)(cm:∀ j c,Nat.blt j 37=true->lP j=.cC c->nA (dY dB P w K mg base N (eV i) (aJ (cD i)) (T.a i) (.ref cc) A outer s H E).gT (aM G k) c (oH j) j)(ck:∀ j c,Nat.blt j 37=true->lP j=.init c->∀{n:Str}(hn:n=⟨c.toArray⟩:=by kernel_rfl),wA (dY dB P w K mg base N (eV i) (aJ (cD i)) (T.a i) (.ref cc) A outer s H E).gT (aM G k) c n j)(nd:N.Nodup),
 sP (dY dB P w K mg base N (eV i) (aJ (cD i)) (T.a i) (.ref cc) A outer s H E).gT (aM G k) G.sub (eH (cD i)) fn.body):OT P w base T k i :=
 WQ (fn:=fn) (T.fn i (Nat.ble_eq.mp hi)) hcd S hG hp hl fun A outer s H E hr=>hb A outer s H E hr (lE G (Nat.le_refl k)) (D2 hr) (wV (X:=(dY dB P w K mg base N (eV i) (aJ (cD i)) (T.a i) (.ref cc) A outer s H E).gT) T IH rfl rfl rfl rfl rfl hr) (xI (X:=(dY dB P w K mg base N (eV i) (aJ (cD i)) (T.a i) (.ref cc) A outer s H E).gT) T IH rfl rfl rfl rfl rfl hr) (@BQ P w K mg base k T IH (dY dB P w K mg base N (eV i) (aJ (cD i)) (T.a i) (.ref cc) A outer s H E).gT rfl rfl rfl rfl rfl hr) S.nd
theorem Ip {k:Nat}(T:TT K mg)(Z:Zt K mg)(IH:IT P w base T k):OT P w base T k 0 :=
 fB 0 (fn:=DG) (N:=["thing"]) T IH rfl ⟨rfl,rfl,rfl,by decide +kernel,rfl,by decide +kernel,by decide +kernel⟩ rfl rfl rfl fun bD A outer s H E hr m u c cm ck nd=>by
 exact(cc (dC m (sE (rT m (nC (tp (yB (t:=.str) N9 Z.b_isinstance Z.b_str (jv 0)))) (rM (dE (o:=.in_) u (jv 0) (jg Z.g_NO_NAMES))))) (cc (bT m jb)
 c0) c0)
 (cc (bT m (lA (Y9 (o:=.le) (o':=.le) u ji (fF cR eM Z.b_len (ja (jv 0) an)) (jg Z.g_LONGEST_NAME)) (jY (fF (jP hr.hd) pT Z.b_all (ja (oE m (own:=["sign"]) (cn:=[]) (aL:=[]) (one:=true) (mF (on:=(aJ (cD 0)).names) (N:=["thing"]) (by decide +kernel)) (iv (jv 0)) (fun _ _ _ _=>(b1 (gn (show(["sign"]:List Str).Nodup by decide +kernel)))) (fun _ _ _ _=>qn) (fun _ _ _ _=>(oC (o:=.in_) u (jv 0) (jg Z.g_LETTERS)))) an)))))
 c0))
theorem Ik {k:Nat}(T:TT K mg)(Z:Zt K mg)(IH:IT P w base T k):OT P w base T k 1 :=
 fB 1 (fn:=yD) (N:=["names","thing"]) T IH rfl ⟨rfl,rfl,rfl,by decide +kernel,rfl,by decide +kernel,by decide +kernel⟩ rfl rfl rfl fun bD A outer s H E hr m u c cm ck nd=>by
 exact(cc (bT m (cA (c 2 rfl rfl) (ja (jv 0) (ja (jv 1) (ja (jg Z.g_DEEPEST) an)))))
 c0)
noncomputable abbrev N2:List Str:=["names","thing","deepest"]
theorem Gv {k:Nat}(T:TT K mg)(Z:Zt K mg)(IH:IT P w base T k):OT P w base T k 2 :=
 fB 2 (fn:=nF) (N:=N2) T IH rfl ⟨rfl,rfl,rfl,by decide +kernel,rfl,by decide +kernel,by decide +kernel⟩ rfl rfl rfl fun bD A outer s H E hr m u c cm ck nd=>by
 exact(cc (dC m (sE (rT m (dE (o:=.lt) u (cF 2) ji) (rT m (nC (tp (yB (t:=.tuple) jR Z.b_isinstance Z.b_tuple (jv 1)))) (rT m (dE (o:=.lt) u (fF cR eM Z.b_len (ja (jv 1) an)) ji) (rM (nC (tp (yB (t:=.str) N9 Z.b_isinstance Z.b_str (bW (jv 1) ji))))))))) (cc (bT m jb)
 c0) c0)
 (cc (dC m (dE (o:=.eq) u (bW (jv 1) ji) js) (cc (bT m (lA (oC (o:=.eq) u (fF cR eM Z.b_len (ja (jv 1) an)) ji) (lA (cA (c 0 rfl rfl) (ja (bW (jv 1) ji) an)) (jY (oC (o:=.in_) u (bW (jv 1) ji) (cF 0))))))
 c0) c0)
 (cc (dC m (sE (rT m (dE (o:=.iU) u (bW (jv 1) ji) (jg Z.g_SAYINGS_WITHIN)) (rM (dE (o:=.ne) u (fF cR eM Z.b_len (ja (jv 1) an)) (cU (op:=.add) ji (bW (jg Z.g_SAYINGS_WITHIN) (bW (jv 1) ji))))))) (cc (bT m jb)
 c0) c0)
 (cc (bT m (fF (jP hr.hd) pT Z.b_all (ja (oE m (own:=["part"]) (cn:=["names","deepest"]) (aL:=[0,2]) (one:=true) (mF (on:=(aJ (cD 2)).names) (N:=N2) (by decide +kernel)) (iv (G7 (jv 1) (os ji) on)) (fun _ _ _ _=>(b1 (gn (show(["part","names","deepest"]:List Str).Nodup by decide +kernel)))) (fun _ _ _ _=>qn) (fun _ _ _ _=>(cA ((c 2 rfl rfl).wC) (ja (cF 1) (ja (jv 0) (ja (cU (op:=.sub) (cF 2) ji) an)))))) an)))
 c0))))
theorem Gx {k:Nat}(T:TT K mg)(Z:Zt K mg)(IH:IT P w base T k):OT P w base T k 3 :=
 fB 3 (fn:=oW) (N:=["names","saying"]) T IH rfl ⟨rfl,rfl,rfl,by decide +kernel,rfl,by decide +kernel,by decide +kernel⟩ rfl rfl rfl fun bD A outer s H E hr m u c cm ck nd=>by
 exact(cc (dC m (nC (tp (cA (c 1 rfl rfl) (ja (jv 0) (ja (jv 1) an))))) (cc (R8 m)
 c0) c0)
 (cc (bT m (jv 1))
 c0))
theorem Hu {k:Nat}(T:TT K mg)(Z:Zt K mg)(IH:IT P w base T k):OT P w base T k 4 :=
 fB 4 (fn:=oU) (N:=["saying"]) T IH rfl ⟨rfl,rfl,rfl,by decide +kernel,rfl,by decide +kernel,by decide +kernel⟩ rfl rfl rfl fun bD A outer s H E hr m u c cm ck nd=>by
 exact(cc (dC m (dE (o:=.eq) u (bW (jv 0) ji) js) (cc (bT m (jt m an))
 c0) c0)
 (cc (bT m (G7 (jv 0) (os ji) on))
 c0))
theorem Ga {k:Nat}(T:TT K mg)(Z:Zt K mg)(IH:IT P w base T k):OT P w base T k 5 :=
 fB 5 (fn:=yK) (N:=["sayings","pieces","ahead","saying"]) T IH rfl ⟨rfl,rfl,rfl,by decide +kernel,rfl,by decide +kernel,by decide +kernel⟩ rfl rfl rfl fun bD A outer s H E hr m u c cm ck nd=>by
 exact(cc (sn (i:=1) m nd (jl an))
 (cc (sn (i:=2) m nd (Fl Z.b_list Z.b_reversed (ja (jv 0) an)))
 (cc (sw m (tp (jv 2)) (cc (sn (i:=3) m nd (Iy (jv 2) ))
 (cc (dC m (sE (Fm m (dE (o:=.in_) u (bW (jv 3) ji) (jg Z.g_PAST_WORDS)) (rM (dE (o:=.iU) u (jv 3) (jv 1))))) (cc (sx m (FJ (jv 1) (ja (jv 3) an)))
 c0) c0)
 (cc (sx m (Jr (jv 2) (ja (Fl Z.b_list Z.b_reversed (ja (cA (c 4 rfl rfl) (ja (jv 3) an)) an)) an)))
 c0))))
 (cc (bT m (jv 1))
 c0))))
theorem Ij {k:Nat}(T:TT K mg)(Z:Zt K mg)(IH:IT P w base T k):OT P w base T k 6 :=
 fB 6 (fn:=FZ) (N:=["thing","fewest","most"]) T IH rfl ⟨rfl,rfl,rfl,by decide +kernel,rfl,by decide +kernel,by decide +kernel⟩ rfl rfl rfl fun bD A outer s H E hr m u c cm ck nd=>by
 exact(cc (bT m (lA (yB (t:=.tuple) jR Z.b_isinstance Z.b_tuple (jv 0)) (jY (Y9 (o:=.le) (o':=.le) u (jv 1) (fF cR eM Z.b_len (ja (jv 0) an)) (jv 2)))))
 c0)
noncomputable abbrev N7:List Str:=["foe","friend","names"]
theorem Gh {k:Nat}(T:TT K mg)(Z:Zt K mg)(IH:IT P w base T k):OT P w base T k 7 :=
 fB 7 (fn:=yI) (N:=N7) T IH rfl ⟨rfl,rfl,rfl,by decide +kernel,rfl,by decide +kernel,by decide +kernel⟩ rfl rfl rfl fun bD A outer s H E hr m u c cm ck nd=>by
 exact(cc (dC m (sE (rT m (nC (tp (cA (c 6 rfl rfl) (ja (jv 0) (ja ji (ja (jg Z.g_MOST_LAMPS) an)))))) (rM (nC (tp (cA (c 6 rfl rfl) (ja (jv 1) (ja ji (ja (jg Z.g_MOST_LAMPS) an))))))))) (cc (bT m jb)
 c0) c0)
 (cc (sn (i:=2) m nd (cU (op:=.add) (jv 0) (jv 1)))
 (cc (bT m (lA (fF (jP hr.hd) pT Z.b_all (ja (oE m (own:=["name"]) (cn:=[]) (aL:=[]) (one:=true) (mF (on:=(aJ (cD 7)).names) (N:=N7) (by decide +kernel)) (iv (jv 2)) (fun _ _ _ _=>(b1 (gn (show(["name"]:List Str).Nodup by decide +kernel)))) (fun _ _ _ _=>qn) (fun _ _ _ _=>(cA ((c 0 rfl rfl).wC) (ja (jv 0) an)))) an)) (jY (oC (o:=.eq) u (Jl Z.b_len Z.b_set (ja (jv 2) an)) (fF cR eM Z.b_len (ja (jv 2) an))))))
 c0)))
noncomputable abbrev N8:List Str:=["names","things","most"]
theorem Fu {k:Nat}(T:TT K mg)(Z:Zt K mg)(IH:IT P w base T k):OT P w base T k 8 :=
 fB 8 (fn:=uE) (N:=N8) T IH rfl ⟨rfl,rfl,rfl,by decide +kernel,rfl,by decide +kernel,by decide +kernel⟩ rfl rfl rfl fun bD A outer s H E hr m u c cm ck nd=>by
 exact(cc (bT m (lA (cA (c 6 rfl rfl) (ja (jv 1) (ja ji (ja (jv 2) an)))) (jY (fF (jP hr.hd) pT Z.b_all (ja (oE m (own:=["thing"]) (cn:=["names"]) (aL:=[0]) (one:=true) (mF (on:=(aJ (cD 8)).names) (N:=N8) (by decide +kernel)) (iv (jv 1)) (fun _ _ _ _=>(b1 (gn (show(["thing","names"]:List Str).Nodup by decide +kernel)))) (fun _ _ _ _=>qn) (fun _ _ _ _=>(cA ((c 1 rfl rfl).wC) (ja (cF 1) (ja (jv 0) an))))) an)))))
 c0)
theorem Ib {k:Nat}(T:TT K mg)(Z:Zt K mg)(IH:IT P w base T k):OT P w base T k 9 :=
 fB 9 (fn:=uD) (N:=["names","saying"]) T IH rfl ⟨rfl,rfl,rfl,by decide +kernel,rfl,by decide +kernel,by decide +kernel⟩ rfl rfl rfl fun bD A outer s H E hr m u c cm ck nd=>by
 exact(cc (dC m (dE (o:=.eq) u (bW (jv 1) ji) js) (cc (bT m jb)
 c0) c0)
 (cc (dC m (dE (o:=.eq) u (bW (jv 1) ji) js) (cc (bT m (oC (o:=.in_) u (bW (jv 1) ji) (cF 0)))
 c0) c0)
 (cc (bT m (fF (CY hr.hd) L5 Z.b_any (ja (oE m (own:=["part"]) (cn:=["names"]) (aL:=[0]) (one:=true) (mF (on:=(aJ (cD 9)).names) (N:=["names","saying"]) (by decide +kernel)) (iv (cA (c 4 rfl rfl) (ja (jv 1) an))) (fun _ _ _ _=>(b1 (gn (show(["part","names"]:List Str).Nodup by decide +kernel)))) (fun _ _ _ _=>qn) (fun _ _ _ _=>(cA ((c 9 rfl rfl).wC) (ja (cF 1) (ja (jv 0) an))))) an)))
 c0)))
noncomputable abbrev Fe:List Str:=["names","friend","things"]
theorem Ar {k:Nat}(T:TT K mg)(Z:Zt K mg)(IH:IT P w base T k):OT P w base T k 10 :=
 fB 10 (fn:=rQ) (N:=Fe) T IH rfl ⟨rfl,rfl,rfl,by decide +kernel,rfl,by decide +kernel,by decide +kernel⟩ rfl rfl rfl fun bD A outer s H E hr m u c cm ck nd=>by
 exact(cc (bT m (lA (cA (c 8 rfl rfl) (ja (jv 0) (ja (jv 2) (ja (jg Z.g_MOST_PROMISES) an)))) (jY (JC (fF (CY hr.hd) L5 Z.b_any (ja (oE m (own:=["thing"]) (cn:=["friend"]) (aL:=[1]) (one:=true) (mF (on:=(aJ (cD 10)).names) (N:=Fe) (by decide +kernel)) (iv (jv 2)) (fun _ _ _ _=>(b1 (gn (show(["thing","friend"]:List Str).Nodup by decide +kernel)))) (fun _ _ _ _=>qn) (fun _ _ _ _=>(cA ((c 9 rfl rfl).wC) (ja (cF 1) (ja (jv 0) an))))) an))))))
 c0)
theorem Dh {k:Nat}(T:TT K mg)(Z:Zt K mg)(IH:IT P w base T k):OT P w base T k 11 :=
 fB 11 (fn:=A9) (N:=["thing"]) T IH rfl ⟨rfl,rfl,rfl,by decide +kernel,rfl,by decide +kernel,by decide +kernel⟩ rfl rfl rfl fun bD A outer s H E hr m u c cm ck nd=>by
 exact(cc (bT m (lA (yB (t:=.int) Z7 Z.b_isinstance Z.b_int (jv 0)) (lA (JC (yB (t:=.bool) B2 Z.b_isinstance Z.b_bool (jv 0))) (jY (Y9 (o:=.le) (o':=.le) u ji (jv 0) (jg Z.g_HIGHEST_PRICE))))))
 c0)
theorem Du {k:Nat}(T:TT K mg)(Z:Zt K mg)(IH:IT P w base T k):OT P w base T k 12 :=
 fB 12 (fn:=C8) (N:=["names","thing"]) T IH rfl ⟨rfl,rfl,rfl,by decide +kernel,rfl,by decide +kernel,by decide +kernel⟩ rfl rfl rfl fun bD A outer s H E hr m u c cm ck nd=>by
 exact(cc (bT m (lA (cA (c 6 rfl rfl) (ja (jv 1) (ja ji (ja ji an)))) (lA (cA (c 11 rfl rfl) (ja (bW (jv 1) ji) an)) (jY (cA (c 1 rfl rfl) (ja (jv 0) (ja (bW (jv 1) ji) an)))))))
 c0)
theorem Dx {k:Nat}(T:TT K mg)(Z:Zt K mg)(IH:IT P w base T k):OT P w base T k 13 :=
 fB 13 (fn:=uS) (N:=["names","things"]) T IH rfl ⟨rfl,rfl,rfl,by decide +kernel,rfl,by decide +kernel,by decide +kernel⟩ rfl rfl rfl fun bD A outer s H E hr m u c cm ck nd=>by
 exact(cc (bT m (lA (cA (c 6 rfl rfl) (ja (jv 1) (ja ji (ja (jg Z.g_MOST_WISHES) an)))) (jY (fF (jP hr.hd) pT Z.b_all (ja (oE m (own:=["thing"]) (cn:=["names"]) (aL:=[0]) (one:=true) (mF (on:=(aJ (cD 13)).names) (N:=["names","things"]) (by decide +kernel)) (iv (jv 1)) (fun _ _ _ _=>(b1 (gn (show(["thing","names"]:List Str).Nodup by decide +kernel)))) (fun _ _ _ _=>qn) (fun _ _ _ _=>(cA ((c 12 rfl rfl).wC) (ja (cF 1) (ja (jv 0) an))))) an)))))
 c0)
noncomputable abbrev Fo:List Str:=["promises","musts","wishes"]
theorem Cm {k:Nat}(T:TT K mg)(Z:Zt K mg)(IH:IT P w base T k):OT P w base T k 14 :=
 fB 14 (fn:=uT) (N:=Fo) T IH rfl ⟨rfl,rfl,rfl,by decide +kernel,rfl,by decide +kernel,by decide +kernel⟩ rfl rfl rfl fun bD A outer s H E hr m u c cm ck nd=>by
 exact(cc (bT m (cU (op:=.add) (cU (op:=.add) (zH A5 xB Z.b_list (ja (jv 0) an)) (zH A5 xB Z.b_list (ja (jv 1) an))) (oE m (own:=["wish"]) (cn:=[]) (aL:=[]) (one:=true) (mF (on:=(aJ (cD 14)).names) (N:=Fo) (by decide +kernel)) (iv (jv 2)) (fun _ _ _ _=>(b1 (gn (show(["wish"]:List Str).Nodup by decide +kernel)))) (fun _ _ _ _=>qn) (fun _ _ _ _=>(bW (jv 0) ji)))))
 c0)
theorem Ea {k:Nat}(T:TT K mg)(Z:Zt K mg)(IH:IT P w base T k):OT P w base T k 15 :=
 fB 15 (fn:=CM) (N:=["thing","friend","names","promises","musts","wishes"]) T IH rfl ⟨rfl,rfl,rfl,by decide +kernel,rfl,by decide +kernel,by decide +kernel⟩ rfl rfl rfl fun bD A outer s H E hr m u c cm ck nd=>by
 exact(cc (dC m (sE (rT m (nC (tp (cA (c 6 rfl rfl) (ja (jv 0) (ja ji (ja ji an)))))) (rM (nC (tp (cA (c 7 rfl rfl) (ja (bW (jv 0) ji) (ja (bW (jv 0) ji) an)))))))) (cc (bT m jb)
 c0) c0)
 (cc (sn (i:=1) m nd (bW (jv 0) ji))
 (cc (sn (i:=2) m nd (cU (op:=.add) (bW (jv 0) ji) (jv 1)))
 (cc (sn (i:=3) m nd (bW (jv 0) ji))
 (cc (sn (i:=4) m nd (bW (jv 0) ji))
 (cc (sn (i:=5) m nd (bW (jv 0) ji))
 (cc (dC m (sE (rT m (nC (tp (cA (c 10 rfl rfl) (ja (jv 2) (ja (jv 1) (ja (jv 3) an)))))) (rM (nC (tp (cA (c 8 rfl rfl) (ja (jv 2) (ja (jv 4) (ja (jg Z.g_MOST_MUSTS) an))))))))) (cc (bT m jb)
 c0) c0)
 (cc (bT m (lA (cA (c 13 rfl rfl) (ja (jv 2) (ja (jv 5) an))) (jY (oC (o:=.le) u (fF cR eM Z.b_len (ja (cA (c 5 rfl rfl) (ja (cA (c 14 rfl rfl) (ja (jv 3) (ja (jv 4) (ja (jv 5) an)))) an)) an)) (jg Z.g_MOST_PIECES)))))
 c0))))))))
theorem Et {k:Nat}(T:TT K mg)(Z:Zt K mg)(IH:IT P w base T k):OT P w base T k 16 :=
 fB 16 (fn:=DP) (N:=["book"]) T IH rfl ⟨rfl,rfl,rfl,by decide +kernel,rfl,by decide +kernel,by decide +kernel⟩ rfl rfl rfl fun bD A outer s H E hr m u c cm ck nd=>by
 exact(cc (dC m (nC (tp (cA (c 15 rfl rfl) (ja (jv 0) an)))) (cc (R8 m)
 c0) c0)
 (cc (bT m (jv 0))
 c0))
theorem Eo {k:Nat}(T:TT K mg)(Z:Zt K mg)(IH:IT P w base T k):OT P w base T k 17 :=
 fB 17 (fn:=yM) (N:=["word","parts"]) T IH rfl ⟨rfl,rfl,rfl,by decide +kernel,rfl,by decide +kernel,by decide +kernel⟩ rfl rfl rfl fun bD A outer s H E hr m u c cm ck nd=>by
 exact(cc (dC m (dE (o:=.eq) u (jv 0) js) (cc (bT m (JC (bW (jv 1) ji)))
 c0) c0)
 (cc (dC m (dE (o:=.eq) u (jv 0) js) (cc (bT m (lA (bW (jv 1) ji) (jY (bW (jv 1) ji))))
 c0) c0)
 (cc (dC m (dE (o:=.eq) u (jv 0) js) (cc (bT m (IE (bW (jv 1) ji) (jY (bW (jv 1) ji))))
 c0) c0)
 (cc (dC m (dE (o:=.eq) u (jv 0) js) (cc (bT m (IE (bW (jv 1) ji) (jY (JC (bW (jv 1) ji)))))
 c0) c0)
 (cc (dC m (dE (o:=.eq) u (jv 0) js) (cc (bT m (oC (o:=.eq) u (bW (jv 1) ji) (bW (jv 1) ji)))
 c0) c0)
 (cc (bT m (oC (o:=.eq) u (jv 0) js))
 c0))))))
theorem Cg {k:Nat}(T:TT K mg)(Z:Zt K mg)(IH:IT P w base T k):OT P w base T k 18 :=
 fB 18 (fn:=vR) (N:=["word","remembered","parts"]) T IH rfl ⟨rfl,rfl,rfl,by decide +kernel,rfl,by decide +kernel,by decide +kernel⟩ rfl rfl rfl fun bD A outer s H E hr m u c cm ck nd=>by
 exact(cc (dC m (dE (o:=.eq) u (jv 0) js) (cc (bT m (jv 1))
 c0) c0)
 (cc (dC m (dE (o:=.eq) u (jv 0) js) (cc (bT m (IE (jv 1) (jY (bW (jv 2) ji))))
 c0) c0)
 (cc (dC m (dE (o:=.eq) u (jv 0) js) (cc (bT m (lA (jv 1) (jY (bW (jv 2) ji))))
 c0) c0)
 (cc (bT m (IE (bW (jv 2) ji) (jY (lA (jv 1) (jY (bW (jv 2) ji))))))
 c0))))
noncomputable abbrev YQ:List Str:=["self","names","sayings","saying"]
theorem Av {k:Nat}(T:TT K mg)(Z:Zt K mg)(IH:IT P w base T k):OT P w base T k 19 :=
 fB 19 (fn:=pG) (N:=YQ) T IH rfl ⟨rfl,rfl,rfl,by decide +kernel,rfl,by decide +kernel,by decide +kernel⟩ rfl rfl rfl fun bD A outer s H E hr m u c cm ck nd=>by
 exact(cc (HV m (W "Table") Z.c_Table Z.a_Table_names (cF 0) (jv 1))
 (cc (HV m (W "Table") Z.c_Table Z.a_Table_pieces (cF 0) (cA (c 5 rfl rfl) (ja (jv 2) an)))
 (cc (HV m (W "Table") Z.c_Table Z.a_Table_rows (cF 0) (jl an))
 (cc (HV m (W "Table") Z.c_Table Z.a_Table_row_of (cF 0) Ji)
 (cc (JP (i:=3) m nd (iv (jv 2)) (cc (sx m (IU (mm:=W "enter") (cm 20 (W "Table") rfl rfl) (cF 0) (ja (jv 3) an)))
 c0))
 (cc (HV m (W "Table") Z.c_Table Z.a_Table_first_memory (cF 0) (zH kK jR Z.b_tuple (ja (oE m (own:=["piece"]) (cn:=[]) (aL:=[]) (one:=true) (mF (on:=(aJ (cD 19)).names) (N:=YQ) (by decide +kernel)) (iv (pF (W "Table") Z.c_Table Z.a_Table_pieces (cF 0))) (fun _ _ _ _=>(b1 (gn (show(["piece"]:List Str).Nodup by decide +kernel)))) (fun _ _ _ _=>qn) (fun _ _ _ _=>(oC (o:=.eq) u (bW (jv 0) ji) js))) an)))
 (cc (HV m (W "Table") Z.c_Table Z.a_Table_remembered_rows (cF 0) (oE m (own:=["piece"]) (cn:=["self"]) (aL:=[0]) (one:=true) (mF (on:=(aJ (cD 19)).names) (N:=YQ) (by decide +kernel)) (iv (pF (W "Table") Z.c_Table Z.a_Table_pieces (cF 0))) (fun _ _ _ _=>(b1 (gn (show(["piece", "self"]:List Str).Nodup by decide +kernel)))) (fun _ _ _ _=>qn) (fun _ _ _ _=>(IU (mm:=W "remembered_row") ((cm 22 (W "Table") rfl rfl).wC) (cF 1) (ja (jv 0) an)))))
 c0)))))))
noncomputable abbrev Fg:List Str:=["self","saying","part","parts"]
theorem Df {k:Nat}(T:TT K mg)(Z:Zt K mg)(IH:IT P w base T k):OT P w base T k 20 :=
 fB 20 (fn:=uJ) (N:=Fg) T IH rfl ⟨rfl,rfl,rfl,by decide +kernel,rfl,by decide +kernel,by decide +kernel⟩ rfl rfl rfl fun bD A outer s H E hr m u c cm ck nd=>by
 exact(cc (dC m (Jh u (jv 1) (pF (W "Table") Z.c_Table Z.a_Table_row_of (cF 0))) (cc Jk
 c0) c0)
 (cc (JP (i:=2) m nd (iv (cA (c 4 rfl rfl) (ja (jv 1) an))) (cc (sx m (IU (mm:=W "enter") (cm 20 (W "Table") rfl rfl) (cF 0) (ja (jv 2) an)))
 c0))
 (cc (Fj (i:=3) m nd (own:=["part"]) (cn:=["self"]) (aL:=[0]) (one:=true) (mF (on:=(aJ (cD 20)).names) (N:=Fg) (by decide +kernel)) (iv (cA (c 4 rfl rfl) (ja (jv 1) an))) (fun _ _ _ _=>(b1 (gn (show(["part","self"]:List Str).Nodup by decide +kernel)))) (fun _ _ _ _=>qn) (fun _ _ _ _=>(RH u (pF (W "Table") Z.c_Table Z.a_Table_row_of (cF 1)) (jv 0))))
 (cc (Jo m u (pF (W "Table") Z.c_Table Z.a_Table_row_of (cF 0)) (jv 1) (fF cR eM Z.b_len (ja (pF (W "Table") Z.c_Table Z.a_Table_rows (cF 0)) an)))
 (cc (sx m (FJ (pF (W "Table") Z.c_Table Z.a_Table_rows (cF 0)) (ja (jt m (ja (bW (jv 1) ji) (ja (IU (mm:=W "place_of") (cm 21 (W "Table") rfl rfl) (cF 0) (ja (jv 1) an)) (ja (jv 3) an)))) an)))
 c0)))))
theorem Br {k:Nat}(T:TT K mg)(Z:Zt K mg)(IH:IT P w base T k):OT P w base T k 21 :=
 fB 21 (fn:=oT) (N:=["self","saying"]) T IH rfl ⟨rfl,rfl,rfl,by decide +kernel,rfl,by decide +kernel,by decide +kernel⟩ rfl rfl rfl fun bD A outer s H E hr m u c cm ck nd=>by
 exact(cc (dC m (dE (o:=.eq) u (bW (jv 1) ji) js) (cc (bT m (OM m u (pF (W "Table") Z.c_Table Z.a_Table_names (jv 0)) (ja (bW (jv 1) ji) an)))
 c0) c0)
 (cc (dC m (dE (o:=.in_) u (bW (jv 1) ji) (jg Z.g_PAST_WORDS)) (cc (bT m (OM m u (pF (W "Table") Z.c_Table Z.a_Table_pieces (jv 0)) (ja (jv 1) an)))
 c0) c0)
 (cc (bT m jn)
 c0)))
theorem Dy {k:Nat}(T:TT K mg)(Z:Zt K mg)(IH:IT P w base T k):OT P w base T k 22 :=
 fB 22 (fn:=kF) (N:=["self","piece"]) T IH rfl ⟨rfl,rfl,rfl,by decide +kernel,rfl,by decide +kernel,by decide +kernel⟩ rfl rfl rfl fun bD A outer s H E hr m u c cm ck nd=>by
 exact(cc (dC m (dE (o:=.eq) u (bW (jv 1) ji) js) (cc (bT m (RH u (pF (W "Table") Z.c_Table Z.a_Table_row_of (jv 0)) (bW (jv 1) ji)))
 c0) c0)
 (cc (bT m (RH u (pF (W "Table") Z.c_Table Z.a_Table_row_of (jv 0)) (jv 1)))
 c0))
noncomputable abbrev Fb:List Str:=["self","memory","setting","held","word","place","part_rows","parts"]
theorem Bb {k:Nat}(T:TT K mg)(Z:Zt K mg)(IH:IT P w base T k):OT P w base T k 23 :=
 fB 23 (fn:=qE) (N:=Fb) T IH rfl ⟨rfl,rfl,rfl,by decide +kernel,rfl,by decide +kernel,by decide +kernel⟩ rfl rfl rfl fun bD A outer s H E hr m u c cm ck nd=>by
 exact(cc (RW (i:=3) m nd (jl an))
 (cc (sf m (iv (pF (W "Table") Z.c_Table Z.a_Table_rows (jv 0))) (gt (gc (gn (i:=4) nd) (gc (gn (i:=5) nd) (gc (gn (i:=6) nd) nn)))) (cc (Fj (i:=7) m nd (own:=["row"]) (cn:=["held"]) (aL:=[3]) (one:=true) (mF (on:=(aJ (cD 23)).names) (N:=Fb) (by decide +kernel)) (iv (jv 6)) (fun _ _ _ _=>(b1 (gn (show(["row","held"]:List Str).Nodup by decide +kernel)))) (fun _ _ _ _=>qn) (fun _ _ _ _=>(bW (cF 1) (jv 0))))
 (cc (dC m (dE (o:=.eq) u (jv 4) js) (cc (sx m (FJ (cF 3) (ja (bW (jv 2) (jv 5)) an)))
 c0) (cc (dC m (dE (o:=.in_) u (jv 4) (jg Z.g_PAST_WORDS)) (cc (sx m (FJ (cF 3) (ja (cA (c 18 rfl rfl) (ja (jv 4) (ja (bW (jv 1) (jv 5)) (ja (jv 7) an)))) an)))
 c0) (cc (sx m (FJ (cF 3) (ja (cA (c 17 rfl rfl) (ja (jv 4) (ja (jv 7) an))) an)))
 c0))
 c0))
 c0)))
 (cc (bT m (cF 3))
 c0)))
theorem El {k:Nat}(T:TT K mg)(Z:Zt K mg)(IH:IT P w base T k):OT P w base T k 24 :=
 fB 24 (fn:=lJ) (N:=["self","held"]) T IH rfl ⟨rfl,rfl,rfl,by decide +kernel,rfl,by decide +kernel,by decide +kernel⟩ rfl rfl rfl fun bD A outer s H E hr m u c cm ck nd=>by
 exact(cc (bT m (zH kK jR Z.b_tuple (ja (oE m (own:=["row"]) (cn:=["held"]) (aL:=[1]) (one:=true) (mF (on:=(aJ (cD 24)).names) (N:=["self", "held"]) (by decide +kernel)) (iv (pF (W "Table") Z.c_Table Z.a_Table_remembered_rows (jv 0))) (fun _ _ _ _=>(b1 (gn (show(["row","held"]:List Str).Nodup by decide +kernel)))) (fun _ _ _ _=>qn) (fun _ _ _ _=>(bW (cF 1) (jv 0)))) an)))
 c0)
theorem Ax {k:Nat}(T:TT K mg)(Z:Zt K mg)(IH:IT P w base T k):OT P w base T k 25 :=
 fB 25 (fn:=vN) (N:=["thing","lamps"]) T IH rfl ⟨rfl,rfl,rfl,by decide +kernel,rfl,by decide +kernel,by decide +kernel⟩ rfl rfl rfl fun bD A outer s H E hr m u c cm ck nd=>by
 exact(cc (bT m (lA (yB (t:=.tuple) jR Z.b_isinstance Z.b_tuple (jv 0)) (lA (oC (o:=.eq) u (fF cR eM Z.b_len (ja (jv 0) an)) (jv 1)) (jY (fF (jP hr.hd) pT Z.b_all (ja (oE m (own:=["part"]) (cn:=[]) (aL:=[]) (one:=true) (mF (on:=(aJ (cD 25)).names) (N:=["thing","lamps"]) (by decide +kernel)) (iv (jv 0)) (fun _ _ _ _=>(b1 (gn (show(["part"]:List Str).Nodup by decide +kernel)))) (fun _ _ _ _=>qn) (fun _ _ _ _=>(yB (t:=.bool) B2 Z.b_isinstance Z.b_bool (jv 0)))) an))))))
 c0)
noncomputable abbrev Fp:List Str:=["book","play","lamps"]
theorem En {k:Nat}(T:TT K mg)(Z:Zt K mg)(IH:IT P w base T k):OT P w base T k 26 :=
 fB 26 (fn:=rZ) (N:=Fp) T IH rfl ⟨rfl,rfl,rfl,by decide +kernel,rfl,by decide +kernel,by decide +kernel⟩ rfl rfl rfl fun bD A outer s H E hr m u c cm ck nd=>by
 exact(cc (RW (i:=2) m nd (cU (op:=.add) (fF cR eM Z.b_len (ja (bW (jv 0) ji) an)) (fF cR eM Z.b_len (ja (bW (jv 0) ji) an))))
 (cc (dC m (sE (rT m (nC (tp (yB (t:=.list) xB Z.b_isinstance Z.b_list (jv 1)))) (rM (nC (tp (fF (jP hr.hd) pT Z.b_all (ja (oE m (own:=["setting"]) (cn:=["lamps"]) (aL:=[2]) (one:=true) (mF (on:=(aJ (cD 26)).names) (N:=Fp) (by decide +kernel)) (iv (jv 1)) (fun _ _ _ _=>(b1 (gn (show(["setting","lamps"]:List Str).Nodup by decide +kernel)))) (fun _ _ _ _=>qn) (fun _ _ _ _=>(cA ((c 25 rfl rfl).wC) (ja (jv 0) (ja (cF 1) an))))) an))))))) (cc (R8 m)
 c0) c0)
 (cc (bT m (jv 1))
 c0)))
theorem Co {k:Nat}(T:TT K mg)(Z:Zt K mg)(IH:IT P w base T k)(IL:XE P w K mg base k):OT P w base T k 27 :=
 Ie 27 (fn:=sH) (N:=["table","play","tell","told","memory","setting","held"]) T IH IL rfl ⟨rfl,rfl,rfl,by decide +kernel,rfl,by decide +kernel,by decide +kernel⟩ rfl rfl rfl fun bD A outer s H E hr m u c cm ck nd L=>by
 exact(cc (sn (i:=3) m nd (jl an))
 (cc (sn (i:=4) m nd (pF (W "Table") Z.c_Table Z.a_Table_first_memory (jv 0)))
 (cc (JP (i:=5) m nd (iv (jv 1)) (cc (sn (i:=6) m nd (IU (mm:=W "held_at") (cm 23 (W "Table") rfl rfl) (jv 0) (ja (jv 4) (ja (jv 5) an))))
 (cc (sx m (FJ (jv 3) (ja (Jx 2 L (ja (jv 6) an)) an)))
 (cc (sn (i:=4) m nd (IU (mm:=W "memory_after") (cm 24 (W "Table") rfl rfl) (jv 0) (ja (jv 6) an)))
 c0))))
 (cc (bT m (jv 3))
 c0))))
theorem Ay {k:Nat}(T:TT K mg)(Z:Zt K mg)(IH:IT P w base T k)(B:rD mg base)(TC:∀ i,i<37->∀ c,LU i=some c->(T.fd i).code=.ref c):OT P w base T k 28 :=
 Hr 28 (fn:=JD) (N:=["book","saying","play","names","table","row"]) T IH (TC 28 (by decide) _ rfl) rfl ⟨rfl,rfl,rfl,by decide +kernel,rfl,by decide +kernel,by decide +kernel⟩ rfl rfl rfl fun A outer s H E hr m u c cm ck nd=>by
 exact(cc (sx m (cA (c 16 rfl rfl) (ja (jv 0) an)))
 (cc (sn (i:=3) m nd (cU (op:=.add) (bW (jv 0) ji) (bW (jv 0) ji)))
 (cc (sx m (cA (c 3 rfl rfl) (ja (jv 3) (ja (jv 1) an))))
 (cc (sx m (cA (c 26 rfl rfl) (ja (jv 0) (ja (jv 2) an))))
 (cc (dC m (nC (tp (jv 2))) (cc (R8 m)
 c0) c0)
 (cc (sn (i:=4) m nd (Js (ck 19 (W "Table") rfl rfl) (ja (jv 3) (ja (jl (ja (jv 1) an)) an))))
 (cc (RW (i:=5) m nd (RH u (pF (W "Table") Z.c_Table Z.a_Table_row_of (jv 4)) (jv 1)))
 (cc (bT m (bW (Je gL (c 27 rfl rfl) (jv 4) (jv 2) B rfl rfl (fun _=>rfl)) (ZX ji)))
 c0))))))))
theorem Dg {k:Nat}(T:TT K mg)(Z:Zt K mg)(IH:IT P w base T k):OT P w base T k 29 :=
 fB 29 (fn:=sL) (N:=["_law_script","_law_k"]) T IH rfl ⟨rfl,rfl,rfl,by decide +kernel,rfl,by decide +kernel,by decide +kernel⟩ rfl rfl rfl fun bD A outer s H E hr m u c cm ck nd=>by
 exact(cc (dC m (dE (o:=.lt) u (jv 1) (fF cR eM Z.b_len (ja (jv 0) an))) (cc (bT m (bW (jv 0) (jv 1)))
 c0) c0)
 (cc (dC m (dE (o:=.eq) u (jv 0) (jl an)) (cc (bT m ji)
 c0) c0)
 (cc (bT m (cU (op:=.add) (cU (op:=.mul) (bW (jv 0) (cU (op:=.mod) (jv 1) (fF cR eM Z.b_len (ja (jv 0) an)))) ji) (jv 1)))
 c0)))
theorem Cw {k:Nat}(T:TT K mg)(Z:Zt K mg)(IH:IT P w base T k):OT P w base T k 30 :=
 fB 30 (fn:=wB) (N:=["_law_script","_law_k","_law_many","_law_drawn"]) T IH rfl ⟨rfl,rfl,rfl,by decide +kernel,rfl,by decide +kernel,by decide +kernel⟩ rfl rfl rfl fun bD A outer s H E hr m u c cm ck nd=>by
 exact(cc (sn (i:=3) m nd (cU (op:=.mod) (cU (op:=.mul) (cU (op:=.add) (cU (op:=.add) (cA (c 29 rfl rfl) (ja (jv 0) (ja (jv 1) an))) (cU (op:=.mul) ji (jv 1))) ji) ji) ji))
 (cc (bT m (cU (op:=.mod) (cU (op:=.mod) (cU (op:=.add) (cU (op:=.add) (cU (op:=.mul) (jv 3) (jv 3)) (cU (op:=.mul) ji (jv 3))) (jv 1)) ji) (jv 2)))
 c0))
theorem Bg {k:Nat}(T:TT K mg)(Z:Zt K mg)(IH:IT P w base T k):OT P w base T k 31 :=
 fB 31 (fn:=yQ) (N:=["_law_script","_law_m","_law_many"]) T IH rfl ⟨rfl,rfl,rfl,by decide +kernel,rfl,by decide +kernel,by decide +kernel⟩ rfl rfl rfl fun bD A outer s H E hr m u c cm ck nd=>by
 exact(cc (sg m (cU (op:=.add) (bW (jv 1) ji) ji) (gi (jv 1) ji))
 (cc (bT m (cA (c 30 rfl rfl) (ja (jv 0) (ja (bW (jv 1) ji) (ja (jv 2) an)))))
 c0))
theorem Cy {k:Nat}(T:TT K mg)(Z:Zt K mg)(IH:IT P w base T k):OT P w base T k 32 :=
 fB 32 (fn:=uK) (N:=["_law_script","_law_m","_law_names_here","_law_deep","_law_left","_law_way","_law_one"]) T IH rfl ⟨rfl,rfl,rfl,by decide +kernel,rfl,by decide +kernel,by decide +kernel⟩ rfl rfl rfl fun bD A outer s H E hr m u c cm ck nd=>by
 exact(cc (sn (i:=5) m nd (cA (c 31 rfl rfl) (ja (jv 0) (ja (jv 1) (ja ji an)))))
 (cc (dC m (sE (rT m (dE (o:=.eq) u (jv 3) ji) (rM (dE (o:=.lt) u (jv 5) ji)))) (cc (bT m (jt m (ja js (ja (bW (jv 2) (cA (c 31 rfl rfl) (ja (jv 0) (ja (jv 1) (ja (fF cR eM Z.b_len (ja (jv 2) an)) an))))) an))))
 c0) c0)
 (cc (dC m (dE (o:=.eq) u (jv 5) ji) (cc (bT m (jt m (ja (bW (jl (ja js (ja js an))) (cA (c 31 rfl rfl) (ja (jv 0) (ja (jv 1) (ja ji an))))) an)))
 c0) c0)
 (cc (dC m (sE (Fm m (dE (o:=.gt) u (jv 5) ji) (rM (dE (o:=.gt) u (bW (jv 4) ji) ji)))) (cc (sg m (cU (op:=.sub) (bW (jv 4) ji) ji) (gi (jv 4) ji))
 (cc (sn (i:=6) m nd (cA (c 32 rfl rfl) (ja (jv 0) (ja (jv 1) (ja (jv 2) (ja (cU (op:=.sub) (jv 3) ji) (ja (jv 4) an)))))))
 (cc (dC m (dE (o:=.eq) u (jv 5) ji) (cc (bT m (jt m (ja js (ja (jv 6) (ja (cA (c 32 rfl rfl) (ja (jv 0) (ja (jv 1) (ja (jv 2) (ja (cU (op:=.sub) (jv 3) ji) (ja (jv 4) an)))))) an)))))
 c0) c0)
 (cc (bT m (jt m (ja (bW (jl (ja js (ja js (ja js an)))) (cU (op:=.sub) (jv 5) ji)) (ja (jv 6) an))))
 c0)))) c0)
 (cc (sn (i:=6) m nd (cA (c 32 rfl rfl) (ja (jv 0) (ja (jv 1) (ja (jv 2) (ja (cU (op:=.sub) (jv 3) ji) (ja (jv 4) an)))))))
 (cc (dC m (sE (rT m (dE (o:=.eq) u (jv 5) ji) (rM (dE (o:=.gt) u (jv 5) ji)))) (cc (bT m (jt m (ja js (ja (jv 6) an))))
 c0) c0)
 (cc (bT m (jt m (ja (bW (jl (ja js (ja js (ja js (ja js an))))) (cU (op:=.sub) (jv 5) ji)) (ja (jv 6) (ja (cA (c 32 rfl rfl) (ja (jv 0) (ja (jv 1) (ja (jv 2) (ja (cU (op:=.sub) (jv 3) ji) (ja (jv 4) an)))))) an)))))
 c0)))))))
theorem Dv {k:Nat}(T:TT K mg)(Z:Zt K mg)(IH:IT P w base T k):OT P w base T k 33 :=
 fB 33 (fn:=vY) (N:=["_law_script","_law_m","_law_some","_law_turn","_law_row","_law_foe","_law_friend"]) T IH rfl ⟨rfl,rfl,rfl,by decide +kernel,rfl,by decide +kernel,by decide +kernel⟩ rfl rfl rfl fun bD A outer s H E hr m u c cm ck nd=>by
 exact(cc (sn (i:=2) m nd (jl (ja js (ja js (ja js (ja js (ja js (ja js (ja js (ja js an))))))))))
 (cc (sn (i:=3) m nd (cA (c 31 rfl rfl) (ja (jv 0) (ja (jv 1) (ja ji an)))))
 (cc (sn (i:=4) m nd (cU (op:=.add) (G7 (jv 2) (os (jv 3)) on) (G7 (jv 2) on (os (jv 3)))))
 (cc (sn (i:=5) m nd (cU (op:=.add) ji (cA (c 31 rfl rfl) (ja (jv 0) (ja (jv 1) (ja ji an))))))
 (cc (sn (i:=6) m nd (cU (op:=.add) ji (cA (c 31 rfl rfl) (ja (jv 0) (ja (jv 1) (ja ji an))))))
 (cc (bT m (jt m (ja (zH kK jR Z.b_tuple (ja (G7 (jv 4) on (os (jv 5))) an)) (ja (zH kK jR Z.b_tuple (ja (G7 (jv 4) (os (jv 5)) (os (cU (op:=.add) (jv 5) (jv 6)))) an)) an))))
 c0))))))
noncomputable abbrev Ff:List Str:=["_law_script","_law_at","_law_lamps","_law_most","_law_seed","_law_made","_law_k","_law_drawn"]
theorem Bf {k:Nat}(T:TT K mg)(Z:Zt K mg)(IH:IT P w base T k):OT P w base T k 34 :=
 fB 34 (fn:=xW) (N:=Ff) T IH rfl ⟨rfl,rfl,rfl,by decide +kernel,rfl,by decide +kernel,by decide +kernel⟩ rfl rfl rfl fun bD A outer s H E hr m u c cm ck nd=>by
 exact(cc (sn (i:=4) m nd (cA (c 30 rfl rfl) (ja (jv 0) (ja (jv 1) (ja (cU (op:=.pow) ji ji) an)))))
 (cc (sn (i:=5) m nd (jl an))
 (cc (JP (i:=6) m nd (OI m Z.b_range (ja (cA (c 30 rfl rfl) (ja (jv 0) (ja (cU (op:=.add) (jv 1) ji) (ja (cU (op:=.add) (jv 3) ji) an)))) an)) (cc (RW (i:=7) m nd (cU (op:=.mod) (cU (op:=.mul) (cU (op:=.add) (cU (op:=.add) (jv 4) (cU (op:=.mul) (cU (op:=.mul) ji (jv 6)) (jv 6))) (cU (op:=.mul) ji (jv 6))) ji) ji))
 (cc (sx m (FJ (jv 5) (ja (zH kK jR Z.b_tuple (ja (oE m (own:=["_law_j"]) (cn:=["_law_drawn"]) (aL:=[7]) (one:=true) (mF (on:=(aJ (cD 34)).names) (N:=Ff) (by decide +kernel)) (OI m Z.b_range (ja (jv 2) an)) (fun _ _ _ _=>(b1 (gn (show(["_law_j","_law_drawn"]:List Str).Nodup by decide +kernel)))) (fun _ _ _ _=>qn) (fun _ _ _ _=>(oC (o:=.eq) u (cU (op:=.mod) (cU (op:=.fdiv) (cF 1) (bW (jl (ja ji (ja ji (ja ji (ja ji an))))) (jv 0))) ji) ji))) an)) an)))
 c0)))
 (cc (bT m (jv 5))
 c0))))
noncomputable abbrev XI:List Str:=["_law_names_here","_law_saying_here","_law_play_here","_law_turn","_law_head","_law_k","_law_one","_law_other"]
theorem Bp {k:Nat}(T:TT K mg)(Z:Zt K mg)(IH:IT P w base T k):OT P w base T k 35 :=
 fB 35 (fn:=uR) (N:=XI) T IH rfl ⟨rfl,rfl,rfl,by decide +kernel,rfl,by decide +kernel,by decide +kernel⟩ rfl rfl rfl fun bD A outer s H E hr m u c cm ck nd=>by
 exact(cc (sn (i:=4) m nd (bW (cF 1) ji))
 (cc (dC m (dE (o:=.eq) u (jv 4) js) (cc (bT m (bW (bW (cF 2) (jv 3)) (OM m u (cF 0) (ja (bW (cF 1) ji) an))))
 c0) c0)
 (cc (dC m (sE (rT m (dE (o:=.eq) u (jv 4) js) (rM (dE (o:=.eq) u (jv 4) js)))) (cc (bT m (oC (o:=.eq) u (jv 4) js))
 c0) c0)
 (cc (dC m (dE (o:=.eq) u (jv 4) js) (cc (bT m (lA (oC (o:=.gt) u (jv 3) ji) (jY (cA (c 35 rfl rfl) (ja (cF 0) (ja (bW (cF 1) ji) (ja (cF 2) (ja (cU (op:=.sub) (jv 3) ji) an))))))))
 c0) c0)
 (cc (dC m (dE (o:=.eq) u (jv 4) js) (cc (bT m (oC (o:=.ne) u (oE m (own:=["_law_k"]) (cn:=["_law_names_here","_law_saying_here","_law_play_here"]) (aL:=[0,1,2]) (one:=true) (mF (on:=(aJ (cD 35)).names) (N:=XI) (by decide +kernel)) (OI m Z.b_range (ja (cU (op:=.add) (jv 3) ji) an)) (fun _ _ _ _=>(b1 (gn (show(["_law_k","_law_names_here","_law_saying_here","_law_play_here"]:List Str).Nodup by decide +kernel)))) (fun _ _ _ _=>(qc (tp (cA ((c 35 rfl rfl).wC) (ja (cF 1) (ja (bW (cF 2) ji) (ja (cF 3) (ja (jv 0) an)))))) qn)) (fun _ _ _ _=>(jv 0))) (jl an)))
 c0) c0)
 (cc (dC m (dE (o:=.eq) u (jv 4) js) (cc (bT m (oC (o:=.eq) u (oE m (own:=["_law_k"]) (cn:=["_law_names_here","_law_saying_here","_law_play_here"]) (aL:=[0,1,2]) (one:=true) (mF (on:=(aJ (cD 35)).names) (N:=XI) (by decide +kernel)) (OI m Z.b_range (ja (cU (op:=.add) (jv 3) ji) an)) (fun _ _ _ _=>(b1 (gn (show(["_law_k","_law_names_here","_law_saying_here","_law_play_here"]:List Str).Nodup by decide +kernel)))) (fun _ _ _ _=>(qc (nC (tp (cA ((c 35 rfl rfl).wC) (ja (cF 1) (ja (bW (cF 2) ji) (ja (cF 3) (ja (jv 0) an))))))) qn)) (fun _ _ _ _=>(jv 0))) (jl an)))
 c0) c0)
 (cc (dC m (dE (o:=.eq) u (jv 4) js) (cc (JP (i:=5) m nd (Jc m Z.b_range (ja (jv 3) (ja (ZX ji) (ja (ZX ji) an)))) (cc (dC m (tp (cA (c 35 rfl rfl) (ja (cF 0) (ja (bW (cF 1) ji) (ja (cF 2) (ja (jv 5) an)))))) (cc (bT m jb)
 c0) c0)
 (cc (dC m (nC (tp (cA (c 35 rfl rfl) (ja (cF 0) (ja (bW (cF 1) ji) (ja (cF 2) (ja (jv 5) an))))))) (cc (bT m jb)
 c0) c0)
 c0)))
 (cc (bT m jb)
 c0)) c0)
 (cc (sn (i:=6) m nd (cA (c 35 rfl rfl) (ja (cF 0) (ja (bW (cF 1) ji) (ja (cF 2) (ja (jv 3) an))))))
 (cc (dC m (dE (o:=.eq) u (jv 4) js) (cc (bT m (JC (jv 6)))
 c0) c0)
 (cc (sn (i:=7) m nd (cA (c 35 rfl rfl) (ja (cF 0) (ja (bW (cF 1) ji) (ja (cF 2) (ja (jv 3) an))))))
 (cc (dC m (dE (o:=.eq) u (jv 4) js) (cc (bT m (lA (jv 6) (jY (jv 7))))
 c0) c0)
 (cc (dC m (dE (o:=.eq) u (jv 4) js) (cc (bT m (IE (jv 6) (jY (jv 7))))
 c0) c0)
 (cc (dC m (dE (o:=.eq) u (jv 4) js) (cc (bT m (IE (jv 7) (jY (JC (jv 6)))))
 c0) c0)
 (cc (bT m (oC (o:=.eq) u (jv 6) (jv 7)))
 c0))))))))))))))
theorem Ap {k:Nat}(T:TT K mg)(Z:Zt K mg)(IH:IT P w base T k):OT P w base T k 36 :=
 fB 36 (fn:=R3) (N:=["_law_script","_law_m","_law_foe","_law_friend","_law_names_here","_law_saying_here","_law_play_here","_law_book","_law_turn","_law_said"]) T IH rfl ⟨rfl,rfl,rfl,by decide +kernel,rfl,by decide +kernel,by decide +kernel⟩ rfl rfl rfl fun bD A outer s H E hr m u c cm ck nd=>by
 exact(cc (sn (i:=1) m nd (jl (ja ji an)))
 (cc (sg m (cA (c 33 rfl rfl) (ja (jv 0) (ja (jv 1) an))) (gt (gc (gn (i:=2) nd) (gc (gn (i:=3) nd) nn))))
 (cc (sn (i:=4) m nd (cU (op:=.add) (jv 2) (jv 3)))
 (cc (sn (i:=5) m nd (cA (c 32 rfl rfl) (ja (jv 0) (ja (jv 1) (ja (jv 4) (ja ji (ja (jl (ja ji an)) an)))))))
 (cc (sn (i:=6) m nd (cU (op:=.add) (cA (c 34 rfl rfl) (ja (jv 0) (ja ji (ja (fF cR eM Z.b_len (ja (jv 4) an)) (ja ji an))))) (cA (c 34 rfl rfl) (ja (jv 0) (ja ji (ja (fF cR eM Z.b_len (ja (jv 4) an)) (ja ji an)))))))
 (cc (sn (i:=7) m nd (jt m (ja (jv 2) (ja (jv 3) (ja (jt m an) (ja (jt m an) (ja (jt m (ja (jt m (ja ji (ja (jt m (ja js an)) an))) an)) an)))))))
 (cc (JP (i:=8) m nd (OI m Z.b_range (ja (fF cR eM Z.b_len (ja (jv 6) an)) an)) (cc (sn (i:=9) m nd (cA (c 28 rfl rfl) (ja (jv 7) (ja (jv 5) (ja (G7 (jv 6) on (os (cU (op:=.add) (jv 8) ji))) an)))))
 (cc (dC m (sE (rT m (nC (tp (yB (t:=.bool) B2 Z.b_isinstance Z.b_bool (jv 9)))) (rM (dE (o:=.ne) u (jv 9) (cA (c 35 rfl rfl) (ja (jv 4) (ja (jv 5) (ja (jv 6) (ja (jv 8) an))))))))) (cc (bT m jb)
 c0) c0)
 c0)))
 (cc (bT m jb)
 c0))))))))
theorem Cc {k:Nat}(T:TT K mg)(Z:Zt K mg)(IH:IT P w base T k):mS P w K mg base (2*k+1+1) (aM G (k+1)) 37 :=
 SN (T:=gL) (n:=2) (x:=(.ix (.v 1) (.v 0))) rfl O5 rfl rfl (fun _ _ _ _ us hl=>match us,hl with|[_],_=>rfl) fun clos a c' A outer s H hr=>by
 have m:=lE G (Nat.le_refl k)
 have u:=D2 hr
 have c:=wV (X:=MQ P w K mg base gL clos a c' A outer s H) T IH rfl rfl rfl rfl rfl hr
 have cm:=xI (X:=MQ P w K mg base gL clos a c' A outer s H) T IH rfl rfl rfl rfl rfl hr
 exact(bW (jv 1) (Jj 0))
theorem Gy {k:Nat}(T:TT K mg)(Z:Zt K mg)(IH:IT P w base T k):∀ f Tx,LT f=some Tx->mS P w K mg base (2*k+1+1) (aM G (k+1)) f:=by
 intro f Tx h
 unfold LT at h
 split at h
 ·exact Cc T Z IH
 ·cases h
theorem Ju {k:Nat}(T:TT K mg)(Z:Zt K mg)(B:rD mg base)(TC:∀ i,i<37->∀ c,LU i=some c->(T.fd i).code=.ref c)(IH:IT P w base T k)(IL:XE P w K mg base k):∀ i,i<37->OT P w base T k i
 |0,_=>Ip T Z IH
 |1,_=>Ik T Z IH
 |2,_=>Gv T Z IH
 |3,_=>Gx T Z IH
 |4,_=>Hu T Z IH
 |5,_=>Ga T Z IH
 |6,_=>Ij T Z IH
 |7,_=>Gh T Z IH
 |8,_=>Fu T Z IH
 |9,_=>Ib T Z IH
 |10,_=>Ar T Z IH
 |11,_=>Dh T Z IH
 |12,_=>Du T Z IH
 |13,_=>Dx T Z IH
 |14,_=>Cm T Z IH
 |15,_=>Ea T Z IH
 |16,_=>Et T Z IH
 |17,_=>Eo T Z IH
 |18,_=>Cg T Z IH
 |19,_=>Av T Z IH
 |20,_=>Df T Z IH
 |21,_=>Br T Z IH
 |22,_=>Dy T Z IH
 |23,_=>Bb T Z IH
 |24,_=>El T Z IH
 |25,_=>Ax T Z IH
 |26,_=>En T Z IH
 |27,_=>Co T Z IH IL
 |28,_=>Ay T Z IH B TC
 |29,_=>Dg T Z IH
 |30,_=>Cw T Z IH
 |31,_=>Bg T Z IH
 |32,_=>Cy T Z IH
 |33,_=>Dv T Z IH
 |34,_=>Bf T Z IH
 |35,_=>Bp T Z IH
 |36,_=>Ap T Z IH
 |n+37,h=>absurd h (by omega)
end
theorem P4:∀(ns:List Int)(st:aA),ns.length<=63->(∀ p∈[(jD,250)],∃ P,st P=some (.cod p.1))->aM G 16 RD [.bF (ns.map .int)] st (fun d _=>d=.bl true) fun _ _=>False:=fun ns st _ hc =>
 Dm (k:=0) (G:=G) (κ:=jD) (il:=RD) (inm:=vW) (is:=gG) (ipl:=rC) (iho:=H0) (ih:=eD) (iJ:=gY) (im:=lX) (ic:=sF) (ich:=C3) (ics:=pO) (icp:=rY) (iti:=pW) (itd:=sO) (ihl:=qJ) (ibk:=vP) (iy:=kI) (dP:=gO) (fG:=qB) (ist:=uQ) (iz:=mW) (ie:=nR) (irr:=kE) (iw:=eT) (ipo:=pK) (ima:=lQ) (mG:=qP) (iph:=wL) (inh:=yC)
 (hc _ (List.mem_cons_self ..)) rfl rfl rfl rfl rfl rfl rfl rfl rfl
 (fun b B hs hd hc k st Q E hQ=>J9 (G:=G) (ir:=kR) (fG:=qB) (dP:=gO) (iy:=kI) (ia:=nU) (iap:=rK) (io:=uN) (il:=xX) (iaw:=uV) (ipi:=mW) (ip:=zP) (iw:=DB) (ibk:=vP) (ih:=eT) (ib:=nV) rfl rfl rfl rfl rfl rfl rfl rfl rfl rfl rfl rfl rfl rfl rfl B hs hd hc hQ)
 rfl rfl rfl rfl rfl rfl rfl rfl rfl rfl rfl rfl rfl rfl rfl rfl rfl rfl rfl
theorem G5 {α:Type}{P:List α->Prop}(h:∀ a0,P [a0]):∀ us:List α,us.length=1->P us
 |[a0],_=>h a0
theorem ln2 {α:Type}{P:List α->Prop}(h:∀ a0 a1,P [a0,a1]):∀ us:List α,us.length=2->P us
 |[a0,a1],_=>h a0 a1
theorem uL {α:Type}{P:List α->Prop}(h:∀ a0 a1 a2,P [a0,a1,a2]):∀ us:List α,us.length=3->P us
 |[a0,a1,a2],_=>h a0 a1 a2
theorem Fd {α:Type}{P:List α->Prop}(h:∀ a0 a1 a2 a3,P [a0,a1,a2,a3]):∀ us:List α,us.length=4->P us
 |[a0,a1,a2,a3],_=>h a0 a1 a2 a3
theorem Jw {α:Type}{P:List α->Prop}(h:∀ a0 a1 a2 a3 a4,P [a0,a1,a2,a3,a4]):∀ us:List α,us.length=5->P us
 |[a0,a1,a2,a3,a4],_=>h a0 a1 a2 a3 a4
theorem Fc:∀ i,i<37->BS (oH i) (eV i) (lW i) (cD i)
 |0,_=>fun _ _ _ _ _ _=>G5 fun _=>rfl
 |1,_=>fun _ _ _ _ _ _=>ln2 fun _ _=>rfl
 |2,_=>fun _ _ _ _ _ _=>uL fun _ _ _=>rfl
 |3,_=>fun _ _ _ _ _ _=>ln2 fun _ _=>rfl
 |4,_=>fun _ _ _ _ _ _=>G5 fun _=>rfl
 |5,_=>fun _ _ _ _ _ _=>G5 fun _=>rfl
 |6,_=>fun _ _ _ _ _ _=>uL fun _ _ _=>rfl
 |7,_=>fun _ _ _ _ _ _=>ln2 fun _ _=>rfl
 |8,_=>fun _ _ _ _ _ _=>uL fun _ _ _=>rfl
 |9,_=>fun _ _ _ _ _ _=>ln2 fun _ _=>rfl
 |10,_=>fun _ _ _ _ _ _=>uL fun _ _ _=>rfl
 |11,_=>fun _ _ _ _ _ _=>G5 fun _=>rfl
 |12,_=>fun _ _ _ _ _ _=>ln2 fun _ _=>rfl
 |13,_=>fun _ _ _ _ _ _=>ln2 fun _ _=>rfl
 |14,_=>fun _ _ _ _ _ _=>uL fun _ _ _=>rfl
 |15,_=>fun _ _ _ _ _ _=>G5 fun _=>rfl
 |16,_=>fun _ _ _ _ _ _=>G5 fun _=>rfl
 |17,_=>fun _ _ _ _ _ _=>ln2 fun _ _=>rfl
 |18,_=>fun _ _ _ _ _ _=>uL fun _ _ _=>rfl
 |19,_=>fun _ _ _ _ _ _=>uL fun _ _ _=>rfl
 |20,_=>fun _ _ _ _ _ _=>ln2 fun _ _=>rfl
 |21,_=>fun _ _ _ _ _ _=>ln2 fun _ _=>rfl
 |22,_=>fun _ _ _ _ _ _=>ln2 fun _ _=>rfl
 |23,_=>fun _ _ _ _ _ _=>uL fun _ _ _=>rfl
 |24,_=>fun _ _ _ _ _ _=>ln2 fun _ _=>rfl
 |25,_=>fun _ _ _ _ _ _=>ln2 fun _ _=>rfl
 |26,_=>fun _ _ _ _ _ _=>ln2 fun _ _=>rfl
 |27,_=>fun _ _ _ _ _ _=>uL fun _ _ _=>rfl
 |28,_=>fun _ _ _ _ _ _=>uL fun _ _ _=>rfl
 |29,_=>fun _ _ _ _ _ _=>ln2 fun _ _=>rfl
 |30,_=>fun _ _ _ _ _ _=>uL fun _ _ _=>rfl
 |31,_=>fun _ _ _ _ _ _=>uL fun _ _ _=>rfl
 |32,_=>fun _ _ _ _ _ _=>Jw fun _ _ _ _ _=>rfl
 |33,_=>fun _ _ _ _ _ _=>ln2 fun _ _=>rfl
 |34,_=>fun _ _ _ _ _ _=>Fd fun _ _ _ _=>rfl
 |35,_=>fun _ _ _ _ _ _=>Fd fun _ _ _ _=>rfl
 |36,_=>fun _ _ _ _ _ _=>G5 fun _=>rfl
 |n+37,h=>absurd h (by omega)
noncomputable abbrev FF (K:PySem.W.Frag)(mg:Str->Option Value)(i:Nat):=rP K mg (oH i) (eV i) (cD i) (lP i) (LU i)
theorem Jv {K:PySem.W.Frag}{mg:Str->Option Value}(F0:FF K mg 0)(F1:FF K mg 1)(F2:FF K mg 2)(F3:FF K mg 3)(F4:FF K mg 4)(F5:FF K mg 5)(F6:FF K mg 6)(F7:FF K mg 7)(F8:FF K mg 8)(F9:FF K mg 9)(F10:FF K mg 10)(F11:FF K mg 11)(F12:FF K mg 12)(F13:FF K mg 13)(F14:FF K mg 14)(F15:FF K mg 15)(F16:FF K mg 16)(F17:FF K mg 17)(F18:FF K mg 18)(F19:FF K mg 19)(F20:FF K mg 20)(F21:FF K mg 21)(F22:FF K mg 22)(F23:FF K mg 23)(F24:FF K mg 24)(F25:FF K mg 25)(F26:FF K mg 26)(F27:FF K mg 27)(F28:FF K mg 28)(F29:FF K mg 29)(F30:FF K mg 30)(F31:FF K mg 31)(F32:FF K mg 32)(F33:FF K mg 33)(F34:FF K mg 34)(F35:FF K mg 35)(F36:FF K mg 36):∀ i,i<37->rP K mg (oH i) (eV i) (cD i) (lP i) (LU i)
 |0,_=>F0
 |1,_=>F1
 |2,_=>F2
 |3,_=>F3
 |4,_=>F4
 |5,_=>F5
 |6,_=>F6
 |7,_=>F7
 |8,_=>F8
 |9,_=>F9
 |10,_=>F10
 |11,_=>F11
 |12,_=>F12
 |13,_=>F13
 |14,_=>F14
 |15,_=>F15
 |16,_=>F16
 |17,_=>F17
 |18,_=>F18
 |19,_=>F19
 |20,_=>F20
 |21,_=>F21
 |22,_=>F22
 |23,_=>F23
 |24,_=>F24
 |25,_=>F25
 |26,_=>F26
 |27,_=>F27
 |28,_=>F28
 |29,_=>F29
 |30,_=>F30
 |31,_=>F31
 |32,_=>F32
 |33,_=>F33
 |34,_=>F34
 |35,_=>F35
 |36,_=>F36
 |n+37,h=>absurd h (by omega)
theorem all_mk {P:Program}{w:World}{K:PySem.W.Frag}{mg:Str->Option Value}{fa:Addr}(hfa:mg "law" = some (.ref fa))(Z:Zt K mg)(F:∀ i,i<37->rP K mg (oH i) (eV i) (cD i) (lP i) (LU i)):
 ∃ fd:FuncData,(∀(s:Shared)(u:Value),BindsTo s fd ⟨[u],[]⟩ [("_law_script", u)])/\∀ base:Heap,K.In base->base.Ns mainGlobals mg->rD mg base->eI P w K mg base dB (2*16) fa fd ["_law_script"] (eR K (aM G 16) 36):=by
 obtain⟨_,d,_⟩:=F 0 (by decide)
 obtain⟨T,TC⟩:=G8 37 Fc F d
 have e:=hfa.symm.trans (show mg "law" = some (.ref (T.a 36))from T.mg 36 (by decide))
 cases e
 exact⟨T.fd 36,KA (T.fn 36 (by decide)) (Fc 36 (by decide)),fun base _ _ B=>(BK T (fun k IH IL=>⟨Ju T Z B TC IH IL,Gy T Z IH⟩) 16).1 36 (by decide)⟩
end L3
open PySem PySem.W PyProof.Rows
local macro_rules|`(tactic| walk_at"ft")=>`(tactic| (refine' L3.qC.YG (L3.Bl (by assumption) (by assumption) ?a ?l ?c ?k);(case a=>k_is);(case l=>k_is);(case c=>k_is);(case k=>k_is)))
local macro_rules|`(tactic| walk_at"fi")=>`(tactic| (refine' L3.qC.YG (L3.Ct (by assumption) (by assumption) ?cl ?mk ?kp ?a ?fn ?l ?cc ?k);(case cl=>k_is);(case mk=>k_is);(case kp=>k_is);(case a=>k_is);(case fn=>k_is);(case l=>k_is);(case cc=>k_is);(case k=>k_is)))
local macro_rules|`(tactic| walk_at"fm")=>`(tactic| (refine' L3.qC.YG (L3.Ee (by assumption) (by assumption) ?cl ?pg ?hd ?po ?sa ?a ?fn ?l ?cc ?k);(case cl=>k_is);(case pg=>k_is);(case hd=>k_is);(case po=>k_is);(case sa=>k_is);(case a=>k_is);(case fn=>k_is);(case l=>k_is);(case cc=>k_is);(case k=>k_is)))
local macro_rules|`(tactic| walk_at"fc")=>`(tactic| (refine' L3.WY ?cl ?pg ?hd ?po ?sa;(case cl=>k_is);(case pg=>k_is);(case hd=>k_is);(case po=>k_is);(case sa=>k_is)))
local macro_rules|`(tactic| walk_at"fa")=>`(tactic| (refine' L3.WL ?cl ?na;(case cl=>k_is);(case na=>k_is)))
local macro_rules|`(tactic| walk_at"fn")=>`(tactic| (refine' PySem.W.mg_none_of (by assumption) (by assumption) ?x;(case x=>k_is)))
local macro_rules|`(tactic| walk_at"fg")=>`(tactic| (refine' L3.Z1 (by assumption) (by assumption) ?a;(case a=>k_is)))
def PySem.W.Fast.tw18209657656701445018:Unit:=()
def PySem.W.Fast.tw7062077965980451823:Unit:=()
def PySem.W.Fast.tw7071264151036649535:Unit:=()
def PySem.W.Fast.tw6026856251271287966:Unit:=()
def PySem.W.Fast.tw810463148600535853:Unit:=()
def PySem.W.Fast.tw7965057257567713698:Unit:=()
def PySem.W.Fast.tw13428015820092234701:Unit:=()
def PySem.W.Fast.tw6312339043945801804:Unit:=()
def PySem.W.Fast.tw8990154555735446082:Unit:=()
def PySem.W.Fast.tw6692482707495505289:Unit:=()
def PySem.W.Fast.tw2418104354222860762:Unit:=()
def PySem.W.Fast.tw12964941428085168888:Unit:=()
def PySem.W.Fast.tw4802367677764753713:Unit:=()
def PySem.W.Fast.tw6313092378136639165:Unit:=()
def PySem.W.Fast.tw8973650711995765811:Unit:=()
def PySem.W.Fast.tw3553515822637304733:Unit:=()
def PySem.W.Fast.tw17136759178276707542:Unit:=()
def PySem.W.Fast.tw16188694710100169048:Unit:=()
def PySem.W.Fast.tw6026401408408729303:Unit:=()
def PySem.W.Fast.tw8972125799013278431:Unit:=()
def PySem.W.Fast.tw13152463928382856154:Unit:=()
def PySem.W.Fast.tw10788033687352382818:Unit:=()
def PySem.W.Fast.tw5898890061673099505:Unit:=()
def PySem.W.Fast.tw1200208724885642835:Unit:=()
def PySem.W.Fast.tw2343801284904448390:Unit:=()
def PySem.W.Fast.tw8157228510216497933:Unit:=()
def PySem.W.Fast.tw3897423112304770845:Unit:=()
def PySem.W.Fast.tw1673534905076299340:Unit:=()
def PySem.W.Fast.tw17883261255972123898:Unit:=()
def PySem.W.Fast.tw12651041912243847856:Unit:=()
def PySem.W.Fast.tw10556018754784661839:Unit:=()
def PySem.W.Fast.tw3371764623234965534:Unit:=()
def PySem.W.Fast.tw3707646830268537016:Unit:=()
def PySem.W.Fast.tw4643720396778542204:Unit:=()
def PySem.W.Fast.tw12715207106189822275:Unit:=()
def PySem.W.Fast.tw18444793859625791023:Unit:=()
def PySem.W.Fast.tw833926324723203825:Unit:=()
def PySem.W.Fast.tw16833117220487897494:Unit:=()
def PySem.W.Fast.tw3213084152258412335:Unit:=()
def PySem.W.Fast.tw10858311700003328143:Unit:=()
def PySem.W.Fast.tw16873273636415307931:Unit:=()
def PySem.W.Fast.tw8463239498662389225:Unit:=()
def PySem.W.Fast.tw467171343194773424:Unit:=()
def PySem.W.Fast.tw8052194318808353668:Unit:=()
def PySem.W.Fast.tw15871970400685587777:Unit:=()
def PySem.W.Fast.tw14560841395744672657:Unit:=()
def PySem.W.Fast.tw11095703615263128639:Unit:=()
def PySem.W.Fast.tw5772594159654831744:Unit:=()
def PySem.W.Fast.tw6943667981055844439:Unit:=()
def PySem.W.Fast.tw6945030211989590146:Unit:=()
def PySem.W.Fast.tw17005085337424803506:Unit:=()
def PySem.W.Fast.tw13410819496246064436:Unit:=()
def PySem.W.Fast.tw1286794102417625864:Unit:=()
def PySem.W.Fast.tw4900441783682866301:Unit:=()
def PySem.W.Fast.tw16159067429546478378:Unit:=()
def PySem.W.Fast.tw9664544771098494363:Unit:=()
def PySem.W.Fast.tw15518517949495244995:Unit:=()
def PySem.W.Fast.tw3274497725322468981:Unit:=()
def PySem.W.Fast.tw1821574852879019496:Unit:=()
def PySem.W.Fast.tw2071454452866118764:Unit:=()
def PySem.W.Fast.tw3038230367807286407:Unit:=()
def PySem.W.Fast.tw754470799061148201:Unit:=()
def PySem.W.Fast.tw8639943789706016698:Unit:=()
def PySem.W.Fast.tw6021987003320274768:Unit:=()
def PySem.W.Fast.tw10906596810629645096:Unit:=()
def PySem.W.Fast.tw14828010702687218146:Unit:=()
def PySem.W.Fast.tw18007775825887065020:Unit:=()
def PySem.W.Fast.tw2449605598597749443:Unit:=()
def PySem.W.Fast.tw8984199451289654468:Unit:=()
def PySem.W.Fast.tw5638078826166123070:Unit:=()
def PySem.W.Fast.tw14892644615034010924:Unit:=()
def PySem.W.Fast.tw12643233110961695305:Unit:=()
def PySem.W.Fast.tw251071648910745769:Unit:=()
def PySem.W.Fast.tw17628851633921278468:Unit:=()
def PySem.W.Fast.tw13358976288762696972:Unit:=()
def PySem.W.Fast.tw15963571341822152393:Unit:=()
def PySem.W.Fast.tw4126854908170957770:Unit:=()
set_option maxRecDepth 100000 in
set_option maxHeartbeats 0 in
theorem PySem.Challenge.cw_leastloss_k03_holds_holds : PySem.Challenge.rw_leastloss_k03_holds.Holds := by
 w_on;o_law;k_head;(case hw=>w_witness2)
 k_fill
 refine L3.Cu (tabs:=[(L3.jD,250)]) (l:=PySem.Challenge.rw_leastloss_k03_holds) (x :="_law_script") (r:=2*16) (k:=16) (f:=36) (G:=L3.G) ⟨rfl,by decide,by decide⟩ L3.P4 (by decide) rfl rfl (fun w h Y=>PySem.W.km_in_of Y) (fun w h Y=>List.forall_mem_cons.mpr ⟨PySem.W.km_tabs_of Y 250 (by decide),fun _ h=>nomatch h⟩) ?t2 ?t3 ?F
 case t2=>intro w;refine List.forall_mem_cons.mpr ⟨?_,fun _ h=>nomatch h⟩<;>kernel_rfl
 case t3=>intro w;refine List.forall_mem_cons.mpr ⟨?_,fun _ h=>nomatch h⟩<;>kernel_rfl
 case F =>
 intro w mg fa h KX G hmg
 refine L3.all_mk hmg ?Z (L3.Jv ?F0 ?F1 ?F2 ?F3 ?F4 ?F5 ?F6 ?F7 ?F8 ?F9 ?F10 ?F11 ?F12 ?F13 ?F14 ?F15 ?F16 ?F17 ?F18 ?F19 ?F20 ?F21 ?F22 ?F23 ?F24 ?F25 ?F26 ?F27 ?F28 ?F29 ?F30 ?F31 ?F32 ?F33 ?F34 ?F35 ?F36)
 case Z =>
  refine⟨?b_isinstance,?b_str,?b_len,?b_all,?b_tuple,?b_list,?b_reversed,?b_set,?b_any,?b_int,?b_bool,?b_range,?g_NO_NAMES,?g_LONGEST_NAME,?g_LETTERS,?g_DEEPEST,?g_SAYINGS_WITHIN,?g_PAST_WORDS,?g_MOST_LAMPS,?g_MOST_PROMISES,?g_HIGHEST_PRICE,?g_MOST_WISHES,?g_MOST_MUSTS,?g_MOST_PIECES,?c_Table,?a_Table_names,?a_Table_pieces,?a_Table_rows,?a_Table_row_of,?a_Table_first_memory,?a_Table_remembered_rows⟩
  case b_isinstance=>walk_at"fn"
  case b_str=>walk_at"fn"
  case b_len=>walk_at"fn"
  case b_all=>walk_at"fn"
  case b_tuple=>walk_at"fn"
  case b_list=>walk_at"fn"
  case b_reversed=>walk_at"fn"
  case b_set=>walk_at"fn"
  case b_any=>walk_at"fn"
  case b_int=>walk_at"fn"
  case b_bool=>walk_at"fn"
  case b_range=>walk_at"fn"
  case g_NO_NAMES=>refine' L3.NU KX G ?NO_NAMESa ?NO_NAMESl ?NO_NAMESf ?NO_NAMESz;(case NO_NAMESa=>k_is);(case NO_NAMESl=>k_is);(case NO_NAMESf=>kernel_rfl);(case NO_NAMESz=>kernel_rfl)
  case g_LONGEST_NAME=>walk_at"fg"
  case g_LETTERS=>refine' L3.Ad KX G ?LETTERSa ?LETTERSe;(case LETTERSa=>k_is);(case LETTERSe=>rfl)
  case g_DEEPEST=>walk_at"fg"
  case g_SAYINGS_WITHIN=>refine' L3.ZV KX G ?SAYINGS_WITHINa ?SAYINGS_WITHINl ?SAYINGS_WITHINf;(case SAYINGS_WITHINa=>k_is);(case SAYINGS_WITHINl=>k_is);(case SAYINGS_WITHINf=>kernel_rfl)
  case g_PAST_WORDS=>refine' L3.NU KX G ?PAST_WORDSa ?PAST_WORDSl ?PAST_WORDSf ?PAST_WORDSz;(case PAST_WORDSa=>k_is);(case PAST_WORDSl=>k_is);(case PAST_WORDSf=>kernel_rfl);(case PAST_WORDSz=>kernel_rfl)
  case g_MOST_LAMPS=>walk_at"fg"
  case g_MOST_PROMISES=>walk_at"fg"
  case g_HIGHEST_PRICE=>walk_at"fg"
  case g_MOST_WISHES=>walk_at"fg"
  case g_MOST_MUSTS=>walk_at"fg"
  case g_MOST_PIECES=>walk_at"fg"
  case c_Table=>walk_at"fc"
  case a_Table_names=>walk_at"fa"
  case a_Table_pieces=>walk_at"fa"
  case a_Table_rows=>walk_at"fa"
  case a_Table_row_of=>walk_at"fa"
  case a_Table_first_memory=>walk_at"fa"
  case a_Table_remembered_rows=>walk_at"fa"
 case F0=>walk_at"ft"
 case F1=>walk_at"ft"
 case F2=>walk_at"ft"
 case F3=>walk_at"ft"
 case F4=>walk_at"ft"
 case F5=>walk_at"ft"
 case F6=>walk_at"ft"
 case F7=>walk_at"ft"
 case F8=>walk_at"ft"
 case F9=>walk_at"ft"
 case F10=>walk_at"ft"
 case F11=>walk_at"ft"
 case F12=>walk_at"ft"
 case F13=>walk_at"ft"
 case F14=>walk_at"ft"
 case F15=>walk_at"ft"
 case F16=>walk_at"ft"
 case F17=>walk_at"ft"
 case F18=>walk_at"ft"
 case F19=>walk_at"fi"
 case F20=>walk_at"fm"
 case F21=>walk_at"fm"
 case F22=>walk_at"fm"
 case F23=>walk_at"fm"
 case F24=>walk_at"fm"
 case F25=>walk_at"ft"
 case F26=>walk_at"ft"
 case F27=>walk_at"ft"
 case F28=>refine' L3.WH KX G ?a28 ?l28 ?c28 ?k28;(case a28=>k_is);(case l28=>k_is);(case c28=>k_is);(case k28=>k_is)
 case F29=>walk_at"ft"
 case F30=>walk_at"ft"
 case F31=>walk_at"ft"
 case F32=>walk_at"ft"
 case F33=>walk_at"ft"
 case F34=>walk_at"ft"
 case F35=>walk_at"ft"
 case F36=>walk_at"ft"
