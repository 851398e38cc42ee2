import PyProof.Rows.All
import Wide.All
import OpenK.AllK
import Wide.FinOn
import Lean
import PyProof.EqAt
import PyProof.EqKinds
import PyProof.TupleCall
import PySem.Challenge.RW_leastloss_k07_memory
set_option Elab.async false
set_option genSizeOf false
set_option bootstrap.genMatcherCode false
set_option compiler.extract_closed false
set_option pp.maxSteps 20
set_option linter.all false
set_option maxRecDepth 100000
set_option maxHeartbeats 4000000
section
namespace L2
open PySem PySem.Spec PyProof.Rows
noncomputable abbrev Key:=Sum Int Str
noncomputable def QS:Key->Value->Bool
 |.inl k,v=>Value.isInt k v
 |.inr x,v=>Value.isStrOf x v
noncomputable def Fh (w:World):Key->Int
 |.inl k=>hashInt k
 |.inr x=>hashStr w x
theorem fA:∀{k:Key}{v:Value},QS k v=true->(∃ i t,k=Sum.inl i/\v=Value.int i t)∨(∃ x t,k=Sum.inr x/\v=Value.str x t)
 |.inl i,v,h=>by
  obtain⟨t,e⟩:=Value.isInt_shape (k:=i) (v:=v) h
  exact .inl ⟨i,t,rfl,e⟩
 |.inr x,v,h=>by
  obtain⟨t,e⟩:=Value.isStrOf_shape (x:=x) (v:=v) h
  exact .inr ⟨x,t,rfl,e⟩
theorem WE (a b:Int):decide ((Sum.inl a:Key)=Sum.inl b)=(a==b):=by
 by_cases e:a=b
 ·subst e;simp
 ·have h:¬(Sum.inl a:Key)=Sum.inl b:=fun q=>e (Sum.inl.inj q)
  rw[decide_eq_false h]
  exact(beq_eq_false_iff_ne.mpr e).symm
theorem UJ (a b:Str):decide ((Sum.inr a:Key)=Sum.inr b)=decide (a=b):=by
 by_cases e:a=b
 ·subst e;simp
 ·have h:¬(Sum.inr a:Key)=Sum.inr b:=fun q=>e (Sum.inr.inj q)
  rw[decide_eq_false h,decide_eq_false e]
theorem VT (a:Int)(b:Str):decide ((Sum.inl a:Key)=Sum.inr b)=false:=decide_eq_false (fun q=>nomatch q)
theorem VC (a:Str)(b:Int):decide ((Sum.inr a:Key)=Sum.inl b)=false:=decide_eq_false (fun q=>nomatch q)
noncomputable def BL (prog:Program)(w:World):PySem.KeyKind prog w Key where
 is:=QS
 hash:=Fh w
 inj:=fun v a b ha hb=>by
  rcases fA ha with⟨i,t,rfl,rfl⟩|⟨x,t,rfl,rfl⟩
  ·rcases fA hb with⟨j,u,rfl,e⟩|⟨y,u,rfl,e⟩
   ·injection e with e1 _;rw[e1]
   ·exact nomatch e
  ·rcases fA hb with⟨j,u,rfl,e⟩|⟨y,u,rfl,e⟩
   ·exact nomatch e
   ·injection e with e1 _;rw[e1]
 byValue:=fun k v h=>by
  rcases fA h with⟨i,t,rfl,rfl⟩|⟨x,t,rfl,rfl⟩<;>rfl
 pyHash:=fun hv h=>by
  rcases fA hv with⟨i,t,rfl,rfl⟩|⟨x,t,rfl,rfl⟩
  ·exact wpAny_pyHash_int h
  ·exact wpAny_pyHash_str h
 eqBool:=fun hu hv h=>by
  rcases fA hu with⟨i,t,rfl,rfl⟩|⟨x,t,rfl,rfl⟩
  ·rcases fA hv with⟨j,u,rfl,rfl⟩|⟨y,u,rfl,rfl⟩
   ·rw[WE]at h;exact wpAny_eqBool_int h
   ·rw[VT]at h;exact SeqAt.EqAt.int_str i t y u _ _ _ _ h
  ·rcases fA hv with⟨j,u,rfl,rfl⟩|⟨y,u,rfl,rfl⟩
   ·rw[VC]at h;exact SeqAt.EqAt.str_int x t j u _ _ _ _ h
   ·rw[UJ]at h;exact wpAny_eqBool_str h
 «strs»:=fun k x t v h=>by
  rcases fA h with⟨i,u,rfl,e⟩|⟨y,u,rfl,e⟩
  ·exact nomatch e
  ·injection e with e1 _
   subst e1
   cases v<;>rfl
end L2
namespace L2
open PySem PySem.Spec PyProof.Rows
inductive V where
 |non|bl (b:Bool)|int (i:Int)|str (x:Str)|byt (b:Array UInt8)|flt (b:UInt64)|ref (a:Addr)|ty (n:String)
 deriving DecidableEq
noncomputable def RelV:V->Value->Prop
 |.non,u=>u=Value.none
 |.bl b,u=>u=Value.bool b
 |.int i,u=>∃ t,u=Value.int i t
 |.str x,u=>∃ t,u=Value.str x t
 |.byt b,u=>∃ t,u=Value.bytes b t
 |.flt b,u=>∃ t,u=Value.float b t
 |.ref a,u=>u=Value.ref a
 |.ty n,u=>u=Value.type n
noncomputable abbrev aL:List V->List Value->Prop:=Paired RelV
theorem aL.length {xs:List V}{us:List Value}(r:aL xs us):xs.length=us.length:=Paired.length r
theorem aL.get:∀{xs:List V}{us:List Value}{i:Nat}{x:V},aL xs us->xs[i]? = some x->∃ u,us[i]? = some u/\RelV x u
 |_,_,_,_,.nil,e=>by simp at e
 |_,_,0,_,.cons r _,e=>by simp at e;subst e;exact⟨_,rfl,r⟩
 |_,_,i+1,x,.cons _ t,e=>by
  obtain⟨u,h1,h2⟩:=aL.get (i:=i) (x:=x) t (by simpa using e)
  exact⟨u,by simpa using h1,h2⟩
theorem aL.set {x:V}{u:Value}(r:RelV x u):∀{xs:List V}{us:List Value}(i:Nat),aL xs us->aL (xs.set i x) (us.set i u)
 |_,_,_,.nil=>.nil
 |_,_,0,.cons _ t=>.cons r t
 |_,_,i+1,.cons q t=>.cons q (aL.set r i t)
theorem aL.append:∀{xs ys:List V}{us ws:List Value},aL xs us->aL ys ws->aL (xs++ys) (us++ws)
 |_,_,_,_,.nil,s=>s
 |_,_,_,_,.cons r t,s=>.cons r (aL.append t s)
theorem aL.take:∀{xs:List V}{us:List Value}(n:Nat),aL xs us->aL (xs.take n) (us.take n)
 |_,_,0,_=>.nil
 |_,_,_+1,.nil=>.nil
 |_,_,n+1,.cons r t=>.cons r (aL.take n t)
theorem aL.drop:∀{xs:List V}{us:List Value}(n:Nat),aL xs us->aL (xs.drop n) (us.drop n)
 |_,_,0,r=>r
 |_,_,_+1,.nil=>.nil
 |_,_,n+1,.cons _ t=>aL.drop n t
noncomputable def qS:Option V->Option Value->Prop
 |some v,some u=>RelV v u
 |none,none=>True
 |_,_=>False
noncomputable def KV {κ:Type}:List (κ×V)->List (κ×Value)->Prop:=Paired fun(p:κ×V)(q:κ×Value)=>p.1=q.1/\RelV p.2 q.2
noncomputable def kV:Key->V
 |.inl i=>.int i
 |.inr x=>.str x
inductive HO where
 /-- a list -/
 |lst (xs:List V)
 /-- a tuple (never changes) -/
 |tup (xs:List V)
 /-- a dict whose keys are ints and texts; one whose keys are tuples of ints and texts (the empty one is both) -/
 |dK (gL:List (Key×V))|dT (gL:List (List Key×V))
 /-- a set of ints: aD members, aD size -/
 |set (S:Int->Bool)(n:Nat)
 /-- an instance of the class at C, aD dict at dx, aD attributes -/
 |ins (C dx:Addr)(fs:List (Str×V))
 /-- the dict of the instance at x -/
 |own (x:Addr)
 /-- the dict of an exception -/
 |xd (fs:List (Str×V))
 /-- a bound method, f of x -/
 |met (f x:Addr)
 /-- a range object lo, lo + 1, .. below hi -/
 |rng (lo hi:Int)
 /-- a thing that is known to the object (the script; a dict while a loop walks it): read, never written while it is so -/
 |frz (o:Obj)(u:HO)
 /-- a code object's table -/
 |tbl (ps:Array Value)
 /-- any other thing, by what is true of aD one object (a def of one's own: SetO a S n := HO.ext fun h => ..) -/
 |ext (φ:Program->World->Heap->Prop)
noncomputable abbrev Hp:=Addr->Option HO
noncomputable def upd (H:Hp)(a:Addr)(o:HO):Hp:=fun b=>if b=a then some o else H b
theorem eT {H:Hp}{a:Addr}{o:HO}:upd H a o a=some o:=by unfold upd;rw[if_pos rfl]
theorem bR {H:Hp}{a b:Addr}{o:HO}(h:b≠a):upd H a o b=H b:=by unfold upd;rw[if_neg h]
theorem J9 {H:Hp}{a b:Addr}{o u:HO}(h:H a=some o)(h':H b=some u)(d:o≠u):a≠b:=by
 intro e;subst e;rw[h]at h';exact d (Option.some.inj h')
theorem gU {H:Hp}{a b:Addr}{o:HO}(h:H a=some o)(h':H b=none):a≠b:=by
 intro e;subst e;rw[h]at h';cases h'
noncomputable def nM (h:Heap)(a:Addr)(aD:Array Value):Prop:=∃ o,h.get? a=some o/\o.cls=.type "tuple" /\ (∃ n,o.data=.seq aD n)/\o.dict=none
theorem nM.tup {h:Heap}{a:Addr}{aD:Array Value}:nM h a aD->IsTup h a aD:=fun⟨o,e,c,d,_⟩=>⟨o,e,c,d⟩
theorem nM.lt {h:Heap}{a:Addr}{aD:Array Value}(x:nM h a aD):a<h.objs.size:=x.tup.lt
theorem nM.new (h:Heap)(items:Array Value):nM (h.push { cls:=.type "tuple", data:=.seq items }) h.objs.size items:=⟨_,Heap.get?_push_size _ rfl,rfl,⟨_,rfl⟩,rfl⟩
section
variable (P:Program)(w:World)
noncomputable def iO (H:Hp)(h:Heap)(a:Addr):HO->Prop
 |.lst xs=>xs.length<=sizeLine/\∃(aD:List Value)(n:Nat),aL xs aD/\h.get? a=some { cls:=.type "list", data:=.seq aD.toArray n }
 |.tup xs=>xs.length<=sizeLine/\∃ aD:List Value,aL xs aD/\nM h a aD.toArray
 |.dK gL=>gL.length<=sizeLine/\(a==sysModules)=false/\∃ vs,KV gL vs/\h.DictOf (BL P w) a vs
 |.dT gL=>gL.length<=sizeLine/\(a==sysModules)=false/\∃ xs:List (List Key×Addr×Value),
  Paired (fun(p:List Key×V)(q:List Key×Addr×Value)=>p.1=q.1/\H q.2.1=some (.tup (p.1.map kV))/\RelV p.2 q.2.2) gL xs /\
  ∃ o es ep,h.get? a=some o/\o.ExactDict/\o.data=.dict es ep/\es.toList=xs.map (entryOfKey (tupleKind (BL P w)))/\(xs.map (·.1)).Nodup
 |.set S n=>h.SetOf (intKind P w) a S n
 |.ins C dx fs=>H dx=some (.own a)/\fs.length<=1000/\dx≠a/\h.get? a=some (PySem.W.instObj C dx) /\
  ∃ mA,h.Ns1 dx mA/\(∀ f,qS (fs.lookup f) (mA f))/\PySem.Within mA (fs.map (·.1))
 |.own _=>∃ o,h.get? a=some o
 |.xd fs=>∃ mA,h.Ns1 a mA/\∀ f,qS (fs.lookup f) (mA f)
 |.rng lo hi=>∃ t u v,h.get? a=some { cls:=.type "range", data:=.fields #[.int lo t,.int hi u,.int 1 v] }
 |.frz o u=>h.get? a=some o/\iO H h a u
 |.tbl ps=>h.get? a=some { cls:=.none,data:=.fields ps }
 |.met f x=>h.get? a=some (PySem.W.methodObj (.ref f) (.ref x))
 |.ext φ=>φ P w h/\(∃ o,h.get? a=some o)/\∀ h1 h2:Heap,φ P w h1->(∀ o,h1.get? a=some o->h2.get? a=some o)->φ P w h2
noncomputable def iB (H:Hp)(h:Heap):Prop:=∀ a o,H a=some o->iO P w H h a o
end
section
variable {P:Program}{w:World}{H H':Hp}{h h':Heap}{a:Addr}{o:HO}
theorem iO.lt (x:iO P w H h a o):a<h.objs.size:=by
 cases o with
 |lst xs=>obtain⟨_,_,_,_,e⟩:=x;exact Heap.lt_size e
 |tup xs=>obtain⟨_,_,_,p⟩:=x;exact p.lt
 |dK gL=>obtain⟨_,_,_,_,o,_,_,e,_⟩:=x;exact Heap.lt_size e
 |dT gL=>obtain⟨_,_,_,_,o,_,_,e,_⟩:=x;exact Heap.lt_size e
 |set S n=>obtain⟨o,_,_,_,e,_⟩:=x;exact Heap.lt_size e
 |ins C dx fs=>obtain⟨_,_,_,e,_⟩:=x;exact Heap.lt_size e
 |own y=>obtain⟨_,e⟩:=x;exact Heap.lt_size e
 |xd fs=>obtain⟨_,⟨_,_,_,e,_⟩,_⟩:=x;exact Heap.lt_size e
 |rng lo hi=>obtain⟨_,_,_,e⟩:=x;exact Heap.lt_size e
 |frz ob u=>obtain⟨e,_⟩:=x;exact Heap.lt_size e
 |tbl ps=>exact Heap.lt_size (show h.get? a=some _ from x)
 |met f y=>exact Heap.lt_size (show h.get? a=some _ from x)
 |ext φ=>obtain⟨_,⟨_,e⟩,_⟩:=x;exact Heap.lt_size e
theorem Paired.VY {α β:Type}{F G:α->β->Prop}:∀{l₁:List α}{l₂:List β},Paired F l₁ l₂->(∀ a b,F a b->G a b)->Paired G l₁ l₂
 |_,_,.nil,_=>.nil
 |_,_,.cons r t,f=>.cons (f _ _ r) (Paired.VY t f)
theorem iO.zJ (x:iO P w H h a o)(k:∀ b u,(b=a∨H b=some (.own a))->h.get? b=some u->h'.get? b=some u)
 (ho:∀ b,H b=some (.own a)->H' b=some (.own a))(ht:∀ b xs,H b=some (.tup xs)->H' b=some (.tup xs)):iO P w H' h' a o:=by
 induction o with
 |lst xs=>obtain⟨z,aD,n,r,e⟩:=x;exact⟨z,aD,n,r,k _ _ (.inl rfl) e⟩
 |tup xs=>obtain⟨z,aD,r,ob,e,c⟩:=x;exact⟨z,aD,r,ob,k _ _ (.inl rfl) e,c⟩
 |dK gL=>obtain⟨z,y,vs,r,ob,es,ep,e,c⟩:=x;exact⟨z,y,vs,r,ob,es,ep,k _ _ (.inl rfl) e,c⟩
 |dT gL =>
 obtain⟨z,y,xs,r,ob,es,ep,e,c⟩:=x
 exact⟨z,y,xs,Paired.VY r fun p q z=>⟨z.1,ht _ _ z.2.1,z.2.2⟩,ob,es,ep,k _ _ (.inl rfl) e,c⟩
 |set S n=>obtain⟨ob,es,ep,t,e,c⟩:=x;exact⟨ob,es,ep,t,k _ _ (.inl rfl) e,c⟩
 |ins C dx fs =>
 obtain⟨d,z,ne,e,mA,⟨od,es,ep,e2,c⟩,r⟩:=x
 exact⟨ho _ d,z,ne,k _ _ (.inl rfl) e,mA,⟨od,es,ep,k _ _ (.inr d) e2,c⟩,r⟩
 |own y=>obtain⟨ob,e⟩:=x;exact⟨ob,k _ _ (.inl rfl) e⟩
 |xd fs=>obtain⟨mA,⟨od,es,ep,e,c⟩,r⟩:=x;exact⟨mA,⟨od,es,ep,k _ _ (.inl rfl) e,c⟩,r⟩
 |rng lo hi=>obtain⟨t,u,v,e⟩:=x;exact⟨t,u,v,k _ _ (.inl rfl) e⟩
 |frz ob u ih=>obtain⟨e,q⟩:=x;exact⟨k _ _ (.inl rfl) e,ih q⟩
 |tbl ps =>
 have e:h.get? a=some { cls:=.none,data:=.fields ps }:=x
 show h'.get? a=some { cls:=.none,data:=.fields ps }
 exact k a _ (.inl rfl) e
 |met f y =>
 have e:h.get? a=some (PySem.W.methodObj (.ref f) (.ref y)):=x
 show h'.get? a=some (PySem.W.methodObj (.ref f) (.ref y))
 exact k a _ (.inl rfl) e
 |ext φ=>obtain⟨p,⟨o,e⟩,st⟩:=x;exact⟨st _ _ p fun o q=>k _ _ (.inl rfl) q,⟨o,k _ _ (.inl rfl) e⟩,st⟩
theorem iB.lt (x:iB P w H h)(e:H a=some o):a<h.objs.size:=(x a o e).lt
theorem iB.fresh (x:iB P w H h)(e:h.objs.size<=a):H a=none:=by
 cases q:H a with
 |none=>rfl
 |some u=>exact absurd (Nat.lt_of_lt_of_le (x.lt q) e) (Nat.lt_irrefl _)
theorem iB.kept (x:iB P w H h)(k:∀ b u,h.get? b=some u->h'.get? b=some u):iB P w H h':=fun a o e =>
 (x a o e).zJ (fun b u _ q=>k b u q) (fun _ q=>q) fun _ _ q=>q
theorem iB.laid (x:iB P w H h)(k:∀ b u,h.get? b=some u->h'.get? b=some u)(hp:h.objs.size<=a)(new:iO P w (upd H a o) h' a o):iB P w (upd H a o) h':=fun b u e=>by
 have hn:=x.fresh hp
 by_cases hb:b=a
 ·subst hb;rw[eT]at e;cases e;exact new
 ·rw[bR hb]at e
  exact(x b u e).zJ (fun c v _ q=>k c v q) (fun c q=>by rw[bR (gU q hn)];exact q) fun c xs q=>by rw[bR (gU q hn)];exact q
end
noncomputable def Rd (H:Hp)(a:Addr)(u:HO):Prop:=H a=some u∨∃ o,H a=some (.frz o u)
theorem Rd.ok {P:Program}{w:World}{H:Hp}{h:Heap}{a:Addr}{u:HO}(r:Rd H a u)(x:iB P w H h):iO P w H h a u:=by
 rcases r with r|⟨o,r⟩
 ·exact x a u r
 ·obtain⟨_,q⟩:=x a _ r
  exact q
noncomputable def QK:Option HO->Prop
 |some (.lst _)=>True
 |some (.dK _)=>True
 |some (.dT _)=>True
 |some (.set _ _)=>True
 |some (.ins _ _ _)=>True
 |some (.ext _)=>True
 |_=>False
section
variable {P:Program}{w:World}{H:Hp}{h h':Heap}{x e:Addr}{o':HO}
theorem iB.write (ok:iB P w H h)(mu:QK (H x))(he:e=x∨H e=some (.own x))(k:∀ b u,b≠e->h.get? b=some u->h'.get? b=some u)(heo:∃ u,h'.get? e=some u)
  (new:iO P w (upd H x o') h' x o'):iB P w (upd H x o') h':=fun b u q=>by
 have nown:∀ c y,H c=some (.own y)->c≠x:=fun c y r z=>by subst z;rw[r]at mu;exact mu
 have ntup:∀ c xs,H c=some (.tup xs)->c≠x:=fun c xs r z=>by subst z;rw[r]at mu;exact mu
 by_cases hb:b=x
 ·subst hb;rw[eT]at q;cases q;exact new
 ·rw[bR hb]at q
  by_cases hbe:b=e
  ·have q':H b=some (.own x):=by
    rcases he with z|z
    ·exact absurd (hbe.trans z) hb
    ·rw[hbe];exact z
   rw[q]at q';cases q'
   obtain⟨v,hv⟩:=heo
   exact⟨v,by rw[hbe];exact hv⟩
  ·refine(ok b u q).zJ (fun c v hc r=>k c v ?_ r) (fun c r=>by rw[bR (nown c b r)];exact r) fun c xs r=>by rw[bR (ntup c xs r)];exact r
   rcases hc with rfl|hc
   ·exact hbe
   ·rintro rfl
    rcases he with z|z
    ·exact nown c b hc z
    ·rw[hc]at z;cases z;exact hb rfl
end
structure Un (fs ex:List Addr)(H H':Hp)(h h':Heap):Prop where
 keep:∀ b o,h.get? b=some o->H b=none->b∉fs->b∉ex->h'.get? b=some o
 slot:∀ b o,h.get? b=some o->H b=none->b∈fs->b∉ex->∃ sl,h'.get? b=some { o with slots:=sl }
 free:∀ b o,h.get? b=some o->H b=none->b∉ex->H' b=none
 there:∀ b o,h.get? b=some o->b∉ex->∃ o',h'.get? b=some o'
 tT:∀ b xs,H b=some (.tup xs)->H' b=some (.tup xs)
 qU:∀ b o u,H b=some (.frz o u)->H' b=some (.frz o u)
 tU:∀ b ps,H b=some (.tbl ps)->∃ more,H' b=some (.tbl (ps++more))
section
variable {fs fs' ex ex':List Addr}{H H1 H2:Hp}{h h1 h2 h':Heap}{a x e:Addr}{o:HO}
theorem Un.any (u:Un fs ex H H1 h h1){b:Addr}{ob:Obj}(q:h.get? b=some ob)(n:H b=none)(hx:b∉ex):∃ sl,h1.get? b=some { ob with slots:=sl }:=by
 by_cases hb:b∈fs
 ·exact u.slot b ob q n hb hx
 ·exact⟨ob.slots,u.keep b ob q n hb hx⟩
theorem Un.kept (k:∀ b u,h.get? b=some u->h'.get? b=some u):Un fs ex H H h h' :=
 ⟨fun b ob q _ _ _=>k b ob q,fun b ob q _ _ _=>⟨ob.slots,k b ob q⟩,fun _ _ _ n _=>n,fun b ob q _=>⟨ob,k b ob q⟩,fun _ _ q=>q,fun _ _ _ q=>q,fun _ ps q=>⟨#[],by rw[q];simp⟩⟩
theorem Un.refl:Un fs ex H H h h:=Un.kept fun _ _ q=>q
theorem Un.laid (k:∀ b u,h.get? b=some u->h'.get? b=some u)(hp:h.objs.size<=a)(hn:H a=none):Un fs ex H (upd H a o) h h' where
 keep:=fun b u q _ _ _=>k b u q
 slot:=fun b u q _ _ _=>⟨u.slots,k b u q⟩
 free:=fun b u q n _=>by rw[bR (Nat.ne_of_lt (Nat.lt_of_lt_of_le (Heap.lt_size q) hp))];exact n
 there:=fun b u q _=>⟨u,k b u q⟩
 tT:=fun b xs q=>by rw[bR (gU q hn)];exact q
 qU:=fun b u xs q=>by rw[bR (gU q hn)];exact q
 tU:=fun b ps q=>⟨#[],by rw[bR (gU q hn),q];simp⟩
theorem Un.write (mu:QK (H x))(he:e=x∨H e=some (.own x))(k:∀ b u,b≠e->h.get? b=some u->h'.get? b=some u)(heo:∃ u,h'.get? e=some u):Un fs ex H (upd H x o) h h':=by
 have hx:∀ b,H b=none->b≠x:=fun b n z=>by subst z;rw[n]at mu;exact mu
 have hb:∀ b,H b=none->b≠e:=fun b n z=>by
  subst z
  rcases he with r|r
  ·exact hx b n r
  ·rw[n]at r;cases r
 have hm:∀ b u,H b=some u->¬QK (some u)->b≠x:=fun b u q nm z=>by subst z;rw[q]at mu;exact nm mu
 refine⟨fun b u q n _ _=>k b u (hb b n) q,fun b u q n _ _=>⟨u.slots,k b u (hb b n) q⟩,fun b u q n _=>by rw[bR (hx b n)];exact n,fun b u q _=>?_,
  fun b xs q=>by rw[bR (hm b _ q fun z=>z)];exact q,fun b u xs q=>by rw[bR (hm b _ q fun z=>z)];exact q,fun b ps q=>⟨#[],by rw[bR (hm b _ q fun z=>z),q];simp⟩⟩
 by_cases hbe:b=e
 ·subst hbe;exact heo
 ·exact⟨u,k b u hbe q⟩
end
noncomputable def QP (h:Heap)(H:Hp):List Addr:=(List.range h.objs.size).filter fun a=>(H a).isSome
noncomputable def tE (h:Heap)(H:Hp):Heap:=PySem.W.hideAll h (QP h H)
theorem LB (h:Heap)(H:Hp):(tE h H).objs.size=h.objs.size:=PySem.W.hideAll_size _ _
theorem O4 {h:Heap}{H:Hp}{b:Addr}{o:Obj}(e:h.get? b=some o)(n:H b=none):(tE h H).get? b=some o :=
 PySem.W.hideAll_get _ e fun hm=>by
 have q:(H b).isSome=true:=(List.mem_filter.mp hm).2
 rw[n]at q;simp at q
theorem R7 {h:Heap}{H:Hp}{b:Addr}{o:Obj}(e:(tE h H).get? b=some o):h.get? b=some o/\H b=none:=by
 have e':h.get? b=some o:=PySem.W.of_hideAll (QP h H) e
 refine⟨e',?_⟩
 cases q:H b with
 |none=>rfl
 |some x =>
 have hm:b∈QP h H:=List.mem_filter.mpr ⟨List.mem_range.mpr (Heap.lt_size e'),by simp [q]⟩
 have z:(tE h H).get? b=none:=PySem.W.hideAll_none (QP h H) hm
 rw[z]at e;cases e
noncomputable def RS (g h:Heap)(L:Addr):List (Addr×Obj):=(List.range h.objs.size).filterMap fun a=>if a=L∨(g.get? a).isSome=true then none else(h.get? a).map fun o=>(a,o)
noncomputable def rest (g h:Heap)(L d:Addr):List (Addr×Obj):=(RS g h L).filter fun p=>decide (p.1≠d)
end L2
namespace L2
open PySem PySem.Spec PyProof.Rows
structure Mod (K:PySem.W.Frag)(mg:Str->Option Value)(base:Heap):Prop where
 kin:K.In base
 glob:base.Ns mainGlobals mg
 blt:∃ mb,base.Ns builtinsNs mb/\∀ x:Str,x ≠"__name__" -> mb x=bootBuiltins x
 nolimit:base.NoLimit
structure Cx where
 prog:Program
 w:World
 K:PySem.W.Frag
 mg:Str->Option Value
 base:Heap
 A:Around
 N:List Str
 s₀:Shared
 H₀:Hp
 env:Env
 outer:List Env
 stack:List Env
 ex:List Addr
 fn:Str->Bool
 calm:Bool
 pn:List (Addr×Obj)
 xe:Value->Shared->Prop
noncomputable def uE (l:List Env):List Addr:=l.filterMap (·.frame)
noncomputable abbrev Cx.fs (X:Cx):List Addr:=uE X.outer
noncomputable def W7 (sc:Scope)(x:Str):Prop:=sc.names.lookup x=some .local∨sc.names.lookup x=some .cell∨sc.names.lookup x=some .free
noncomputable def Loc (sc:Scope)(x:Str):Prop:=sc.names.lookup x=some .local∨sc.names.lookup x=some .cell
noncomputable def Look (env:Env)(h:Heap)(m:Str->Option Value)(x:Str)(u:Value):Prop :=
 (env.kindOf x=some .local/\m x=some u)∨((env.kindOf x=some .cell∨env.kindOf x=some .free)/\∃ c,env.cells.lookup x=some c/\h.IsCell c (some u))
structure Cx.Ok (X:Cx):Prop where
 mod:Mod X.K X.mg X.base
 kind:X.env.scope.kind=.function
 glob:X.env.globals=mainGlobals
 blt:X.env.builtins=builtinsNs
 above:X.s₀.heap.objs.size<=X.env.locals
 inj:∀ x y c,X.env.cells.lookup x=some c->X.env.cells.lookup y=some c->x=y
 has:∀ x,(X.env.kindOf x=some .cell∨X.env.kindOf x=some .free)->∃ c,X.env.cells.lookup x=some c
 cab:∀ x c,X.fn x=true->X.env.cells.lookup x=some c->X.s₀.heap.objs.size<=c
 hd:X.calm=true->X.A.handled=none
 frames:X.A.frames=some X.stack
 stk:X.stack=X.outer∨(X.stack=X.env::X.outer/\X.env.frame=some X.env.locals)
 exf:∀ b∈X.ex,b≠X.env.locals/\∀ x c,X.env.cells.lookup x=some c->c≠b
 bs:∀ b o,X.base.get? b=some o->X.s₀.heap.get? b=some o/\X.H₀ b=none
 bsz:X.base.objs.size<=X.s₀.heap.objs.size
 noex:∀ b o,X.base.get? b=some o->b∉X.ex
 exfs:∀ b∈X.ex,b∉X.fs
 mD:X.s₀.heap.FunFrames X.base X.outer
 frf:∀ b∈X.fs,X.H₀ b=none
structure Inv (X:Cx)(pins:List (Addr×Obj))(σ:List (Option V))(H:Hp)(s:Shared):Prop where
 ok:X.Ok
 os:s.os=X.s₀.os
 bare:AllBare s.gens
 base:Un X.fs X.ex X.H₀ H X.s₀.heap s.heap
 loc:∃ m,s.heap.Ns X.env.locals m/\∀(i:Nat)(x:Str)(v:V),X.N[i]? = some x->σ[i]? = some (some v)->W7 X.env.scope x->∃ u,RelV v u/\Look X.env s.heap m x u
 cell:∀ x c,X.env.cells.lookup x=some c->∃ v,s.heap.IsCell c v
 free:H X.env.locals=none
 kI:∀ x c,X.env.cells.lookup x=some c->H c=none
 pin:∀ p∈X.pn++pins,s.heap.get? p.1=some p.2/\H p.1=none/\p.1≠X.env.locals/\p.1∉X.fs/\∀ v,p.2.data≠.cell v
 bY:iB X.prog X.w H s.heap
 len:σ.length=X.N.length
section
variable {X:Cx}{pins:List (Addr×Obj)}{σ:List (Option V)}{H H':Hp}{s:Shared}{h':Heap}
theorem Cx.Ok.Fb (ok:X.Ok){b:Addr}{o:Obj}(e:X.base.get? b=some o):b∉X.fs:=fun hb=>by
 have:=(ok.mD.mem hb).1
 rw[e]at this;cases this
theorem Inv.bs (I:Inv X pins σ H s):∀ b o,X.base.get? b=some o->s.heap.get? b=some o/\H b=none:=fun b o e =>
 ⟨I.base.keep b o (I.ok.bs b o e).1 (I.ok.bs b o e).2 (I.ok.Fb e) (I.ok.noex b o e),I.base.free b o (I.ok.bs b o e).1 (I.ok.bs b o e).2 (I.ok.noex b o e)⟩
theorem Inv.bk (I:Inv X pins σ H s):∀ b o,X.base.get? b=some o->s.heap.get? b=some o:=fun b o e=>(I.bs b o e).1
theorem Inv.mod (I:Inv X pins σ H s):Mod X.K X.mg X.base:=I.ok.mod
theorem Inv.jA (I:Inv X pins σ H s):X.K.In s.heap:=I.ok.mod.kin.keeps I.bk
theorem Inv.fr (I:Inv X pins σ H s):∃ m,Fr X.base X.env.locals s.heap m :=
 let⟨m,hn,_⟩:=I.loc
 ⟨m,hn,I.bk,Nat.le_trans I.ok.bsz I.ok.above⟩
theorem Inv.lt (I:Inv X pins σ H s):X.env.locals<s.heap.objs.size:=let⟨_,hn,_⟩:=I.loc;hn.lt
theorem Inv.sz (I:Inv X pins σ H s):X.s₀.heap.objs.size<=s.heap.objs.size:=Nat.le_trans I.ok.above (Nat.le_of_lt I.lt)
theorem Inv.Y5 (I:Inv X pins σ H s){a:Addr}(h:s.heap.objs.size<=a):a∉X.fs:=fun hb=>by
 obtain⟨_,o,ho,_⟩:=I.ok.mD.mem hb
 exact absurd (Nat.lt_of_lt_of_le (Heap.lt_size ho) (Nat.le_trans I.sz h)) (Nat.lt_irrefl _)
theorem Inv.D7 (I:Inv X pins σ H s):∀ x c,X.env.cells.lookup x=some c->c≠X.env.locals:=fun x c e z=>by
 obtain⟨v,o,ho,hd⟩:=I.cell x c e
 obtain⟨m,⟨o',es,ep,ho',hd',_⟩,_⟩:=I.loc
 rw[z,ho']at ho;cases ho;rw[hd']at hd;cases hd
theorem Inv.mD (I:Inv X pins σ H s):s.heap.FunFrames X.base X.outer:=by
 have all:∀(l:List Env),(∀ b∈uE l,b∈X.fs)->X.s₀.heap.FunFrames X.base l->s.heap.FunFrames X.base l:=by
  intro l
  induction l with
  |nil=>intro _ _;trivial
  |cons env r ih =>
   intro hs hl
   obtain⟨hk,⟨L,o,hf,hn,ho,hd⟩,hr⟩:=hl
   have hL:L∈X.fs:=hs L (by unfold uE;rw[List.filterMap_cons,hf];exact List.mem_cons_self)
   obtain⟨sl,e⟩:=I.base.slot L o ho (I.ok.frf L hL) hL fun z=>I.ok.exfs L z hL
   exact⟨hk,⟨L,_,hf,hn,e,hd⟩,ih (fun b hb=>hs b (by unfold uE;rw[List.filterMap_cons,hf];exact List.mem_cons_of_mem _ hb)) hr⟩
 exact all X.outer (fun _ hb=>hb) I.ok.mD
theorem Inv.stack (I:Inv X pins σ H s):s.heap.FunFrames X.base X.stack:=by
 rcases I.ok.stk with e|⟨e,hf⟩
 ·rw[e];exact I.mD
 ·rw[e]
  obtain⟨m,hn,_⟩:=I.loc
  refine .cons (by rw[I.ok.kind];decide) hf hn ?_ I.mD
  exact Heap.get?_none_of_le (Nat.le_trans I.ok.bsz I.ok.above)
theorem Inv.GJ (I:Inv X pins σ H s):∀ b∈uE X.stack,b∈X.env.locals::X.fs:=fun b hb=>by
 rcases I.ok.stk with e|⟨e,hf⟩
 ·rw[e]at hb;exact List.mem_cons_of_mem _ hb
 ·rw[e]at hb
  unfold uE at hb
  rw[List.filterMap_cons,hf]at hb
  exact hb
theorem Inv.HZ (I:Inv X pins σ H s):∀ b∈uE X.stack,H b=none:=fun b hb=>by
 rcases List.mem_cons.mp (I.GJ b hb)with e|hb
 ·rw[e];exact I.free
 ·obtain⟨_,o,ho,_⟩:=I.ok.mD.mem hb
  exact I.base.free b o ho (I.ok.frf b hb) fun z=>I.ok.exfs b z hb
theorem Inv.step {g':Array GenState}{t':Nat}{d':Drawn}{ch:List Addr}(I:Inv X pins σ H s)
  (hch:∀ b∈ch,(b∈X.ex∨X.s₀.heap.objs.size<=b)/\b≠X.env.locals/\(∀ x c,X.env.cells.lookup x=some c->c≠b)/\∀ p∈X.pn++pins,p.1≠b)
  (keep:∀ b o,b≠X.env.locals->b∉X.fs->b∉ch->s.heap.get? b=some o->H b=none->h'.get? b=some o)
  (slot:∀ b o,b≠X.env.locals->b∈X.fs->b∉ch->s.heap.get? b=some o->H b=none->∃ sl,h'.get? b=some { o with slots:=sl })(free:∀ b o,b∉ch->s.heap.get? b=some o->H b=none->H' b=none)
  (there:∀ b o,b∉ch->s.heap.get? b=some o->∃ o',h'.get? b=some o')
  (tT:∀ b xs,H b=some (.tup xs)->H' b=some (.tup xs))(qU:∀ b o u,H b=some (.frz o u)->H' b=some (.frz o u))(tU:∀ b ps,H b=some (.tbl ps)->∃ more,H' b=some (.tbl (ps++more)))
  (ns:∀ m,s.heap.Ns X.env.locals m->h'.Ns X.env.locals m)(bY:iB X.prog X.w H' h')(hg:AllBare g'):
  Inv X pins σ H' { s with heap:=h',gens:=g',drawn:=d',toks:=t' }:=by
 have neL:∀ b o,X.s₀.heap.get? b=some o->b≠X.env.locals:=fun b o e=>Nat.ne_of_lt (Nat.lt_of_lt_of_le (Heap.lt_size e) I.ok.above)
 have neC:∀ b o,X.s₀.heap.get? b=some o->b∉X.ex->b∉ch:=fun b o e hx hb=>by
  rcases(hch b hb).1 with z|z
  ·exact hx z
  ·exact absurd (Nat.lt_of_lt_of_le (Heap.lt_size e) z) (Nat.lt_irrefl _)
 have cellK:∀ x c,X.env.cells.lookup x=some c->∀ v,s.heap.IsCell c v->h'.IsCell c v:=fun x c e v ⟨o,ho,hd⟩=>by
  have nch:c∉ch:=fun z=>(hch c z).2.2.1 x c e rfl
  by_cases hc:c∈X.fs
  ·obtain⟨sl,q⟩:=slot c o (I.D7 x c e) hc nch ho (I.kI x c e)
   exact⟨_,q,hd⟩
  ·exact⟨o,keep c o (I.D7 x c e) hc nch ho (I.kI x c e),hd⟩
 refine⟨I.ok,I.os,hg,⟨fun b o e n hb hx=>?_,fun b o e n hb hx=>?_,fun b o e n hx=>?_,fun b o e hx=>?_,fun b xs e=>tT b xs (I.base.tT b xs e),fun b o xs e=>qU b o xs (I.base.qU b o xs e),fun b ps e=>?_⟩,?_,fun x c e=>?_,?_,fun x c e=>?_,fun p hp=>?_,bY,I.len⟩
 ·exact keep b o (neL b o e) hb (neC b o e hx) (I.base.keep b o e n hb hx) (I.base.free b o e n hx)
 ·obtain⟨sl,e1⟩:=I.base.slot b o e n hb hx
  obtain⟨sl',e2⟩:=slot b _ (neL b o e) hb (neC b o e hx) e1 (I.base.free b o e n hx)
  exact⟨sl',e2⟩
 ·obtain⟨o',e1⟩:=I.base.there b o e hx
  exact free b o' (neC b o e hx) e1 (I.base.free b o e n hx)
 ·obtain⟨o',e1⟩:=I.base.there b o e hx
  exact there b o' (neC b o e hx) e1
 ·obtain⟨m1,e1⟩:=I.base.tU b ps e
  obtain⟨m2,e2⟩:=tU b _ e1
  exact⟨m1++m2,by rw[e2,Array.append_assoc]⟩
 ·obtain⟨m,hn,hl⟩:=I.loc
  refine⟨m,ns m hn,fun i x v e1 e2 e3=>?_⟩
  obtain⟨u,r,l⟩:=hl i x v e1 e2 e3
  refine⟨u,r,?_⟩
  rcases l with l|⟨k,c,e,z⟩
  ·exact .inl l
  ·exact .inr ⟨k,c,e,cellK x c e _ z⟩
 ·obtain⟨v,z⟩:=I.cell x c e
  exact⟨v,cellK x c e v z⟩
 ·obtain⟨m,⟨o,_,_,ho,_⟩,_⟩:=I.loc
  exact free _ o (fun z=>(hch _ z).2.1 rfl) ho I.free
 ·obtain⟨v,o,ho,hd⟩:=I.cell x c e
  exact free c o (fun z=>(hch c z).2.2.1 x c e rfl) ho (I.kI x c e)
 ·obtain⟨e,n,ne,nf,d⟩:=I.pin p hp
  have nch:p.1∉ch:=fun z=>(hch p.1 z).2.2.2 p hp rfl
  exact⟨keep p.1 p.2 ne nf nch e n,free p.1 p.2 nch e n,ne,nf,d⟩
theorem Inv.un {t':Nat}(I:Inv X pins σ H s)(u:Un X.fs [] H H' s.heap h')(bY:iB X.prog X.w H' h'):Inv X pins σ H' { s with heap:=h',toks:=t' }:=by
 obtain⟨m,⟨o,es,ep,ho,r⟩,_⟩:=id I.loc
 obtain⟨sl,hL⟩:=u.any ho I.free (by simp)
 exact I.step (g':=s.gens) (d':=s.drawn) (ch:=[]) (fun _ z=>nomatch z) (fun b o _ hb _ e n=>u.keep b o e n hb (by simp)) (fun b o _ hb _ e n=>u.slot b o e n hb (by simp)) (fun b o _ e n=>u.free b o e n (by simp)) (fun b o _ e=>u.there b o e (by simp)) u.tT u.qU u.tU (fun m' hm=>by
 obtain⟨o',es',ep',ho',r'⟩:=hm
 rw[ho]at ho';cases ho'
 exact⟨_,es',ep',hL,r'⟩) bY I.bare
theorem Inv.call {g':Array GenState}{t':Nat}{d':Drawn}{ch:List Addr}(I:Inv X pins σ H s)(u:Un (uE X.stack) ch H H' s.heap h')(bY:iB X.prog X.w H' h')(hg:AllBare g')
 (hch:∀ b∈ch,(b∈X.ex∨X.s₀.heap.objs.size<=b)/\b≠X.env.locals/\(∀ x c,X.env.cells.lookup x=some c->c≠b)/\∀ p∈X.pn++pins,p.1≠b):
 Inv X pins σ H' { s with heap:=h',gens:=g',drawn:=d',toks:=t' }:=by
 obtain⟨m,⟨o,es,ep,ho,r⟩,_⟩:=id I.loc
 obtain⟨sl,hL⟩:=u.any ho I.free fun z=>(hch _ z).2.1 rfl
 exact I.step (ch:=ch) hch (fun b o hL hb hc e n=>u.keep b o e n (fun z=>(List.mem_cons.mp (I.GJ b z)).elim hL hb) hc) (fun b o _ _ hc e n=>u.any e n hc) (fun b o hc e n=>u.free b o e n hc) (fun b o hc e=>u.there b o e hc) u.tT u.qU u.tU (fun m' hm=>by
 obtain⟨o',es',ep',ho',r'⟩:=hm
 rw[ho]at ho';cases ho'
 exact⟨_,es',ep',hL,r'⟩) bY hg
theorem Inv.turned {t':Nat}{it:Addr}(I:Inv X pins σ H s)(k:∀ b o,b≠it->s.heap.get? b=some o->h'.get? b=some o)(hn:H it=none)(hL:it≠X.env.locals)
  (h1:it∈X.ex∨X.s₀.heap.objs.size<=it)(h2:∀ x c,X.env.cells.lookup x=some c->c≠it)(h3:∀ p∈X.pn++pins,p.1≠it):Inv X pins σ H { s with heap:=h',toks:=t' }:=by
 have nit:∀ b u,H b=some u->b≠it:=fun b u e z=>by rw[z,hn]at e;cases e
 refine I.step (g':=s.gens) (d':=s.drawn) (ch:=[it]) (fun b hb=>?_) (fun b o _ _ hc e _=>k b o (fun z=>hc (by simp [z])) e) (fun b o _ _ hc e _=>⟨o.slots,k b o (fun z=>hc (by simp [z])) e⟩) (fun _ _ _ _ n=>n)
  (fun b o hc e=>⟨o,k b o (fun z=>hc (by simp [z])) e⟩) (fun _ _ e=>e) (fun _ _ _ e=>e) (fun b ps e=>⟨#[],by rw[e];simp⟩) (fun m hm=>?_) (fun b u e=>?_) I.bare
 ·have e:b=it:=by simpa using hb
  subst e
  exact⟨h1,hL,h2,h3⟩
 ·obtain⟨o,es,ep,ho,r⟩:=hm
  exact⟨o,es,ep,k _ o (Ne.symm hL) ho,r⟩
 ·refine(I.bY b u e).zJ (fun c v hc q=>k c v ?_ q) (fun _ q=>q) fun _ _ q=>q
  rcases hc with z|z
  ·rw[z];exact nit b u e
  ·exact nit c _ z
theorem Inv.tok (I:Inv X pins σ H s)(t:Nat):Inv X pins σ H { s with toks:=t }:=I.un (h':=s.heap) (t':=t) Un.refl I.bY
theorem Inv.kept {t':Nat}(I:Inv X pins σ H s)(k:∀ b u,s.heap.get? b=some u->h'.get? b=some u):Inv X pins σ H { s with heap:=h',toks:=t' }:=I.un (Un.kept k) (I.bY.kept k)
theorem Inv.laid {a:Addr}{o:HO}{t':Nat}(I:Inv X pins σ H s)(k:∀ b u,s.heap.get? b=some u->h'.get? b=some u)(hp:s.heap.objs.size<=a)(new:iO X.prog X.w (upd H a o) h' a o):
 Inv X pins σ (upd H a o) { s with heap:=h',toks:=t' }:=I.un (Un.laid k hp (I.bY.fresh hp)) (I.bY.laid k hp new)
theorem Inv.write {x e:Addr}{o:HO}{t':Nat}(I:Inv X pins σ H s)(mu:QK (H x))(he:e=x∨H e=some (.own x))(k:∀ b u,b≠e->s.heap.get? b=some u->h'.get? b=some u)(heo:∃ u,h'.get? e=some u)
 (new:iO X.prog X.w (upd H x o) h' x o):Inv X pins σ (upd H x o) { s with heap:=h',toks:=t' }:=I.un (Un.write mu he k heo) (I.bY.write mu he k heo new)
theorem Inv.weak {σ':List (Option V)}(I:Inv X pins σ H s)(hl:σ'.length=σ.length)(w:∀(i:Nat) v,σ'[i]? = some (some v)->σ[i]? = some (some v)):Inv X pins σ' H s :=
 ⟨I.ok,I.os,I.bare,I.base,let⟨m,hn,hl'⟩:=I.loc;⟨m,hn,fun i x v e1 e2 e3=>hl' i x v e1 (w i v e2) e3⟩,I.cell,I.free,I.kI,I.pin,I.bY,hl.trans I.len⟩
theorem Inv.HF {pins':List (Addr×Obj)}(I:Inv X pins σ H s)(h:∀ p∈pins',s.heap.get? p.1=some p.2/\H p.1=none/\p.1≠X.env.locals/\p.1∉X.fs/\∀ v,p.2.data≠.cell v):Inv X pins' σ H s :=
 ⟨I.ok,I.os,I.bare,I.base,I.loc,I.cell,I.free,I.kI,fun p hp=>(List.mem_append.mp hp).elim (fun z=>I.pin p (List.mem_append_left _ z)) (h p),I.bY,I.len⟩
theorem FC {N:List Str}(hN:N.Nodup){i j:Nat}{x:Str}(a:N[i]? = some x)(b:N[j]? = some x):i=j:=by
 obtain⟨h1,e1⟩:=List.getElem?_eq_some_iff.mp a
 obtain⟨h2,e2⟩:=List.getElem?_eq_some_iff.mp b
 exact(List.getElem_inj hN).mp (e1.trans e2.symm)
theorem B1 {M:Model}{A:Around}{E:Value->Shared->Prop}{i:Nat}{x:Str}{v:V}{u:Value}{Q:Unit->Shared->Prop}(I:Inv X pins σ H s)(hN:X.N.Nodup)(hi:X.N[i]? = some x)(hx:Loc X.env.scope x)(r:RelV v u)
  (h:∀ s',Inv X pins (σ.set i (some v)) H s'->(∃ a,Heap.SameBut a s.heap s'.heap/\(a=X.env.locals∨X.env.cells.lookup x=some a))->Q () s')(hf:X.fn x=true∨X.env.scope.names.lookup x=some .local:=by first|exact .inl rfl|exact .inr rfl|assumption):wpAny M A (storeName X.env x u) Q E s:=by
 obtain⟨m,hn,hl⟩:=id I.loc
 have hcls:(X.env.scope.kind == .class||(X.env.scope.kind == .module&&X.env.locals != X.env.globals))=false:=by rw[I.ok.kind];rfl
 have hiσ:i<σ.length:=by rw[I.len];exact(List.getElem?_eq_some_iff.mp hi).1
 have D7:=I.D7
 have tracked:∀{a:Addr}{h':Heap},(∃ o,s.heap.get? a=some o/\H a=none)->Heap.SameBut a s.heap h'->iB X.prog X.w H h':=fun{a h'} ha hs b ob e=>by
  obtain⟨_,_,hfree⟩:=ha
  refine(I.bY b ob e).zJ (fun c w' hc q=>(hs.2 c ?_).trans q) (fun _ q=>q) fun _ _ q=>q
  rintro rfl
  rcases hc with rfl|hc
  ·rw[hfree]at e;cases e
  ·rw[hfree]at hc;cases hc
 rcases hx with hk|hk
 ·refine wpAny_storeName_local hk hn (fun h' hn' hs=>?_) hcls
  obtain⟨oL,_,_,hoL,_⟩:=id hn
  refine h _ ⟨I.ok,I.os,I.bare,⟨fun b o e n hb hx=>?_,fun b o e n hb hx=>?_,I.base.free,fun b o e hx=>?_,I.base.tT,I.base.qU,I.base.tU⟩,⟨_,hn',fun j y v' e1 e2 e3=>?_⟩,fun y c e=>?_,I.free,I.kI,fun p hp=>?_,tracked ⟨oL,hoL,I.free⟩ hs,by simpa using I.len⟩ ⟨_,hs,.inl rfl⟩
  ·exact(hs.2 b (Nat.ne_of_lt (Nat.lt_of_lt_of_le (Heap.lt_size e) I.ok.above))).trans (I.base.keep b o e n hb hx)
  ·obtain⟨sl,e1⟩:=I.base.slot b o e n hb hx
   exact⟨sl,(hs.2 b (Nat.ne_of_lt (Nat.lt_of_lt_of_le (Heap.lt_size e) I.ok.above))).trans e1⟩
  ·obtain⟨o',e1⟩:=I.base.there b o e hx
   exact⟨o',(hs.2 b (Nat.ne_of_lt (Nat.lt_of_lt_of_le (Heap.lt_size e) I.ok.above))).trans e1⟩
  ·by_cases hj:j=i
   ·subst hj
    rw[hi]at e1;cases e1
    rw[List.getElem?_set_self hiσ]at e2
    cases e2
    exact⟨u,r,.inl ⟨hk,by simp⟩⟩
   ·rw[List.getElem?_set_ne (Ne.symm hj)]at e2
    obtain⟨u',r',q⟩:=hl j y v' e1 e2 e3
    refine⟨u',r',?_⟩
    rcases q with⟨k,e⟩|⟨k,c,e,z⟩
    ·refine .inl ⟨k,?_⟩
     have:y≠x:=fun e=>hj (FC hN e1 (e▸hi))
     simp [this,e]
    ·exact .inr ⟨k,c,e,z.sameBut hs (D7 y c e)⟩
  ·obtain⟨w',z⟩:=I.cell y c e
   exact⟨w',z.sameBut hs (D7 y c e)⟩
  ·obtain⟨e,n,ne,nf,d⟩:=I.pin p hp
   exact⟨(hs.2 p.1 ne).trans e,n,ne,nf,d⟩
 ·have hfn:X.fn x=true:=by
   rcases hf with z|z
   ·exact z
   ·rw[z]at hk;cases hk
  obtain⟨c,hc⟩:=I.ok.has x (.inl hk)
  obtain⟨w',z⟩:=I.cell x c hc
  refine wpAny_storeName_cell I.ok.kind hk hc z (fun h' hc' hs=>?_)
  obtain⟨oc,hoc,hocd⟩:=id z
  refine h { s with heap:=h' } ⟨I.ok,I.os,I.bare,⟨fun b o e n hb hx=>?_,fun b o e n hb hx=>?_,I.base.free,fun b o e hx=>?_,I.base.tT,I.base.qU,I.base.tU⟩,⟨m,hn.sameBut hs (Ne.symm (D7 x c hc)),fun j y v' e1 e2 e3=>?_⟩,fun y c' e=>?_,I.free,I.kI,fun p hp=>?_,tracked ⟨oc,hoc,I.kI x c hc⟩ hs,by simpa using I.len⟩ ⟨c,hs,.inr hc⟩
  ·exact(hs.2 b (Nat.ne_of_lt (Nat.lt_of_lt_of_le (Heap.lt_size e) (I.ok.cab x c hfn hc)))).trans (I.base.keep b o e n hb hx)
  ·obtain⟨sl,e1⟩:=I.base.slot b o e n hb hx
   exact⟨sl,(hs.2 b (Nat.ne_of_lt (Nat.lt_of_lt_of_le (Heap.lt_size e) (I.ok.cab x c hfn hc)))).trans e1⟩
  ·obtain⟨o',e1⟩:=I.base.there b o e hx
   exact⟨o',(hs.2 b (Nat.ne_of_lt (Nat.lt_of_lt_of_le (Heap.lt_size e) (I.ok.cab x c hfn hc)))).trans e1⟩
  ·by_cases hj:j=i
   ·subst hj
    rw[hi]at e1;cases e1
    rw[List.getElem?_set_self hiσ]at e2
    cases e2
    exact⟨u,r,.inr ⟨.inl hk,c,hc,hc'⟩⟩
   ·rw[List.getElem?_set_ne (Ne.symm hj)]at e2
    obtain⟨u',r',q⟩:=hl j y v' e1 e2 e3
    refine⟨u',r',?_⟩
    rcases q with q|⟨k,c',e,z'⟩
    ·exact .inl q
    ·refine .inr ⟨k,c',e,z'.sameBut hs ?_⟩
     rintro rfl
     exact hj (FC hN e1 (I.ok.inj _ _ _ e hc▸hi))
  ·by_cases hcc:c'=c
   ·subst hcc;exact⟨_,hc'⟩
   ·obtain⟨w2,z2⟩:=I.cell y c' e
    exact⟨w2,z2.sameBut hs hcc⟩
  ·obtain⟨e,n,ne,nf,d⟩:=I.pin p hp
   refine⟨(hs.2 p.1 ?_).trans e,n,ne,nf,d⟩
   intro q
   rw[q,hoc]at e
   have q':oc=p.2:=Option.some.inj e
   exact d w' (by rw[<-q'];exact hocd)
theorem N8 {M:Model}{A:Around}{E:Value->Shared->Prop}{i:Nat}{x:Str}{v:V}{u:Value}{Q:Unit->Shared->Prop}(I:Inv X pins σ H s)(hN:X.N.Nodup)(hi:X.N[i]? = some x)(hx:Loc X.env.scope x)(r:RelV v u)
 (h:∀ s',Inv X pins (σ.set i (some v)) H s'->Q () s')(hf:X.fn x=true∨X.env.scope.names.lookup x=some .local:=by first|exact .inl rfl|exact .inr rfl|assumption):wpAny M A (storeName X.env x u) Q E s :=
 B1 I hN hi hx r (fun s' I' _=>h s' I') hf
theorem Inv.Aq {s':Shared}{ch:List Addr}(I:Inv X pins σ H s)(ho:s'.os=s.os)(u:Un (uE X.stack) ch H H' s.heap s'.heap)(bY:iB X.prog X.w H' s'.heap)(hg:AllBare s'.gens)
 (hch:∀ b∈ch,(b∈X.ex∨X.s₀.heap.objs.size<=b)/\b≠X.env.locals/\(∀ x c,X.env.cells.lookup x=some c->c≠b)/\∀ p∈X.pn++pins,p.1≠b):Inv X pins σ H' s':=by
 obtain⟨h',g',d',t',o'⟩:=s'
 have e:o'=s.os:=ho
 subst e
 exact I.call (g':=g') (t':=t') (d':=d') u bY hg hch
end
noncomputable abbrev XK:=Value->Option Addr->Hp->Prop
noncomputable abbrev St:=List (Option V)
noncomputable abbrev VK:=V->Hp->Prop
noncomputable abbrev TE:=St->Hp->VK->Prop
noncomputable abbrev TT:=St->Hp->(Bool->Hp->Prop)->Prop
noncomputable abbrev TA:=St->Hp->(List V->Hp->Prop)->Prop
structure Ends where
 nx:St->Hp->Prop
 rt:VK
 bk:St->Hp->Prop:=fun _ _=>False
 ct:St->Hp->Prop:=fun _ _=>False
noncomputable abbrev TS:=Ends->St->Hp->Prop
inductive EP (X:Cx)(pins:List (Addr×Obj))(σ:St)(Q:VK)(u:Value)(s':Shared):Prop
 |mk (v:V)(H':Hp)(i:Inv X pins σ H' s')(r:RelV v u)(q:Q v H')
inductive TP (X:Cx)(pins:List (Addr×Obj))(σ:St)(Q:Bool->Hp->Prop)(b:Bool)(s':Shared):Prop
 |mk (H':Hp)(i:Inv X pins σ H' s')(q:Q b H')
inductive AP (X:Cx)(pins:List (Addr×Obj))(σ:St)(Q:List V->Hp->Prop)(us:List Value)(s':Shared):Prop
 |mk (vs:List V)(H':Hp)(i:Inv X pins σ H' s')(r:aL vs us)(q:Q vs H')
noncomputable def SP (X:Cx)(pins:List (Addr×Obj))(D:Ends)(f:Flow)(s':Shared):Prop :=
 match f with
 |.next=>∃ σ' H',Inv X pins σ' H' s'/\D.nx σ' H'
 |.brk=>∃ σ' H',Inv X pins σ' H' s'/\D.bk σ' H'
 |.cont=>∃ σ' H',Inv X pins σ' H' s'/\D.ct σ' H'
 |.ret u=>∃ v σ' H',Inv X pins σ' H' s'/\RelV v u/\D.rt v H'
noncomputable def PE (X:Cx)(e:Expr)(t:TE):Prop :=
 ∀(pins:List (Addr×Obj))(s:Shared)(σ:St)(H:Hp)(Q:VK),Inv X pins σ H s->t σ H Q->wpAny (model X.prog X.w) X.A (eval e X.env) (EP X pins σ Q) X.xe s
noncomputable def PT (X:Cx)(e:Expr)(t:TT):Prop :=
 ∀(pins:List (Addr×Obj))(s:Shared)(σ:St)(H:Hp)(Q:Bool->Hp->Prop),Inv X pins σ H s->t σ H Q->wpAny (model X.prog X.w) X.A (isTrue e X.env (eval e X.env)) (TP X pins σ Q) X.xe s
noncomputable def PW (X:Cx)(e:Expr)(t:TT):Prop :=
 ∀(whole:Sem Value)(pins:List (Addr×Obj))(s:Shared)(σ:St)(H:Hp)(Q:Bool->Hp->Prop),Inv X pins σ H s->t σ H Q->wpAny (model X.prog X.w) X.A (isTrue e X.env whole) (TP X pins σ Q) X.xe s
theorem PW.pt {X:Cx}{e:Expr}{t:TT}(h:PW X e t):PT X e t:=h _
noncomputable def PA (X:Cx)(es:List Expr)(t:TA):Prop :=
 ∀(pos:Pos)(pins:List (Addr×Obj))(s:Shared)(σ:St)(H:Hp)(Q:List V->Hp->Prop),Inv X pins σ H s->t σ H Q->wpAny (model X.prog X.w) X.A (spliced (backTo pos (starEach es X.env))) (AP X pins σ Q) X.xe s
noncomputable def PS (X:Cx)(st:Stmt)(t:TS):Prop :=
 ∀(pins:List (Addr×Obj))(s:Shared)(σ:St)(H:Hp)(D:Ends),Inv X pins σ H s->t D σ H->wpAny (model X.prog X.w) X.A (exec st X.env) (SP X pins D) X.xe s
noncomputable def jQ (X:Cx)(st:List Stmt)(t:TS):Prop :=
 ∀(pins:List (Addr×Obj))(s:Shared)(σ:St)(H:Hp)(D:Ends),Inv X pins σ H s->t D σ H->wpAny (model X.prog X.w) X.A (execs st X.env) (SP X pins D) X.xe s
theorem aW {α:Type}{t:Sem α}{Q Q':α->Shared->Prop}{M:Model}{A:Around}{E:Value->Shared->Prop}{s:Shared}(h:wpAny M A t Q E s)(hQ:∀ a s,Q a s->Q' a s):wpAny M A t Q' E s:=wpAny_mono h hQ fun _ _ x=>x
end L2
namespace L2
open PySem PySem.Spec PyProof.Rows
section
variable {X:Cx}
theorem bin {a b:Expr}{ta tb:TE}(ha:PE X a ta)(hb:PE X b tb){pins:List (Addr×Obj)}{s:Shared}{σ:St}{H:Hp}{R:V->V->Hp->Prop}(I:Inv X pins σ H s)(h:ta σ H fun x H1=>tb σ H1 fun y H2=>R x y H2)
 {α:Type}{Q:α->Shared->Prop}{f:Value->Value->Sem α}
 (hf:∀ v u s2 x y H2,Inv X pins σ H2 s2->RelV x v->RelV y u->R x y H2->wpAny (model X.prog X.w) X.A (f v u) Q X.xe s2):
 wpAny (model X.prog X.w) X.A (eval a X.env) (fun v s₁=>wpAny (model X.prog X.w) X.A (eval b X.env) (fun u s₂=>wpAny (model X.prog X.w) X.A (f v u) Q X.xe s₂) X.xe s₁) X.xe s:=by
 refine aW (ha pins s σ H _ I h) fun v s1 ⟨x,H1,I1,r1,q1⟩=>?_
 refine aW (hb pins s1 σ H1 _ I1 q1) fun u s2 ⟨y,H2,I2,r2,q2⟩=>?_
 exact hf v u s2 x y H2 I2 r1 r2 q2
noncomputable def OX (i:Nat):TE:=fun σ H Q=>∃ v,σ[i]? = some (some v)/\Q v H
noncomputable def tC (v:V):TE:=fun _ H Q=>Q v H
theorem YY {i:Nat}{x:Str}{pos:Pos}(hN:X.N[i]? = some x)(hv:W7 X.env.scope x)(hd:(x==("__debug__" : Str))=false:=by decide)(hcd:(x==("__classdict__" : Str))=false:=by decide):PE X (.Name x pos) (OX i):=by
 intro pins s σ H Q I h
 obtain⟨v,e,h⟩:=h
 obtain⟨m,hn,hl⟩:=I.loc
 obtain⟨u,r,l⟩:=hl i x v hN e hv
 have fin:EP X pins σ Q u s:=⟨v,H,I,r,h⟩
 rcases l with⟨hk,hm⟩|⟨hk,c,hc,hcell⟩
 ·exact wpAny_Name (wpAny_loadName_local I.ok.kind hk hn hm fin) hd
 ·rcases hk with hk|hk
  ·exact wpAny_Name (wpAny_loadName_cell I.ok.kind hk hc hcell fin) hd
  ·exact wpAny_Name (wpAny_loadName_free I.ok.kind hk hc hcell fin hcd) hd
theorem U3 {i j pos}:PE X (.Constant (.int i) j pos) (tC (.int i)):=fun _ _ _ H _ I h=>wpAny_Constant_int ⟨.int i,H,I.tok _,⟨_,rfl⟩,h⟩
theorem Aa {b j pos}:PE X (.Constant (.bool b) j pos) (tC (.bl b)):=fun _ _ _ H _ I h=>Constant_bool ⟨.bl b,H,I,rfl,h⟩
theorem XD {j pos}:PE X (.Constant .none j pos) (tC .non):=fun _ _ _ H _ I h=>Constant_none ⟨.non,H,I,rfl,h⟩
theorem W6 {x j pos}:PE X (.Constant (.str x) j pos) (tC (.str x)):=fun _ _ _ H _ I h=>Calls.Constant_str ⟨.str x,H,I.tok _,⟨_,rfl⟩,h⟩
noncomputable def Gl (X:Cx)(x:Str):Prop:=X.env.kindOf x=some .globalImplicit
theorem A6 {E:Value->Shared->Prop}{pins:List (Addr×Obj)}{s:Shared}{σ:St}{H:Hp}{x:Str}{u:Value}{pos:Pos}{Q:Value->Shared->Prop}(I:Inv X pins σ H s)(hg:Gl X x)(hm:X.mg x=some u)(h:Q u s)
 (hd:(x==("__debug__" : Str))=false:=by decide):wpAny (model X.prog X.w) X.A (eval (.Name x pos) X.env) Q E s :=
 Calls.Name_function_global I.ok.kind hg (Calls.loadGlobal_global (by rw[I.ok.glob];exact I.mod.glob.keeps I.bk) hm h) hd
theorem lD {E:Value->Shared->Prop}{pins:List (Addr×Obj)}{s:Shared}{σ:St}{H:Hp}{x:Str}{u:Value}{pos:Pos}{Q:Value->Shared->Prop}(I:Inv X pins σ H s)(hg:Gl X x)(hm:X.mg x=none)(hv:bootBuiltins x=some u)(h:Q u s)
 (hn:x ≠"__name__":=by decide)(hd:(x==("__debug__" : Str))=false:=by decide):wpAny (model X.prog X.w) X.A (eval (.Name x pos) X.env) Q E s:=by
 obtain⟨mb,h1,h2⟩:=I.mod.blt
 exact Calls.Name_function_global I.ok.kind hg (Calls.loadGlobal_builtin (by rw[I.ok.glob];exact I.mod.glob.keeps I.bk) hm (by rw[I.ok.blt];exact h1.keeps I.bk) ((h2 x hn).trans hv) h) hd
theorem Q0 {x:Str}{v:V}{u:Value}{pos:Pos}(hg:Gl X x)(hm:X.mg x=some u)(r:RelV v u)(hd:(x==("__debug__" : Str))=false:=by decide):PE X (.Name x pos) (tC v) :=
 fun _ _ _ H _ I h=>A6 I hg hm ⟨v,H,I,r,h⟩ hd
theorem R4 {x:Str}{v:V}{u:Value}{pos:Pos}(hg:Gl X x)(hm:X.mg x=none)(hv:bootBuiltins x=some u)(r:RelV v u)(hn:x ≠"__name__":=by decide)(hd:(x==("__debug__" : Str))=false:=by decide):PE X (.Name x pos) (tC v) :=
 fun _ _ _ H _ I h=>lD I hg hm hv ⟨v,H,I,r,h⟩ hn hd
variable {a b:Expr}{ta tb:TE}{pos:Pos}
theorem RelV.OW {x:V}{v:Value}(r:RelV x v):(v==Value.none)=decide (x=.non):=by
 cases x with
 |non=>cases r;rfl
 |bl _=>cases r;rfl
 |int _=>obtain⟨t,rfl⟩:=r;rfl
 |str _=>obtain⟨t,rfl⟩:=r;rfl
 |byt _=>obtain⟨t,rfl⟩:=r;rfl
 |flt _=>obtain⟨t,rfl⟩:=r;rfl
 |ref _=>cases r;rfl
 |ty _=>cases r;rfl
variable {tA tB':TT}{rest:List Expr}
noncomputable def Fq (t u:TT):TT:=fun σ H Q=>t σ H fun c H1=>if c=true then u σ H1 Q else Q false H1
noncomputable def Hm (t u:TT):TT:=fun σ H Q=>t σ H fun c H1=>if c=true then Q true H1 else u σ H1 Q
noncomputable def Gn (t:TT):TT:=fun σ H Q=>t σ H fun c H1=>Q (!c) H1
theorem SN (ha:PT X a tA):PW X (.BoolOp .And [a] pos) tA:=by
 intro wh pins s σ H Q I h
 refine isTrue_and (aW (ha pins s σ H Q I h) fun c s1 e=>?_)
 cases c with
 |true=>exact isTrue_and_nil e
 |false=>exact e
theorem XW (ha:PT X a tA):PW X (.BoolOp .Or [a] pos) tA:=by
 intro wh pins s σ H Q I h
 refine isTrue_or (aW (ha pins s σ H Q I h) fun c s1 e=>?_)
 cases c with
 |false=>exact isTrue_or_nil e
 |true=>exact e
theorem YW (ha:PT X a tA)(hb:PW X (.BoolOp .And (b::rest) pos) tB'):PW X (.BoolOp .And (a::b::rest) pos) (Fq tA tB'):=by
 intro wh pins s σ H Q I h
 refine isTrue_and (aW (ha pins s σ H _ I h) fun c s1 ⟨H1,I1,q1⟩=>?_)
 cases c with
 |true=>exact hb wh pins s1 σ H1 Q I1 q1
 |false=>exact⟨H1,I1,q1⟩
theorem Bf (ha:PT X a tA)(hb:PW X (.BoolOp .Or (b::rest) pos) tB'):PW X (.BoolOp .Or (a::b::rest) pos) (Hm tA tB'):=by
 intro wh pins s σ H Q I h
 refine isTrue_or (aW (ha pins s σ H _ I h) fun c s1 ⟨H1,I1,q1⟩=>?_)
 cases c with
 |true=>exact⟨H1,I1,q1⟩
 |false=>exact hb wh pins s1 σ H1 Q I1 q1
theorem VE (ha:PT X a tA):PT X (.UnaryOp .Not a pos) (Gn tA):=by
 intro pins s σ H Q I h
 exact isTrue_not (aW (ha pins s σ H (fun c H1=>Q (!c) H1) I h) fun c s1 ⟨H1,I1,q⟩=>⟨H1,I1,q⟩)
theorem WV {op}{t:TE}(h:PE X a t):PE X (.BoolOp op [a] pos) t:=fun pins s σ H Q I hw=>BoolOp_one (h pins s σ H Q I hw)
end
end L2
namespace L2
open PySem PySem.Spec PyProof.Rows
noncomputable def cZ (K:PySem.W.Frag)(H:Hp)(a:Addr)(xs:List V):Prop :=
 Rd H a (.lst xs) ∨
 ∃(o:Obj)(aD:Array Value)(n:Nat),K.lookup a=some o/\o.cls=.type "list" /\ o.dict=none/\o.data=.seq aD n/\aD.size<=sizeLine/\aL xs aD.toList
noncomputable def dP (K:PySem.W.Frag)(H:Hp)(a:Addr)(xs:List V):Prop :=
 Rd H a (.tup xs) ∨
 ∃(o:Obj)(aD:Array Value)(n:Nat),K.lookup a=some o/\o.cls=.type "tuple" /\ o.dict=none/\o.data=.seq aD n/\aD.size<=sizeLine/\aL xs aD.toList
noncomputable def Gm:Value->Option V
 |.none=>some .non
 |.bool b=>some (.bl b)
 |.int i _=>some (.int i)
 |.str x _=>some (.str x)
 |.bytes b _=>some (.byt b)
 |.float b _=>some (.flt b)
 |.ref a=>some (.ref a)
 |.type n=>some (.ty n)
 |_=>none
theorem RelV.abs {x:V}{u:Value}(r:RelV x u):Gm u=some x:=by
 cases x with
 |non=>cases r;rfl
 |bl _=>cases r;rfl
 |int _=>obtain⟨t,rfl⟩:=r;rfl
 |str _=>obtain⟨t,rfl⟩:=r;rfl
 |byt _=>obtain⟨t,rfl⟩:=r;rfl
 |flt _=>obtain⟨t,rfl⟩:=r;rfl
 |ref _=>cases r;rfl
 |ty _=>cases r;rfl
theorem RelV.inj {x y:V}{u:Value}(r:RelV x u)(q:RelV y u):x=y:=Option.some.inj (r.abs.symm.trans q.abs)
theorem aL.inj:∀{xs ys:List V}{us:List Value},aL xs us->aL ys us->xs=ys
 |_,_,_,.nil,.nil=>rfl
 |_,_,_,.cons r t,.cons r' t'=>by rw[r.inj r',aL.inj t t']
section
variable {X:Cx}{pins:List (Addr×Obj)}{σ:St}{H:Hp}{s:Shared}{a:Addr}{xs ys:List V}
theorem cZ.of {K:PySem.W.Frag}(h:H a=some (.lst xs)):cZ K H a xs:=.inl (.inl h)
theorem dP.of {K:PySem.W.Frag}(h:H a=some (.tup xs)):dP K H a xs:=.inl (.inl h)
theorem Inv.list (I:Inv X pins σ H s)(h:cZ X.K H a xs):∃ aD:List Value,aL xs aD/\PlainL s.heap a aD.toArray/\xs.length<=sizeLine:=by
 rcases h with h|⟨o,aD,n,hk,hc,hd,hs,hz,r⟩
 ·obtain⟨z,aD,n,r,e⟩:=h.ok I.bY
  exact⟨aD,r,⟨_,n,e,rfl,rfl,rfl⟩,z⟩
 ·refine⟨aD.toList,r,⟨o,n,I.jA a o hk,hc,hd,by simpa using hs⟩,?_⟩
  have e:=r.length
  simp only[Array.length_toList]at e
  omega
theorem Inv.tuple (I:Inv X pins σ H s)(h:dP X.K H a xs):∃ aD:List Value,aL xs aD/\IsTup s.heap a aD.toArray/\xs.length<=sizeLine:=by
 rcases h with h|⟨o,aD,n,hk,hc,_,hs,hz,r⟩
 ·obtain⟨z,aD,r,p⟩:=h.ok I.bY
  exact⟨aD,r,p.tup,z⟩
 ·refine⟨aD.toList,r,⟨o,I.jA a o hk,hc,n,by simpa using hs⟩,?_⟩
  have e:=r.length
  simp only[Array.length_toList]at e
  omega
theorem Inv.oH (I:Inv X pins σ H s)(h:cZ X.K H a xs)(h':cZ X.K H a ys):xs=ys:=by
 obtain⟨aD,r,⟨o,n,e,_,_,d⟩,_⟩:=I.list h
 obtain⟨jX,r',⟨o',n',e',_,_,d'⟩,_⟩:=I.list h'
 rw[e]at e';cases e'
 rw[d]at d'
 injection d' with d1 _
 have:aD=jX:=by simpa using congrArg Array.toList d1
 subst this
 exact r.inj r'
theorem Inv.Cf (I:Inv X pins σ H s)(h:dP X.K H a xs):∃ o,s.heap.get? a=some o/\o.dict=none:=by
 rcases h with h|⟨o,aD,n,hk,hc,hd,hs,hz,r⟩
 ·obtain⟨z,aD,r,o,e,_,_,d⟩:=h.ok I.bY
  exact⟨o,e,d⟩
 ·exact⟨o,I.jA a o hk,hd⟩
theorem Inv.pW (I:Inv X pins σ H s)(h:dP X.K H a xs)(h':dP X.K H a ys):xs=ys:=by
 obtain⟨aD,r,⟨o,e,_,n,d⟩,_⟩:=I.tuple h
 obtain⟨jX,r',⟨o',e',_,n',d'⟩,_⟩:=I.tuple h'
 rw[e]at e';cases e'
 rw[d]at d'
 injection d' with d1 _
 have:aD=jX:=by simpa using congrArg Array.toList d1
 subst this
 exact r.inj r'
end
noncomputable abbrev Cx.qP (X:Cx)(E:Value->Shared->Prop):Cx:={ X with xe:=E }
noncomputable abbrev Cx.uG (X:Cx):Cx:=X.qP fun _ _=>False
theorem Cx.Ok.qP {X:Cx}(ok:X.Ok)(E:Value->Shared->Prop):(X.qP E).Ok :=
 ⟨ok.mod,ok.kind,ok.glob,ok.blt,ok.above,ok.inj,ok.has,ok.cab,ok.hd,ok.frames,ok.stk,ok.exf,ok.bs,ok.bsz,ok.noex,ok.exfs,ok.mD,ok.frf⟩
theorem Cx.Ok.nA {X:Cx}{E:Value->Shared->Prop}(ok:(X.qP E).Ok):X.Ok :=
 ⟨ok.mod,ok.kind,ok.glob,ok.blt,ok.above,ok.inj,ok.has,ok.cab,ok.hd,ok.frames,ok.stk,ok.exf,ok.bs,ok.bsz,ok.noex,ok.exfs,ok.mD,ok.frf⟩
section
variable {X:Cx}{pins:List (Addr×Obj)}{σ:St}{H:Hp}{s:Shared}{E:Value->Shared->Prop}
theorem Inv.qP (I:Inv X pins σ H s)(E:Value->Shared->Prop):Inv (X.qP E) pins σ H s:=⟨I.ok.qP E,I.os,I.bare,I.base,I.loc,I.cell,I.free,I.kI,I.pin,I.bY,I.len⟩
theorem Inv.nA (I:Inv (X.qP E) pins σ H s):Inv X pins σ H s:=⟨I.ok.nA,I.os,I.bare,I.base,I.loc,I.cell,I.free,I.kI,I.pin,I.bY,I.len⟩
theorem SP.nA {D:Ends}{f:Flow}{s':Shared}(h:SP (X.qP E) pins D f s'):SP X pins D f s':=by
 cases f with
 |next=>obtain⟨σ',H',I,q⟩:=h;exact⟨σ',H',I.nA,q⟩
 |brk=>obtain⟨σ',H',I,q⟩:=h;exact⟨σ',H',I.nA,q⟩
 |cont=>obtain⟨σ',H',I,q⟩:=h;exact⟨σ',H',I.nA,q⟩
 |ret u=>obtain⟨v,σ',H',I,r,q⟩:=h;exact⟨v,σ',H',I.nA,r,q⟩
theorem jQ.uG {st:List Stmt}{t:TS}(h:jQ X.uG st t):jQ X st t:=fun pins s σ H D I hw =>
 wpAny_mono (h pins s σ H D (I.qP _) hw) (fun _ _ q=>q.nA) fun _ _ z=>False.elim z
end
section
variable {X:Cx}{st:Stmt}{rest:List Stmt}{t u:TS}{e:Expr}{te:TE}{pos:Pos}
noncomputable def Bj:TS:=fun D σ H=>D.nx σ H
noncomputable def Fc (t u:TS):TS:=fun D σ H=>t { D with nx:=u D } σ H
theorem RH:jQ X [] Bj:=fun _ _ σ H _ I h=>wpAny_execs_nil ⟨σ,H,I,h⟩
theorem OY (h1:PS X st t)(h2:jQ X rest u):jQ X (st::rest) (Fc t u):=by
 intro pins s σ H D I h
 refine wpAny_execs_cons (aW (h1 pins s σ H { D with nx:=u D } I h) fun f s1 q=>?_)
 cases f with
 |next =>
 obtain⟨σ',H',I',q⟩:=q
 exact h2 pins s1 σ' H' D I' q
 |ret v=>exact q
 |brk=>exact q
 |cont=>exact q
theorem Inv.quiet {pins:List (Addr×Obj)}{σ:St}{H:Hp}{s:Shared}(I:Inv X pins σ H s):interactive X.env=false:=by simp [interactive,I.ok.kind]
noncomputable def ZW (te:TE):TS:=fun D σ H=>te σ H fun _ H1=>D.nx σ H1
theorem RK (he:PE X e te)(hs:swapsWith e none pos.line X.env=pure false:=by rfl):PS X (.Expr e pos) (ZW te):=by
 intro pins s σ H D I h
 exact wpAny_Expr_any (aW (he pins s σ H _ I h) fun v s1 ⟨x,H1,I1,r1,q1⟩=>⟨σ,H1,I1,q1⟩) I.quiet hs
noncomputable def Ee (te:TE):TS:=fun D σ H=>te σ H D.rt
theorem W4 (he:PE X e te):PS X (.Return (some e) pos) (Ee te):=by
 intro pins s σ H D I h
 exact wpAny_Return_some (aW (he pins s σ H _ I h) fun v s1 ⟨x,H1,I1,r1,q1⟩=>⟨x,σ,H1,I1,r1,q1⟩)
noncomputable def Bz:TS:=fun D _ H=>D.rt .non H
theorem RT:PS X (.Return none pos) Bz:=fun _ _ σ H _ I h=>wpAny_Return_none ⟨.non,σ,H,I,rfl,h⟩
noncomputable def Gb (c:TT)(t u:TS):TS:=fun D σ H=>c σ H fun b H1=>if b=true then t D σ H1 else u D σ H1
theorem ZL {c:Expr}{a b:List Stmt}{tc:TT}(hc:PT X c tc)(ha:jQ X a t)(hb:jQ X b u):PS X (.If c a b pos) (Gb tc t u):=by
 intro pins s σ H D I h
 refine wpAny_If (aW (hc pins s σ H _ I h) fun d s1 ⟨H1,I1,q1⟩=>?_)
 cases d with
 |true=>exact ha pins s1 σ H1 D I1 q1
 |false=>exact hb pins s1 σ H1 D I1 q1
noncomputable def UX:TS:=fun _ _ _=>False
theorem OK:PS X st UX:=fun _ _ _ _ _ _ h=>h.elim
end
noncomputable abbrev TG:=V->St->Hp->(St->Hp->Prop)->Prop
noncomputable abbrev CA:=List V->St->Hp->(St->Hp->Prop)->Prop
noncomputable def PG (X:Cx)(target:Expr)(t:TG):Prop :=
 ∀(pins:List (Addr×Obj))(s:Shared)(σ:St)(H:Hp)(v:V)(u:Value)(Q:St->Hp->Prop),Inv X pins σ H s->RelV v u->t v σ H Q ->
 wpAny (model X.prog X.w) X.A (assign target X.env u) (fun _ s'=>∃ σ' H',Inv X pins σ' H' s'/\Q σ' H') X.xe s
noncomputable def zY (X:Cx)(ts:List Expr)(t:CA):Prop :=
 ∀(pins:List (Addr×Obj))(s:Shared)(σ:St)(H:Hp)(vs:List V)(us:List Value)(Q:St->Hp->Prop),Inv X pins σ H s->aL vs us->t vs σ H Q ->
 wpAny (model X.prog X.w) X.A (assignInOrder ((assignEach ts X.env).map (·.2)) us) (fun _ s'=>∃ σ' H',Inv X pins σ' H' s'/\Q σ' H') X.xe s
noncomputable abbrev OU:=V->V->V->Hp->(Hp->Prop)->Prop
noncomputable def WX (X:Cx)(t:OU):Prop :=
 ∀(pins:List (Addr×Obj))(s:Shared)(σ:St)(H:Hp)(o i v:V)(ov iv u:Value)(Q:Hp->Prop),Inv X pins σ H s->RelV o ov->RelV i iv->RelV v u->t o i v H Q ->
 wpAny (model X.prog X.w) X.A (setItem ov iv u) (fun _ s'=>∃ H',Inv X pins σ H' s'/\Q H') X.xe s
section
variable {X:Cx}{pos:Pos}
noncomputable def AZ (i:Nat):TG:=fun v σ H Q=>Q (σ.set i (some v)) H
theorem rQ {i:Nat}{x:Str}(hN:X.N.Nodup)(hi:X.N[i]? = some x)(hx:Loc X.env.scope x)(hf:X.fn x=true∨X.env.scope.names.lookup x=some .local:=by first|exact .inl rfl|exact .inr rfl|assumption):PG X (.Name x pos) (AZ i):=by
 intro pins s σ H v u Q I r h
 exact wpAny_assign_Name (N8 I hN hi hx r (fun s' I'=>⟨_,H,I',h⟩) hf)
noncomputable def Es:CA:=fun vs σ H Q=>vs=[]/\Q σ H
noncomputable def Cu (t:TG)(u:CA):CA:=fun vs σ H Q=>∃ v r,vs=v::r/\t v σ H fun σ' H'=>u r σ' H' Q
theorem Q9:zY X [] Es:=by
 intro pins s σ H vs us Q I r h
 obtain⟨e,h⟩:=h
 subst e
 cases r
 exact assignInOrder_nil ⟨σ,H,I,h⟩
theorem PJ {e:Expr}{es:List Expr}{t:TG}{u:CA}(h1:PG X e t)(h2:zY X es u)
 (hs:(assignEach (e::es) X.env).map (·.2)=assign e X.env::(assignEach es X.env).map (·.2):=by rfl):zY X (e::es) (Cu t u):=by
 intro pins s σ H vs us Q I r h
 obtain⟨v,vr,e1,h⟩:=h
 subst e1
 cases r with
 |cons r rr =>
 rw[hs]
 refine assignInOrder_cons (aW (h1 pins s σ H _ _ _ I r h) fun _ s1 ⟨σ1,H1,I1,q1⟩=>?_)
 exact h2 pins s1 σ1 H1 _ _ Q I1 rr q1
noncomputable def YV (K:PySem.W.Frag)(n:Nat)(t:CA):TG:=fun v σ H Q=>∃ a xs,v=.ref a/\dP K H a xs/\xs.length=n/\t xs σ H Q
theorem UR {es:List Expr}{k:Nat}{t:CA}{n:Nat}(hc:X.calm=true)(h:zY X es t)
 (hn:(assignEach es X.env).length=n:=by rfl)(eF:(assignEach es X.env).findIdx? (·.1)=none:=by rfl):PG X (.Tuple es k pos) (YV X.K n t):=by
 intro pins s σ H v u Q I r hw
 obtain⟨a,xs,e1,hq,hl,hw⟩:=hw
 subst e1
 cases r
 obtain⟨aD,rv,ht,hz⟩:=I.tuple hq
 refine assign_Tuple_tuple (I.ok.hd hc) ht (by simp [hn,<-hl,rv.length]) eF fun h' hx=>?_
 have I1:Inv X pins σ H { s with heap:=h' }:=I.kept (t':=s.toks) fun b o e=>hx b o (Nat.ne_of_lt (Heap.lt_size e)) e
 exact h pins _ σ H xs _ Q I1 (by simpa using rv) hw
noncomputable def Eb (to ti:TE)(t:OU):TG:=fun v σ H Q=>to σ H fun o H1=>ti σ H1 fun i H2=>t o i v H2 fun H3=>Q σ H3
theorem YG {o i:Expr}{to ti:TE}{t:OU}(ho:PE X o to)(hi:PE X i ti)(hs:WX X t)
 (ha:∀ v,assign (.Subscript o i pos) X.env v=(do
  let ov <-holding [v] (eval o X.env)
  let iv <-holding [v,ov] (eval i X.env)
  standAt pos
  holding [v,ov,iv] (setItem ov iv v)
  release [v,ov,iv] []):=by intro _;rfl):PG X (.Subscript o i pos) (Eb to ti t):=by
 intro pins s σ H v u Q I r h
 rw[ha]
 refine wpAny_bind (wpAny_holding (aW (ho pins s σ H _ I h) fun ov s1 ⟨x,H1,I1,r1,q1⟩=>?_))
 refine wpAny_bind (wpAny_holding (aW (hi pins s1 σ H1 _ I1 q1) fun iv s2 ⟨y,H2,I2,r2,q2⟩=>?_))
 refine wpAny_bind (wpAny_standAt (wpAny_bind (wpAny_holding (aW (hs pins s2 σ H2 x y v ov iv u _ I2 r1 r2 r q2) fun _ s3 ⟨H3,I3,q3⟩=>?_))))
 exact wpAny_release ⟨σ,H3,I3,q3⟩
noncomputable def Ft (te:TE)(g:TG):TS:=fun D σ H=>te σ H fun x H1=>g x σ H1 D.nx
theorem YB {tg e:Expr}{te:TE}{g:TG}(he:PE X e te)(hg:PG X tg g)(hs:swapsWithSole [tg] e pos.line X.env=pure false:=by rfl)(hw:swappedStores [tg] e X.env=pure none:=by rfl)
 (h1:(assignEach [tg] X.env).map (·.2)=[assign tg X.env]:=by rfl):PS X (.Assign [tg] e pos) (Ft te g):=by
 intro pins s σ H D I h
 refine wpAny_Assign_stores (aW (he pins s σ H _ I h) fun v s1 ⟨x,H1,I1,r1,q1⟩=>?_) hs hw
 rw[h1]
 exact aW (hg pins s1 σ H1 x v _ I1 r1 q1) fun _ s2 q=>q
end
section
variable {X:Cx}{pos:Pos}
noncomputable def W8 (c:TT)(tb:TS):TS:=fun D σ H=>∃ W:Nat->St->Hp->Prop,(∃ m,W m σ H)/\∀ m σ H,W m σ H ->
 c σ H fun b H1=>if b=true then ∃ N:St->Hp->Prop,(∀ σ' H',N σ' H'->∃ m',m'<m/\W m' σ' H')/\tb { D with nx:=N,ct:=N,bk:=D.nx } σ H1 else D.nx σ H1
theorem PL {c:Expr}{body:List Stmt}{tc:TT}{tb:TS}(hp:PassesOwn (model X.prog X.w) X.A X.env X.xe)(hc:PT X c tc)(hb:jQ X body tb):PS X (.While c body [] pos) (W8 tc tb):=by
 intro pins s σ H D I h
 obtain⟨W,⟨m0,w0⟩,turn⟩:=h
 refine wpAny_While (codeAny_whileLoop (fun n s'=>∃ σ' H',Inv X pins σ' H' s'/\W n σ' H') ?_ m0 ⟨σ,H,I,w0⟩)
 rintro n s1 ⟨σ1,H1,I1,w1⟩
 refine wpAny_passesOwn hp (aW (hc pins s1 σ1 H1 _ I1 (turn n σ1 H1 w1)) fun b s2 ⟨H2,I2,q2⟩=>?_)
 cases b with
 |true =>
  obtain⟨N,hN,q2⟩:=q2
  rw[if_pos rfl]
  refine wpAny_passesOwn hp (aW (hb pins s2 σ1 H2 _ I2 q2) fun f s3 q3=>?_)
  cases f with
  |next =>
   obtain⟨σ3,H3,I3,n3⟩:=q3
   obtain⟨m',hm,w3⟩:=hN σ3 H3 n3
   exact⟨m',hm,σ3,H3,I3,w3⟩
  |cont =>
   obtain⟨σ3,H3,I3,n3⟩:=q3
   obtain⟨m',hm,w3⟩:=hN σ3 H3 n3
   exact⟨m',hm,σ3,H3,I3,w3⟩
  |brk=>exact q3
  |ret v=>exact q3
 |false =>
  rw[if_neg Bool.false_ne_true]
  exact wpAny_execs_nil ⟨σ1,H2,I2,q2⟩
end
structure It where
 go:Nat->Hp->Prop
 yld:Nat->Hp->V->Hp->Prop
 stop:Nat->Hp->Prop
noncomputable def lI (X:Cx)(pins:List (Addr×Obj))(H:Hp)(b:Addr):Prop :=
 H b=none/\b≠X.env.locals/\b∉X.fs/\(b∈X.ex∨X.s₀.heap.objs.size<=b)/\(∀ x c,X.env.cells.lookup x=some c->c≠b)/\∀ p∈X.pn++pins,p.1≠b
theorem Inv.DZ {X:Cx}{pins:List (Addr×Obj)}{σ:St}{H H':Hp}{s:Shared}{b:Addr}(I:Inv X pins σ H s)(hb:s.heap.objs.size<=b)(hn:H' b=none):lI X pins H' b:=by
 refine⟨hn,Nat.ne_of_gt (Nat.lt_of_lt_of_le I.lt hb),I.Y5 hb,.inr (Nat.le_trans I.sz hb),fun x c e z=>?_,fun p hp z=>?_⟩
 ·obtain⟨v,q⟩:=I.cell x c e
  exact absurd (Nat.lt_of_lt_of_le q.lt (by rw[z];exact hb)) (Nat.lt_irrefl _)
 ·exact absurd (Nat.lt_of_lt_of_le (Heap.lt_size (I.pin p hp).1) (by rw[z];exact hb)) (Nat.lt_irrefl _)
structure Turn (P:Program)(w:World)(K:PySem.W.Frag)(tg:Expr)(J:It)(fp:List Addr)(it:Addr)(tn:Nat->Heap->Prop):Prop where
 mem:it∈fp
 obj:∀ i h,tn i h->∀ b∈fp,∃ o,h.get? b=some o/\∀ v,o.data≠.cell v
 keep:∀ i h h',tn i h->(∀ b∈fp,∀ o,h.get? b=some o->h'.get? b=some o)->tn i h'
 item:∀(X:Cx),X.prog=P->X.w=w->X.K=K->X.calm=true->∀(i:Nat)(pins:List (Addr×Obj))(s:Shared)(σ:St)(H:Hp)(E:Value->Shared->Prop),Inv X pins σ H s->(∀ b∈fp,lI X pins H b)->tn i s.heap->J.go i H ->
 wpAny (model P w) X.A (pyNext (.ref it)) (fun r s1=>∃ u,r=some u /\
  wpAny (model P w) X.A (letOwnedTupleGo tg (.ref it) u) (fun _ s2=>∃ x H',Inv X pins σ H' s2/\RelV x u/\J.yld i H x H'/\tn (i+1) s2.heap/\∀ b∈fp,H' b=none) E s1) E s
 done:∀(X:Cx),X.prog=P->X.w=w->X.K=K->X.calm=true->∀(i:Nat)(pins:List (Addr×Obj))(s:Shared)(σ:St)(H:Hp)(E:Value->Shared->Prop),Inv X pins σ H s->(∀ b∈fp,lI X pins H b)->tn i s.heap->J.stop i H ->
 wpAny (model P w) X.A (pyNext (.ref it)) (fun r s1=>r=none/\Inv X pins σ H s1) E s
 self:∀(A:Around)(i:Nat)(s:Shared)(Q:Value->Shared->Prop)(E:Value->Shared->Prop),tn i s.heap->Q (.ref it) s->wpAny (model P w) A (pyIter (.ref it)) Q E s
noncomputable abbrev TI:=St->Hp->(It->Hp->Prop)->Prop
noncomputable def M6 (X:Cx)(pins:List (Addr×Obj))(σ:St)(tg:Expr)(R:It->Hp->Prop)(itv:Value)(s2:Shared):Prop :=
 ∃(it:Addr)(fp:List Addr)(tn:Nat->Heap->Prop)(J:It)(H':Hp),itv=.ref it/\Inv X pins σ H' s2/\Turn X.prog X.w X.K tg J fp it tn/\tn 0 s2.heap/\(∀ b∈fp,lI X pins H' b)/\R J H'
noncomputable def PI (X:Cx)(tg iter:Expr)(wi:TI):Prop :=
 ∀(pins:List (Addr×Obj))(s:Shared)(σ:St)(H:Hp)(R:It->Hp->Prop),Inv X pins σ H s->wi σ H R ->
 wpAny (model X.prog X.w) X.A (eval iter X.env) (fun v s1=>wpAny (model X.prog X.w) X.A (pyIter v) (M6 X pins σ tg R) X.xe s1) X.xe s
theorem AY {M:Model}{A:Around}{E:Value->Shared->Prop}{s:Shared}{tg:Expr}{it:Addr}{u:Value}{o:Obj}{n:String}{vs:Array Value}{Q:Unit->Shared->Prop}(ho:s.heap.get? it=some o)(hc:o.cls=.type n)(hd:o.data=.fields vs)
    (hn:["enumerate","zip","dict_itemiterator","dict_reverseitemiterator","odict_iterator","itertools.zip_longest","itertools.pairwise"].contains n=false)(hQ:Q () s):wpAny M A (letOwnedTupleGo tg (.ref it) u) Q E s:=by
  unfold letOwnedTupleGo
  cases tg<;>first
    |exact wpAny_pure hQ
    |(cases u<;>first
        |exact wpAny_pure hQ
        | (refine wpAny_bind (wpAny_load ho ?_)
           rw[hc,hd]
           show wpAny M A (if(["enumerate","zip","dict_itemiterator","dict_reverseitemiterator","odict_iterator","itertools.zip_longest","itertools.pairwise"].contains n&&vs[0]? == some (rawInt _))=true then _ else _) Q E s
           rw[if_neg (by intro h;rw[hn,Bool.false_and]at h;cases h)]
           exact wpAny_pure hQ))
noncomputable def P1 (K:PySem.W.Frag)(a:Addr):It :=
 ⟨fun i H=>∃ xs x,cZ K H a xs/\xs[i]? = some x,fun i H x H'=>H'=H/\∀ xs,cZ K H a xs->xs[i]? = some x,fun i H=>∃ xs,cZ K H a xs/\xs.length<=i⟩
noncomputable def X8 (K:PySem.W.Frag)(a:Addr):It :=
 ⟨fun i H=>∃ xs x,dP K H a xs/\xs[i]? = some x,fun i H x H'=>H'=H/\∀ xs,dP K H a xs->xs[i]? = some x,fun i H=>∃ xs,dP K H a xs/\xs.length<=i⟩
noncomputable def P9 (lo:Int)(n:Nat):It:=⟨fun i _=>i<n,fun i H x H'=>H'=H/\x=.int (lo+i),fun i _=>n<=i⟩
theorem K7 {P:Program}{w:World}{K:PySem.W.Frag}{tg:Expr}(a it:Addr):Turn P w K tg (P1 K a) [it] it (fun i h=>h.IsListIter it a i) where
 mem:=by simp
 obj:=fun i h st b hb=>by
  have e:b=it:=by simpa using hb
  subst e
  obtain⟨o,e,c,d⟩:=st
  exact⟨o,e,fun v z=>by rw[d]at z;cases z⟩
 keep:=fun i h h' st k=>st.at fun o e=>k it (by simp) o e
 item:=by
  intro X hP hw hK hc i pins s σ H E I hf st hg
  subst hP hw hK
  obtain⟨xs,x,hq,hx⟩:=hg
  obtain⟨aD,rv,p,hz⟩:=I.list hq
  obtain⟨u,hu,ru⟩:=rv.get hx
  obtain⟨f0,f1,f2,f3,f4,f5⟩:=hf it (by simp)
  refine wpAny_pyNext_list_item st p.isList (x:=u) (by simpa using hu) fun h' aA sb=>?_
  have I1:Inv X pins σ H { s with heap:=h' }:=I.turned (t':=s.toks) (fun b o hb e=>(sb.2 b hb).trans e) f0 f1 f3 f4 f5
  obtain⟨o,e,c,d⟩:=id aA
  exact⟨u,rfl,AY (s:={ s with heap:=h' }) e c d (by decide) ⟨x,H,I1,ru,⟨rfl,fun ys hy=>by rw[I.oH hy hq];exact hx⟩,aA,fun b hb=>(hf b hb).1⟩⟩
 done:=by
  intro X hP hw hK hc i pins s σ H E I hf st hg
  subst hP hw hK
  obtain⟨xs,hq,hx⟩:=hg
  obtain⟨aD,rv,p,hz⟩:=I.list hq
  obtain⟨f0,f1,f2,f3,f4,f5⟩:=hf it (by simp)
  have hl:=rv.length
  exact wpAny_pyNext_list_end (I.ok.hd hc) st p.isList (by simp;omega) fun h' eb=>⟨rfl,I.turned (t':=s.toks) (fun b o hb e=>eb b o hb e) f0 f1 f3 f4 f5⟩
 self:=fun _ _ _ _ _ st h=>wpAny_pyIter_listiter st h
theorem JU {P:Program}{w:World}{K:PySem.W.Frag}{tg:Expr}(a it:Addr):Turn P w K tg (X8 K a) [it] it (fun i h=>h.IsTupleIter it a i) where
 mem:=by simp
 obj:=fun i h st b hb=>by
  have e:b=it:=by simpa using hb
  subst e
  obtain⟨o,e,c,d⟩:=st
  exact⟨o,e,fun v z=>by rw[d]at z;cases z⟩
 keep:=fun i h h' st k=>st.at fun o e=>k it (by simp) o e
 item:=by
  intro X hP hw hK hc i pins s σ H E I hf st hg
  subst hP hw hK
  obtain⟨xs,x,hq,hx⟩:=hg
  obtain⟨aD,rv,p,hz⟩:=I.tuple hq
  obtain⟨u,hu,ru⟩:=rv.get hx
  obtain⟨f0,f1,f2,f3,f4,f5⟩:=hf it (by simp)
  refine wpAny_pyNext_tuple_item st (show s.heap.IsTuple a aD.toArray from p) (x:=u) (by simpa using hu) fun h' aA sb=>?_
  have I1:Inv X pins σ H { s with heap:=h' }:=I.turned (t':=s.toks) (fun b o hb e=>(sb.2 b hb).trans e) f0 f1 f3 f4 f5
  obtain⟨o,e,c,d⟩:=id aA
  exact⟨u,rfl,AY (s:={ s with heap:=h' }) e c d (by decide) ⟨x,H,I1,ru,⟨rfl,fun ys hy=>by rw[I.pW hy hq];exact hx⟩,aA,fun b hb=>(hf b hb).1⟩⟩
 done:=by
  intro X hP hw hK hc i pins s σ H E I hf st hg
  subst hP hw hK
  obtain⟨xs,hq,hx⟩:=hg
  obtain⟨aD,rv,p,hz⟩:=I.tuple hq
  obtain⟨f0,f1,f2,f3,f4,f5⟩:=hf it (by simp)
  have hl:=rv.length
  exact wpAny_pyNext_tuple_end (I.ok.hd hc) st (show s.heap.IsTuple a aD.toArray from p) (by simp;omega) fun h' eb=>⟨rfl,I.turned (t':=s.toks) (fun b o hb e=>eb b o hb e) f0 f1 f3 f4 f5⟩
 self:=fun _ _ _ _ _ st h=>wpAny_pyIter_tupleiter st h
theorem ID {P:Program}{w:World}{K:PySem.W.Frag}{tg:Expr}(it:Addr)(lo:Int)(n:Nat):Turn P w K tg (P9 lo n) [it] it (fun i h=>IsRangeIter h it (lo+(i:Nat)*1) ((n:Int)-(i:Nat)) 1) where
 mem:=by simp
 obj:=fun i h st b hb=>by
  have e:b=it:=by simpa using hb
  subst e
  exact⟨_,st,fun v z=>by
   have z':Data.fields _=Data.cell v:=z
   cases z'⟩
 keep:=fun i h h' st k=>k it (by simp) _ st
 item:=by
  intro X hP hw hK hc i pins s σ H E I hf st hg
  subst hP hw hK
  obtain⟨f0,f1,f2,f3,f4,f5⟩:=hf it (by simp)
  have W:=Walks.range (prog:=X.prog) (w:=X.w) (I.ok.hd hc) it lo 1 n
  refine W.item i s _ _ hg st fun v h' tk hv aA kk=>?_
  obtain⟨t,rfl⟩:=hv
  have I1:Inv X pins σ H { s with heap:=h',toks:=tk }:=I.turned (fun b o hb e=>kk b o (by simpa using hb) e) f0 f1 f3 f4 f5
  refine⟨_,rfl,AY (s:={ s with heap:=h',toks:=tk }) (n :="range_iterator") aA rfl rfl (by decide) ⟨.int (lo+i),H,I1,⟨t,?_⟩,⟨rfl,rfl⟩,aA,fun b hb=>(hf b hb).1⟩⟩
  rw[Int.mul_one]
 done:=by
  intro X hP hw hK hc i pins s σ H E I hf st hg
  subst hP hw hK
  obtain⟨f0,f1,f2,f3,f4,f5⟩:=hf it (by simp)
  exact wpAny_pyNext_range_end (I.ok.hd hc) st (by have:n<=i:=hg;omega) fun h' eb=>⟨rfl,I.turned (t':=s.toks) (fun b o hb e=>eb b o hb e) f0 f1 f3 f4 f5⟩
 self:=fun _ _ _ _ _ st h=>wpAny_pyIter_rangeiter st h
end L2
namespace L2
open PySem PySem.Spec PyProof.Rows
section
variable {X:Cx}{tg:Expr}
theorem O5 {pins:List (Addr×Obj)}{σ:St}{H:Hp}{s:Shared}{R:It->Hp->Prop}{E:Value->Shared->Prop}{lo hi:Int}{t u v:Tok}{tk:Nat}(I:Inv X pins σ H s) (h1 : -(2 ^ 62)<=lo)(h2:lo<2 ^ 62) (h3 : -(2 ^ 62)<=hi)(h4:hi<2 ^ 62)
  (q:R (P9 lo (hi-lo).toNat) H):wpAny (model X.prog X.w) X.A (pyIter (.ref s.heap.objs.size)) (M6 X pins σ tg R) E { s with heap:=s.heap.push { cls:=.type "range", data:=.fields #[.int lo t,.int hi u,.int 1 v] },toks:=tk }:=by
 refine wpAny_pyIter_range (IsRange.new ..) (small_one h1 h2 h3 h4) ?_
 have I1:Inv X pins σ H { s with heap:=s.heap.push { cls:=.type "range", data:=.fields #[.int lo t,.int hi u,.int 1 v] },toks:=tk }:=I.kept fun b o e=>Heap.get?_push_of_some _ e
 refine⟨(s.heap.push { cls:=.type "range", data:=.fields #[.int lo t,.int hi u,.int 1 v] }).objs.size,[(s.heap.push { cls:=.type "range", data:=.fields #[.int lo t,.int hi u,.int 1 v] }).objs.size],_,_,H,rfl,
  I1.kept (t':=tk) fun b o e=>Heap.get?_push_of_some _ e,ID _ lo (hi-lo).toNat,?_,fun b hb=>?_,q⟩
 ·have e1:lo+((0:Nat):Int)*1=lo:=by simp
  have e2:(((hi-lo).toNat:Nat):Int)-((0:Nat):Int)=Builtin.Range.rangeSize lo hi 1:=by rw[rangeSize_one];split<;>omega
  show IsRangeIter _ _ (lo+((0:Nat):Int)*1) ((((hi-lo).toNat:Nat):Int)-((0:Nat):Int)) 1
  rw[e1,e2]
  exact Heap.get?_push_size _ rfl
 ·have e:b=(s.heap.push { cls:=.type "range", data:=.fields #[.int lo t,.int hi u,.int 1 v] }).objs.size:=by simpa using hb
  subst e
  exact I1.DZ (Nat.le_refl _) (I1.bY.fresh (Nat.le_refl _))
noncomputable def ZX (ta:TA):TI:=fun σ H R=>ta σ H fun vs H1=>∃ j:Int,vs=[.int j]/\-(2 ^ 62)<=j/\j<2 ^ 62/\R (P9 0 j.toNat) H1
theorem KS {a:Expr}{ta:TA}{p pos:Pos}(hg:Gl X "range")(hm:X.mg "range" = none)(ha:PA X [a] ta)(hs:starEach [a] X.env=[(false,eval a X.env)]:=by rfl):PI X tg (.Call (.Name "range" p) [a] [] pos) (ZX ta):=by
 intro pins s σ H R I h
 refine Call_ (lD I hg hm boot_range (PyProof.Rows.callWith_type1 (aW (ha pos pins s σ H _ I h) fun us s1 ⟨vs,H1,I1,r1,q1⟩=>?_) hs rfl))
 obtain⟨j,e,q1,q2,q⟩:=q1
 subst e
 cases r1 with
 |cons r rr =>
 cases rr
 obtain⟨t,rfl⟩:=r
 exact call_range_1 (O5 I1 (by omega) (by omega) q1 q2 (by simpa using q))
noncomputable def Ew (wi:TI)(g:TG)(tb:TS):TS:=fun D σ H=>wi σ H fun J H1=>∃ W:Nat->Nat->St->Hp->Prop,(∃ m,W 0 m σ H1)/\∀ i m σ H,W i m σ H ->
 (J.stop i H/\D.nx σ H)∨(J.go i H/\∃ N:St->Hp->Prop,(∀ σ' H',N σ' H'->∃ m',m'<m/\W (i+1) m' σ' H')/\∀ x H',J.yld i H x H'->g x σ H' fun σ2 H2=>tb { D with nx:=N,ct:=N,bk:=D.nx } σ2 H2)
noncomputable def vH (fp:List Addr)(h:Heap):List (Addr×Obj):=fp.filterMap fun b=>(h.get? b).map fun o=>(b,o)
theorem sV {fp:List Addr}{h:Heap}{b:Addr}{o:Obj}(hb:b∈fp)(e:h.get? b=some o):(b,o)∈vH fp h:=List.mem_filterMap.mpr ⟨b,hb,by rw[e];rfl⟩
theorem L7 {fp:List Addr}{h:Heap}{p:Addr×Obj}(hp:p∈vH fp h):p.1∈fp/\h.get? p.1=some p.2:=by
 obtain⟨b,hb,e⟩:=List.mem_filterMap.mp hp
 cases q:h.get? b with
 |none=>rw[q]at e;cases e
 |some o =>
 rw[q]at e
 have e':(b,o)=p:=Option.some.inj e
 subst e'
 exact⟨hb,q⟩
theorem Inv.pinned {pins:List (Addr×Obj)}{σ:St}{H:Hp}{s:Shared}{fp:List Addr}(I:Inv X pins σ H s)(hf:∀ b∈fp,lI X pins H b)(ho:∀ b∈fp,∃ o,s.heap.get? b=some o/\∀ v,o.data≠.cell v):Inv X (pins++vH fp s.heap) σ H s :=
 I.HF fun p hp=>(List.mem_append.mp hp).elim (fun z=>I.pin p (List.mem_append_right _ z)) fun z=>by
 obtain⟨hb,e⟩:=L7 z
 obtain⟨f0,f1,f2,_⟩:=hf p.1 hb
 obtain⟨o,e',d⟩:=ho p.1 hb
 rw[e]at e';cases e'
 exact⟨e,f0,f1,f2,d⟩
theorem Inv.sL {pins pl:List (Addr×Obj)}{σ:St}{H:Hp}{s:Shared}(I:Inv X (pins++pl) σ H s):Inv X pins σ H s:=I.HF fun p hp=>I.pin p (List.mem_append_right _ (List.mem_append_left _ hp))
theorem UY {iter:Expr}{body:List Stmt}{wi:TI}{g:TG}{tb:TS}{pos:Pos}(hp:PassesOwn (model X.prog X.w) X.A X.env X.xe)(hc:X.calm=true)(hi:PI X tg iter wi)(hg:PG X tg g)(hb:jQ X body tb)
  (hs:∀ x,foldedSetIterable iter X.env x=pure x:=by intro _;rfl):PS X (.For tg iter body [] pos) (Ew wi g tb):=by
 intro pins s σ H D I h
 refine wpAny_For (aW (hi pins s σ H _ I h) fun v s1 h1=>aW h1 fun itv s2 h2=>?_) hs
 obtain⟨it,fp,tn,J,H2,e,I2,T,aG,f2,W,⟨m0,w0⟩,turn⟩:=h2
 subst e
 have stat:∀{H':Hp},(∀ b∈fp,H' b=none)->∀ b∈fp,lI X pins H' b:=fun hn b hb=>⟨hn b hb,(f2 b hb).2⟩
 refine codeAny_forLoop_any (fun n s'=>∃ i σ' H',Inv X pins σ' H' s'/\tn i s'.heap/\(∀ b∈fp,H' b=none)/\W i n σ' H') ?_ m0 ⟨0,σ,H2,I2,aG,fun b hb=>(f2 b hb).1,w0⟩
 rintro n s3 ⟨i,σ3,H3,I3,aR,fr3,w3⟩
 rcases turn i n σ3 H3 w3 with⟨stop,qn⟩|⟨go,N,hN,step⟩
 ·refine wpAny_passesOwn hp (aW (T.done X rfl rfl rfl hc i pins s3 σ3 H3 X.xe I3 (stat fr3) aR stop) fun r s4 ⟨hr,I4⟩=>?_)
  subst hr
  exact wpAny_execs_nil ⟨σ3,H3,I4,qn⟩
 ·refine wpAny_passesOwn hp (aW (T.item X rfl rfl rfl hc i pins s3 σ3 H3 X.xe I3 (stat fr3) aR go) fun r s4 ⟨u,hr,h4⟩=>?_)
  subst hr
  refine wpAny_passesOwn hp (aW h4 fun _ s5 ⟨x,H5,I5,r5,y5,dE,fr5⟩=>?_)
  have I5':=I5.pinned (stat fr5) (T.obj _ _ dE)
  refine wpAny_passesOwn hp (aW (hg _ s5 σ3 H5 x u _ I5' r5 (step x H5 y5)) fun _ s6 ⟨σ6,H6,I6,q6⟩=>?_)
  refine wpAny_passesOwn hp (aW (hb _ s6 σ6 H6 _ I6 q6) fun f s7 q7=>?_)
  have again:∀{σ7:St}{H7:Hp},Inv X (pins++vH fp s5.heap) σ7 H7 s7->N σ7 H7->∃ m,m<n/\∃ i σ' H',Inv X pins σ' H' s7/\tn i s7.heap/\(∀ b∈fp,H' b=none)/\W i m σ' H':=fun{σ7 H7} I7 n7=>by
   obtain⟨m',hm,w7⟩:=hN σ7 H7 n7
   refine⟨m',hm,i+1,σ7,H7,I7.sL,T.keep _ _ _ dE fun b hb o e=>(I7.pin (b,o) (List.mem_append_right _ (List.mem_append_right _ (sV hb e)))).1,fun b hb=>?_,w7⟩
   obtain⟨o,e,d⟩:=T.obj _ _ dE b hb
   exact(I7.pin (b,o) (List.mem_append_right _ (List.mem_append_right _ (sV hb e)))).2.1
  cases f with
  |next=>obtain⟨σ7,H7,I7,n7⟩:=q7;exact again I7 n7
  |cont=>obtain⟨σ7,H7,I7,n7⟩:=q7;exact again I7 n7
  |brk=>obtain⟨σ7,H7,I7,q7⟩:=q7;exact⟨σ7,H7,I7.sL,q7⟩
  |ret v=>obtain⟨x7,σ7,H7,I7,r7,q7⟩:=q7;exact⟨x7,σ7,H7,I7.sL,r7,q7⟩
end
end L2
namespace L2
open PySem PySem.Spec PyProof.Rows
noncomputable abbrev R2:=V->V->Hp->VK->Prop
noncomputable def gK (X:Cx)(f:Value->Value->Sem Value)(r:R2):Prop :=
 ∀(pins:List (Addr×Obj))(s:Shared)(σ:St)(H:Hp)(x y:V)(v u:Value)(Q:VK),Inv X pins σ H s->RelV x v->RelV y u->r x y H Q ->
 wpAny (model X.prog X.w) X.A (f v u) (EP X pins σ Q) X.xe s
noncomputable def WG (X:Cx)(f:Value->Sem Value)(r:V->Hp->VK->Prop):Prop :=
 ∀(pins:List (Addr×Obj))(s:Shared)(σ:St)(H:Hp)(x:V)(v:Value)(Q:VK),Inv X pins σ H s->RelV x v->r x H Q ->
 wpAny (model X.prog X.w) X.A (f v) (EP X pins σ Q) X.xe s
noncomputable def tF (X:Cx)(f:Value)(r:List V->Hp->VK->Prop):Prop :=
 ∀(pins:List (Addr×Obj))(s:Shared)(σ:St)(H:Hp)(xs:List V)(us:List Value)(Q:VK),Inv X pins σ H s->aL xs us->r xs H Q ->
 wpAny (model X.prog X.w) X.A (call f us) (EP X pins σ Q) X.xe s
noncomputable def Gk (X:Cx)(r:V->Hp->(Bool->Hp->Prop)->Prop):Prop :=
 ∀(pins:List (Addr×Obj))(s:Shared)(σ:St)(H:Hp)(x:V)(v:Value)(Q:Bool->Hp->Prop),Inv X pins σ H s->RelV x v->r x H Q ->
 wpAny (model X.prog X.w) X.A (truthy v) (TP X pins σ Q) X.xe s
noncomputable def YJ (r:R2)(ta tb:TE):TE:=fun σ H Q=>ta σ H fun x H1=>tb σ H1 fun y H2=>r x y H2 Q
noncomputable def Hf (r:V->Hp->VK->Prop)(ta:TE):TE:=fun σ H Q=>ta σ H fun x H1=>r x H1 Q
noncomputable def rI (C:Int->Int->Prop)(g:Int->Int->V):R2:=fun x y H Q=>∃ i j,x=.int i/\y=.int j/\C i j/\Q (g i j) H
noncomputable def FG (g:Int->Int->V):R2:=fun x y H Q=>∃ i j,x=.int i/\y=.int j/\Q (g i j) H
noncomputable def rU (g:Int->V):V->Hp->VK->Prop:=fun x H Q=>∃ i,x=.int i/\Q (g i) H
section
variable {X:Cx}{a b c:Expr}{ta tb tc:TE}{pos:Pos}
theorem XI (ha:PE X a ta)(hb:PE X b tb){pins:List (Addr×Obj)}{s:Shared}{σ:St}{H:Hp}{R:V->V->Hp->Prop}(I:Inv X pins σ H s)
 (h:ta σ H fun x H1=>tb σ H1 fun y H2=>R x y H2){Q:Value->Shared->Prop}{f:Value->Value->Sem Value}
 (hf:∀ v u s2 x y H2,Inv X pins σ H2 s2->RelV x v->RelV y u->R x y H2->wpAny (model X.prog X.w) X.A (f v u) Q X.xe s2):
 wpAny (model X.prog X.w) X.A (eval a X.env) (fun v s₁=>wpAny (model X.prog X.w) X.A (eval b X.env) (fun u s₂=>wpAny (model X.prog X.w) X.A (f v u) Q X.xe s₂) X.xe s₁) X.xe s:=by
 refine aW (ha pins s σ H _ I h) fun v s1 ⟨x,H1,I1,r1,q1⟩=>?_
 refine aW (hb pins s1 σ H1 _ I1 q1) fun u s2 ⟨y,H2,I2,r2,q2⟩=>?_
 exact hf v u s2 x y H2 I2 r1 r2 q2
theorem Bl {op:Operator}{r:R2}(ho:gK X (binaryOp op) r)(ha:PE X a ta)(hb:PE X b tb):PE X (.BinOp a op b pos) (YJ r ta tb):=by
 intro pins s σ H Q I h
 exact wpAny_BinOp (XI ha hb I h fun v u s2 x y H2 I2 rx ry q=>ho pins s2 σ H2 x y v u Q I2 rx ry q)
theorem Ab {op:UnaryOp}{r:V->Hp->VK->Prop}(ho:WG X (unaryOp op) r)(ha:PE X a ta):PE X (.UnaryOp op a pos) (Hf r ta):=by
 intro pins s σ H Q I h
 exact UnaryOp_ (aW (ha pins s σ H _ I h) fun v s1 ⟨x,H1,I1,r1,q1⟩=>ho pins s1 σ H1 x v Q I1 r1 q1)
theorem QA {f:Value->Value->Sem Value}{C:Int->Int->Prop}{g:Int->Int->Int}
 (rule:∀(i j:Int)(t u:Tok)(s:Shared)(Q:Value->Shared->Prop)(E:Value->Shared->Prop),C i j->Q (.int (g i j) s.toks) { s with toks:=s.toks+1 }->wpAny (model X.prog X.w) X.A (f (.int i t) (.int j u)) Q E s):
 gK X f (rI C fun i j=>.int (g i j)):=by
 intro pins s σ H x y v u Q I rx ry h
 obtain⟨i,j,rfl,rfl,hc,q⟩:=h
 obtain⟨t,rfl⟩:=rx
 obtain⟨t',rfl⟩:=ry
 exact rule i j t t' s _ _ hc ⟨.int (g i j),H,I.tok _,⟨_,rfl⟩,q⟩
theorem WB {f:Value->Value->Sem Value}{g:Int->Int->Int}
 (rule:∀(i j:Int)(t u:Tok)(s:Shared)(Q:Value->Shared->Prop)(E:Value->Shared->Prop),Q (.int (g i j) s.toks) { s with toks:=s.toks+1 }->wpAny (model X.prog X.w) X.A (f (.int i t) (.int j u)) Q E s):
 gK X f (FG fun i j=>.int (g i j)):=by
 intro pins s σ H x y v u Q I rx ry h
 obtain⟨i,j,rfl,rfl,q⟩:=h
 obtain⟨t,rfl⟩:=rx
 obtain⟨t',rfl⟩:=ry
 exact rule i j t t' s _ _ ⟨.int (g i j),H,I.tok _,⟨_,rfl⟩,q⟩
noncomputable def U0 (i j:Int):Prop:=0<j/\j<1073741824
noncomputable def V7 (i j:Int):Prop:=0<=j/\j<=1000000/\i.natAbs<2 ^ 64
noncomputable def IY (i j:Int):Prop:=(-(2 ^ 64)<i/\i<2 ^ 64)∨(-(2 ^ 64)<j/\j<2 ^ 64)
theorem IY.ok {i j:Int}(h:IY i j):IntMulOk i j:=by
 rcases h with⟨h1,h2⟩|⟨h1,h2⟩
 ·exact .of_left (intBits_le_64 h1 h2)
 ·exact .of_right (intBits_le_64 h1 h2)
theorem WU:gK X (binaryOp .Add) (FG fun i j=>.int (i+j)):=WB fun _ _ _ _ _ _ _ q=>add_int q
theorem X6:gK X (binaryOp .Sub) (FG fun i j=>.int (i-j)):=WB fun _ _ _ _ _ _ _ q=>sub_int q
theorem WQ:gK X (binaryOp .Mult) (rI IY fun i j=>.int (i*j)):=QA fun _ _ _ _ _ _ _ hc q=>mul_int q hc.ok
theorem SY:gK X (binaryOp .FloorDiv) (rI U0 fun i j=>.int (i / j)):=QA fun i j _ _ _ _ _ hc q=>by
 have h1:(0:Int)<j:=hc.1
 have h2:j<1073741824:=hc.2
 exact floordiv_int (by omega) (by rw[Int.fdiv_eq_ediv_of_nonneg i (by omega)];exact q) (.inl (PyProof.noPylong_small (by omega)))
theorem TZ:gK X (binaryOp .Mod) (rI (fun _ j=>0<j) fun i j=>.int (i % j)):=QA fun i j _ _ _ _ _ hc q=>by
 have h1:(0:Int)<j:=hc
 exact mod_int' (by omega) (by rw[Int.fmod_eq_emod_of_nonneg i (by omega)];exact q)
theorem XE:gK X (binaryOp .Pow) (rI V7 fun i j=>.int (i ^ j.toNat)):=QA fun _ _ _ _ _ _ _ hc q=>pow_int_small hc.1 hc.2.1 hc.2.2 q
theorem Gx {f:Value->Sem Value}{g:Int->Int}
 (rule:∀(i:Int)(t:Tok)(s:Shared)(Q:Value->Shared->Prop)(E:Value->Shared->Prop),Q (.int (g i) s.toks) { s with toks:=s.toks+1 }->wpAny (model X.prog X.w) X.A (f (.int i t)) Q E s):
 WG X f (rU fun i=>.int (g i)):=by
 intro pins s σ H x v Q I rx h
 obtain⟨i,rfl,q⟩:=h
 obtain⟨t,rfl⟩:=rx
 exact rule i t s _ _ ⟨.int (g i),H,I.tok _,⟨_,rfl⟩,q⟩
theorem UP:WG X (unaryOp .USub) (rU fun i=>.int (-i)):=Gx fun _ _ _ _ _ q=>neg_int q
end
section
variable {X:Cx}{a b c:Expr}{ta tb tc:TE}{pos:Pos}
theorem YO {pins:List (Addr×Obj)}{σ:St}{H:Hp}{s:Shared}{Q:VK}{k k':Bool}(I:Inv X pins σ H s)(q:Q (.bl k) H)(e:k=k'):EP X pins σ Q (.bool k') s:=by
 subst e
 exact⟨.bl k,H,I,rfl,q⟩
theorem LW:gK X (compareOp .In) (fun x y H Q=>∃ i j,x=.str i/\y=.str j/\Q (.bl (!(Builtin.Str.occurrences j i 0 j.length 1).isEmpty)) H):=by
 intro pins s σ H x y v u Q I rx ry h
 obtain⟨i,j,rfl,rfl,q⟩:=h
 obtain⟨t,rfl⟩:=rx
 obtain⟨t',rfl⟩:=ry
 exact in_str (YO I q rfl)
theorem gK.or {f:Value->Value->Sem Value}{r r':R2}(h:gK X f r)(h':gK X f r'):gK X f (fun x y H Q=>r x y H Q∨r' x y H Q):=by
 intro pins s σ H x y v u Q I rx ry q
 rcases q with q|q
 ·exact h pins s σ H x y v u Q I rx ry q
 ·exact h' pins s σ H x y v u Q I rx ry q
noncomputable def NF (K:PySem.W.Frag)(x:V)(H:Hp)(k:Bool):Prop :=
 match x with
 |.non=>k=false
 |.bl b=>k=b
 |.int i=>k=(i != 0)
 |.str y=>y.length<=sizeLine/\k=((y.length:Int) != 0)
 |.byt y=>y.size<=sizeLine/\k=((y.size:Int) != 0)
 |.ref p=>(∃ xs,cZ K H p xs/\k = !xs.isEmpty)∨(∃ xs,dP K H p xs/\k = !xs.isEmpty)∨∃ gL,H p=some (.dK gL)/\k = !gL.isEmpty
 |_=>False
theorem IE {κ:Type}{gL:List (κ×V)}{vs:List (κ×Value)}(r:KV gL vs):(!vs.isEmpty) = !gL.isEmpty:=by
 cases r<;>rfl
theorem zR {xs:List V}{aD:List Value}(r:aL xs aD):(!aD.toArray.isEmpty) = !xs.isEmpty:=by
 cases r<;>simp
theorem pH:(sizeLine:Nat)<2 ^ 63:=by rw[sizeLine_eq];decide
theorem AU:Gk X (fun x H Q=>∃ k,NF X.K x H k/\Q k H):=by
 intro pins s σ H x v Q I rx h
 obtain⟨k,e,q⟩:=h
 have hl:=pH
 have hs:sizeLine=16777216:=sizeLine_eq
 cases x with
 |non =>
 cases rx
 have e':k=false:=e
 subst e'
 exact truthy_none ⟨H,I,q⟩
 |bl b =>
 cases rx
 have e':k=b:=e
 subst e'
 exact wpAny_truthy_bool ⟨H,I,q⟩
 |int i =>
 obtain⟨t,rfl⟩:=rx
 have e':k=(i != 0):=e
 subst e'
 exact PySem.P.truthy_int ⟨H,I,q⟩
 |str y =>
 obtain⟨t,rfl⟩:=rx
 obtain⟨hy,e'⟩:y.length<=sizeLine/\k=((y.length:Int) != 0):=e
 subst e'
 exact PySem.P.truthy_str (by omega) ⟨H,I.tok _,q⟩
 |byt y =>
 obtain⟨t,rfl⟩:=rx
 obtain⟨hy,e'⟩:y.size<=sizeLine/\k=((y.size:Int) != 0):=e
 subst e'
 exact PySem.W.truthy_bytes (by omega) ⟨H,I.tok _,q⟩
 |ref p =>
 cases rx
 have e':(∃ xs,cZ X.K H p xs/\k = !xs.isEmpty)∨(∃ xs,dP X.K H p xs/\k = !xs.isEmpty)∨∃ gL,H p=some (.dK gL)/\k = !gL.isEmpty:=e
 rcases e' with⟨xs,hx,e'⟩|⟨xs,hx,e'⟩|⟨gL,hx,e'⟩
 ·subst e'
  obtain⟨aD,r,pl,hz⟩:=I.list hx
  have hlen:=r.length
  exact wpAny_truthy_list pl.isList (by simp only[List.size_toArray];omega) ⟨H,I.tok _,by rw[zR r];exact q⟩
 ·subst e'
  obtain⟨aD,r,pl,hz⟩:=I.tuple hx
  have hlen:=r.length
  exact truthy_tuple pl (by simp only[List.size_toArray];omega) ⟨H,I.tok _,by rw[zR r];exact q⟩
 ·subst e'
  obtain⟨hz,hS,vs,r,m⟩:gL.length<=sizeLine/\(p==sysModules)=false/\∃ vs,KV gL vs/\s.heap.DictOf (BL X.prog X.w) p vs:=I.bY p _ hx
  have hlen:gL.length=vs.length:=Paired.length r
  exact wpAny_truthy_dict hS m (by omega) ⟨H,I.tok _,by rw[IE r];exact q⟩
 |_=>exact(show False from e).elim
theorem NJ (ha:PE X a ta)(he:∀ whole,isTrue a X.env whole=(do let v <-whole;standAt a.pos;holding [v] (truthy v))):
 PT X a (fun σ H Q=>ta σ H fun x H'=>∃ k,NF X.K x H' k/\Q k H'):=by
 intro pins s σ H Q I h
 exact isTrue_plain (aW (ha pins s σ H _ I h) fun v s1 ⟨x,H1,I1,r1,q1⟩=>AU pins s1 σ H1 x v Q I1 r1 q1) (he _)
theorem IL:gK X (binaryOp .Add) (fun x y H Q=>∃ i j,x=.str i/\y=.str j/\i.length+j.length<=sizeLine/\Q (.str (i++j)) H):=by
 intro pins s σ H x y v u Q I rx ry h
 obtain⟨i,j,rfl,rfl,hz,q⟩:=h
 obtain⟨t,rfl⟩:=rx
 obtain⟨t',rfl⟩:=ry
 exact add_str (fun t' tk=>⟨.str (i++j),H,I.tok _,⟨_,rfl⟩,q⟩) hz
theorem vals1 {x:V}{us:List Value}(r:aL [x] us):∃ u,us=[u]/\RelV x u:=by
 cases r with
 |cons r1 r2=>cases r2;exact⟨_,rfl,r1⟩
noncomputable def X1 (K:PySem.W.Frag)(x:V)(H:Hp)(n:Nat):Prop :=
 match x with
 |.str y=>y.length<=sizeLine/\n=y.length
 |.byt y=>y.size<=sizeLine/\n=y.size
 |.ref p=>(∃ xs,cZ K H p xs/\n=xs.length)∨∃ xs,dP K H p xs/\n=xs.length
 |_=>False
theorem N0:tF X (.builtin "len") (fun xs H Q=>∃ x n,xs=[x]/\X1 X.K x H n/\Q (.int n) H):=by
 intro pins s σ H xs us Q I r h
 obtain⟨x,n,rfl,e,q⟩:=h
 obtain⟨u,rfl,rx⟩:=vals1 r
 have hl:=pH
 have hs:sizeLine=16777216:=sizeLine_eq
 cases x with
 |str y =>
 obtain⟨t,rfl⟩:=rx
 obtain⟨hy,e'⟩:y.length<=sizeLine/\n=y.length:=e
 subst e'
 exact len_str (by omega) ⟨.int _,H,I.tok _,⟨_,rfl⟩,q⟩
 |byt y =>
 obtain⟨t,rfl⟩:=rx
 obtain⟨hy,e'⟩:y.size<=sizeLine/\n=y.size:=e
 subst e'
 exact PySem.W.len_bytes (by omega) ⟨.int _,H,I.tok _,⟨_,rfl⟩,q⟩
 |ref p =>
 cases rx
 have e':(∃ xs,cZ X.K H p xs/\n=xs.length)∨∃ xs,dP X.K H p xs/\n=xs.length:=e
 rcases e' with⟨xs,hx,e'⟩|⟨xs,hx,e'⟩
 ·subst e'
  obtain⟨aD,r',pl,hz⟩:=I.list hx
  have hlen:=r'.length
  exact Calls.call_len_list pl.isList (by simp only[List.size_toArray];omega) ⟨.int xs.length,H,I.tok _,⟨_,by simp only[List.size_toArray];rw[hlen]⟩,q⟩
 ·subst e'
  obtain⟨aD,r',pl,hz⟩:=I.tuple hx
  have hlen:=r'.length
  exact len_tuple pl (by simp only[List.size_toArray];omega) ⟨.int xs.length,H,I.tok _,⟨_,by simp only[List.size_toArray];rw[hlen]⟩,q⟩
 |_=>exact(show False from e).elim
end
end L2
namespace L2
open PySem PySem.Spec PyProof.Rows
structure zF (h:Heap)(x dx C:Addr)(mA:Str->Option Value):Prop where
 obj:h.get? x=some (PySem.W.instObj C dx)
 ns:h.Ns1 dx mA
 ne:dx≠x
theorem L4 {h:Heap}{dx:Addr}{mA:Str->Option Value}(n:h.Ns1 dx mA):∃ od,h.get? dx=some od/\∀ name,PySem.W.lookIn name od=some (mA name):=by
 obtain⟨o,es,ep,ho,hd,hk,_,hm⟩:=n
 refine⟨o,ho,fun name=>?_⟩
 have e:=hm name
 unfold nsFind findBy at e
 rw[<-Array.find?_toList]at e
 unfold PySem.W.lookIn
 rw[hd]
 dsimp only
 split
 ·rename_i y q
  rw[q]at e
  exact congrArg some e
 ·rename_i q
  rw[q]at e
  have a:es.toList.any (·.refKey)=false:=by
   rw[List.any_eq_false]
   intro y hy
   obtain⟨z,t,hkey⟩:=hk y (Array.mem_toList_iff.mp hy)
   simp [DictEntry.refKey,hkey]
  have a':¬es.toList.any (·.refKey)=true:=by rw[a];exact Bool.false_ne_true
  rw[if_neg a']
  exact congrArg some e
theorem zF.look {h:Heap}{x dx C:Addr}{mA:Str->Option Value}(I:zF h x dx C mA):∃ od,PySem.W.InstAt h x (PySem.W.instObj C dx) C (some od)/\∀ name,PySem.W.lookIn name od=some (mA name) :=
 let⟨od,ho,hl⟩:=L4 I.ns
 ⟨od,⟨I.obj,rfl,rfl,ho⟩,hl⟩
section
variable {prog:Program}{w:World}{A:Around}{E:Value->Shared->Prop}{s:Shared}{K:PySem.W.Frag}{x dx C f:Addr}{mA:Str->Option Value}{name:Str}{v:Value}
theorem get_map {expr:Bool}{Q:Value->Shared->Prop}(X:K.In s.heap)(I:zF s.heap x dx C mA)(hg:PySem.W.plainGet K C name=true)(hh:PySem.W.hasDictIn K C=true)
 (ha:PySem.W.findIn K (.ref C) name=some none)(hv:mA name=some v)(hv':PySem.W.handedIn v=true)(h:Q v { s with toks:=s.toks+1 }):
 wpAny (model prog w) A (getAttr (.ref x) name expr) Q E s:=by
 obtain⟨od,J,hl⟩:=I.look
 exact PySem.W.get_value X J (PySem.W.plainGet_of hg).1 (PySem.W.findObj_own hh ha rfl (by rw[hl,hv])) hv' h
theorem OI {pl:Sem Bool}{Q:Value×List Value->Shared->Prop}(X:K.In s.heap)(I:zF s.heap x dx C mA)(hg:PySem.W.plainGet K C name=true)
 (hf:PySem.W.findIn K (.ref C) name=some (some (.ref f)))(ht:PySem.W.isFn K (.ref f)=true)(hv:mA name=none)(h:Q (.ref f,[.ref x]) s):
 wpAny (model prog w) A (getMethod (.ref x) name pl) Q E s:=by
 obtain⟨od,J,hl⟩:=I.look
 exact PySem.W.method_fn X J (PySem.W.plainGet_of hg).1 (PySem.W.plainGet_of hg).2 hf (beq_iff_eq.mp ht) (by show(PySem.W.lookIn name od).map (·.isSome)=some false;rw[hl,hv];rfl) h
theorem SK {ns:List Str}{Q:Unit->Shared->Prop}(X:K.In s.heap)(I:zF s.heap x dx C mA)
 (hs:PySem.W.findIn K (.ref C) "__setattr__" = some (some (.builtin "object.__setattr__")))(hp:PySem.W.plainOver K C=true)(ht:PySem.W.takerIn K C name=some none)(hh:PySem.W.hasDictIn K C=true)
 (hw:PySem.Within mA ns)(lU:ns.length<=sizeLine)
 (h:∀ h',zF h' x dx C (fun y=>if y=name then some v else mA y)->Heap.SameBut dx s.heap h'->Q () { s with heap:=h',toks:=s.toks+2 }):
 wpAny (model prog w) A (setAttr (.ref x) name v) Q E s:=by
 obtain⟨od,J,hl⟩:=I.look
 refine PySem.W.set_plain X J hs (PySem.W.osa_open (s:={ s with toks:=s.toks+1 }) (r:=none) X J hp ht fun b=>?_)
 obtain⟨cd,hc,hd'⟩:=PySem.W.any_some hh
 have hx:s.heap.get? x=some ⟨.ref C,some dx,.plain,#[]⟩:=I.obj
 refine wpAny_bind (wpAny_pure (wpAny_bind (wpAny_bind (wpAny_loadPart hx (wpAny_bind (PySem.W.Looks.here (s:={ s with toks:=s.toks+1 }) (PySem.W.looks_clsIn X hc) ?_))))))
 rw[hd']
 refine wpAny_pure (a:=some dx) (wpAny_bind (wpAny_pure (wpAny_bind ?_)))
 refine wpAny_nsSet1 (s:={ s with toks:=s.toks+1 }) I.ns fun h' hn2 hs2=>?_
 obtain⟨oD,esD,epD,hoD,hdD,hcD⟩:=hn2.count (PySem.Within.cons name v hw)
 refine wpAny_bind (wpAny_lookBehind hoD (by rw[hdD];exact pastItsLine_dict (Nat.le_trans hcD (by rw[List.length_cons];omega))) ?_)
 exact wpAny_pure (h _ ⟨(hs2.2 _ (Ne.symm I.ne)).trans I.obj,hn2,I.ne⟩ hs2)
theorem PQ {R:Result->Shared->Prop}{vs:List Value}{kw:List (Str×Value)}(X:K.In s.heap)(hm:PySem.W.makesIn K C=true)
 (hi:PySem.W.findIn K (.ref C) "__init__" = some (some (.ref f)))(hf:PySem.W.typeIn K (.ref f)=some (.type "function"))
 (h:codeAny (model prog w) (A.under (.builtin "type.__call__" ⟨.ref C::vs,kw⟩)) (.call (.ref f) ⟨.ref (s.heap.objs.size+1)::vs,kw⟩) (PySem.W.InitBack (s.heap.objs.size+1) R)
  { s with heap:=(s.heap.push PySem.W.emptyDict).push (PySem.W.instObj C s.heap.objs.size) }):
 codeAny (model prog w) A (.call (.ref C) ⟨vs,kw⟩) R s:=by
 obtain⟨hh,g,d,t,os⟩:=s
 exact PySem.W.make_core (PySem.W.makes_of X hm) (PySem.W.looks_findIn X hi) (fun self=>PySem.W.bind_fn X self hf) (.inl rfl) h
end
noncomputable def hX (f:Str)(v:V):List (Str×V)->List (Str×V)
 |[]=>[(f,v)]
 |(g,x)::r=>if g=f then(g,v)::r else(g,x)::hX f v r
theorem yC (f g:Str)(v:V):∀ fs:List (Str×V),(hX f v fs).lookup g=if g=f then some v else fs.lookup g
 |[]=>by
  show List.lookup g [(f,v)]=_
  by_cases h:g=f
  ·have hb:(g==f)=true:=beq_iff_eq.mpr h
   simp only[List.lookup,hb,if_pos h]
  ·have hb:(g==f)=false:=beq_eq_false_iff_ne.mpr h
   simp only[List.lookup,hb,if_neg h]
 |(k,x)::r=>by
  have ih:=yC f g v r
  rw[show hX f v ((k,x)::r)=(if k=f then(k,v)::r else(k,x)::hX f v r)from rfl]
  by_cases hk:k=f
  ·rw[if_pos hk]
   by_cases h:g=k
   ·have hb:(g==k)=true:=beq_iff_eq.mpr h
    simp only[List.lookup,hb,if_pos (h.trans hk)]
   ·have hb:(g==k)=false:=beq_eq_false_iff_ne.mpr h
    simp only[List.lookup,hb,if_neg (fun e:g=f=>h (e.trans hk.symm))]
  ·rw[if_neg hk]
   by_cases h:g=k
   ·have hb:(g==k)=true:=beq_iff_eq.mpr h
    simp only[List.lookup,hb,if_neg (fun e:g=f=>hk (h.symm.trans e))]
   ·have hb:(g==k)=false:=beq_eq_false_iff_ne.mpr h
    simp only[List.lookup,hb]
    exact ih
theorem wB (f:Str)(v:V):∀ fs:List (Str×V),f∈(hX f v fs).map (·.1)/\∀ g,g∈fs.map (·.1)->g∈(hX f v fs).map (·.1)
 |[]=>⟨by simp [hX],fun g h=>by simp at h⟩
 |(k,x)::r=>by
  obtain⟨i1,i2⟩:=wB f v r
  rw[show hX f v ((k,x)::r)=(if k=f then(k,v)::r else(k,x)::hX f v r)from rfl]
  by_cases hk:k=f
  ·rw[if_pos hk]
   subst hk
   exact⟨by simp,fun g h=>by simpa using h⟩
  ·rw[if_neg hk]
   refine⟨?_,fun g h=>?_⟩
   ·rw[List.map_cons]
    exact List.mem_cons_of_mem _ i1
   ·rw[List.map_cons]at h ⊢
    rcases List.mem_cons.mp h with e|e
    ·exact List.mem_cons.mpr (.inl e)
    ·exact List.mem_cons_of_mem _ (i2 g e)
theorem yI (f:Str)(v:V):∀ fs:List (Str×V),(hX f v fs).length<=fs.length+1
 |[]=>by simp [hX]
 |(k,x)::r=>by
  have ih:=yI f v r
  rw[show hX f v ((k,x)::r)=(if k=f then(k,v)::r else(k,x)::hX f v r)from rfl]
  by_cases hk:k=f
  ·rw[if_pos hk,List.length_cons,List.length_cons];omega
  ·rw[if_neg hk,List.length_cons,List.length_cons];omega
theorem qS.some_of {v:V}{o:Option Value}(r:qS (some v) o):∃ u,o=some u/\RelV v u:=by
 cases o with
 |none=>exact(show False from r).elim
 |some u=>exact⟨u,rfl,r⟩
theorem qS.none_of {o:Option Value}(r:qS none o):o=none:=by
 cases o with
 |none=>rfl
 |some u=>exact(show False from r).elim
theorem MI {v:V}{u:Value}(r:RelV v u):PySem.W.handedIn u=true:=by
 cases v with
 |non=>cases (show u=Value.none from r);rfl
 |bl b=>cases (show u=Value.bool b from r);rfl
 |int i=>obtain⟨t,e⟩:=(show ∃ t,u=Value.int i t from r);cases e;rfl
 |str x=>obtain⟨t,e⟩:=(show ∃ t,u=Value.str x t from r);cases e;rfl
 |byt b=>obtain⟨t,e⟩:=(show ∃ t,u=Value.bytes b t from r);cases e;rfl
 |flt b=>obtain⟨t,e⟩:=(show ∃ t,u=Value.float b t from r);cases e;rfl
 |ref a=>cases (show u=Value.ref a from r);rfl
 |ty n=>cases (show u=Value.type n from r);rfl
section
variable {P:Program}{w:World}{H H':Hp}{h h':Heap}{a C dx:Addr}{fs fs':List (Str×V)}
theorem BD (bY:iB P w H h)(e:H a=some (.ins C dx fs)):∃ mA,zF h a dx C mA/\(∀ f,qS (fs.lookup f) (mA f))/\PySem.Within mA (fs.map (·.1))/\fs.length<=1000/\H dx=some (.own a):=by
 obtain⟨d,z,ne,ob,mA,n,r,q⟩:=(show iO P w H h a (.ins C dx fs)from bY a _ e)
 exact⟨mA,⟨ob,n,ne⟩,r,q,z,d⟩
end
structure rA (K:PySem.W.Frag)(C:Addr):Prop where
 pg:PySem.W.plainGet K C Str.empty=true
 hd:PySem.W.hasDictIn K C=true
 po:PySem.W.plainOver K C=true
 sa:PySem.W.findIn K (.ref C) "__setattr__" = some (some (.builtin "object.__setattr__"))
theorem rA.get {K:PySem.W.Frag}{C:Addr}(c:rA K C)(f:Str):PySem.W.plainGet K C f=true:=c.pg
noncomputable def oN (K:PySem.W.Frag)(C:Addr)(f:Str):Prop:=PySem.W.findIn K (.ref C) f=some none
theorem oN.Be {K:PySem.W.Frag}{C:Addr}{f:Str}(n:oN K C f):PySem.W.takerIn K C f=some none:=by
 unfold PySem.W.takerIn
 rw[show PySem.W.findIn K (.ref C) f=some none from n]
 rfl
structure BZ (K:PySem.W.Frag)(C:Addr)(m:Str)(f:Addr):Prop where
 at_:PySem.W.findIn K (.ref C) m=some (some (.ref f))
 fn:PySem.W.isFn K (.ref f)=true
 kp:PySem.W.keepIn K (.ref f)=true
section
variable {X:Cx}{pins:List (Addr×Obj)}{σ:St}{H:Hp}{s:Shared}{a C dx:Addr}{fs:List (Str×V)}{f:Str}{v:V}{A:Around}{E:Value->Shared->Prop}
theorem KA {b:Bool}{Q:Value->Shared->Prop}(I:Inv X pins σ H s)(e:H a=some (.ins C dx fs))(c:rA X.K C)(n:oN X.K C f)(l:fs.lookup f=some v)
 (h:∀ u s',Inv X pins σ H s'->RelV v u->Q u s'):wpAny (model X.prog X.w) A (getAttr (.ref a) f b) Q E s:=by
 obtain⟨mA,O,r,_,_,_⟩:=BD I.bY e
 obtain⟨u,hu,ru⟩:=qS.some_of (v:=v) (o:=mA f) (by rw[<-l];exact r f)
 exact get_map I.jA O (c.get f) c.hd n hu (MI ru) (h u _ (I.tok _) ru)
theorem AD {m:Str}{g:Addr}{pl:Sem Bool}{Q:Value×List Value->Shared->Prop}(I:Inv X pins σ H s)(e:H a=some (.ins C dx fs))(c:rA X.K C)(k:BZ X.K C m g)(l:fs.lookup m=none)
 (h:Q (.ref g,[.ref a]) s):wpAny (model X.prog X.w) A (getMethod (.ref a) m pl) Q E s:=by
 obtain⟨mA,O,r,_,_,_⟩:=BD I.bY e
 have hn:mA m=none:=qS.none_of (by rw[<-l];exact r m)
 exact OI I.jA O (c.get m) k.at_ k.fn hn h
theorem IV {y:V}{u:Value}{Q:Unit->Shared->Prop}(I:Inv X pins σ H s)(e:H a=some (.ins C dx fs))(c:rA X.K C)(n:oN X.K C f)(hl:fs.length<1000)(ry:RelV y u)
  (h:∀ s',Inv X pins σ (upd H a (.ins C dx (hX f y fs))) s'->Q () s'):wpAny (model X.prog X.w) A (setAttr (.ref a) f u) Q E s:=by
 obtain⟨mA,O,r,wi,_,ho⟩:=BD I.bY e
 have hz:(fs.map (·.1)).length<=sizeLine:=by rw[List.length_map,sizeLine_eq];omega
 refine SK I.jA O c.sa c.po n.Be c.hd wi hz fun h' O' sb=>h _ ?_
 have hd:∃ o,h'.get? dx=some o:=let⟨o,_,_,e',_⟩:=O'.ns;⟨o,e'⟩
 refine I.write (x:=a) (e:=dx) (by rw[e];exact True.intro) (.inr ho) (fun b q hb z=>(sb.2 b hb).trans z) hd ?_
 refine⟨by rw[bR O.ne];exact ho,?_,O.ne,O'.obj,_,O'.ns,fun g=>?_,fun g hg=>?_⟩
 ·have:=yI f y fs;omega
 ·show qS ((hX f y fs).lookup g) (if g=f then some u else mA g)
  rw[yC]
  by_cases q:g=f
  ·rw[if_pos q,if_pos q];exact ry
  ·rw[if_neg q,if_neg q];exact r g
 ·by_cases q:g=f
  ·rw[q];exact(wB f y fs).1
  ·refine(wB f y fs).2 g (wi g fun z=>hg ?_)
   show(if g=f then some u else mA g)=none
   rw[if_neg q];exact z
theorem Inv.made (I:Inv X pins σ H s):Inv X pins σ (upd (upd H s.heap.objs.size (.own (s.heap.objs.size+1))) (s.heap.objs.size+1) (.ins C s.heap.objs.size []))
  { s with heap:=(s.heap.push PySem.W.emptyDict).push (PySem.W.instObj C s.heap.objs.size) }:=by
 have e1:(s.heap.push PySem.W.emptyDict).get? s.heap.objs.size=some PySem.W.emptyDict:=Heap.get?_push_size s.heap rfl
 have e2:((s.heap.push PySem.W.emptyDict).push (PySem.W.instObj C s.heap.objs.size)).get? (s.heap.objs.size+1)=some (PySem.W.instObj C s.heap.objs.size):=by
  have:=Heap.get?_push_size (s.heap.push PySem.W.emptyDict) (o:=PySem.W.instObj C s.heap.objs.size) rfl
  rwa [Heap.size_push]at this
 have e3:(s.heap.push PySem.W.emptyDict).Ns s.heap.objs.size (fun _=>none):=⟨PySem.W.emptyDict,#[],_,e1,rfl,(fun e he=>absurd he (by simp)),fun _=>rfl⟩
 have I1:=I.laid (a:=s.heap.objs.size) (o:=.own (s.heap.objs.size+1)) (h':=s.heap.push PySem.W.emptyDict) (t':=s.toks) (fun b u q=>Heap.get?_push_of_some _ q) (Nat.le_refl _) ⟨_,e1⟩
 refine I1.laid (a:=s.heap.objs.size+1) (o:=.ins C s.heap.objs.size []) (t':=s.toks) (fun b u q=>Heap.get?_push_of_some _ q) (Nat.le_of_eq (Heap.size_push _ _)) ?_
 have ne:s.heap.objs.size≠s.heap.objs.size+1:=Nat.ne_of_lt (Nat.lt_succ_self _)
 refine⟨by rw[bR ne,eT],Nat.zero_le _,ne,e2,fun _=>none,(Heap.Ns1.of_empty e3).at fun o q=>Heap.get?_push_of_some _ q,fun _=>True.intro,fun y hy=>absurd rfl hy⟩
theorem RO {prog:Program}{w:World}{env:Env}{e:Expr}{f:Str}{pos:Pos}{s:Shared}{Q:Value->Shared->Prop}(hb:attributeBase e f env (eval e env)=eval e env)
 (h:wpAny (model prog w) A (eval e env) (fun o s₁=>wpAny (model prog w) A (getAttr o f true) Q E s₁) E s):wpAny (model prog w) A (eval (.Attribute e f pos) env) Q E s :=
 Attribute_any_ h (by rw[arm_eval_Attribute,hb])
end
noncomputable def Et (K:PySem.W.Frag)(ta:TE)(f:Str):TE:=fun σ H Q=>ta σ H fun x H1=>∃ a C dx fs v,x=.ref a/\H1 a=some (.ins C dx fs)/\rA K C/\oN K C f/\fs.lookup f=some v/\Q v H1
noncomputable def Fw (K:PySem.W.Frag)(ta tv:TE)(f:Str):TS:=fun D σ H=>tv σ H fun y H1=>ta σ H1 fun x H2=>∃ a C dx fs,x=.ref a/\H2 a=some (.ins C dx fs)/\rA K C/\oN K C f/\fs.length<1000 /\
 D.nx σ (upd H2 a (.ins C dx (hX f y fs)))
section
variable {X:Cx}{o e value:Expr}{f:Str}{pos pos' tpos:Pos}{ta tv:TE}
theorem WD (he:PE X e ta)(hb:attributeBase e f X.env (eval e X.env)=eval e X.env):PE X (.Attribute e f pos) (Et X.K ta f):=by
 intro pins s σ H Q I h
 refine RO hb (aW (he pins s σ H _ I h) fun u s1 ⟨x,H1,I1,rx,a,C,dx,fs,v,ex,ea,c,n,l,q⟩=>?_)
 subst ex
 obtain rfl:u=Value.ref a:=rx
 exact KA I1 ea c n l fun u' s2 I2 ru=>⟨v,H1,I2,ru,q⟩
theorem X7 (ha:PE X o ta)(hv:PE X value tv)(hs:swapsWith value (some (.Attribute o f pos')) pos.line X.env=pure false):PS X (.Assign [.Attribute o f pos'] value pos) (Fw X.K ta tv f):=by
 intro pins s σ H D I h
 refine plainObj_wpAny_Assign_Attribute (aW (hv pins s σ H _ I h) fun u s1 ⟨y,H1,I1,ry,q⟩=>aW (ha pins s1 σ H1 _ I1 q) fun ov s2 ⟨x,H2,I2,rx,a,C,dx,fs,ex,ea,c,n,l,q2⟩=>?_) hs
 subst ex
 obtain rfl:ov=Value.ref a:=rx
 exact IV I2 ea c n l ry fun s3 I3=>⟨σ,_,I3,q2⟩
theorem ZC {pl:Sem Bool}{m:Str}{apos:Pos}{args:List Expr}{pins:List (Addr×Obj)}{s:Shared}{σ:St}{H:Hp}{Q:Value->Shared->Prop}{te:TE}(he:PE X e te)(I:Inv X pins σ H s)
 (h:te σ H fun x H1=>∃ a C dx fs g,x=.ref a/\H1 a=some (.ins C dx fs)/\rA X.K C/\BZ X.K C m g/\fs.lookup m=none /\
  ∀ s1,Inv X pins σ H1 s1->wpAny (model X.prog X.w) X.A (callWith pos (.ref g) [.ref a] (backTo pos (starEach args X.env)) (backToKw pos (keywordEach [] X.env))) Q X.xe s1)
 (ht:eval (.Call (.Attribute e m apos) args [] pos) X.env=(do
  let ov <-eval e X.env
  standAt apos.atName
  let(f,first) <-holding [ov] (getMethod ov m pl)
  callWith pos f first (backTo pos (starEach args X.env)) (backToKw pos (keywordEach [] X.env)))):
 wpAny (model X.prog X.w) X.A (eval (.Call (.Attribute e m apos) args [] pos) X.env) Q X.xe s:=by
 refine PySem.W.methodCall_KW (pl:=pl) (aW (he pins s σ H _ I h) fun u s1 ⟨x,H1,I1,rx,a,C,dx,fs,g,ex,ea,c,k,l,q⟩=>?_) ht
 subst ex
 obtain rfl:u=Value.ref a:=rx
 exact AD I1 ea c k l (q s1 I1)
end
end L2
namespace L2
open PySem PySem.Spec PyProof.Rows
structure dA (k:Nat)(A:Around):Prop where
 hd:A.handled=none
 dp:A.depth+3*k+5<recursionLimit
 un:A.units+16*k+200<cLine
theorem dA.mono {j k:Nat}{A:Around}(r:dA k A)(h:j<=k):dA j A:=⟨r.hd,by have:=r.dp;omega,by have:=r.un;omega⟩
theorem dA.deeper {k:Nat}{A:Around}(r:dA (k+1) A)(env:Env):dA k (A.deeper env) :=
 ⟨r.hd,by have:=r.dp;show A.depth+1+3*k+5<_;omega,by have:=r.un;show A.units+3+16*k+200<_;omega⟩
theorem KG {A:Around}{C:Addr}{us:List Value}{kw:List (Str×Value)}:(A.under (.builtin "type.__call__" ⟨.ref C::us,kw⟩)).depth=A.depth+1:=by
 first|rfl|simp [Around.under,Code.weight,Code.isCreation,Code.isGuard,Code.isCaller,Code.frames,Code.isFrame,guardIds]
theorem IQ {A:Around}{C:Addr}{us:List Value}{kw:List (Str×Value)}:(A.under (.builtin "type.__call__" ⟨.ref C::us,kw⟩)).units=A.units+1:=by
 first|rfl|simp [Around.under,Code.cUnits,Code.frames,Code.isFrame]
theorem dA.make {k:Nat}{A:Around}(r:dA (k+1) A)(C:Addr)(us:List Value)(kw:List (Str×Value)):dA k (A.under (.builtin "type.__call__" ⟨.ref C::us,kw⟩)) :=
 ⟨r.hd,by have:=r.dp;rw[KG];omega,by have:=r.un;rw[IQ];omega⟩
theorem dA.depth {k:Nat}{A:Around}(r:dA k A):A.depth<recursionLimit:=by have:=r.dp;omega
noncomputable def Ga:TA:=fun _ H Q=>Q [] H
noncomputable def Al (ta:TE)(tr:TA):TA:=fun σ H Q=>ta σ H fun x H1=>tr σ H1 fun xs H2=>Q (x::xs) H2
section
variable {X:Cx}{e:Expr}{es:List Expr}{te:TE}{t:TA}{pos:Pos}
theorem LK:PA X [] Ga:=fun _ _ _ _ H Q I h=>Calls.spliced_nil ⟨[],H,I,.nil,h⟩
theorem BF (ha:PE X e te)(hr:PA X es t)(hs:starEach (e::es) X.env=(false,eval e X.env)::starEach es X.env:=by rfl):PA X (e::es) (Al te t):=by
 intro pos pins s σ H Q I h
 rw[hs]
 show wpAny _ _ (spliced ((false,eval e X.env)::backTo pos (starEach es X.env))) _ _ s
 refine Calls.spliced_cons (aW (ha pins s σ H _ I h) fun u s1 ⟨x,H1,I1,r1,q1⟩=>?_)
 exact aW (hr pos pins s1 σ H1 _ I1 q1) fun us s2 ⟨xs,H2,I2,r2,q2⟩=>⟨x::xs,H2,I2,.cons r1 r2,q2⟩
noncomputable def Ey (t:TA):TE:=fun σ H Q=>t σ H fun xs H1=>xs.length<=sizeLine/\∀ p,H1 p=none->Q (.ref p) (upd H1 p (.tup xs))
noncomputable def Fe (t:TA):TE:=fun σ H Q=>t σ H fun xs H1=>xs.length<=sizeLine/\∀ p,H1 p=none->Q (.ref p) (upd H1 p (.lst xs))
theorem WK {x1}(h:PA X es t):PE X (.Tuple es x1 pos) (Ey t):=by
 intro pins s σ H Q I hq
 refine wpAny_Tuple_spliced (aW (h pos pins s σ H _ I hq) fun us s1 ⟨xs,H1,I1,r,z,q⟩=>⟨by rw[<-r.length];exact z,?_⟩)
 have hf:H1 s1.heap.objs.size=none:=I1.bY.fresh (Nat.le_refl _)
 refine⟨.ref s1.heap.objs.size,upd H1 s1.heap.objs.size (.tup xs),I1.laid (t':=s1.toks) (fun b u e=>Heap.get?_push_of_some _ e) (Nat.le_refl _) ?_,rfl,q _ hf⟩
 exact⟨z,us,r,nM.new _ _⟩
theorem VI (h:PA X es t):PE X (.List es pos) (Fe t):=by
 intro pins s σ H Q I hq
 refine wpAny_List_spliced (aW (h pos pins s σ H _ I hq) fun us s1 ⟨xs,H1,I1,r,z,q⟩=>⟨by rw[<-r.length];exact z,?_⟩)
 have hf:H1 s1.heap.objs.size=none:=I1.bY.fresh (Nat.le_refl _)
 refine⟨.ref s1.heap.objs.size,upd H1 s1.heap.objs.size (.lst xs),I1.laid (t':=s1.toks) (fun b u e=>Heap.get?_push_of_some _ e) (Nat.le_refl _) ?_,rfl,q _ hf⟩
 exact⟨z,us,0,r,Heap.get?_push_size _ rfl⟩
end
noncomputable abbrev Sp:=List V->Hp->VK->XK->Prop
noncomputable abbrev uI:=List Env->Hp->Shared->XK->Value->Shared->Prop
structure yZ (P:Program)(w:World)(K:PySem.W.Frag)(mg:Str->Option Value)(base:Heap)(A:Around)(outer:List Env)(s:Shared)(H:Hp):Prop where
 frames:A.frames=some outer
 mod:Mod K mg base
 bs:∀ b o,base.get? b=some o->s.heap.get? b=some o/\H b=none
 bsz:base.objs.size<=s.heap.objs.size
 mD:s.heap.FunFrames base outer
 frf:∀ b∈uE outer,H b=none
 bY:iB P w H s.heap
 bare:AllBare s.gens
inductive CE (outer:List Env)(P:Program)(w:World)(H:Hp)(s:Shared)(Q:VK)(u:Value)(s':Shared):Prop
 |mk (v:V)(H':Hp)(a:s'.os=s.os)(b:AllBare s'.gens)(c:Un (uE outer) [] H H' s.heap s'.heap)(d:iB P w H' s'.heap)(r:RelV v u)(q:Q v H')
noncomputable def CR (CX:uI)(outer:List Env)(P:Program)(w:World)(H:Hp)(s:Shared)(Q:VK)(E:XK)(r:Result)(s':Shared):Prop :=
 match r with
 |.ok (.ret u)=>CE outer P w H s Q u s'
 |.ok _=>False
 |.error e=>CX outer H s E e s'
structure dX (P:Program)(w:World)(K:PySem.W.Frag)(mg:Str->Option Value)(base:Heap)(CX:uI)(k:Nat)(f:Addr)(fd:FuncData)(ps:List Str)(sp:Sp):Prop where
 len:∀ vs H Q E,sp vs H Q E->vs.length=ps.length
 run:∀(A:Around)(outer:List Env)(s:Shared)(H:Hp)(args:Args)(us:List Value)(vs:List V)(Q:VK)(E:XK),dA k A->yZ P w K mg base A outer s H->BindsTo s fd args (ps.zip us)->aL vs us->sp vs H Q E ->
 codeAny (model P w) A (.call (.ref f) args) (CR CX outer P w H s Q E) s
theorem yZ.make {P:Program}{w:World}{K:PySem.W.Frag}{mg:Str->Option Value}{base:Heap}{A:Around}{outer:List Env}{s:Shared}{H:Hp}(e:yZ P w K mg base A outer s H)(C:Addr)(us:List Value)(kw:List (Str×Value)):
 yZ P w K mg base (A.under (.builtin "type.__call__" ⟨.ref C::us,kw⟩)) outer s H:=⟨by first|exact e.frames|(simpa [Around.under,Code.envs,Code.isFrame,pushEnvs]using e.frames),e.mod,e.bs,e.bsz,e.mD,e.frf,e.bY,e.bare⟩
section
variable {X:Cx}{pins:List (Addr×Obj)}{σ:St}{H:Hp}{s s':Shared}
theorem Inv.YT (I:Inv X pins σ H s):yZ X.prog X.w X.K X.mg X.base X.A X.stack s H :=
 ⟨I.ok.frames,I.ok.mod,I.bs,Nat.le_trans I.ok.bsz I.sz,I.stack,I.HZ,I.bY,I.bare⟩
theorem Inv.after {Q:VK}{u:Value}(I:Inv X pins σ H s)(h:CE X.stack X.prog X.w H s Q u s'):EP X pins σ Q u s':=by
 obtain⟨v,H',os,bare,un,bY,r,q⟩:=h
 obtain⟨hh,g,d,t,os'⟩:=s'
 obtain rfl:os'=s.os:=os
 exact⟨v,H',I.call (h':=hh) (g':=g) (d':=d) (t':=t) (ch:=[]) un bY bare (fun b z=>absurd z (by simp)),r,q⟩
end
noncomputable def Am (sp:Sp)(dvs:List V)(E:XK)(t:TA):TE:=fun σ H Q=>t σ H fun vs H1=>sp (vs++dvs) H1 Q E
noncomputable def ZT (C:Addr)(m:Str)(sp:Sp)(dvs:List V)(E:XK)(ta:TE)(t:TA):TE:=fun σ H Q=>ta σ H fun x H1=>∃ a dx fs,x=.ref a/\H1 a=some (.ins C dx fs)/\fs.lookup m=none /\
 t σ H1 fun vs H2=>sp (x::(vs++dvs)) H2 Q E
noncomputable def De (C:Addr)(sp:Sp)(dvs:List V)(E:XK)(t:TA):TE:=fun σ H Q=>t σ H fun vs H1=>∀ x dx,H1 x=none->H1 dx=none->dx≠x ->
 sp (.ref x::(vs++dvs)) (upd (upd H1 dx (.own x)) x (.ins C dx [])) (fun v H2=>v=.non/\Q (.ref x) H2) E
noncomputable def Binds (K:PySem.W.Frag)(fd:FuncData)(ps:List Str)(ds:List Value):Prop :=
 ∀(s:Shared)(us:List Value),K.In s.heap->(us++ds).length=ps.length->BindsTo s fd ⟨us,[]⟩ (ps.zip (us++ds))
theorem Binds.all {K:PySem.W.Frag}{fd:FuncData}{ps:List Str}(h:∀ us:List Value,us.length=ps.length->bindArgs fd ⟨us,[]⟩=pure (ps.zip us)):Binds K fd ps []:=fun s us _ hl=>by
 rw[List.append_nil]at hl ⊢
 exact .of_eq (h us hl)
noncomputable def oB (CX:uI)(X:Cx)(E:XK):Prop:=∀(pins:List (Addr×Obj))(σ:St)(H:Hp)(s:Shared)(e:Value)(s':Shared),Inv X pins σ H s->CX X.stack H s E e s'->X.xe e s'
section
variable {X:Cx}{CX:uI}{k:Nat}{f C:Addr}{fd:FuncData}{ps:List Str}{sp:Sp}{dvs:List V}{ds:List Value}{E:XK}{x m:Str}{p pos apos:Pos}{e o:Expr}{es:List Expr}{ta:TE}{t:TA}
theorem LP {pins:List (Addr×Obj)}{σ:St}{H:Hp}{s:Shared}{Q:VK}{us:List Value}{vs:List V}(F:dX X.prog X.w X.K X.mg X.base CX k f fd ps sp)(hr:dA k X.A)(hb:Binds X.K fd ps ds)(hd:aL dvs ds)(hx:oB CX X E)
 (I:Inv X pins σ H s)(r:aL vs us)(h:sp (vs++dvs) H Q E):wpAny (model X.prog X.w) X.A (call (.ref f) us) (EP X pins σ Q) X.xe s:=by
 have r2:aL (vs++dvs) (us++ds):=r.append hd
 have hl:(us++ds).length=ps.length:=by rw[<-r2.length];exact F.len _ _ _ _ h
 refine wpAny_call (codeAny_mono (F.run X.A X.stack s H ⟨us,[]⟩ (us++ds) (vs++dvs) Q E hr I.YT (hb s us I.jA hl) r2 h) fun r s' hq=>?_)
 cases r with
 |error e=>exact hx pins σ H s e s' I hq
 |ok fl =>
 cases fl with
 |ret u=>exact I.after hq
 |next=>exact False.elim hq
 |brk=>exact False.elim hq
 |cont=>exact False.elim hq
theorem RY (F:dX X.prog X.w X.K X.mg X.base CX k f fd ps sp)(hr:dA k X.A)(hg:Gl X x)(hm:X.mg x=some (.ref f))(hk:PySem.W.keepIn X.K (.ref f)=true)(hb:Binds X.K fd ps ds)(hd:aL dvs ds)(hx:oB CX X E)
 (ha:PA X (e::es) t)(hdb:(x==("__debug__" : Str))=false:=by decide)(he:starEach (e::es) X.env=(false,eval e X.env)::starEach es X.env:=by rfl)(cS:(backTo pos (starEach es X.env)).any (·.1)=false:=by rfl):
 PE X (.Call (.Name x p) (e::es) [] pos) (Am sp dvs E t):=by
 intro pins s σ H Q I h
 refine wpAny_Call_Name_kw (A6 I hg hm ?_ hdb)
 refine PySem.W.callWith_K (h₀:=X.base) I.ok.mod.kin hk (aW (ha pos pins s σ H _ I h) fun us s1 ⟨vs,H1,I1,r,q⟩=>⟨I1.jA,?_⟩) he cS
 exact LP F hr hb hd hx I1 r q
theorem S4 {pl:Sem Bool}(he:PE X o ta)(c:rA X.K C)(hm:BZ X.K C m f)(F:dX X.prog X.w X.K X.mg X.base CX k f fd ps sp)(hr:dA k X.A)(hb:Binds X.K fd ps ds)(hd:aL dvs ds)(hx:oB CX X E)(ha:PA X (e::es) t)
 (eF:starEach (e::es) X.env=(false,eval e X.env)::starEach es X.env:=by rfl)(cS:(backTo pos (starEach es X.env)).any (·.1)=false:=by rfl)
 (ht:eval (.Call (.Attribute o m apos) (e::es) [] pos) X.env=(do
  let ov <-eval o X.env
  standAt apos.atName
  let(f,first) <-holding [ov] (getMethod ov m pl)
  callWith pos f first (backTo pos (starEach (e::es) X.env)) (backToKw pos (keywordEach [] X.env))):=by rfl):
 PE X (.Call (.Attribute o m apos) (e::es) [] pos) (ZT C m sp dvs E ta t):=by
 intro pins s σ H Q I h
 refine PySem.W.methodCall_KW (pl:=pl) (aW (he pins s σ H _ I h) fun u s1 ⟨x,H1,I1,rx,a,dx,fs,ex,ea,l,q⟩=>?_) ht
 subst ex
 obtain rfl:u=Value.ref a:=rx
 refine AD I1 ea c hm l ?_
 refine PySem.W.callWith_K (first:=[.ref a]) (h₀:=X.base) I.ok.mod.kin hm.kp (aW (ha pos pins s1 σ H1 _ I1 q) fun us s2 ⟨vs,H2,I2,r,q2⟩=>⟨I2.jA,?_⟩) eF cS
 exact LP (us:=.ref a::us) (vs:=.ref a::vs) F hr hb hd hx I2 (.cons rfl r) q2
structure Mk (K:PySem.W.Frag)(C f:Addr):Prop where
 makes:PySem.W.makesIn K C=true
 init:PySem.W.findIn K (.ref C) "__init__" = some (some (.ref f))
 fn:PySem.W.isFn K (.ref f)=true
 kp:PySem.W.keepIn K (.ref C)=true
theorem O0 {pins:List (Addr×Obj)}{σ:St}{H:Hp}{s:Shared}{Q:VK}{us:List Value}{vs:List V}(M:Mk X.K C f)(F:dX X.prog X.w X.K X.mg X.base CX k f fd ps sp)(hr:dA (k+1) X.A)(hb:Binds X.K fd ps ds)(hd:aL dvs ds)
  (hx:oB CX X E)(I:Inv X pins σ H s)(r:aL vs us)
  (h:∀ x dx,H x=none->H dx=none->dx≠x->sp (.ref x::(vs++dvs)) (upd (upd H dx (.own x)) x (.ins C dx [])) (fun v H2=>v=.non/\Q (.ref x) H2) E):
  wpAny (model X.prog X.w) X.A (call (.ref C) us) (EP X pins σ Q) X.xe s:=by
 have hq:=h (s.heap.objs.size+1) s.heap.objs.size (I.bY.fresh (Nat.le_succ _)) (I.bY.fresh (Nat.le_refl _)) (Nat.ne_of_lt (Nat.lt_succ_self _))
 have I2:=Inv.made (C:=C) I
 have r2:aL (V.ref (s.heap.objs.size+1)::(vs++dvs)) (Value.ref (s.heap.objs.size+1)::(us++ds)):=.cons rfl (r.append hd)
 have hl:(Value.ref (s.heap.objs.size+1)::us++ds).length=ps.length:=by
  have e:=r2.length
  rw[F.len _ _ _ _ hq]at e
  exact e.symm
 refine wpAny_call (PQ (f:=f) I.jA M.makes M.init (beq_iff_eq.mp M.fn) (codeAny_mono (F.run _ X.stack _ _ ⟨Value.ref (s.heap.objs.size+1)::us,[]⟩ (Value.ref (s.heap.objs.size+1)::(us++ds)) _ _ E (hr.make C us [])
  (I2.YT.make C us []) (hb _ (Value.ref (s.heap.objs.size+1)::us) I2.jA hl) r2 hq) fun r s' hq'=>?_))
 cases r with
 |error e=>exact hx pins σ _ _ e s' I2 hq'
 |ok fl =>
  cases fl with
  |ret u =>
   obtain⟨v,H',I3,rv,ev,q3⟩:=I2.after hq'
   subst ev
   exact⟨rv,⟨V.ref (s.heap.objs.size+1),H',I3,rfl,q3⟩⟩
  |next=>exact False.elim hq'
  |brk=>exact False.elim hq'
  |cont=>exact False.elim hq'
theorem S9 (M:Mk X.K C f)(F:dX X.prog X.w X.K X.mg X.base CX k f fd ps sp)(hr:dA (k+1) X.A)(hg:Gl X x)(hm:X.mg x=some (.ref C))(hb:Binds X.K fd ps ds)(hd:aL dvs ds)(hx:oB CX X E)
 (ha:PA X (e::es) t)(hdb:(x==("__debug__" : Str))=false:=by decide)(he:starEach (e::es) X.env=(false,eval e X.env)::starEach es X.env:=by rfl)(cS:(backTo pos (starEach es X.env)).any (·.1)=false:=by rfl):
 PE X (.Call (.Name x p) (e::es) [] pos) (De C sp dvs E t):=by
 intro pins s σ H Q I h
 refine wpAny_Call_Name_kw (A6 I hg hm ?_ hdb)
 refine PySem.W.callWith_K (h₀:=X.base) I.ok.mod.kin M.kp (aW (ha pos pins s σ H _ I h) fun us s1 ⟨vs,H1,I1,r,q⟩=>⟨I1.jA,?_⟩) he cS
 exact O0 M F hr hb hd hx I1 r q
end
structure sA (N P:List Str)(sc:Scope):Prop where
 kind:sc.kind=.function
 co:sc.isCoroutine=false
 gen:sc.isGenerator=false
 nd:N.Nodup
 pre:N.take P.length=P
 par:∀ x∈P,sc.names.lookup x=some .local∨sc.names.lookup x=some .cell
 nofree:∀ y∈sc.names,y.2≠.free
theorem CI {kindOf:Str->Option NameKind}{x:Str}:∀{binds:List (Str×Value)}{m:Str->Option Value},(∀ v,(x,v)∉binds)->bindL kindOf binds m x=m x
 |[],_,_=>rfl
 |(n,v)::r,m,h=>by
  unfold bindL
  rw[CI fun w hw=>h w (List.mem_cons_of_mem _ hw)]
  split
  ·have:x≠n:=by rintro rfl;exact h v List.mem_cons_self
   simp [this]
  ·rfl
theorem CL {kindOf:Str->Option NameKind}{x:Str}:∀{binds:List (Str×Value)}{m:Str->Option Value},(∀ v,(x,v)∉binds)->bindC kindOf binds m x=m x
 |[],_,_=>rfl
 |(n,v)::r,m,h=>by
  unfold bindC
  rw[CL fun w hw=>h w (List.mem_cons_of_mem _ hw)]
  split
  ·rfl
  ·have:x≠n:=by rintro rfl;exact h v List.mem_cons_self
   simp [this]
theorem B6 {kindOf:Str->Option NameKind}{x:Str}{v:Value}:∀{P:List Str}{vs:List Value}{i:Nat}{m:Str->Option Value},P.Nodup->P[i]? = some x->vs[i]? = some v->kindOf x=some .local ->
  bindL kindOf (P.zip vs) m x=some v
 |[],_,_,_,_,h,_,_=>by simp at h
 |_::_,[],_,_,_,_,h,_=>by simp at h
 |p::P,w::vs,0,m,nd,h1,h2,hk=>by
  simp at h1 h2;subst h1;subst h2
  show bindL kindOf ((p,w)::P.zip vs) m p=_
  unfold bindL
  rw[CI fun v hv=>(List.nodup_cons.mp nd).1 (List.of_mem_zip hv).1,if_pos hk]
  simp
 |p::P,w::vs,i+1,m,nd,h1,h2,hk=>by
  show bindL kindOf ((p,w)::P.zip vs) m x=_
  unfold bindL
  exact B6 (i:=i) (List.nodup_cons.mp nd).2 (by simpa using h1) (by simpa using h2) hk
theorem DJ {kindOf:Str->Option NameKind}{x:Str}{v:Value}:∀{P:List Str}{vs:List Value}{i:Nat}{m:Str->Option Value},P.Nodup->P[i]? = some x->vs[i]? = some v->kindOf x≠some .local ->
  bindC kindOf (P.zip vs) m x=some v
 |[],_,_,_,_,h,_,_=>by simp at h
 |_::_,[],_,_,_,_,h,_=>by simp at h
 |p::P,w::vs,0,m,nd,h1,h2,hk=>by
  simp at h1 h2;subst h1;subst h2
  show bindC kindOf ((p,w)::P.zip vs) m p=_
  unfold bindC
  rw[CL fun v hv=>(List.nodup_cons.mp nd).1 (List.of_mem_zip hv).1,if_neg hk]
  simp
 |p::P,w::vs,i+1,m,nd,h1,h2,hk=>by
  show bindC kindOf ((p,w)::P.zip vs) m x=_
  unfold bindC
  exact DJ (i:=i) (List.nodup_cons.mp nd).2 (by simpa using h1) (by simpa using h2) hk
noncomputable def start (N:List Str)(vs:List V):St:=vs.map some++List.replicate (N.length-vs.length) none
noncomputable def lL (CX:uI)(P:Program)(w:World)(K:PySem.W.Frag)(mg:Str->Option Value)(base:Heap)(N:List Str)(qual:Str)(scope:Scope)(f:Addr)(cd:Value)(A:Around)(outer:List Env)(s:Shared)(H:Hp)(E:XK):Cx where
 prog:=P
 w:=w
 K:=K
 mg:=mg
 base:=base
 A:=A.deeper (envOfC qual scope s.heap.objs.size f cd)
 N:=N
 s₀:=s
 H₀:=H
 env:=envOfC qual scope s.heap.objs.size f cd
 outer:=outer
 stack:=envOfC qual scope s.heap.objs.size f cd::outer
 ex:=[]
 calm:=true
 fn:=fun _=>true
 pn:=[]
 xe:=fun e s'=>wpAny (model P w) (A.deeper (envOfC qual scope s.heap.objs.size f cd)) (leaving (envOfC qual scope s.heap.objs.size f cd) e) (fun _ s''=>CX outer H s E e s'') (fun e' s''=>CX outer H s E e' s'') s'
theorem FE {sc:Scope}{n:Nat}{x:Str}(h:sc.names.lookup x=some .cell):∃ c,(cellsFrom n sc.names []).lookup x=some c:=by
 have q:=PySem.W.cellsFrom_some sc.names n [] (.inl h)
 exact Option.isSome_iff_exists.mp q
theorem MM {CX:uI}{P:Program}{w:World}{K:PySem.W.Frag}{mg:Str->Option Value}{base:Heap}{N ps:List Str}{qual:Str}{scope:Scope}{f:Addr}{cd:Value}{A:Around}{outer:List Env}{s s1:Shared}{H:Hp}{E:XK}{us:List Value}{vs:List V}
  (S:sA N ps scope)(hd:A.handled=none)(e0:yZ P w K mg base A outer s H)(hl:vs.length=ps.length)(r:aL vs us)
  (x:InCallC s s.heap.objs.size (bindL (envOfC qual scope s.heap.objs.size f cd).kindOf (ps.zip us) fun _=>none) (cellsFrom (s.heap.objs.size+1) scope.names []) (bindC (envOfC qual scope s.heap.objs.size f cd).kindOf (ps.zip us) fun _=>none) s1):
  Inv (lL CX P w K mg base N qual scope f cd A outer s H E) [] (start N vs) H s1:=by
 have cS:ps.length<=N.length:=by have:=congrArg List.length S.pre;rw[List.length_take]at this;omega
 obtain⟨h1,tk,rfl,hk⟩:=x.done
 have noA:∀ b:Addr,b∉(lL CX P w K mg base N qual scope f cd A outer s H E).ex:=fun b z=>absurd (show b∈([]:List Addr)from z) (by simp)
 refine⟨⟨e0.mod,S.kind,rfl,rfl,Nat.le_refl _,fun y z c h1 h2=>?_,fun y hy=>?_,fun y c _ h=>?_,fun _=>hd,Around.frames_deeper e0.frames,.inr ⟨rfl,rfl⟩,fun b z=>absurd z (noA b),e0.bs,e0.bsz,fun b _ _=>noA b,fun b z=>absurd z (noA b),e0.mD,e0.frf⟩,
  rfl,e0.bare,Un.kept hk,⟨_,x.toInCall.ns,fun i y v h1 h2 h3=>?_⟩,fun y c h=>⟨_,x.cell y c h⟩,e0.bY.fresh (Nat.le_refl _),fun y c h=>?_,fun p hp=>absurd (show p∈([]:List (Addr×Obj))from hp) (by simp),e0.bY.kept hk,?_⟩
 ·exact name_of_addr x.apart (PySem.mem_of_lookup h1) (PySem.mem_of_lookup h2)
 ·have hy:scope.names.lookup y=some .cell∨scope.names.lookup y=some .free:=hy
  rcases hy with hy|hy
  ·exact FE hy
  ·exact absurd rfl (S.nofree _ (PySem.mem_of_lookup hy))
 ·exact Nat.le_of_lt (x.above y c (PySem.mem_of_lookup h))
 ·have hi:i<vs.length:=by
   unfold start at h2
   by_cases hi:i<vs.length
   ·exact hi
   ·rw[List.getElem?_append_right (by simpa using hi)]at h2
    rw[List.getElem?_replicate]at h2
    split at h2<;>cases h2
  have ha:vs[i]? = some v:=by
   unfold start at h2
   rw[List.getElem?_append_left (by simpa using hi),List.getElem?_map]at h2
   cases e:vs[i]? with
   |none=>rw[e]at h2;cases h2
   |some a=>rw[e]at h2;cases h2;rfl
  obtain⟨u,hu,rv⟩:=r.get ha
  have hp:ps[i]? = some y:=by
   rw[<-S.pre,List.getElem?_take_of_lt (by omega)];exact h1
  have ndP:ps.Nodup:=by rw[<-S.pre];exact S.nd.sublist (List.take_sublist _ _)
  refine⟨u,rv,?_⟩
  rcases S.par y (List.mem_of_getElem? hp)with k|k
  ·exact .inl ⟨k,B6 ndP hp hu k⟩
  ·obtain⟨c,e⟩:=FE (n:=s.heap.objs.size+1) k
   refine .inr ⟨.inl k,c,e,?_⟩
   have q:=x.cell y c e
   rw[DJ ndP hp hu (by show scope.names.lookup y≠_;rw[k];decide)]at q
   exact q
 ·exact e0.bY.fresh (Nat.le_of_lt (x.above y c (PySem.mem_of_lookup h)))
 ·unfold start
  show _=N.length
  rw[List.length_append,List.length_map,List.length_replicate]
  omega
theorem Bi {CX:uI}{P:Program}{w:World}{K:PySem.W.Frag}{mg:Str->Option Value}{base:Heap}{k:Nat}{f:Addr}{name qual:Str}{params:Arguments}{body:List Stmt}{scope:Scope}{dV kV doc pm bO ct oc:Value}{an od:Option Addr}
  {osl:Array (Option Value)}{N ps:List Str}{sp:Sp}(lk:K.lookup f=some ⟨oc,od,.func (PySem.W.fnOf name qual params body scope dV kV doc pm an bO ct),osl⟩)(hcd:PySem.W.codeIn K bO qual=true)(S:sA N ps scope)
  (len:∀ vs H Q E,sp vs H Q E->vs.length=ps.length)
  (hbody:∀(A:Around)(outer:List Env)(s:Shared)(H:Hp)(vs:List V)(Q:VK)(E:XK),dA k (A.deeper (envOfC qual scope s.heap.objs.size f bO))->sp vs H Q E ->
   ∃ t,jQ (lL CX P w K mg base N qual scope f bO A outer s H E) body t/\t { nx:=fun _ H'=>Q .non H',rt:=Q } (start N vs) H):
  dX P w K mg base CX (k+1) f (PySem.W.fnOf name qual params body scope dV kV doc pm an bO ct) ps sp:=by
 refine⟨len,fun A outer s H args us vs Q E hr e0 hb r hsp=>?_⟩
 have hl:=len _ _ _ _ hsp
 have KX:K.In s.heap:=e0.mod.kin.keeps fun b o e=>(e0.bs b o e).1
 have lim:s.heap.NoLimit:=e0.mod.nolimit.keeps fun b o e=>(e0.bs b o e).1
 have hkind:∀ y∈ps.zip us,scope.names.lookup y.1=some .local∨(scope.names.lookup y.1=some .cell/\((cellsFrom (s.heap.objs.size+1) scope.names []).lookup y.1).isSome=true):=fun⟨n,v⟩ hy=>by
  rcases S.par n (List.of_mem_zip hy).1 with q|q
  ·exact .inl q
  ·exact .inr ⟨q,PySem.W.cellsFrom_some _ _ _ (.inl q)⟩
 refine codeAny_call_function hr.depth (KX _ _ lk) rfl S.co S.gen rfl (PySem.W.codeRec_of KX hcd) (hb _ _ _ _ ?_)
 refine wpAny_newFunctionEnv_cells S.kind hkind fun env he s1 x=>?_
 subst he
 refine⟨lim.keeps x.toInCall.keep,codeAny_func ?_⟩
 obtain⟨t,ht,hq⟩:=hbody A outer s H vs Q E (hr.deeper _) hsp
 have I:Inv (lL CX P w K mg base N qual scope f bO A outer s H E) [] (start N vs) H s1:=MM S hr.hd e0 hl r x
 refine wpAny_mono (ht [] s1 (start N vs) H _ I hq) (fun fl s' hs=>?_) fun e s' hs=>hs
 have fin:∀{σ':St}{H':Hp}{v:V}{u:Value},Inv (lL CX P w K mg base N qual scope f bO A outer s H E) [] σ' H' s'->RelV v u->Q v H'->CE outer P w H s Q u s' :=
  fun{σ' H' v u} J rv q=>⟨v,H',J.os,J.bare,J.base,J.bY,rv,q⟩
 cases fl with
 |ret u =>
  obtain⟨v,σ',H',J,rv,q⟩:=hs
  exact fin J rv q
 |next =>
  obtain⟨σ',H',J,q⟩:=hs
  exact fin (v:=V.non) (u:=Value.none) J rfl q
 |brk =>
  obtain⟨_,_,_,q⟩:=hs
  exact False.elim q
 |cont =>
  obtain⟨_,_,_,q⟩:=hs
  exact False.elim q
end L2
namespace L2
open PySem PySem.Spec PyProof.Rows
section
variable {X:Cx}{x:Str}{p pos:Pos}{e:Expr}{es:List Expr}{t:TA}{id T:String}{r:List V->Hp->VK->Prop}
noncomputable def U2 (r:List V->Hp->VK->Prop)(t:TA):TE:=fun σ H Q=>t σ H fun vs H1=>r vs H1 Q
theorem FN (hc:tF X (.builtin id) r)(hg:Gl X x)(hm:X.mg x=none)(hv:bootBuiltins x=some (.builtin id))(ha:PA X (e::es) t)(hn:x ≠"__name__":=by decide)(hdb:(x==("__debug__" : Str))=false:=by decide)
 (he:starEach (e::es) X.env=(false,eval e X.env)::starEach es X.env:=by rfl)(cS:(backTo pos (starEach es X.env)).any (·.1)=false:=by rfl):PE X (.Call (.Name x p) (e::es) [] pos) (U2 r t):=by
 intro pins s σ H Q I h
 refine wpAny_Call_Name_kw (lD I hg hm hv ?_ hn hdb)
 exact PyProof.Rows.callWith_builtin1 (aW (ha pos pins s σ H _ I h) fun us s1 ⟨vs,H1,I1,r1,q1⟩=>hc pins s1 σ H1 vs us Q I1 r1 q1) he cS
theorem LG (hc:tF X (.type T) r)(hg:Gl X x)(hm:X.mg x=none)(hv:bootBuiltins x=some (.type T))(ha:PA X (e::es) t)(hn:x ≠"__name__":=by decide)(hdb:(x==("__debug__" : Str))=false:=by decide)
 (he:starEach (e::es) X.env=(false,eval e X.env)::starEach es X.env:=by rfl)(cS:(backTo pos (starEach es X.env)).any (·.1)=false:=by rfl):PE X (.Call (.Name x p) (e::es) [] pos) (U2 r t):=by
 intro pins s σ H Q I h
 refine wpAny_Call_Name_kw (lD I hg hm hv ?_ hn hdb)
 exact PyProof.Rows.callWith_type1 (aW (ha pos pins s σ H _ I h) fun us s1 ⟨vs,H1,I1,r1,q1⟩=>hc pins s1 σ H1 vs us Q I1 r1 q1) he cS
end
end L2
namespace HT
open PySem PyProof.Rows
section
variable {prog:Program}{w:World}{A:Around}{E:Value->Shared->Prop}{s:Shared}
theorem S7 {t b:Addr}{vs ws:List Value}{Q:Value->Shared->Prop}(ht:IsTup s.heap t vs.toArray)(hb:IsTup s.heap b ws.toArray)(hv:vs≠[])
  (h1:ws=[]->Q (.ref t) s)(h2:ws≠[]->Q (.ref s.heap.objs.size) { s with heap:=s.heap.push { cls:=.type "tuple", data:=.seq (vs++ws).toArray } })
  (lU:vs.length+ws.length<=sizeLine):wpAny (model prog w) A (binaryOp .Add (.ref t) (.ref b)) Q E s:=by
 obtain⟨⟨cls,dd,data,sl⟩,ho,hc,n,hd⟩:=id ht
 obtain⟨⟨cls2,dd2,data2,sl2⟩,ho2,hc2,n2,hd2⟩:=id hb
 simp only at hc hd hc2 hd2
 subst hc hd hc2 hd2
 have e:vs.toArray++ws.toArray=(vs++ws).toArray:=by simp
 by_cases hw:ws=[]
 ·exact concat_meets ⟨_,ho,rfl⟩ ⟨_,ho2,rfl⟩ noFill_tuple_add seq_tuple_add PySem.F.slot_tuple_add PySem.F.entry_tuple_add (PySem.F.args_tuple_add_2 _ _)
   (tuple_addW1 t b vs.toArray ws.toArray n n2 dd dd2 sl sl2 (by simpa using hv) (by simp [hw])) ⟨ho,ho2,h1 hw⟩
 ·refine concat_meets ⟨_,ho,rfl⟩ ⟨_,ho2,rfl⟩ noFill_tuple_add seq_tuple_add PySem.F.slot_tuple_add PySem.F.entry_tuple_add (PySem.F.args_tuple_add_2 _ _)
   (tuple_addW2 t b vs.toArray ws.toArray n n2 dd dd2 sl sl2 (by simpa using hv) (by simpa using hw) (by rw[List.size_toArray,List.size_toArray];exact lU)) ⟨ho,ho2,?_⟩
  rw[e]
  exact h2 hw
noncomputable def bX (n d:Nat):Option Int->Nat
 |none=>d
 |some v=>if v<0 then(v+(n:Int)).toNat else min v.toNat n
theorem VW (n d:Nat)(hd:d<=n)(o:Option Int):bX n d o<=n:=by
 cases o with
 |none=>exact hd
 |some v =>
 show(if v<0 then(v+(n:Int)).toNat else min v.toNat n)<=n
 by_cases hv:v<0
 ·rw[if_pos hv];omega
 ·rw[if_neg hv];exact Nat.min_le_right _ _
theorem HC (v:Int)(n d:Nat):(if v<0 then max (v+(n:Int)) 0 else min v (n:Int))=((bX n d (some v):Nat):Int):=by
 show(if v<0 then max (v+(n:Int)) 0 else min v (n:Int))=(((if v<0 then(v+(n:Int)).toNat else min v.toNat n):Nat):Int)
 by_cases hv:v<0
 ·simp only[if_pos hv];omega
 ·simp only[if_neg hv];omega
theorem JD (lo hi:Option Int)(n:Nat):Builtin.Slice.sliceAdjust lo hi 1 (n:Int)=(((bX n 0 lo:Nat):Int),((bX n n hi:Nat):Int)):=by
 have h1:¬((1:Int)<0):=by omega
 unfold Builtin.Slice.sliceAdjust
 simp only[h1,if_false]
 refine Prod.ext ?_ ?_
 ·cases lo with
 |none=>rfl
 |some v=>exact HC v n 0
 ·cases hi with
 |none=>rfl
 |some v=>exact HC v n n
theorem IC (i j:Nat):Builtin.Slice.slicePlaces (i:Int) (j:Int) 1=j-i:=by
 unfold Builtin.Slice.slicePlaces
 have h1:(1:Int)>0:=by omega
 simp only[h1,if_true,Int.ediv_one]
 split<;>omega
theorem AQ {v:Value}{o:Option Int}{Q:Option Int->Shared->Prop}(p:IsPart v o)(h:Q o s):wpAny (model prog w) A (Builtin.Slice.slicePartIndex v) Q E s:=by
 cases p with
 |none=>exact slicePart_none h
 |int i t=>exact slicePart_int h
theorem pA {sl:Addr}{vl vu:Value}{lo hi:Option Int}{n:Nat}{Q:Int×Int×Nat->Shared->Prop}(hs:s.heap.IsSliceOf sl vl vu .none)(pl:IsPart vl lo)(pu:IsPart vu hi)
 (h:Q (((bX n 0 lo:Nat):Int),1,bX n n hi-bX n 0 lo) s):wpAny (model prog w) A (Builtin.Slice.sliceApplied (.ref sl) (pure (n:Int))) Q E s:=by
 obtain⟨os,hos,hcs,hds⟩:=id hs
 unfold Builtin.Slice.sliceApplied Builtin.Slice.sliceFields
 refine wpAny_bind (wpAny_bind (wpAny_field hos hds (x:=vl) rfl (wpAny_bind (wpAny_field hos hds (x:=vu) rfl (wpAny_bind (wpAny_field hos hds (x:=.none) rfl (wpAny_pure ?_)))))))
 refine wpAny_bind (slicePart_none ?_)
 show wpAny _ _ (if((1:Int)==0)=true then _ else _) _ _ s
 rw[if_neg (by decide)]
 refine wpAny_bind (AQ pl (wpAny_bind (AQ pu (wpAny_bind (wpAny_pure ?_)))))
 show wpAny _ _ (match Builtin.Slice.sliceAdjust lo hi 1 (n:Int)with|(lo,hi)=>pure (lo,(1:Int),Builtin.Slice.slicePlaces lo hi 1)) _ _ s
 rw[JD lo hi n]
 show wpAny _ _ (pure (((bX n 0 lo:Nat):Int),(1:Int),Builtin.Slice.slicePlaces ((bX n 0 lo:Nat):Int) ((bX n n hi:Nat):Int) 1)) _ _ s
 rw[IC]
 exact wpAny_pure h
theorem PM (xs:Array Value)(i k:Nat):((List.range k).filterMap fun(m:Nat)=>xs[((i:Int)+(m:Int)*1).toNat]?).toArray=((xs.toList.drop i).take k).toArray:=by
 have e:(fun(m:Nat)=>xs[((i:Int)+(m:Int)*1).toNat]?)=fun m=>xs[i+m]?:=by
  funext m
  have:((i:Int)+(m:Int)*1).toNat=i+m:=by omega
  rw[this]
 rw[e]
 have:=pick_run xs i k
 rw[List.filterMap_map]at this
 have e2:((fun x=>xs[x]?)∘fun x=>i+x)=fun m=>xs[i+m]?:=rfl
 rw[e2]at this
 rw[this]
theorem xP {t sl:Addr}{items:Array Value}{vl vu:Value}{lo hi:Option Int}{Q:Value->Shared->Prop}(ht:IsTup s.heap t items)(hs:s.heap.IsSliceOf sl vl vu .none)(pl:IsPart vl lo)(pu:IsPart vu hi)
  (hw:¬(bX items.size 0 lo=0/\bX items.size items.size hi=items.size))
  (h:Q (.ref s.heap.objs.size) { s with heap:=s.heap.push { cls:=.type "tuple", data:=.seq ((items.toList.drop (bX items.size 0 lo)).take (bX items.size items.size hi-bX items.size 0 lo)).toArray } })
  (lU:items.size<=sizeLine):wpAny (model prog w) A (getItem (.ref t) (.ref sl)) Q E s:=by
 have htake:sizeOk (.seq ((items.toList.drop (bX items.size 0 lo)).take (bX items.size items.size hi-bX items.size 0 lo)).toArray):=by
  show((items.toList.drop (bX items.size 0 lo)).take (bX items.size items.size hi-bX items.size 0 lo)).toArray.size<=sizeLine
  rw[List.size_toArray,List.length_take,List.length_drop,Array.length_toList]
  omega
 have hj:bX items.size items.size hi<=items.size:=VW _ _ (Nat.le_refl _) hi
 obtain⟨os,hos,hcs,hds⟩:=id hs
 have hTs:s.TypeIs (.ref sl) "slice":=⟨os,hos,hcs⟩
 unfold getItem
 try with_reducible refine wpAny_holding ?_
 first|refine wpAny_bind (wpAny_pure ?_)|skip
 refine wpAny_bind (wpAny_sequenceKey ht.typeIs (by decide) ?_)
 refine wpAny_bind (wpAny_callSpecial?_slot (name:=Str.ofString "__getitem__") ht.typeIs PyProof.Rows.slot_tuple_getitem
  (wpAny_call_entry PyProof.Rows.slot_tuple_getitem ht.typeIs entry_tuple_getitem ?_ (args_tuple_getitem _ _)))
 show wpAny _ _ (Builtin.Tuple.tupleItemsOf (.ref t) >>= _) _ _ s
 refine wpAny_bind (tupleItemsOf_ ht ?_)
 refine wpAny_bind (wpAny_typeOf hTs ?_)
 rw[if_pos (by decide)]
 refine wpAny_bind (pA hs pl pu ?_)
 have hno:¬((((bX items.size 0 lo:Nat):Int)==0&&(1:Int)==1&&(bX items.size items.size hi-bX items.size 0 lo)==items.size)=true):=by
  intro q
  rw[Bool.and_eq_true,Bool.and_eq_true]at q
  have q1:((bX items.size 0 lo:Nat):Int)=0:=eq_of_beq q.1.1
  have q2:bX items.size items.size hi-bX items.size 0 lo=items.size:=eq_of_beq q.2
  exact hw ⟨by omega,by omega⟩
 show wpAny _ _ (if(((bX items.size 0 lo:Nat):Int)==0&&(1:Int)==1&&(bX items.size items.size hi-bX items.size 0 lo)==items.size)=true then _ else _) _ _ s
 rw[if_neg hno,PM]
 first
  |exact wpAny_bind (m:=Builtin.Tuple.tupleExact _) (wpAny_newObj_type (wpAny_pure ⟨_,rfl,wpAny_pure h⟩) htake)
  |exact wpAny_bind (m:=Builtin.Tuple.tupleExact _) (wpAny_newObj_type (wpAny_bind (wpAny_pure (wpAny_pure ⟨_,rfl,wpAny_pure h⟩))) htake)
  |exact wpAny_bind (wpAny_bind (m:=Builtin.Tuple.tupleExact _) (wpAny_newObj_type (wpAny_pure (wpAny_pure ⟨_,rfl,wpAny_pure h⟩)) htake))
  |exact wpAny_bind (wpAny_bind (m:=Builtin.Tuple.tupleExact _) (wpAny_newObj_type (wpAny_pure ⟨_,rfl,wpAny_pure h⟩) htake))
end
end HT
namespace L2
open PySem PySem.Spec PyProof.Rows
noncomputable abbrev TO:=St->Hp->(Option Int->Hp->Prop)->Prop
noncomputable def PO (X:Cx)(e:Option Expr)(t:TO):Prop :=
 ∀(pins:List (Addr×Obj))(s:Shared)(σ:St)(H:Hp)(Q:Option Int->Hp->Prop),Inv X pins σ H s->t σ H Q ->
 wpAny (model X.prog X.w) X.A (evalPart e X.env) (fun u s'=>∃ o H',Inv X pins σ H' s'/\IsPart u o/\Q o H') X.xe s
noncomputable def RU:TO:=fun _ H Q=>Q none H
noncomputable def Cs (t:TE):TO:=fun σ H Q=>t σ H fun x H1=>∃ i,x=.int i/\Q (some i) H1
section
variable {X:Cx}{e:Expr}{te:TE}{lo hi:Option Expr}{tl th:TO}{pos p2:Pos}
theorem SW:PO X none RU:=by
 intro pins s σ H Q I h
 rw[evalPart_none]
 exact wpAny_pure ⟨none,H,I,.none,h⟩
theorem RI (h:PE X e te):PO X (some e) (Cs te):=by
 intro pins s σ H Q I hw
 rw[evalPart_some]
 refine aW (h pins s σ H _ I hw) fun u s1 ⟨x,H1,I1,r1,q1⟩=>?_
 obtain⟨i,rfl,q⟩:=q1
 obtain⟨t,rfl⟩:=r1
 exact⟨some i,H1,I1,.int i t,q⟩
noncomputable def vB (X:Cx)(r:V->Option Int->Option Int->Hp->VK->Prop):Prop :=
 ∀(pins:List (Addr×Obj))(s:Shared)(σ:St)(H:Hp)(x:V)(v vl vu:Value)(lo hi:Option Int)(sl:Addr)(Q:VK),Inv X pins σ H s->RelV x v->s.heap.IsSliceOf sl vl vu .none->IsPart vl lo->IsPart vu hi->r x lo hi H Q ->
 ∃ T id,typeLookup (.type T) "__getitem__" = pure (some (.builtin id))/\s.TypeIs v T/\wpAny (model X.prog X.w) X.A (getItem v (.ref sl)) (EP X pins σ Q) X.xe s
theorem vB.or {r r':V->Option Int->Option Int->Hp->VK->Prop}(h:vB X r)(h':vB X r'):vB X (fun x lo hi H Q=>r x lo hi H Q∨r' x lo hi H Q):=by
 intro pins s σ H x v vl vu lo hi sl Q I rx hs pl pu q
 rcases q with q|q
 ·exact h pins s σ H x v vl vu lo hi sl Q I rx hs pl pu q
 ·exact h' pins s σ H x v vl vu lo hi sl Q I rx hs pl pu q
noncomputable def Hn (r:V->Option Int->Option Int->Hp->VK->Prop)(te:TE)(tl th:TO):TE:=fun σ H Q=>te σ H fun x H1=>tl σ H1 fun l H2=>th σ H2 fun u H3=>r x l u H3 Q
theorem OO {r:V->Option Int->Option Int->Hp->VK->Prop}(hr:vB X r)(he:PE X e te)(hl:PO X lo tl)(hu:PO X hi th):PE X (.Subscript e (.Slice lo hi none p2) pos) (Hn r te tl th):=by
 intro pins s σ H Q I h
 refine Subscript_ (aW (he pins s σ H _ I h) fun v s1 ⟨x,H1,I1,r1,q1⟩=>?_)
 refine wpAny_Slice (aW (hl pins s1 σ H1 _ I1 q1) fun vl s2 ⟨l,H2,I2,pl,q2⟩=>aW (hu pins s2 σ H2 _ I2 q2) fun vu s3 ⟨u,H3,I3,pu,q3⟩=>?_)
 rw[evalPart_none]
 refine wpAny_pure ?_
 have I4:Inv X pins σ H3 { s3 with heap:=s3.heap.push { cls:=.type "slice", data:=.fields #[vl,vu,.none] } }:=I3.kept (t':=s3.toks) fun b ob q=>Heap.get?_push_of_some _ q
 obtain⟨T,id,hT,ht,hg⟩:=hr pins { s3 with heap:=s3.heap.push { cls:=.type "slice", data:=.fields #[vl,vu,.none] } } σ H3 x v vl vu l u s3.heap.objs.size Q I4 r1 (Heap.IsSliceOf.new ..) pl pu q3
 show wpAny (model X.prog X.w) X.A (subscriptTail e (.Slice lo hi none p2) v (.ref s3.heap.objs.size)) (EP X pins σ Q) X.xe { s3 with heap:=s3.heap.push { cls:=.type "slice", data:=.fields #[vl,vu,.none] } }
 exact tail_any (ops:=[.ref s3.heap.objs.size,v]) ht hT hg (by with_unfolding_all rfl)
noncomputable def BQ (xs:List V)(lo hi:Option Int):List V:=(xs.drop (HT.bX xs.length 0 lo)).take (HT.bX xs.length xs.length hi-HT.bX xs.length 0 lo)
theorem yK (xs:List V)(lo hi:Option Int):(BQ xs lo hi).length<=xs.length:=by
 unfold BQ
 rw[List.length_take,List.length_drop]
 omega
noncomputable def Y0 (K:PySem.W.Frag):V->Option Int->Option Int->Hp->VK->Prop:=fun x lo hi H Q=>∃ a xs,x=.ref a/\dP K H a xs /\
 ¬(HT.bX xs.length 0 lo=0/\HT.bX xs.length xs.length hi=xs.length)/\∀ p,H p=none->Q (.ref p) (upd H p (.tup (BQ xs lo hi)))
theorem GO:vB X (Y0 X.K):=by
 intro pins s σ H x v vl vu lo hi sl Q I rx hs pl pu h
 obtain⟨a,xs,rfl,hx,hw,q⟩:=h
 cases rx
 obtain⟨aD,r,ht,hz⟩:=I.tuple hx
 have hlen:aD.toArray.size=xs.length:=by rw[List.size_toArray];exact r.length.symm
 refine⟨"tuple", _,PyProof.Rows.slot_tuple_getitem.lookup,ht.typeIs,?_⟩
 refine HT.xP ht hs pl pu (by rw[hlen];exact hw) ?_ (by rw[hlen];exact hz)
 rw[hlen]
 refine⟨.ref s.heap.objs.size,_,I.laid (t':=s.toks) (o:=.tup (BQ xs lo hi)) (fun b ob q=>Heap.get?_push_of_some _ q) (Nat.le_refl _) ?_,rfl,q _ (I.bY.fresh (Nat.le_refl _))⟩
 exact⟨Nat.le_trans (yK xs lo hi) hz,_,(r.drop (HT.bX xs.length 0 lo)).take (HT.bX xs.length xs.length hi-HT.bX xs.length 0 lo),nM.new _ _⟩
noncomputable def QO (K:PySem.W.Frag):R2:=fun x y H Q=>∃ a b xs ys,x=.ref a/\y=.ref b/\dP K H a xs/\dP K H b ys/\xs≠[]/\xs.length+ys.length<=sizeLine /\
 (ys=[]->Q (.ref a) H)/\(ys≠[]->∀ p,H p=none->Q (.ref p) (upd H p (.tup (xs++ys))))
theorem aL.xJ {xs:List V}{us:List Value}(r:aL xs us):us=[]↔xs=[]:=by
 cases r with
 |nil=>simp
 |cons _ _=>simp
theorem RW:gK X (binaryOp .Add) (QO X.K):=by
 intro pins s σ H x y v u Q I rx ry h
 obtain⟨a,b,xs,ys,rfl,rfl,ha,hb,hx,hz,q1,q2⟩:=h
 cases rx
 cases ry
 obtain⟨aD,r1,p1,_⟩:=I.tuple ha
 obtain⟨lO,r2,p2,_⟩:=I.tuple hb
 refine HT.S7 p1 p2 (fun z=>hx (r1.xJ.mp z)) (fun z=>⟨.ref a,H,I,rfl,q1 (r2.xJ.mp z)⟩) (fun z=>?_) (by rw[<-r1.length,<-r2.length];exact hz)
 refine⟨.ref s.heap.objs.size,_,I.laid (t':=s.toks) (o:=.tup (xs++ys)) (fun b ob q=>Heap.get?_push_of_some _ q) (Nat.le_refl _) ?_,rfl,q2 (fun w=>z (r2.xJ.mpr w)) _ (I.bY.fresh (Nat.le_refl _))⟩
 exact⟨by rw[List.length_append];exact hz,_,r1.append r2,nM.new _ _⟩
end
end L2
namespace L2
open PySem PySem.Spec PyProof.Rows
noncomputable def lS (n:Nat)(i:Int):Option Nat:=if 0<=i then(if i<n then some i.toNat else none)else if -(n:Int)<=i then some (i+n).toNat else none
noncomputable def eV {α:Type}(xs:List α)(i:Int):Option α:=(lS xs.length i).bind fun j=>xs[j]?
theorem HY {n:Nat}{i:Int}{j:Nat}(h:lS n i=some j):seqIndex? i n=some j/\j<n/\-(n:Int)<=i/\i<n:=by
 unfold lS at h
 by_cases h0:0<=i
 ·rw[if_pos h0]at h
  by_cases h1:i<n
  ·rw[if_pos h1]at h
   have e:i.toNat=j:=Option.some.inj h
   exact⟨by rw[seqIndex_of h0 h1,e],by omega,by omega,h1⟩
  ·rw[if_neg h1]at h;cases h
 ·rw[if_neg h0]at h
  by_cases h1 : -(n:Int)<=i
  ·rw[if_pos h1]at h
   have e:(i+n).toNat=j:=Option.some.inj h
   exact⟨by rw[seqIndex_neg (by omega) h1,e],by omega,h1,by omega⟩
  ·rw[if_neg h1]at h;cases h
theorem BN {α:Type}{xs:List α}{i:Int}{v:α}(h:eV xs i=some v):∃ j,seqIndex? i xs.length=some j/\xs[j]? = some v/\j<xs.length/\-(xs.length:Int)<=i/\i<xs.length:=by
 unfold eV at h
 cases e:lS xs.length i with
 |none=>rw[e]at h;cases h
 |some j =>
 rw[e]at h
 obtain⟨h1,h2,h3,h4⟩:=HY e
 exact⟨j,h1,h,h2,h3,h4⟩
theorem eD {α:Type}{xs:List α}{j:Nat}{v:α}(h:xs[j]? = some v):eV xs (j:Int)=some v:=by
 have hj:j<xs.length:=(List.getElem?_eq_some_iff.mp h).1
 have e:lS xs.length (j:Int)=some j:=by
  unfold lS
  rw[if_pos (by omega),if_pos (by omega)];simp
 unfold eV;rw[e];exact h
noncomputable def rD (b:Expr):Prop:=∀ o i,subscripted b false o i=operate [o,i] (getItem o i)
noncomputable def tX (X:Cx)(r:R2):Prop :=
 ∀(value slice:Expr)(pins:List (Addr×Obj))(s:Shared)(σ:St)(H:Hp)(x y:V)(v u:Value)(Q:VK),Inv X pins σ H s->RelV x v->RelV y u->r x y H Q ->
 subscripted slice false v u=operate [v,u] (getItem v u)->wpAny (model X.prog X.w) X.A (subscriptTail value slice v u) (EP X pins σ Q) X.xe s
noncomputable def PV (X:Cx)(id:String)(r:V->List V->Hp->VK->Prop):Prop :=
 ∀(pins:List (Addr×Obj))(s:Shared)(σ:St)(H:Hp)(x:V)(xs:List V)(v:Value)(us:List Value)(Q:VK),Inv X pins σ H s->RelV x v->aL xs us->r x xs H Q ->
 wpAny (model X.prog X.w) X.A (call (.builtin id) (v::us)) (EP X pins σ Q) X.xe s
section
variable {X:Cx}{a b:Expr}{ta tb:TE}{pos:Pos}
theorem tX.or {r r':R2}(h:tX X r)(h':tX X r'):tX X (fun x y H Q=>r x y H Q∨r' x y H Q):=by
 intro value slice pins s σ H x y v u Q I rx ry q hs
 rcases q with q|q
 ·exact h value slice pins s σ H x y v u Q I rx ry q hs
 ·exact h' value slice pins s σ H x y v u Q I rx ry q hs
theorem P2 {r:R2}(hr:tX X r)(ha:PE X a ta)(hb:PE X b tb)(hs:rD b):PE X (.Subscript a b pos) (YJ r ta tb):=by
 intro pins s σ H Q I h
 exact Subscript_ (XI ha hb I h fun v u s2 x y H2 I2 rx ry q=>hr a b pins s2 σ H2 x y v u Q I2 rx ry q (hs _ _))
noncomputable def VQ (K:PySem.W.Frag):R2:=fun x y H Q=>∃ p xs i v,x=.ref p/\y=.int i/\cZ K H p xs/\eV xs i=some v/\Q v H
noncomputable def U8 (K:PySem.W.Frag):R2:=fun x y H Q=>∃ p xs i v,x=.ref p/\y=.int i/\dP K H p xs/\eV xs i=some v/\Q v H
noncomputable def WL:R2:=fun x y H Q=>∃ z i c,x=.str z/\y=.int i/\z.length<=sizeLine/\eV z.cps.toList i=some c/\Q (.str ⟨#[c]⟩) H
theorem RL:tX X (VQ X.K):=by
 intro value slice pins s σ H x y v u Q I rx ry h hs
 obtain⟨p,xs,i,z,rfl,rfl,hq,he,q⟩:=h
 cases rx
 obtain⟨t,rfl⟩:=ry
 obtain⟨aD,r,pl,hz⟩:=I.list hq
 obtain⟨j,h1,h2,h3,h4,h5⟩:=BN he
 obtain⟨w,ew,rw'⟩:=r.get h2
 have hl:=r.length
 have hn:=pH
 have fin:EP X pins σ Q w s:=⟨z,H,I,rw',q⟩
 by_cases h0:0<=i
 ·have hj:i.toNat=j:=by
   rw[seqIndex_of h0 h5]at h1
   exact Option.some.inj h1
  exact item_listR pl.isList h0 (by omega) (by rw[hj];simpa using ew) fin hs
 ·have hj:(i+(aD.toArray.size:Int)).toNat=j:=by
   rw[seqIndex_neg (by omega) h4]at h1
   rw[List.size_toArray,<-hl]
   exact Option.some.inj h1
  exact subscriptTail_builtinR (x:=w) pl.isList.typeIs slot_list_getitem.lookup
   (wpAny_getItem_list_neg (Q:=fun r s'=>r=w/\EP X pins σ Q r s') pl.isList (by omega) (by rw[List.size_toArray]<;>omega) (by omega) (by rw[hj];simpa using ew) ⟨rfl,fin⟩) hs
theorem jO:tX X (U8 X.K):=by
 intro value slice pins s σ H x y v u Q I rx ry h hs
 obtain⟨p,xs,i,z,rfl,rfl,hq,he,q⟩:=h
 cases rx
 obtain⟨t,rfl⟩:=ry
 obtain⟨aD,r,pl,hz⟩:=I.tuple hq
 obtain⟨j,h1,h2,h3,h4,h5⟩:=BN he
 obtain⟨w,ew,rw'⟩:=r.get h2
 have hl:=r.length
 have hn:=pH
 have fin:EP X pins σ Q w s:=⟨z,H,I,rw',q⟩
 exact subscriptTail_builtinR (x:=w) pl.typeIs slot_tuple_getitem.lookup
  (getItem_tuple (j:=j) (Q:=fun r s'=>r=w/\EP X pins σ Q r s') pl (by omega) (by omega) (by rw[List.size_toArray,<-hl];exact h1) (by simpa using ew) ⟨rfl,fin⟩) hs
theorem FH:tX X WL:=by
 intro value slice pins s σ H x y v u Q I rx ry h hs
 obtain⟨z,i,c,rfl,rfl,hz,he,q⟩:=h
 obtain⟨t,rfl⟩:=rx
 obtain⟨t',rfl⟩:=ry
 obtain⟨j,h1,h2,h3,h4,h5⟩:=BN he
 have hl:z.cps.toList.length=z.length:=by simp [Str.length]
 rw[hl]at h1 h4 h5
 have hn:=pH
 exact tail_any (typeIs_str s z t) slot_str_getitem.lookup (getItem_str (c:=c) (by
 have e1:decide (i < -(2 ^ 63:Int))=false:=decide_eq_false (by omega)
 have e2:decide (i ≥ 2 ^ 63)=false:=decide_eq_false (by omega)
 rw[e1,e2,Bool.or_false]) (by rw[h1];simpa using h2) ⟨.str ⟨#[c]⟩,H,I.tok _,⟨_,rfl⟩,q⟩) hs
noncomputable def Dg (K:PySem.W.Frag):R2:=fun x y H Q=>VQ K x y H Q∨U8 K x y H Q∨WL x y H Q
theorem UK:tX X (Dg X.K):=RL.or (jO.or FH)
theorem KL (aD:List Value)(n j:Nat)(u:Value):Obj.mapSeq (·.setIfInBounds j u) { cls:=.type "list", data:=.seq aD.toArray n } = { cls:=.type "list", data:=.seq (aD.set j u).toArray n }:=by
 simp [Obj.mapSeq]
theorem Inv.lst {pins:List (Addr×Obj)}{σ:St}{H:Hp}{s:Shared}{p:Addr}{xs:List V}(I:Inv X pins σ H s)(h:H p=some (.lst xs)):
 ∃(aD:List Value)(n:Nat),aL xs aD/\s.heap.get? p=some { cls:=.type "list", data:=.seq aD.toArray n }/\xs.length<=sizeLine:=by
 obtain⟨z,aD,n,r,e⟩:=I.bY p _ h
 exact⟨aD,n,r,e,z⟩
theorem Inv.UO {pins:List (Addr×Obj)}{σ:St}{H:Hp}{s:Shared}{p:Addr}{xs ys:List V}{aD jX:List Value}{n n':Nat}{f:Obj->Obj}(I:Inv X pins σ H s)(h:H p=some (.lst xs))
  (ho:s.heap.get? p=some { cls:=.type "list", data:=.seq aD.toArray n })(hf:f { cls:=.type "list", data:=.seq aD.toArray n } = { cls:=.type "list", data:=.seq jX.toArray n' })(r:aL ys jX)(hz:ys.length<=sizeLine)(t:Nat):
  Inv X pins σ (upd H p (.lst ys)) { s with heap:=s.heap.update p f,toks:=t }:=by
 have e:(s.heap.update p f).get? p=some { cls:=.type "list", data:=.seq jX.toArray n' }:=by
  rw[Heap.get?_update_self f ho (by rw[hf]<;>rfl),hf]
 refine I.write (x:=p) (e:=p) (by rw[h];trivial) (.inl rfl) (fun b u hb q=>(Heap.get?_update_other _ _ (Ne.symm hb)).trans q) ⟨_,e⟩ ?_
 exact⟨hz,jX,n',r,e⟩
noncomputable def ZE:V->V->V->Hp->(Hp->Prop)->Prop:=fun o i v H Q=>∃ p xs k j,o=.ref p/\i=.int k/\H p=some (.lst xs)/\lS xs.length k=some j/\Q (upd H p (.lst (xs.set j v)))
theorem set_list:WX X ZE:=by
 intro pins s σ H o i v ov iv u Q I ro ri rv h
 obtain⟨p,xs,k,j,rfl,rfl,hp,hj,q⟩:=h
 cases ro
 obtain⟨t,rfl⟩:=ri
 obtain⟨aD,n,r,ho,hz⟩:=I.lst hp
 obtain⟨h1,h2,h3,h4⟩:=HY hj
 have hl:=r.length
 have hn:=pH
 have I':Inv X pins σ (upd H p (.lst (xs.set j v))) { s with heap:=s.heap.update p (Obj.mapSeq (·.setIfInBounds j u)) } :=
  I.UO hp ho (KL aD n j u) (r.set rv j) (by rw[List.length_set];exact hz) s.toks
 by_cases h0:0<=k
 ·have hk:k.toNat=j:=by
   rw[seqIndex_of h0 h4]at h1
   exact Option.some.inj h1
  exact PySem.W.ki_setAt ho h0 (by omega) (by rw[List.size_toArray,<-hl];exact h4) (by rw[hk];exact⟨_,I',q⟩)
 ·have hk:(k+(aD.toArray.size:Int)).toNat=j:=by
   rw[seqIndex_neg (by omega) h3]at h1
   rw[List.size_toArray,<-hl]
   exact Option.some.inj h1
  exact PySem.W.ki_setBack ho (by omega) (by rw[List.size_toArray,<-hl];exact h3) (by omega) (by rw[hk];exact⟨_,I',q⟩)
theorem GG (lo hi:Option Int)(n:Nat):(sliceBounds lo hi none n).1=((HT.bX n 0 lo:Nat):Int)/\(sliceBounds lo hi none n).2.1=((HT.bX n n hi:Nat):Int)/\(sliceBounds lo hi none n).2.2=1:=by
 refine⟨?_,?_,rfl⟩
 ·cases lo with
 |none=>simp [sliceBounds,HT.bX]
 |some i =>
  simp only[sliceBounds,HT.bX,Option.getD_none,show(1:Int)>0 by decide,if_true]
  by_cases h:i<0
  ·simp only[h,if_true]<;>omega
  ·simp only[h,if_false]<;>omega
 ·cases hi with
 |none=>simp [sliceBounds,HT.bX]
 |some i =>
  simp only[sliceBounds,HT.bX,Option.getD_none,show(1:Int)>0 by decide,if_true]
  by_cases h:i<0
  ·simp only[h,if_true]<;>omega
  ·simp only[h,if_false]<;>omega
theorem DL (aD:List Value)(lo hi:Option Int):slicePick aD.toArray lo hi none=((aD.drop (HT.bX aD.length 0 lo)).take (HT.bX aD.length aD.length hi-HT.bX aD.length 0 lo)).toArray:=by
 obtain⟨h1,h2,h3⟩:=GG lo hi aD.toArray.size
 unfold slicePick
 rw[h1,h2,h3]
 simp only[sliceRange_one,pick_run,List.size_toArray]<;>rfl
noncomputable def WH (K:PySem.W.Frag):V->Option Int->Option Int->Hp->VK->Prop:=fun x lo hi H Q=>∃ a xs,x=.ref a/\cZ K H a xs/\∀ p,H p=none->Q (.ref p) (upd H p (.lst (BQ xs lo hi)))
theorem TY:vB X (WH X.K):=by
 intro pins s σ H x v vl vu lo hi sl Q I rx hs pl pu h
 obtain⟨a,xs,rfl,hx,q⟩:=h
 cases rx
 obtain⟨aD,r,ht,hz⟩:=I.list hx
 have hlen:=r.length
 refine⟨"list", _,slot_list_getitem.lookup,ht.isList.typeIs,?_⟩
 refine wpAny_getItem_list_slice ht.isList hs pl pu .none (by simp) ?_ (by rw[List.size_toArray]<;>omega)
 rw[DL,<-hlen]
 refine⟨.ref s.heap.objs.size,_,I.laid (t':=s.toks) (o:=.lst (BQ xs lo hi)) (fun b ob q=>Heap.get?_push_of_some _ q) (Nat.le_refl _) ?_,rfl,q _ (I.bY.fresh (Nat.le_refl _))⟩
 exact⟨Nat.le_trans (yK xs lo hi) hz,_,0,(r.drop (HT.bX xs.length 0 lo)).take (HT.bX xs.length xs.length hi-HT.bX xs.length 0 lo),Heap.get?_push_size _ rfl⟩
theorem EE:gK X (compareOp .NotIn) (fun x y H Q=>∃ i j,x=.str i/\y=.str j/\Q (.bl (!(!(Builtin.Str.occurrences j i 0 j.length 1).isEmpty))) H):=by
 intro pins s σ H x y v u Q I rx ry h
 obtain⟨i,j,rfl,rfl,q⟩:=h
 obtain⟨t,rfl⟩:=rx
 obtain⟨t',rfl⟩:=ry
 exact notIn_str ⟨.bl _,H,I,rfl,q⟩
theorem E3:tF X (.type "list") (fun xs H Q=>∃ p ys,xs=[.ref p]/\(cZ X.K H p ys∨dP X.K H p ys)/\∀ l,H l=none->Q (.ref l) (upd H l (.lst ys))):=by
 intro pins s σ H xs us Q I r h
 obtain⟨p,ys,rfl,hq,q⟩:=h
 obtain⟨u,rfl,rx⟩:=vals1 r
 cases rx
 have fin:∀(aD:List Value),aL ys aD->ys.length<=sizeLine->∀(h':Heap)(c':Nat),(∀ b o',s.heap.get? b=some o'->h'.get? b=some o') ->
   h'.get? s.heap.objs.size=some { cls:=.type "list", dict:=none,data:=.seq aD.toArray c',slots:=#[] }->EP X pins σ Q (.ref s.heap.objs.size) { s with heap:=h' }:=fun aD r' hz h' c' kp e =>
  ⟨.ref s.heap.objs.size,_,I.laid (t':=s.toks) kp (Nat.le_refl _) (show iO X.prog X.w _ h' _ (.lst ys)from⟨hz,aD,c',r',e⟩),rfl,q _ (I.bY.fresh (Nat.le_refl _))⟩
 rcases hq with hq|hq
 ·obtain⟨aD,r',pl,hz⟩:=I.list hq
  have hlen:=r'.length
  obtain⟨o,ho,hc,n,hd⟩:=pl.isList
  exact call_list_seq p (.inl rfl) ho hc hd (fun h' c' kp e=>fin aD r' hz h' c' kp e) (by simp only[List.size_toArray]<;>omega)
 ·obtain⟨aD,r',pl,hz⟩:=I.tuple hq
  have hlen:=r'.length
  obtain⟨o,ho,hc,n,hd⟩:=pl
  exact call_list_seq p (.inr rfl) ho hc hd (fun h' c' kp e=>fin aD r' hz h' c' kp e) (by simp only[List.size_toArray]<;>omega)
theorem tW:tF X (.type "tuple") (fun xs H Q=>∃ p ys,xs=[.ref p]/\((cZ X.K H p ys/\∀ l,H l=none->Q (.ref l) (upd H l (.tup ys)))∨(dP X.K H p ys/\Q (.ref p) H))):=by
 intro pins s σ H xs us Q I r h
 obtain⟨p,ys,rfl,h⟩:=h
 obtain⟨u,rfl,rx⟩:=vals1 r
 cases rx
 rcases h with⟨hq,q⟩|⟨hq,q⟩
 ·obtain⟨aD,r',pl,hz⟩:=I.list hq
  have hlen:=r'.length
  refine call_tuple_list pl.isList (fun h' kp=>?_) (by simp only[List.size_toArray]<;>omega)
  have I1:Inv X pins σ H { s with heap:=h' }:=I.kept (t':=s.toks) kp
  have I2:Inv X pins σ (upd H h'.objs.size (.tup ys)) { s with heap:=h'.push { cls:=.type "tuple", data:=.seq aD.toArray } } :=
   I1.laid (t':=s.toks) (fun b o e=>Heap.get?_push_of_some _ e) (Nat.le_refl _) (show iO X.prog X.w _ _ _ (.tup ys)from⟨hz,aD,r',nM.new _ _⟩)
  exact⟨.ref h'.objs.size,_,I2,rfl,q _ (I1.bY.fresh (Nat.le_refl _))⟩
 ·obtain⟨aD,r',pl,hz⟩:=I.tuple hq
  exact call_tuple_same pl ⟨.ref p,H,I,rfl,q⟩
noncomputable def MP (K:PySem.W.Frag)(T:String)(x:V)(H:Hp):Prop:=match x with
 |.str _=>T ="str"
 |.int _=>T ="int"
 |.ref p=>(T ="list" /\ ∃ xs,cZ K H p xs)∨(T ="tuple" /\ ∃ o,K.lookup p=some o/\o.cls=.type "tuple" /\ o.dict=none) ∨
  (T ="dict" /\ ((∃ gL,H p=some (.dK gL))∨∃ gL,H p=some (.dT gL)))∨(T ="set" /\ ∃ S n,H p=some (.set S n))
 |_=>False
theorem LY {pins:List (Addr×Obj)}{σ:St}{H:Hp}{s:Shared}{T:String}{x:V}{v:Value}(I:Inv X pins σ H s)(r:RelV x v)(ty:MP X.K T x H):
  s.TypeIs v T/\∀ a,v=.ref a->∃ ob,s.heap.get? a=some ob/\ob.dict=none:=by
 cases x with
 |str z =>
  obtain⟨t,rfl⟩:=r
  cases (show T ="str" from ty)
  exact⟨typeIs_str s z t,fun _ e=>nomatch e⟩
 |int i =>
  obtain⟨t,rfl⟩:=r
  cases (show T ="int" from ty)
  exact⟨typeIs_int s i t,fun _ e=>nomatch e⟩
 |ref p =>
  cases r
  rcases ty with⟨rfl,xs,hq⟩|⟨rfl,o,hk,hc,hd⟩|⟨rfl,hk⟩|⟨rfl,S,n,hk⟩
  ·obtain⟨aD,_,pl,_⟩:=I.list hq
   refine⟨pl.isList.typeIs,fun a e=>?_⟩
   cases e
   obtain⟨o,n,e,c,hd,_⟩:=pl
   exact⟨o,e,hd⟩
  ·refine⟨⟨o,I.jA p o hk,hc⟩,fun a e=>?_⟩
   cases e
   exact⟨o,I.jA _ o hk,hd⟩
  ·have z:∃ o,s.heap.get? p=some o/\o.ExactDict:=by
    rcases hk with⟨gL,hk⟩|⟨gL,hk⟩
    ·obtain⟨_,_,_,_,o,_,_,e,ex,_⟩:=I.bY p _ hk
     exact⟨o,e,ex⟩
    ·obtain⟨_,_,_,_,o,_,_,e,ex,_⟩:=I.bY p _ hk
     exact⟨o,e,ex⟩
   obtain⟨o,e,ex⟩:=z
   refine⟨⟨o,e,ex.1⟩,fun a e2=>?_⟩
   cases e2
   exact⟨o,e,ex.2.1⟩
  ·obtain⟨o,_,_,_,e,ex,_⟩:=I.bY p _ hk
   refine⟨⟨o,e,ex.1⟩,fun a e2=>?_⟩
   cases e2
   exact⟨o,e,ex.2.1⟩
 |_=>exact False.elim ty
noncomputable def Fk (K:PySem.W.Frag)(T:String)(r:V->List V->Hp->VK->Prop)(to:TE):TE:=fun σ H Q=>to σ H fun x H1=>MP K T x H1/\r x [] H1 Q
noncomputable def Hq (K:PySem.W.Frag)(T:String)(r:V->List V->Hp->VK->Prop)(to:TE)(t:TA):TE:=fun σ H Q=>to σ H fun x H1=>MP K T x H1/\t σ H1 fun xs H2=>r x xs H2 Q
variable {o e:Expr}{es:List Expr}{to:TE}{t:TA}{name:Str}{apos jF:Pos}{T id:String}{r:V->List V->Hp->VK->Prop}
theorem WS (pa:PlainAttrs T)(slot:Slot T name id)(hty:typeOf (.builtin id)=pure (.type "method_descriptor"))(hm:PV X id r)(ho:PE X o to)
 (iV:attributeBase o name X.env (eval o X.env)=eval o X.env:=by rfl)(iW:(apos.endLine==jF.line)=true:=by rfl):PE X (.Call (.Attribute o name apos) [] [] jF) (Fk X.K T r to):=by
 intro pins s σ H Q I h
 refine wpAny_Call_method0_late iV iW (aW (ho pins s σ H _ I h) fun v s1 ⟨x,H1,I1,r1,ty,q1⟩=>?_)
 obtain⟨h1,h2⟩:=LY I1 r1 ty
 exact⟨T,id,pa,slot,hty,h1,h2,Calls.callWith_builtin rfl (PySem.evalArgs_none (hm pins s1 σ H1 x [] v [] Q I1 r1 .nil q1))⟩
theorem Cr (pa:PlainAttrs T)(slot:Slot T name id)(hty:typeOf (.builtin id)=pure (.type "method_descriptor"))(hm:PV X id r)(ho:PE X o to)(ha:PA X (e::es) t)
 (iV:attributeBase o name X.env (eval o X.env)=eval o X.env:=by rfl)
 (tV:((backTo jF (starEach (e::es) X.env)).all (fun x=>!x.1)&&(backToKw jF (keywordEach [] X.env)).all (fun x=>x.1.isSome)
  && decide ((e::es).length+([]:List Keyword).length+(if([]:List Keyword).isEmpty then 0 else 1)<30))=true:=by rfl)
 (iW:(apos.endLine==jF.line)=true:=by rfl)(hs:starEach (e::es) X.env=(false,eval e X.env)::starEach es X.env:=by rfl)(pR:(backTo jF (starEach es X.env)).any (·.1)=false:=by rfl):
 PE X (.Call (.Attribute o name apos) (e::es) [] jF) (Hq X.K T r to t):=by
 intro pins s σ H Q I h
 refine wpAny_Call_method_late iV tV iW rfl (aW (ho pins s σ H _ I h) fun v s1 ⟨x,H1,I1,r1,ty,q1⟩=>?_)
 obtain⟨h1,h2⟩:=LY I1 r1 ty
 refine⟨T,id,pa,slot,hty,h1,h2,?_⟩
 have hA:=ha jF pins s1 σ H1 _ I1 q1
 rw[hs]at hA ⊢
 refine Calls.callWith_builtin (by show(false||(backTo jF (starEach es X.env)).any (·.1))=false;rw[pR]<;>rfl) (Calls.evalArgs_plain ?_)
 exact aW hA fun us s2 ⟨vs,H2,I2,r2,q2⟩=>hm pins s2 σ H2 x vs v us Q I2 r1 r2 q2
end
end L2
namespace L2
open PySem PySem.Spec PyProof.Rows
noncomputable def XY (X:Cx)(id:String)(r:V->List V->Hp->VK->Prop):Prop :=
 ∀(pins:List (Addr×Obj))(s:Shared)(σ:St)(H:Hp)(x:V)(xs:List V)(v:Value)(us:List Value)(Q:VK),Inv X pins σ H s->RelV x v->aL xs us->r x xs H Q ->
 wpAny (model X.prog X.w) X.A (call (.builtin id) (v::us)) (EP X pins σ Q) X.xe s
theorem aL.one:∀{x:V}{us:List Value},aL [x] us->∃ u,us=[u]/\RelV x u
 |_,_,.cons r .nil=>⟨_,rfl,r⟩
theorem aL.zero:∀{us:List Value},aL [] us->us=[]
 |_,.nil=>rfl
theorem aL.dropLast {xs:List V}{us:List Value}(h:aL xs us):aL xs.dropLast us.dropLast:=by
 induction h with
 |nil=>exact .nil
 |cons r t ih =>
 cases t with
 |nil=>exact .nil
 |cons q t'=>exact .cons r ih
theorem aL.reverse {xs:List V}{us:List Value}(h:aL xs us):aL xs.reverse us.reverse:=by
 induction h with
 |nil=>exact .nil
 |cons r t ih=>rw[List.reverse_cons,List.reverse_cons];exact aL.append ih (.cons r .nil)
theorem aL.rep {xs:List V}{us:List Value}(h:aL xs us):∀ k:Nat,aL (List.replicate k xs).flatten (List.replicate k us).flatten
 |0=>.nil
 |k+1=>by
  rw[List.replicate_succ,List.replicate_succ,List.flatten_cons,List.flatten_cons]
  exact aL.append h (aL.rep h k)
theorem KC {α:Type}(l:List α):l.eraseIdx (l.length-1)=l.dropLast:=by
 induction l with
 |nil=>rfl
 |cons a r ih =>
  cases r with
  |nil=>rfl
  |cons b r =>
   have e:(a::b::r).length-1=((b::r).length-1)+1:=by
    have h1:(a::b::r).length=r.length+2:=rfl
    have h2:(b::r).length=r.length+1:=rfl
    omega
   rw[e,List.eraseIdx_cons_succ,ih]
   all_goals rfl
theorem foldl_rep (aD:List Value):∀(k:Nat)(acc:List Value),
  List.foldl (fun x1 x2=>x1++x2) acc.toArray (List.replicate k aD.toArray)=(acc++(List.replicate k aD).flatten).toArray
 |0,acc=>by simp
 |k+1,acc=>by
  have e:acc.toArray++aD.toArray=(acc++aD).toArray:=by simp
  have e2:(acc++aD)++(List.replicate k aD).flatten=acc++(List.replicate (k+1) aD).flatten:=by
   rw[List.replicate_succ,List.flatten_cons,List.append_assoc]
  rw[<-e2,<-foldl_rep aD k (acc++aD),<-e,List.replicate_succ,List.foldl_cons]
section
variable {X:Cx}{pins:List (Addr×Obj)}{σ:St}{H:Hp}{s:Shared}{l b:Addr}{xs ys zs:List V}
theorem Inv.J0 {aD jX:List Value}{n:Nat}{f:Array Value->Array Value}{t':Nat}(I:Inv X pins σ H s)(hH:H l=some (.lst xs))
 (e:s.heap.get? l=some { cls:=.type "list", data:=.seq aD.toArray n })(hf:f aD.toArray=jX.toArray)(hv:aL ys jX)(hz:ys.length<=sizeLine):
 Inv X pins σ (upd H l (.lst ys)) { s with heap:=s.heap.update l (Obj.mapSeq f),toks:=t' }:=by
 have q:=PySem.IsL.update e f
 rw[hf]at q
 refine I.write (x:=l) (e:=l) (by rw[hH];exact trivial) (.inl rfl) (fun b' u hb hu=>(Heap.get?_update_other s.heap (Obj.mapSeq f) (Ne.symm hb)).trans hu) ⟨_,q⟩ ?_
 exact⟨hz,jX,_,hv,q⟩
theorem Inv.NS {aD:List Value}{t':Nat}(I:Inv X pins σ H s)(hv:aL ys aD)(hz:ys.length<=sizeLine):
 Inv X pins σ (upd H s.heap.objs.size (.lst ys)) { s with heap:=s.heap.push { cls:=.type "list", data:=.seq aD.toArray },toks:=t' } :=
 I.laid (fun _ _ q=>Heap.get?_push_of_some _ q) (Nat.le_refl _) ⟨hz,aD,0,hv,Heap.get?_push_size _ rfl⟩
theorem Inv.fresh (I:Inv X pins σ H s):H s.heap.objs.size=none:=I.bY.fresh (Nat.le_refl _)
theorem Inv.tR (I:Inv X pins σ H s)(hH:H l=some (.lst xs)):xs.length<=sizeLine/\∃(aD:List Value)(n:Nat),aL xs aD/\xs.length=aD.length/\s.heap.get? l=some { cls:=.type "list", data:=.seq aD.toArray n }:=by
 obtain⟨z,aD,n,r,e⟩:=I.bY l _ hH
 exact⟨z,aD,n,r,r.length,e⟩
theorem yT {n:Nat}(h:n<=sizeLine):Builtin.List.listTooLong n=false:=by
 unfold Builtin.List.listTooLong
 exact decide_eq_false (by omega)
end
section
variable {X:Cx}
noncomputable def Q1:V->List V->Hp->VK->Prop:=fun x vs H Q=>∃ l xs y,x=.ref l/\vs=[y]/\H l=some (.lst xs)/\xs.length<sizeLine/\Q .non (upd H l (.lst (xs++[y])))
theorem qL:XY X "list.append" Q1:=by
 intro pins s σ H x vs v us Q I rx rv h
 obtain⟨l,xs,y,rfl,rfl,hH,hz,q⟩:=h
 cases rx
 obtain⟨u,rfl,ru⟩:=rv.one
 obtain⟨z,aD,n,r,hl,e⟩:=I.tR hH
 refine call_meets F.slot_list_append ⟨_,e,rfl⟩ F.entry_list_append (F.args_list_append_2 _ _) (PySem.list_append l aD.toArray n u (by rw[List.size_toArray];omega)) ⟨e,?_⟩
 refine⟨.non,_,I.J0 (jX:=aD++[u]) hH e (by simp) (r.append (.cons ru .nil)) ?_,rfl,q⟩
 rw[List.length_append,List.length_singleton]
 omega
noncomputable def R5:V->List V->Hp->VK->Prop:=fun x vs H Q=>∃ l b xs zs,x=.ref l/\vs=[.ref b]/\H l=some (.lst xs)/\H b=some (.lst zs)/\xs.length+zs.length<=sizeLine/\Q .non (upd H l (.lst (xs++zs)))
theorem vG:XY X "list.extend" R5:=by
 intro pins s σ H x vs v us Q I rx rv h
 obtain⟨l,b,xs,zs,rfl,rfl,hH,hB,hz,q⟩:=h
 cases rx
 obtain⟨u,rfl,ru⟩:=rv.one
 cases ru
 obtain⟨z,aD,n,r,hl,e⟩:=I.tR hH
 obtain⟨z2,lO,n2,r2,hl2,e2⟩:=I.tR hB
 have lU:aD.toArray.size+lO.toArray.size<=sizeLine:=by rw[List.size_toArray,List.size_toArray];omega
 have hlong:¬(!aD.toArray.isEmpty&&Builtin.List.listTooLong (aD.toArray.size+lO.toArray.size))=true:=by
  rw[yT lU,Bool.and_false]
  exact Bool.false_ne_true
 refine call_meets F.slot_list_extend ⟨_,e,rfl⟩ F.entry_list_extend (F.args_list_extend_2 _ _)
  (AutoSeq1.list_extend_list_list_0 l aD.toArray n b lO.toArray n2 hlong (by rw[List.size_toArray];omega) (by omega)) ⟨e,e2,?_⟩
 refine⟨.non,_,I.J0 (jX:=aD++lO) hH e (by simp) (r.append r2) ?_,rfl,q⟩
 rw[List.length_append]
 omega
noncomputable def Fj:V->List V->Hp->VK->Prop:=fun x vs H Q=>∃ l xs y,x=.ref l/\vs=[]/\H l=some (.lst xs)/\xs[xs.length-1]? = some y/\Q y (upd H l (.lst xs.dropLast))
theorem FA:XY X "list.pop" Fj:=by
 intro pins s σ H x vs v us Q I rx rv h
 obtain⟨l,xs,y,rfl,rfl,hH,hy,q⟩:=h
 cases rx
 have hus:=rv.zero
 subst hus
 obtain⟨z,aD,n,r,hl,e⟩:=I.tR hH
 obtain⟨u,hu,ru⟩:=r.get hy
 have hy':aD.toArray[aD.toArray.size-1]? = some u:=by
  show aD.toArray[aD.length-1]? = some u
  rw[<-Array.getElem?_toList,<-hl]
  exact hu
 refine call_meets F.slot_list_pop ⟨_,e,rfl⟩ F.entry_list_pop (F.args_list_pop_1 _) (MeetsSeq.list_pop_last l aD.toArray n u hy' (by rw[List.size_toArray];omega)) ⟨e,?_⟩
 refine⟨y,_,I.J0 (jX:=aD.dropLast) hH e ?_ r.dropLast ?_,ru,q⟩
 ·show aD.toArray.eraseIdxIfInBounds (aD.toArray.size-1)=aD.dropLast.toArray
  rw[List.size_toArray,List.eraseIdxIfInBounds_toArray,KC]
 ·rw[List.length_dropLast]
  omega
noncomputable def UA:R2:=fun x y H Q=>∃ l b xs zs,x=.ref l/\y=.ref b/\H l=some (.lst xs)/\H b=some (.lst zs)/\xs.length+zs.length<=sizeLine/\∀ p,H p=none->Q (.ref p) (upd H p (.lst (xs++zs)))
theorem UT:gK X (binaryOp .Add) UA:=by
 intro pins s σ H x y v u Q I rx ry h
 obtain⟨l,b,xs,zs,rfl,rfl,hH,hB,hz,q⟩:=h
 cases rx
 cases ry
 obtain⟨z,aD,n,r,hl,e⟩:=I.tR hH
 obtain⟨z2,lO,n2,r2,hl2,e2⟩:=I.tR hB
 refine PySem.P.add_list e e2 ?_ (by rw[List.size_toArray,List.size_toArray];omega)
 have ea:aD.toArray++lO.toArray=(aD++lO).toArray:=by simp
 rw[ea]
 exact⟨.ref _,_,I.NS (t':=s.toks) (r.append r2) (by rw[List.length_append];omega),rfl,q _ I.fresh⟩
noncomputable def XG:R2:=fun x y H Q=>∃ l k xs,x=.ref l/\y=.int k/\H l=some (.lst xs)/\-(2 ^ 63)<=k/\k<2 ^ 63/\xs.length*k.toNat<=sizeLine /\
 ∀ p,H p=none->Q (.ref p) (upd H p (.lst (List.replicate k.toNat xs).flatten))
theorem len_rep {α:Type}(xs:List α)(k:Nat):(List.replicate k xs).flatten.length=k*xs.length:=by
 induction k with
 |zero=>simp
 |succ k ih=>rw[List.replicate_succ,List.flatten_cons,List.length_append,ih,Nat.succ_mul,Nat.add_comm]
theorem UG:gK X (binaryOp .Mult) XG:=by
 intro pins s σ H x y v u Q I rx ry h
 obtain⟨l,k,xs,rfl,rfl,hH,h1,h2,hz,q⟩:=h
 cases rx
 obtain⟨t,rfl⟩:=ry
 obtain⟨z,aD,n,r,hl,e⟩:=I.tR hH
 have hlen:aD.toArray.size*k.toNat<=sizeLine:=by rw[List.size_toArray,<-hl];exact hz
 have hcap:¬aD.toArray.size*k.toNat>(2 ^ 63-1) / 8:=by
  have:(sizeLine:Nat)<=(2 ^ 63-1) / 8:=by decide
  omega
 have lP:¬(!Builtin.List.listFitsIndex k)=true:=by
  rw[fitsIndex_both h1 h2]
  exact Bool.false_ne_true
 have hlong:¬Builtin.List.listTooLong (aD.toArray.size*k.toNat)=true:=by
  rw[yT hlen]
  exact Bool.false_ne_true
 have hnew:List.foldl (fun x1 x2=>x1++x2) #[] (List.replicate (if aD.toArray.isEmpty=true then 0 else k.toNat) aD.toArray)=(List.replicate k.toNat aD).flatten.toArray:=by
  have f0:∀ m:Nat,List.foldl (fun x1 x2=>x1++x2) #[] (List.replicate m aD.toArray)=(List.replicate m aD).flatten.toArray:=fun m=>by
   have:=foldl_rep aD m []
   rw[List.nil_append]at this
   exact this
  rw[f0]
  cases aD with
  |nil=>simp
  |cons a r'=>rw[if_neg (by simp)]
 refine wpAny_binaryOp_repeat_ref (T :="list") (U :="int") (by decide) ⟨_,e,rfl⟩ (fun s'=>typeIs_int s' k t) noFill_list_mul F.fills_int_mul F.slot_int_rmul repeat_list F.slot_int_index.lookup
  (call_meets F.slot_int_rmul (typeIs_int s k t) F.entry_int_rmul (F.args_int_rmul_2 _ _) (int___rmul___int_list k t l aD.toArray n)
   ⟨e,rfl,⟨_,e,rfl⟩,call_meets F.slot_list_mul ⟨_,e,rfl⟩ F.entry_list_mul (F.args_list_mul_2 _ _) (AutoListH.list___mul___list_int_3 l aD.toArray n k t lP hcap hlong) ⟨e,?_⟩⟩)
 rw[hnew]
 exact⟨.ref _,_,I.NS (t':=s.toks) (r.rep k.toNat) (by rw[len_rep,Nat.mul_comm];exact hz),rfl,q _ I.fresh⟩
end
end L2
namespace Att
open PySem PySem.W PySem.Calls PyProof.Rows
theorem AH {P:Params}{h:Heap}:∀(ns:List Int)(vs:List Value),WellAll P h vs (ns.map WData.int)->IntsAre vs ns:=by
 intro ns
 induction ns with
 |nil =>
 intro vs w
 rw[List.map_nil]at w
 cases w
 exact .nil
 |cons n ns ih =>
 intro vs w
 rw[List.map_cons]at w
 cases w with
 |cons a b =>
  cases a
  exact .cons _ _ (ih _ b)
theorem LZ {l:OpenLaw}{n:Nat}(hn:l.most=some n){P:Params}{h:Heap}{args:List WData}{vals:List Value}
  (hpre:l.row.toRowW.claim.pre args=true)(hwl:WellAll P h vals args):
  ∃ a vs ns,vals=[Value.ref a]/\args=[WData.list (ns.map WData.int)]/\h.get? a=some { cls:=.type "list", data:=.seq vs.toArray }/\IntsAre vs ns/\ns.length<=n:=by
 have hsh:WShape.hasAll [] args [.list .int]=true:=(pre_splitW hpre).1
 have hc:l.pre.holds [] { args:=args }=true:=(pre_splitW hpre).2
 obtain⟨d,r,rfl,h1,h2⟩:=hasAllW_cons hsh
 obtain rfl:=hasAllW_nil h2
 obtain⟨xs,rfl,h3⟩:=hasW_list h1
 obtain⟨ns,rfl⟩:=items_int h3
 have hlen:ns.length<=n:=by
  unfold OpenLaw.pre at hc
  have h4:(WTm.not (.lt (.lit (.int (n:Int))) (.len (.arg 0)))).holds [] { args:=[.list (ns.map .int)] }=true:=by
   have h4:=(holds_andW hc).1
   rw[hn]at h4
   exact h4
  have h5:=condW_of h4 (w_not (w_lt w_lit (w_len_list (w_arg rfl))))
  rw[List.length_map]at h5
  refine Nat.le_of_not_lt fun q=>?_
  have q':(n:Int)<((ns.length:Nat):Int):=by omega
  first
   |(rw[decide_eq_true q']at h5;exact absurd h5 (by decide))
   |(simp at h5;omega)
 cases hwl with
 |cons w1 w2 =>
  cases w2
  cases w1 with
  |list ho nO=>exact⟨_,_,ns,rfl,rfl,ho,AH ns _ nO,hlen⟩
theorem KW (l:OpenLaw)(args:List WData):l.row.toRowW.claim.post args (.bool true) args=true :=
 postW_of (r:=l.row.toRowW) (X:=(true==true))
 (show WShape.has [] (.bool true) .bool=true by first|rfl|decide|simp [WShape.has,WShape.arms,WShape.armsAll])
 (show(WTm.eq .res (.lit (.bool true))).value [] { args:=args,res:=some (.bool true),after:=args }=some (.bool (true==true))from w_eq_bool (w_res rfl) w_lit) rfl
theorem GW {l:OpenLaw}{n:Nat}{q:Program}{loose:List Str}{XP:(Str->Option Value)->Heap->Prop}{YP:World->Heap->Prop}{d:DefRec}
 (hn:l.most=some n)(hdf:d.params.defaults=[])
 (call:∀(w:World)(s₀ s₁:Shared)(mg mb:Str->Option Value)(fa:Addr)(o:Obj)(pm cd doc:Value)(a:Addr)(vs:List Value)(ns:List Int),
  Ground q loose [] XP w s₀ mg mb s₁.heap->YP w s₁.heap ->
  s₁.heap.get? fa=some o->o.data=.func (docDef d.name d.params d.body d.scope pm cd doc)->s₁.heap.CodeRec cd d.name->mg d.name=some (.ref fa) ->
  s₁.heap.get? a=some { cls:=.type "list", data:=.seq vs.toArray }->IntsAre vs ns->ns.length<=n->s₁.gens = #[] ->
  codeAny (model l.prog w) callerA (.call (.ref fa) ⟨[.ref a],[]⟩) (fun r s'=>r=.ok (.ret (.bool true))/\OldK s₁.heap s'.heap/\s'.os=s₁.os/\AllBare s'.gens) s₁):
 WalkO q loose XP YP l.row.toRowW d [] (fun f vs=>PySem.call f vs):=by
 intro w s₀ s₁ mg mb G Y fa o pm cd doc dV kV ho hd hcd hD hmg hg args vals as hpre hlay hrd hwl hlo
 obtain rfl:dV=.none:=Dflts.none hD hdf
 obtain rfl:kV=.none:=Dflts.noKw hD
 obtain⟨a,vs,ns,rfl,rfl,hobj,hints,hlen⟩:=LZ hn hpre hwl
 refine enter_call (codeAny_mono (call w s₀ s₁ mg mb fa o pm cd doc a vs ns G Y ho (fd_plain hd) hcd hmg hobj hints hlen hg) fun r s' hq=>?_)
 obtain⟨rfl,h2,h3,h4⟩:=hq
 exact⟨.inl ⟨.bool true,.bool true,[],rfl,fun _=>rfl,.bool true,KW l _,fun _=>⟨List.Pairwise.nil,fun _ hm=>(nomatch hm)⟩⟩,h2,h3,h4⟩
end Att
namespace L2
open PySem PySem.Spec PyProof.Rows
theorem CD:∀{vs:List Value}{ns:List Int},IntsAre vs ns->aL (ns.map V.int) vs
 |_,_,.nil=>.nil
 |_,_,.cons n t h=>.cons ⟨t,rfl⟩ (CD h)
noncomputable def JC (H:Hp):Prop:=∀ b,H b=none∨∃ o xs,H b=some (.frz o (.lst xs))
theorem PN {P:Program}{w:World}{K:PySem.W.Frag}{mg mb:Str->Option Value}{CX:uI}{k:Nat}{fa a:Addr}{fd:FuncData}{x:Str}{sp:Sp}{s₁:Shared}{vs:List Value}{ns:List Int}
  (KX:K.In s₁.heap)(hns:s₁.heap.Ns mainGlobals mg)(hb:s₁.heap.Ns builtinsNs mb)(hbb:∀ x:Str,x ≠"__name__" -> mb x=bootBuiltins x)(hlim:s₁.heap.NoLimit)(hg:s₁.gens = #[])
  (ha:s₁.heap.get? a=some { cls:=.type "list", data:=.seq vs.toArray })(hi:IntsAre vs ns)(hl:ns.length<=sizeLine)(hr:dA k callerA)
  (F:∀ base:Heap,K.In base->base.Ns mainGlobals mg->dX P w K mg base CX k fa fd [x] sp)(hbind:∀(s:Shared)(u:Value),BindsTo s fd ⟨[u],[]⟩ [(x,u)])
  (hsp:∀ H:Hp,JC H->cZ K H a (ns.map V.int)->sp [.ref a] H (fun v _=>v=.bl true) fun _ _ _=>False)
  (hCX:∀ H e s',CX [] H s₁ (fun _ _ _=>False) e s'->False):
  codeAny (model P w) callerA (.call (.ref fa) ⟨[.ref a],[]⟩) (fun r s'=>r=.ok (.ret (.bool true))/\OldK s₁.heap s'.heap/\s'.os=s₁.os/\AllBare s'.gens) s₁:=by
 have rv:=CD hi
 have lenV:=hi.length
 have core:∀ H:Hp,JC H->cZ K H a (ns.map V.int)->iB P w H s₁.heap->(∀ b,H b≠none->b=a)->(H a≠none->K.lookup a=none) ->
   codeAny (model P w) callerA (.call (.ref fa) ⟨[.ref a],[]⟩) (fun r s'=>r=.ok (.ret (.bool true))/\OldK s₁.heap s'.heap/\s'.os=s₁.os/\AllBare s'.gens) s₁:=by
  intro H hO hS bY hA hK
  have base_of:∀{b:Addr}{o:Obj},s₁.heap.get? b=some o->H b=none->(tE s₁.heap H).get? b=some o:=fun e n=>O4 e n
  have noA:∀{b:Addr}{o:Obj}{es:Array DictEntry}{ep:Nat},s₁.heap.get? b=some o->o.data=.dict es ep->H b=none:=fun{b o es ep} e d=>by
   cases q:H b with
   |none=>rfl
   |some u =>
    have e':b=a:=hA b (by rw[q];simp)
    subst e'
    rw[ha]at e;cases e
    have d':Data.seq vs.toArray _=Data.dict es ep:=d
    cases d'
  have nsK:∀{b:Addr}{m:Str->Option Value},s₁.heap.Ns b m->(tE s₁.heap H).Ns b m:=fun{b m} ⟨o,es,ep,e,d,r⟩=>⟨o,es,ep,base_of e (noA e d),d,r⟩
  have hKb:K.In (tE s₁.heap H):=fun b o e=>base_of (KX b o e) (by
   cases q:H b with
   |none=>rfl
   |some u =>
    have e':b=a:=hA b (by rw[q];simp)
    subst e'
    rw[hK (by rw[q];simp)]at e;cases e)
  have hM:Mod K mg (tE s₁.heap H):=⟨hKb,nsK hns,⟨mb,nsK hb,hbb⟩,let⟨mc,h1,h2⟩:=hlim;⟨mc,nsK h1,h2⟩⟩
  have e0:yZ P w K mg (tE s₁.heap H) callerA [] s₁ H:=⟨rfl,hM,fun b o e=>R7 e,Nat.le_of_eq (LB _ _),trivial,fun b hb=>absurd (show b∈([]:List Addr)from hb) (by simp),bY,.of_eq hg⟩
  refine codeAny_mono ((F _ hKb (nsK hns)).run callerA [] s₁ H ⟨[.ref a],[]⟩ [.ref a] [.ref a] _ _ hr e0 (hbind s₁ (.ref a)) (.cons rfl .nil) (hsp H hO hS)) fun r s' h=>?_
  cases r with
  |error e=>exact(hCX H e s' h).elim
  |ok fl =>
   cases fl with
   |next=>exact False.elim h
   |brk=>exact False.elim h
   |cont=>exact False.elim h
   |ret u =>
    obtain⟨v,H',os,bare,un,hok',r',q⟩:=h
    have q':v=.bl true:=q
    subst q'
    obtain rfl:u=Value.bool true:=r'
    refine⟨rfl,OldK.of_keep fun b o e=>?_,os,bare⟩
    cases q:H b with
    |none=>exact un.keep b o e q (by intro z;exact absurd (show b∈([]:List Addr)from z) (by simp)) (by simp)
    |some u =>
     rcases hO b with z|⟨ob,xs,z⟩
     ·rw[q]at z;cases z
     ·have z2:=un.qU b ob _ z
      obtain⟨e1,_⟩:=bY b _ z
      obtain⟨e2,_⟩:=hok' b _ z2
      rw[e]at e1;cases e1
      exact e2
 cases hk:K.lookup a with
 |some o =>
  have e:=KX a o hk
  rw[ha]at e
  cases e
  refine core (fun _=>none) (fun _=>.inl rfl) (.inr ⟨_,vs.toArray,_,hk,rfl,rfl,rfl,by rw[List.size_toArray,lenV];exact hl,by simpa using rv⟩) (fun b u z=>by have z':(none:Option HO)=some u:=z;cases z') (fun b z=>absurd rfl z) fun z=>absurd rfl z
 |none =>
  refine core (fun b=>if b=a then some (.frz { cls:=.type "list", data:=.seq vs.toArray } (.lst (ns.map V.int)))else none) (fun b=>?_) (.inl (.inr ⟨{ cls:=.type "list", data:=.seq vs.toArray },if_pos rfl⟩)) (fun b u z=>?_) (fun b z=>?_) fun _=>hk
  ·by_cases hb:b=a
   ·exact .inr ⟨_,_,if_pos hb⟩
   ·exact .inl (if_neg hb)
  ·by_cases hb:b=a
   ·have z':=(if_pos hb).symm.trans z
    cases z'
    subst hb
    exact⟨ha,by rw[List.length_map];exact hl,vs,_,rv,ha⟩
   ·have z':=(if_neg hb).symm.trans z
    cases z'
  ·by_cases hb:b=a
   ·exact hb
   ·exact absurd (if_neg hb) z
end L2
namespace L2
open PySem PySem.Spec PyProof.Rows
theorem TX {l:PySem.W.OpenLaw}{n k:Nat}{q:Program}{loose:List Str}{XP:(Str->Option Value)->Heap->Prop}{YP:World->Heap->Prop}{d:DefRec}{K:Params->PySem.W.Frag}{CX:World->uI}{sp:World->Sp}{x:Str}
 (hn:l.most=some n)(hn2:n<=sizeLine)(hdf:d.params.defaults=[])(hr:dA k callerA)
 (hY:∀(w:World)(h:Heap),YP w h->(K w.params).In h)
 (F:∀(w:World)(mg:Str->Option Value)(fa:Addr)(h:Heap),(K w.params).In h->h.Ns mainGlobals mg->mg d.name=some (.ref fa) ->
  ∃ fd:FuncData,(∀(s:Shared)(u:Value),BindsTo s fd ⟨[u],[]⟩ [(x,u)]) /\
  ∀ base:Heap,(K w.params).In base->base.Ns mainGlobals mg->dX l.prog w (K w.params) mg base (CX w) k fa fd [x] (sp w))
 (hsp:∀(w:World)(H:Hp)(a:Addr)(ns:List Int),ns.length<=n->JC H->cZ (K w.params) H a (ns.map V.int)->sp w [.ref a] H (fun v _=>v=.bl true) fun _ _ _=>False)
 (hCX:∀(w:World)(H:Hp)(s:Shared)(e:Value)(s':Shared),CX w [] H s (fun _ _ _=>False) e s'->False):
 PySem.W.WalkO q loose XP YP l.row.toRowW d [] (fun f vs=>PySem.call f vs):=by
 refine Att.GW hn hdf fun w s₀ s₁ mg mb fa o pm cd doc a vs ns G Y ho hd hcd hmg hobj hints hlen hg=>?_
 have KX:=hY w _ Y
 obtain⟨fd,hb,hF⟩:=F w mg fa _ KX G.T.g hmg
 exact PN KX G.T.g G.T.b G.T.builtins G.T.nolimit hg hobj hints (Nat.le_trans hlen hn2) hr hF hb (fun H hO hS=>hsp w H a ns hlen hO hS) fun H e s'=>hCX w H s₁ e s'
end L2
namespace L2
open PySem PySem.Spec PyProof.Rows
noncomputable def kT (s:Stmt):Arguments:=match s with
 |.FunctionDef _ a _ _ _ _ _ _ _ _=>a
 |_=>{ posonlyargs:=[],args:=[],vararg:=none,kwonlyargs:=[],kw_defaults:=[],kwarg:=none,defaults:=[] }
noncomputable def iC (s:Stmt):List Stmt:=match s with
 |.FunctionDef _ _ b _ _ _ _ _ _ _=>b
 |_=>[]
noncomputable def aP (s:Stmt):Scope:=match s with
 |.FunctionDef _ _ _ _ _ _ sc _ _ _=>sc
 |_=>{ kind:=.function,names:=[],isGenerator:=false,isCoroutine:=false }
noncomputable abbrev gA:uI:=fun _ _ _ _ _ _=>False
noncomputable abbrev E0:XK:=fun _ _ _=>False
theorem J5 {X:Cx}:oB gA X E0:=fun _ _ _ _ _ _ _ h=>h.elim
structure AV (K:PySem.W.Frag)(x qual:Str)(st:Stmt)(f:Addr)(fd:FuncData):Prop where
 ex:∃(oc:Value)(od:Option Addr)(kV doc pm:Value)(an:Option Addr)(bO ct:Value)(osl:Array (Option Value)),
 fd=PySem.W.fnOf x qual (kT st) (iC st) (aP st) .none kV doc pm an bO ct/\K.lookup f=some ⟨oc,od,.func fd,osl⟩/\PySem.W.codeIn K bO qual=true
 kp:PySem.W.keepIn K (.ref f)=true
section
variable {P:Program}{w:World}{K:PySem.W.Frag}{mg:Str->Option Value}{base:Heap}
theorem AV.ok {x qual:Str}{st:Stmt}{f:Addr}{fd:FuncData}{N ps:List Str}{k:Nat}{sp:Sp}(F:AV K x qual st f fd)(S:sA N ps (aP st))(len:∀ vs H Q E,sp vs H Q E->vs.length=ps.length)
 (hbody:∀(bO:Value)(A:Around)(outer:List Env)(s:Shared)(H:Hp)(vs:List V)(Q:VK)(E:XK),dA k (A.deeper (envOfC qual (aP st) s.heap.objs.size f bO))->sp vs H Q E ->
  ∃ t,jQ (lL gA P w K mg base N qual (aP st) f bO A outer s H E).uG (iC st) t/\t { nx:=fun _ H'=>Q .non H',rt:=Q } (start N vs) H):dX P w K mg base gA (k+1) f fd ps sp:=by
 obtain⟨oc,od,kV,doc,pm,an,bO,ct,osl,rfl,lk,hcd⟩:=F.ex
 refine Bi lk hcd S len fun A outer s H vs Q E hr hsp=>?_
 obtain⟨t,h,q⟩:=hbody bO A outer s H vs Q E hr hsp
 exact⟨t,h.uG,q⟩
theorem AV.binds {x qual:Str}{st:Stmt}{f:Addr}{fd:FuncData}{ps:List Str}(F:AV K x qual st f fd)
 (h:∀(kV doc pm:Value)(an:Option Addr)(bO ct:Value)(us:List Value),us.length=ps.length->bindArgs (PySem.W.fnOf x qual (kT st) (iC st) (aP st) .none kV doc pm an bO ct) ⟨us,[]⟩=pure (ps.zip us)):Binds K fd ps []:=by
 obtain⟨oc,od,kV,doc,pm,an,bO,ct,osl,rfl,lk,hcd⟩:=F.ex
 exact .all (h kV doc pm an bO ct)
theorem EO {x qual:Str}{st:Stmt}{f:Addr}{oc:Value}{od an:Option Addr}{osl:Array (Option Value)}{kV doc pm bO ct:Value}(l:K.lookup f=some ⟨oc,od,.func (PySem.W.fnOf x qual (kT st) (iC st) (aP st) .none kV doc pm an bO ct),osl⟩)
 (c:PySem.W.codeIn K bO qual=true)(k:PySem.W.keepIn K (.ref f)=true):AV K x qual st f (PySem.W.fnOf x qual (kT st) (iC st) (aP st) .none kV doc pm an bO ct):=⟨⟨oc,od,kV,doc,pm,an,bO,ct,osl,rfl,l,c⟩,k⟩
end
theorem KU {n:Nat}(h:n<=1000):n<sizeLine:=Nat.lt_of_le_of_lt h (by decide)
section
variable {X:Cx}
theorem pv (i:Nat){x:Str}{pos:Pos}(hN:X.N[i]? = some x:=by rfl)(hv:W7 X.env.scope x:=by first|exact Or.inl rfl|exact Or.inr (Or.inl rfl)|exact Or.inr (Or.inr rfl))(hd:(x==("__debug__" : Str))=false:=by decide)
 (hcd:(x==("__classdict__" : Str))=false:=by decide):PE X (.Name x pos) (OX i):=YY hN hv hd hcd
end
end L2
end
section
namespace L3
inductive D where
 |non|bl (b:Bool)|int (i:Int)|str (x:List Nat)|tup (ds:List D)|ref (a:Nat)|cM (ks vs:List D)|bB (ds:List D)|exc (c:Nat)
inductive MO where
 |lst (ds:List D)
 |dic (ks vs:List D)
 /-- an instance of the class of this name: aD attributes -/
 |ins (c:List Nat)(fs:List (List Nat×D))
 /-- a dict that is filled: aD keys are tuples of texts and of such tuples -/
 |tab (ks vs:List D)
noncomputable abbrev aB:=Nat->Option MO
noncomputable def put (st:aB)(a:Nat)(o:MO):aB:=fun b=>if b=a then some o else st b
inductive sC where
 |add|sub|mul|fdiv|mod|pow
inductive pE where
 |eq|ne|lt|le|gt|ge|is_|isnot|in_|fV
inductive Ty where
 |int|str|bool|list|tuple|dict|err (c:Nat)
inductive BI where
 |len|all|any|max|min|sum|abs|list|tuple|int|str|bool|pS|sorted
inductive MT where
 |append|extend|pop|index|count|join|split|get|insert|remove
inductive IK where
 |range|zip|enum|rev|items|keys|values
inductive Ex where
 |c (d:D)|v (i:Nat)
 |tup (es:List Ex)|lst (es:List Ex)
 |bin (op:sC)(a b:Ex)|neg (a:Ex)
 |cmp (op:pE)(a b:Ex)|chain (op op':pE)(a b c:Ex)
 |and_ (a b:Ex)|or_ (a b:Ex)|not_ (a:Ex)|ite (c a b:Ex)
 |call (f:Nat)(es:List Ex)|bi (f:BI)(es:List Ex)|isi (a:Ex)(ts:List Ty)
 |cK (m:MT)(o:Ex)(es:List Ex)
 |ix (a b:Ex)|sl (a:Ex)(lo hi:List Ex)
 /-- f(g(..)), g what is walked on the spot -/
 |bit (f:BI)(k:IK)(es:List Ex)
 |comp (n:Nat)(aY:List Nat)(tg:List Nat)(one:Bool)(k:Option IK)(aD:List Ex)(ifs:List Ex)(elt:Ex)
 |dic (ks vs:List Ex)
 /-- o.f of an instance of the class c; C(..), f aD __init__; o.m(..), f the def -/
 |fld (c f:List Nat)(o:Ex)|mk (c:List Nat)(f:Nat)(es:List Ex)|mcl (c m:List Nat)(f:Nat)(o:Ex)(es:List Ex)
 /-- {}; k in d; d[k] -/
 |dnew|d1 (k v:Ex)|din (neg:Bool)(k d:Ex)|dix (d k:Ex)
inductive Tg where
 |nm (i:Nat)|tp (is:List Nat)|ix (o i:Ex)|fl (c f:List Nat)(o:Ex)|dk (o i:Ex)
inductive Sx where
 |ex (e:Ex)|asg (t:Tg)(e:Ex)|aug (i:Nat)(op:sC)(e:Ex)
 |iff (c:Ex)(a b:List Sx)|whl (c:Ex)(b:List Sx)|iX (t:Tg)(k:Option IK)(aD:List Ex)(b:List Sx)
 |ret (e:Ex)|brk|cnt|pass|rais (c:Nat)(es:List Ex)
 |tryy (b:List Sx)(c:Nat)(n:Option Nat)(h:List Sx)
structure Fn where
 np:Nat
 nl:Nat
 body:List Sx
structure Prog where
 fns:Nat->Option Fn
 /-- class c is class c' or stands under it -/
 sub:Nat->Nat->Bool
noncomputable abbrev St:=List (Option D)
noncomputable abbrev VK:=D->aB->Prop
noncomputable abbrev XK:=Nat->aB->Prop
noncomputable abbrev bC:=Nat->List D->aB->VK->XK->Prop
noncomputable abbrev bE:Nat:=16777216
noncomputable abbrev kM:Nat:=80
def W (x:String):List Nat:=x.toList.map Char.toNat
noncomputable def Ext (st aA:aB):Prop:=∀ a o,st a=some o->aA a=some o
noncomputable def fE (σ:St)(i:Nat)(Q:D->Prop):Prop:=match σ[i]? with
 |some (some d)=>Q d
 |_=>False
mutual
noncomputable def bG:D->D->Bool
 |.non,.non=>true
 |.bl a,.bl b=>a==b
 |.bl a,.int b=>(if a then 1 else 0)==b
 |.int a,.bl b=>a==(if b then 1 else 0)
 |.int a,.int b=>a==b
 |.str a,.str b=>a==b
 |.tup as,.tup bs=>fS as bs
 |_,_=>false
noncomputable def fS:List D->List D->Bool
 |[],[]=>true
 |a::as,b::bs=>bG a b&&fS as bs
 |_,_=>false
end
mutual
noncomputable def aX:D->Bool
 |.non=>true
 |.bl _=>true
 |.int _=>true
 |.str _=>true
 |.tup ds=>bL ds
 |_=>false
noncomputable def bL:List D->Bool
 |[]=>true
 |d::ds=>aX d&&bL ds
end
mutual
noncomputable def cI:D->Nat
 |.tup ds=>cG ds+1
 |_=>0
noncomputable def cG:List D->Nat
 |[]=>0
 |d::ds=>max (cI d) (cG ds)
end
noncomputable def plain (d:D):Prop:=aX d=true/\cI d<=kM
noncomputable def rL (ds:List D):Prop:=bL ds=true/\cG ds<=kM
noncomputable def LL:Option MO->Bool
 |some (.lst ds)=>bL ds&&decide (cG ds<=kM)
 |_=>false
mutual
noncomputable def fK (st:aB):D->Bool
 |.non=>true
 |.bl _=>true
 |.int _=>true
 |.str _=>true
 |.tup ds=>gC st ds
 |.ref a=>LL (st a)
 |.bB ds=>bL ds&&decide (cG ds<=kM)
 |_=>false
noncomputable def gC (st:aB):List D->Bool
 |[]=>true
 |d::ds=>fK st d&&gC st ds
end
noncomputable def DI:Option MO->Option MO->Bool
 |some (.lst xs),some (.lst ys)=>fS xs ys
 |_,_=>false
mutual
noncomputable def bK (st:aB):D->D->Bool
 |.non,.non=>true
 |.bl a,.bl b=>a==b
 |.bl a,.int b=>(if a then 1 else 0)==b
 |.int a,.bl b=>a==(if b then 1 else 0)
 |.int a,.int b=>a==b
 |.str a,.str b=>a==b
 |.tup as,.tup bs=>hU st as bs
 |.ref a,.ref b=>DI (st a) (st b)
 |.bB xs,.ref b=>DI (some (.lst xs)) (st b)
 |.ref a,.bB ys=>DI (st a) (some (.lst ys))
 |.bB xs,.bB ys=>fS xs ys
 |_,_=>false
noncomputable def hU (st:aB):List D->List D->Bool
 |[],[]=>true
 |a::as,b::bs=>bK st a b&&hU st as bs
 |_,_=>false
end
noncomputable def plainS (st:aB)(d:D):Prop:=fK st d=true/\cI d<=kM
noncomputable def dG (st:aB)(ds:List D):Prop:=gC st ds=true/\cG ds<=kM
noncomputable def P8 (x y:D)(st:aB)(P:Bool->Prop):Prop:=plainS st x/\plainS st y/\P (bK st x y)
noncomputable def occurs (x:List Nat):List Nat->Bool
 |[]=>x.isEmpty
 |c::r=>x.isPrefixOf (c::r)||occurs x r
noncomputable def cA (st:aB)(a:Nat)(K:List D->Prop):Prop:=match st a with
 |some (.lst ds)=>K ds
 |_=>False
noncomputable def cQ {α:Type}(o:Option α)(K:α->Prop):Prop:=match o with
 |some x=>K x
 |none=>False
noncomputable def dO (st:aB)(a:Nat)(K:List D->Prop)(M:List D->List D->Prop):Prop:=match st a with
 |some (.lst ds)=>K ds
 |some (.dic ks vs)=>M ks vs
 |_=>False
noncomputable def EK:D->D->aB->(Bool->Prop)->Prop
 |x,.tup ds,st,P=>plainS st x/\dG st ds/\P (ds.any fun d=>bK st d x)
 |x,.ref a,st,P=>dO st a (fun ds=>plainS st x/\dG st ds/\P (ds.any fun d=>bK st d x)) fun ks _=>plain x/\rL ks/\P (ks.any fun d=>bG d x)
 |.str w,.cM ks _,_,P=>P (ks.any fun d=>bG d (.str w))
 |x,.bB ds,st,P=>plainS st x/\dG st ds/\P (ds.any fun d=>bK st d x)
 |.str w,.str z,_,P=>P (occurs w z)
 |_,_,_,_=>False
noncomputable def sP (f:Int->Int->Bool):D->D->(Bool->Prop)->Prop
 |.int i,.int j,P=>P (f i j)
 |_,_,_=>False
noncomputable def DP:D->Bool
 |.non=>true
 |_=>false
noncomputable def NH (b:Bool):D->Bool
 |.bl c=>c==b
 |_=>false
noncomputable def AX:D->D->(Bool->Prop)->Prop
 |x,.non,P=>P (DP x)
 |x,.bl b,P=>P (NH b x)
 |_,_,_=>False
noncomputable def cR:pE->D->D->aB->(Bool->Prop)->Prop
 |.eq,x,y,st,P=>P8 x y st P
 |.ne,x,y,st,P=>P8 x y st fun b=>P (!b)
 |.lt,x,y,_,P=>sP (fun i j=>decide (i<j)) x y P
 |.le,x,y,_,P=>sP (fun i j=>decide (i<=j)) x y P
 |.gt,x,y,_,P=>sP (fun i j=>decide (j<i)) x y P
 |.ge,x,y,_,P=>sP (fun i j=>decide (j<=i)) x y P
 |.is_,x,y,_,P=>AX x y P
 |.isnot,x,y,_,P=>AX x y fun b=>P (!b)
 |.in_,x,y,st,P=>EK x y st P
 |.fV,x,y,st,P=>EK x y st fun b=>P (!b)
noncomputable def mO (i:Int):Prop:=-18446744073709551616<i/\i<18446744073709551616
noncomputable def gB (ds:List D)(st:aB)(Q:VK):Prop:=ds.length<=bE/\∀ p,st p=none->Q (.ref p) (put st p (.lst ds))
noncomputable def hZ:sC->D->D->aB->VK->Prop
 |.add,.int i,.int j,st,Q=>Q (.int (i+j)) st
 |.add,.str a,.str b,st,Q=>a.length+b.length<=bE/\Q (.str (a++b)) st
 |.add,.tup a,.tup b,st,Q=>a.length+b.length<=bE/\Q (.tup (a++b)) st
 |.add,.ref a,.ref b,st,Q=>cA st a fun xs=>cA st b fun ys=>gB (xs++ys) st Q
 |.sub,.int i,.int j,st,Q=>Q (.int (i-j)) st
 |.mul,.int i,.int j,st,Q=>(mO i∨mO j)/\Q (.int (i*j)) st
 |.mul,.ref a,.int k,st,Q=>cA st a fun xs=>xs.length*k.toNat<=bE/\(-9223372036854775808<=k/\k<9223372036854775808)/\gB (List.replicate k.toNat xs).flatten st Q
 |.mul,.tup xs,.int k,st,Q=>(0<xs.length/\xs.length<=1000/\1<=k/\k<1000)/\Q (.tup (List.replicate k.toNat xs).flatten) st
 |.fdiv,.int i,.int j,st,Q=>(0<j/\j<1073741824)/\Q (.int (i / j)) st
 |.mod,.int i,.int j,st,Q=>0<j/\Q (.int (i % j)) st
 |.pow,.int i,.int j,st,Q=>(0<=j/\j<=1000000/\i.natAbs<18446744073709551616)/\Q (.int (i ^ j.toNat)) st
 |_,_,_,_,_=>False
noncomputable def vQ:D->aB->VK->Prop
 |.int i,st,Q=>Q (.int (-i)) st
 |_,_,_=>False
noncomputable def cC:List (List Nat×D)->List Nat->Option D
 |[],_=>none
 |(g,d)::r,f=>if g=f then some d else cC r f
noncomputable def pJ (f:List Nat)(d:D):List (List Nat×D)->List (List Nat×D)
 |[]=>[(f,d)]
 |(g,x)::r=>if g=f then(g,d)::r else(g,x)::pJ f d r
noncomputable def lB (st:aB)(a:Nat)(K:List Nat->List (List Nat×D)->Prop):Prop:=match st a with
 |some (.ins c fs)=>K c fs
 |_=>False
noncomputable def tabAt (st:aB)(a:Nat)(K:List D->List D->Prop):Prop:=match st a with
 |some (.tab ks vs)=>K ks vs
 |_=>False
noncomputable def nN (c f:List Nat):D->aB->VK->Prop
 |.ref a,st,Q=>lB st a fun c' fs=>c'=c/\cQ (cC fs f) fun d=>Q d st
 |_,_,_=>False
noncomputable def zX (c f:List Nat)(v:D):D->aB->(aB->Prop)->Prop
 |.ref a,st,Q=>lB st a fun c' fs=>c'=c/\fs.length<900/\Q (put st a (.ins c (pJ f v fs)))
 |_,_,_=>False
mutual
noncomputable def iD:D->Bool
 |.str _=>true
 |.bl _=>true
 |.tup ds=>iL ds
 |_=>false
noncomputable def iL:List D->Bool
 |[]=>true
 |d::ds=>iD d&&iL ds
end
noncomputable def keyed:D->Prop
 |.tup ds=>iL ds=true/\cG ds<=7
 |_=>False
noncomputable def kH:List D->List D->D->Option D
 |k::ks,v::vs,x=>if bG k x then some v else kH ks vs x
 |_,_,_=>none
noncomputable def tJ (x:D):D->aB->(Bool->Prop)->Prop
 |.ref a,st,P=>tabAt st a fun ks _=>keyed x/\P (ks.any fun k=>bG k x)
 |_,_,_=>False
noncomputable def oS (x:D):D->aB->VK->Prop
 |.ref a,st,Q=>tabAt st a fun ks vs=>keyed x/\cQ (kH ks vs x) fun d=>Q d st
 |_,_,_=>False
noncomputable def xX (x v:D):D->aB->(aB->Prop)->Prop
 |.ref a,st,Q=>tabAt st a fun ks vs=>keyed x/\(ks.any fun k=>bG k x)=false/\ks.length<10000/\Q (put st a (.tab (ks++[x]) (vs++[v])))
 |_,_,_=>False
noncomputable def BK (c m:List Nat):D->aB->Prop
 |.ref a,st=>lB st a fun c' fs=>c'=c/\cC fs m=none
 |_,_=>False
noncomputable def dI:D->aB->(Bool->Prop)->Prop
 |.non,_,P=>P false
 |.bl b,_,P=>P b
 |.int i,_,P=>P (i != 0)
 |.str x,_,P=>x.length<=bE/\P (!x.isEmpty)
 |.tup ds,_,P=>P (!ds.isEmpty)
 |.ref a,st,P=>dO st a (fun ds=>P (!ds.isEmpty)) fun ks _=>P (!ks.isEmpty)
 |.bB ds,_,P=>P (!ds.isEmpty)
 |_,_,_=>False
noncomputable def iM (sub:Nat->Nat->Bool):D->aB->Ty->(Bool->Prop)->Prop
 |.non,_,_,P=>P false
 |.bl _,_,.bool,P=>P true
 |.bl _,_,.int,P=>P true
 |.bl _,_,_,P=>P false
 |.int _,_,.int,P=>P true
 |.int _,_,_,P=>P false
 |.str _,_,.str,P=>P true
 |.str _,_,_,P=>P false
 |.tup _,_,.tuple,P=>P true
 |.tup _,_,_,P=>P false
 |.ref a,st,.list,P=>dO st a (fun _=>P true) fun _ _=>P false
 |.ref a,st,.dict,P=>dO st a (fun _=>P false) fun _ _=>P true
 |.ref a,st,_,P=>dO st a (fun _=>P false) fun _ _=>P false
 |.bB _,_,.list,P=>P true
 |.bB _,_,_,P=>P false
 |.exc c,_,.err c',P=>P (sub c c')
 |_,_,_,_=>False
noncomputable def tI (sub:Nat->Nat->Bool)(d:D)(st:aB):List Ty->(Bool->Prop)->Prop
 |[],_=>False
 |[t],P=>iM sub d st t P
 |t::u::ts,P=>iM sub d st t fun b=>if b=true then P true else tI sub d st (u::ts) P
noncomputable def lS (n:Nat)(i:Int):Option Nat:=if 0<=i then(if i<n then some i.toNat else none)else if -(n:Int)<=i then some (i+n).toNat else none
noncomputable def eV {α:Type}(xs:List α)(i:Int):Option α:=(lS xs.length i).bind fun j=>xs[j]?
noncomputable def tS:List D->List D->D->Option D
 |k::ks,v::vs,x=>if bG k x then some v else tS ks vs x
 |_,_,_=>none
noncomputable def nQ:D->D->aB->VK->Prop
 |.tup ds,.int i,st,Q=>cQ (eV ds i) fun d=>Q d st
 |.bB ds,.int i,st,Q=>cQ (eV ds i) fun d=>Q d st
 |.str z,.int i,st,Q=>z.length<=bE/\cQ (eV z i) fun c=>Q (.str [c]) st
 |.cM ks vs,.str w,st,Q=>cQ (tS ks vs (.str w)) fun d=>Q d st
 |.ref a,y,st,Q=>dO st a (fun ds=>match y with
  |.int i=>cQ (eV ds i) fun d=>Q d st
  |_=>False) fun ks vs=>plain y/\rL ks/\cQ (tS ks vs y) fun d=>Q d st
 |_,_,_,_=>False
noncomputable def bX (n d:Nat):Option Int->Nat
 |none=>d
 |some v=>if v<0 then(v+(n:Int)).toNat else min v.toNat n
noncomputable def cut {α:Type}(xs:List α)(lo hi:Option Int):List α:=(xs.drop (bX xs.length 0 lo)).take (bX xs.length xs.length hi-bX xs.length 0 lo)
noncomputable def mK:List D->(Option Int->Prop)->Prop
 |[],P=>P none
 |[.int i],P=>P (some i)
 |_,_=>False
noncomputable def A1:D->Option Int->Option Int->aB->VK->Prop
 |.tup ds,lo,hi,st,Q=>Q (.tup (cut ds lo hi)) st
 |.ref a,lo,hi,st,Q=>cA st a fun ds=>∀ p,st p=none->Q (.ref p) (put st p (.lst (cut ds lo hi)))
 |_,_,_,_,_=>False
noncomputable def dH:D->aB->(List Nat->List D->Prop)->Prop
 |.tup ds,_,K=>K [] ds
 |.ref a,st,K=>cA st a fun ds=>K [a] ds
 |.bB ds,_,K=>K [] ds
 |_,_,_=>False
noncomputable def mJ:D->aB->(List Nat->List D->Prop)->Prop
 |.tup ds,_,K=>K [] ds
 |.str x,_,K=>x.length<=bE/\K [] (x.map fun c=>.str [c])
 |.ref a,st,K=>cA st a fun ds=>K [a] ds
 |.bB ds,_,K=>K [] ds
 |_,_,_=>False
noncomputable def zip2:List D->List D->List D
 |x::xs,y::ys=>.tup [x,y]::zip2 xs ys
 |_,_=>[]
noncomputable def PY:Nat->List D->List D
 |_,[]=>[]
 |i,x::xs=>.tup [.int i,x]::PY (i+1) xs
noncomputable def gR (lo:Int)(n:Nat):List D:=(List.range n).map fun k=>.int (lo+(k:Nat))
noncomputable def mC (hi:Int)(n:Nat):List D:=(List.range n).map fun k=>.int (hi-(k:Nat))
noncomputable def cW (i:Int):Prop:=-4611686018427387904<=i/\i<4611686018427387904
noncomputable def fT:Option IK->List D->aB->(List Nat->List D->Prop)->Prop
 |none,[x],st,P=>mJ x st P
 |some .range,[.int j],_,P=>cW j/\P [] (gR 0 j.toNat)
 |some .range,[.int i,.int j],_,P=>cW i/\cW j/\P [] (gR i (j-i).toNat)
 |some .range,[.int i,.int j,.int c],_,P=>c = -1/\cW i/\cW j/\P [] (mC i (i-j).toNat)
 |some .zip,[.ref a,.ref b],st,P=>cA st a fun xs=>cA st b fun ys=>P [a,b] (zip2 xs ys)
 |some .enum,[.ref a],st,P=>cA st a fun xs=>P [a] (PY 0 xs)
 |some .rev,[x],st,P=>dH x st fun as xs=>P as xs.reverse
 |_,_,_,_=>False
noncomputable def boolsOf:List D->Option (List Bool)
 |[]=>some []
 |.bl b::r=>(boolsOf r).map (b :: ·)
 |_=>none
noncomputable def intsOf:List D->Option (List Int)
 |[]=>some []
 |.int i::r=>(intsOf r).map (i :: ·)
 |_=>none
noncomputable def nK:D->aB->(Nat->Prop)->Prop
 |.tup ds,_,P=>P ds.length
 |.str x,_,P=>x.length<=bE/\P x.length
 |.ref a,st,P=>dO st a (fun ds=>P ds.length) fun ks _=>P ks.length
 |.bB ds,_,P=>P ds.length
 |_,_,_=>False
noncomputable def WR:Int->List Int->Int
 |m,[]=>m
 |m,i::r=>WR (if i>m then i else m) r
noncomputable def WW:Int->List Int->Int
 |m,[]=>m
 |m,i::r=>WW (if i<m then i else m) r
noncomputable def eB:BI->List D->aB->VK->Prop
 |.all,xs,st,Q=>cQ (boolsOf xs) fun bs=>Q (.bl (bs.all id)) st
 |.any,xs,st,Q=>cQ (boolsOf xs) fun bs=>Q (.bl (bs.any id)) st
 |.max,xs,st,Q=>cQ (intsOf xs) fun is=>match is with
  |i::r=>Q (.int (WR i r)) st
  |[]=>False
 |.min,xs,st,Q=>cQ (intsOf xs) fun is=>match is with
  |i::r=>Q (.int (WW i r)) st
  |[]=>False
 |.sum,xs,st,Q=>cQ (intsOf xs) fun is=>Q (.int is.sum) st
 |.list,xs,st,Q=>gB xs st Q
 |.tuple,xs,st,Q=>xs.length<=bE/\Q (.tup xs) st
 |_,_,_,_=>False
noncomputable def strsOf:List D->Option (List (List Nat))
 |[]=>some []
 |.str w::r=>(strsOf r).map (w :: ·)
 |_=>none
noncomputable def wK:List (List Nat)->List (List Nat)->Nat
 |_,[]=>0
 |seen,w::r=>(if seen.any (·== w)then 0 else 1)+wK (seen++[w]) r
noncomputable def gJ:BI->List D->aB->VK->Prop
 |.len,[d],st,Q=>nK d st fun n=>Q (.int (n:Nat)) st
 |.pS,[.tup ds],st,Q=>cQ (strsOf ds) fun ws=>ws.length<4000/\Q (.int (wK [] ws:Nat)) st
 |.max,[.int i,.int j],st,Q=>Q (.int (if j>i then j else i)) st
 |.min,[.int i,.int j],st,Q=>Q (.int (if j<i then j else i)) st
 |.abs,[.int i],st,Q=>Q (.int (if i<0 then -i else i)) st
 |.int,[.int i],st,Q=>Q (.int i) st
 |.int,[.bl b],st,Q=>Q (.int (if b then 1 else 0)) st
 |.bool,[.int i],st,Q=>Q (.bl (i != 0)) st
 |.bool,[.bl b],st,Q=>Q (.bl b) st
 |f,[d],st,Q=>dH d st fun _ xs=>eB f xs st Q
 |_,_,_,_=>False
noncomputable def uR:D->aB->(List D->Prop)->Prop
 |.tup ds,_,K=>K ds
 |.ref a,st,K=>cA st a K
 |_,_,_=>False
noncomputable def findD (st:aB)(d:D):List D->Option Nat
 |[]=>none
 |e::r=>if bK st e d=true then some 0 else(findD st d r).map (·+ 1)
noncomputable def iS:MT->D->List D->aB->VK->Prop
 |.append,.ref a,[d],st,Q=>cA st a fun xs=>xs.length<bE/\Q .non (put st a (.lst (xs++[d])))
 |.extend,.ref a,[d],st,Q=>cA st a fun xs=>uR d st fun ys=>xs.length+ys.length<=bE/\Q .non (put st a (.lst (xs++ys)))
 |.pop,.ref a,[],st,Q=>cA st a fun xs=>cQ (xs[xs.length-1]?) fun d=>Q d (put st a (.lst xs.dropLast))
 |.index,x,[d],st,Q=>dH x st fun _ ds=>plainS st d/\dG st ds/\cQ (findD st d ds) fun i=>Q (.int (i:Nat)) st
 |_,_,_,_,_=>False
noncomputable def uY:MT->D->aB->Prop
 |.append,.ref a,st=>cA st a fun _=>True
 |.extend,.ref a,st=>cA st a fun _=>True
 |.pop,.ref a,st=>cA st a fun _=>True
 |.index,x,st=>dH x st fun _ _=>True
 |_,_,_=>False
noncomputable def jG:Bool->List Nat->D->St->(St->Prop)->Prop
 |true,[i],x,σ,P=>P (σ.set i (some x))
 |false,is,.tup ds,σ,P=>ds.length=is.length/\P ((is.zip ds).foldl (fun σ p=>σ.set p.1 (some p.2)) σ)
 |_,_,_,_,_=>False
noncomputable def iR (g:aB->Prop)(turn:D->aB->(Option D->aB->Prop)->Prop):List D->List D->aB->(List D->aB->Prop)->Prop
 |[],acc,st,R=>g st/\R acc st
 |x::xs,acc,st,R=>g st/\acc.length<bE/\turn x st fun o aA=>iR g turn xs (match o with|none=>acc|some d=>acc++[d]) aA R
noncomputable def same (as:List Nat)(st aA:aB):Prop:=∀ a∈as,aA a=st a
mutual
noncomputable def aH (C:bC)(sub:Nat->Nat->Bool)(E:XK):Ex->St->aB->VK->Prop
 |.c d,_,st,Q=>Q d st
 |.v i,σ,st,Q=>fE σ i fun d=>Q d st
 |.tup es,σ,st,Q=>bN C sub E es σ st fun ds aA=>Q (.tup ds) aA
 |.lst es,σ,st,Q=>bN C sub E es σ st fun ds aA=>gB ds aA Q
 |.bin op a b,σ,st,Q=>aH C sub E a σ st fun x aC=>aH C sub E b σ aC fun y aG=>hZ op x y aG Q
 |.neg a,σ,st,Q=>aH C sub E a σ st fun x aC=>vQ x aC Q
 |.cmp op a b,σ,st,Q=>aH C sub E a σ st fun x aC=>aH C sub E b σ aC fun y aG=>cR op x y aG fun k=>Q (.bl k) aG
 |.chain op op' a b c,σ,st,Q=>aH C sub E a σ st fun x aC=>aH C sub E b σ aC fun y aG=>cR op x y aG fun k =>
  if k=true then aH C sub E c σ aG fun z aR=>cR op' y z aR fun k=>Q (.bl k) aR else Q (.bl false) aG
 |.and_ a b,σ,st,Q=>aH C sub E a σ st fun x aC=>dI x aC fun k=>if k=true then aH C sub E b σ aC Q else Q x aC
 |.or_ a b,σ,st,Q=>aH C sub E a σ st fun x aC=>dI x aC fun k=>if k=true then Q x aC else aH C sub E b σ aC Q
 |.not_ a,σ,st,Q=>aH C sub E a σ st fun x aC=>dI x aC fun k=>Q (.bl (!k)) aC
 |.ite c a b,σ,st,Q=>aH C sub E c σ st fun x aC=>dI x aC fun k=>if k=true then aH C sub E a σ aC Q else aH C sub E b σ aC Q
 |.call f es,σ,st,Q=>bN C sub E es σ st fun ds aA=>C f ds aA Q E
 |.bi f es,σ,st,Q=>bN C sub E es σ st fun ds aA=>gJ f ds aA Q
 |.isi a ts,σ,st,Q=>aH C sub E a σ st fun x aC=>tI sub x aC ts fun k=>Q (.bl k) aC
 |.cK m o es,σ,st,Q=>aH C sub E o σ st fun x aC=>uY m x aC/\bN C sub E es σ aC fun ds aG=>iS m x ds aG Q
 |.ix a b,σ,st,Q=>aH C sub E a σ st fun x aC=>aH C sub E b σ aC fun y aG=>nQ x y aG Q
 |.sl a lo hi,σ,st,Q=>aH C sub E a σ st fun x aC=>bN C sub E lo σ aC fun ls aG=>mK ls fun l=>bN C sub E hi σ aG fun hs aR=>mK hs fun h=>A1 x l h aR Q
 |.bit f k es,σ,st,Q=>bN C sub E es σ st fun ds aC=>fT (some k) ds aC fun _ xs=>eB f xs aC Q
 |.comp n aY tg one k aD ifs elt,σ,st,Q=>bN C sub E aD σ st fun ds aC=>fT k ds aC fun as xs =>
  iR (same as aC) (fun x aG K=>jG one tg x (List.replicate n none++aY.map fun i=>(σ[i]?).getD none) fun σ' =>
  gO C sub E ifs σ' aG fun b aR=>if b=true then aH C sub E elt σ' aR fun d cP=>K (some d) cP else K none aR) xs [] aC fun ds dE=>gB ds dE Q
 |.dic _ _,_,_,_=>False
 |.fld c f o,σ,st,Q=>aH C sub E o σ st fun x aC=>nN c f x aC Q
 |.mk c f es,σ,st,Q=>bN C sub E es σ st fun ds aC=>∀ p,aC p=none->C f (.ref p::ds) (put aC p (.ins c [])) (fun d aG=>d=.non/\Q (.ref p) aG) E
 |.mcl c m f o es,σ,st,Q=>aH C sub E o σ st fun x aC=>BK c m x aC/\bN C sub E es σ aC fun ds aG=>C f (x::ds) aG Q E
 |.dnew,σ,st,Q=>∀ p,st p=none->Q (.ref p) (put st p (.tab [] []))
 |.d1 k v,σ,st,Q=>∀ p,st p=none->aH C sub E k σ (put st p (.tab [] [])) fun x aC=>aH C sub E v σ aC fun y aG=>xX x y (.ref p) aG fun aR=>Q (.ref p) aR
 |.din neg k d,σ,st,Q=>aH C sub E k σ st fun x aC=>aH C sub E d σ aC fun y aG=>tJ x y aG fun b=>Q (.bl (if neg=true then !b else b)) aG
 |.dix d k,σ,st,Q=>aH C sub E d σ st fun y aC=>aH C sub E k σ aC fun x aG=>oS x y aG Q
noncomputable def bN (C:bC)(sub:Nat->Nat->Bool)(E:XK):List Ex->St->aB->(List D->aB->Prop)->Prop
 |[],_,st,Q=>Q [] st
 |e::es,σ,st,Q=>aH C sub E e σ st fun d aA=>bN C sub E es σ aA fun ds aT=>Q (d::ds) aT
/-- all tests, one after another -/
noncomputable def gO (C:bC)(sub:Nat->Nat->Bool)(E:XK):List Ex->St->aB->(Bool->aB->Prop)->Prop
 |[],_,st,Q=>Q true st
 |e::es,σ,st,Q=>aH C sub E e σ st fun d aA=>dI d aA fun k=>if k=true then gO C sub E es σ aA Q else Q false aA
end
structure fR where
 nx:St->aB->Prop
 rt:D->aB->Prop
 bk:St->aB->Prop
 ct:St->aB->Prop
 ex:Nat->St->aB->Prop
noncomputable def notRef:D->Prop
 |.ref _=>False
 |_=>True
noncomputable def zB:D->D->D->aB->(aB->Prop)->Prop
 |.ref a,.int k,v,st,Q=>cA st a fun xs=>cQ (lS xs.length k) fun j=>Q (put st a (.lst (xs.set j v)))
 |_,_,_,_,_=>False
noncomputable def lH (C:bC)(sub:Nat->Nat->Bool)(E:XK):Tg->D->St->aB->(St->aB->Prop)->Prop
 |.nm i,d,σ,st,Q=>Q (σ.set i (some d)) st
 |.tp is,d,σ,st,Q=>jG false is d σ fun σ'=>Q σ' st
 |.ix o i,d,σ,st,Q=>aH C sub E o σ st fun x aC=>aH C sub E i σ aC fun y aG=>zB x y d aG fun aR=>Q σ aR
 |.fl c f o,d,σ,st,Q=>aH C sub E o σ st fun x aC=>zX c f d x aC fun aG=>Q σ aG
 |.dk o i,d,σ,st,Q=>aH C sub E o σ st fun x aC=>aH C sub E i σ aC fun y aG=>xX y d x aG fun aR=>Q σ aR
noncomputable def oT (g:aB->Prop)(turn:D->(St->aB->Prop)->St->aB->Prop)(N:St->aB->Prop):List D->St->aB->Prop
 |[],σ,st=>g st/\N σ st
 |x::xs,σ,st=>g st/\turn x (oT g turn N xs) σ st
noncomputable def mZ (turn:(St->aB->Prop)->St->aB->Prop):Nat->St->aB->Prop
 |0,_,_=>False
 |n+1,σ,st=>turn (mZ turn n) σ st
noncomputable def ES (n:Option Nat)(o:Option D)(σ:St):St:=match n with
 |some i=>σ.set i o
 |none=>σ
noncomputable def Ep (sub:Nat->Nat->Bool)(c:Nat)(n:Option Nat)(P:fR)(h:fR->St->aB->Prop):fR :=
 ⟨P.nx,P.rt,P.bk,P.ct,fun c' σ' aA=>if sub c' c=true then
 h ⟨fun σ2 aG=>P.nx (ES n none σ2) aG,P.rt,fun _ _=>False,fun _ _=>False,fun _ _ _=>False⟩ (ES n (some (.exc c')) σ') aA else P.ex c' σ' aA⟩
noncomputable def GN:bC:=fun _ _ _ _ _=>False
mutual
noncomputable def wpS (C:bC)(sub:Nat->Nat->Bool):Sx->fR->St->aB->Prop
 |.ex e,P,σ,st=>aH C sub (fun c aA=>P.ex c σ aA) e σ st fun _ aA=>P.nx σ aA
 |.asg t e,P,σ,st=>aH C sub (fun c aA=>P.ex c σ aA) e σ st fun d aA=>lH C sub (fun c aA=>P.ex c σ aA) t d σ aA P.nx
 |.aug i op e,P,σ,st=>fE σ i fun x=>aH C sub (fun c aA=>P.ex c σ aA) e σ st fun y aA=>notRef x/\hZ op x y aA fun d aT=>P.nx (σ.set i (some d)) aT
 |.iff c a b,P,σ,st=>aH C sub (fun c aA=>P.ex c σ aA) c σ st fun d aA=>dI d aA fun k=>if k=true then cH C sub a P σ aA else cH C sub b P σ aA
 |.whl c b,P,σ,st=>∃ n,mZ (fun next σ st=>aH C sub (fun c aA=>P.ex c σ aA) c σ st fun d aA=>dI d aA fun k =>
  if k=true then cH C sub b { P with nx:=next,ct:=next,bk:=P.nx } σ aA else P.nx σ aA) n σ st
 |.iX t k aD b,P,σ,st=>bN C sub (fun c aA=>P.ex c σ aA) aD σ st fun ds aC=>fT k ds aC fun as xs=>oT (same as aC) (fun x next σ st=>lH C sub (fun c aA=>P.ex c σ aA) t x σ st fun σ' aA=>cH C sub b { P with nx:=next,ct:=next,bk:=P.nx } σ' aA) P.nx xs σ aC
 |.ret e,P,σ,st=>aH C sub (fun c aA=>P.ex c σ aA) e σ st P.rt
 |.brk,P,σ,st=>P.bk σ st
 |.cnt,P,σ,st=>P.ct σ st
 |.pass,P,σ,st=>P.nx σ st
 |.rais c es,P,σ,st=>bN C sub (fun c aA=>P.ex c σ aA) es σ st fun _ aA=>P.ex c σ aA
 |.tryy b c n h,P,σ,st=>cH C sub b (Ep sub c n P fun P' σ' aA=>cH GN sub h P' σ' aA) σ st
noncomputable def cH (C:bC)(sub:Nat->Nat->Bool):List Sx->fR->St->aB->Prop
 |[],P,σ,st=>P.nx σ st
 |s::ss,P,σ,st=>wpS C sub s { P with nx:=cH C sub ss P } σ st
end
noncomputable def start (np nl:Nat)(ds:List D):St:=ds.map some++List.replicate (nl-np) none
noncomputable def aN (G:Prog):Nat->bC
 |0=>fun _ _ _ _ _=>False
 |k+1=>fun f ds st Q E=>match G.fns f with
 |none=>False
 |some fn=>ds.length=fn.np/\cH (aN G k) G.sub fn.body ⟨fun _ aA=>Q .non aA,Q,fun _ _=>False,fun _ _=>False,fun c _ aA=>E c aA⟩ (start fn.np fn.nl ds) st
end L3
end
section
namespace L3
theorem DC {σ:St}{i:Nat}{Q Q':D->Prop}(h:∀ d,Q d->Q' d):fE σ i Q->fE σ i Q':=by
 unfold fE;split
 ·exact h _
 ·exact id
theorem lN {st:aB}{a:Nat}{K K':List D->Prop}{M M':List D->List D->Prop}(h:∀ ds,K ds->K' ds)(h':∀ ks vs,M ks vs->M' ks vs):dO st a K M->dO st a K' M':=by
 unfold dO;split
 ·exact h _
 ·exact h' _ _
 ·exact id
theorem cU {st:aB}{a:Nat}{K K':List D->Prop}(h:∀ ds,K ds->K' ds):cA st a K->cA st a K':=by
 unfold cA;split
 ·exact h _
 ·exact id
theorem dJ {α:Type}{o:Option α}{K K':α->Prop}(h:∀ x,K x->K' x):cQ o K->cQ o K':=by
 unfold cQ;split
 ·exact h _
 ·exact id
theorem iJ {d:D}{st:aB}{P P':Bool->Prop}(h:∀ b,P b->P' b):dI d st P->dI d st P':=by
 unfold dI;split
 all_goals first|exact h _|exact id|exact(fun x=>⟨x.1,h _ x.2⟩)|exact lN (fun _=>h _) fun _ _=>h _
theorem mU {ds:List D}{st:aB}{Q Q':VK}(h:∀ d st,Q d st->Q' d st):gB ds st Q->gB ds st Q':=fun x=>⟨x.1,fun p hp=>h _ _ (x.2 p hp)⟩
theorem CB {op:sC}{x y:D}{st:aB}{Q Q':VK}(h:∀ d st,Q d st->Q' d st):hZ op x y st Q->hZ op x y st Q':=by
 unfold hZ
 split
 all_goals first|exact h _ _|exact id|exact(fun z=>⟨z.1,h _ _ z.2⟩)|exact cU (fun _=>cU fun _=>mU h)|exact cU (fun _ z=>⟨z.1,z.2.1,mU h z.2.2⟩)
theorem MW {x:D}{st:aB}{Q Q':VK}(h:∀ d st,Q d st->Q' d st):vQ x st Q->vQ x st Q':=by
 unfold vQ;split
 ·exact h _ _
 ·exact id
theorem ER {x y:D}{st:aB}{P P':Bool->Prop}(h:∀ b,P b->P' b):P8 x y st P->P8 x y st P':=fun z=>⟨z.1,z.2.1,h _ z.2.2⟩
theorem E5 {x y:D}{st:aB}{P P':Bool->Prop}(h:∀ b,P b->P' b):EK x y st P->EK x y st P':=by
 unfold EK
 split
 all_goals first|exact(fun z=>⟨z.1,z.2.1,h _ z.2.2⟩)|exact h _|exact id|exact lN (fun _ z=>⟨z.1,z.2.1,h _ z.2.2⟩) fun _ _ z=>⟨z.1,z.2.1,h _ z.2.2⟩
theorem qA {f:Int->Int->Bool}{x y:D}{P P':Bool->Prop}(h:∀ b,P b->P' b):sP f x y P->sP f x y P':=by
 unfold sP;split
 ·exact h _
 ·exact id
theorem ET {x y:D}{P P':Bool->Prop}(h:∀ b,P b->P' b):AX x y P->AX x y P':=by
 unfold AX
 split
 all_goals first|exact h _|exact id
theorem uP {op:pE}{x y:D}{st:aB}{P P':Bool->Prop}(h:∀ b,P b->P' b):cR op x y st P->cR op x y st P':=by
 cases op
 ·exact ER h
 ·exact ER fun b=>h (!b)
 ·exact qA h
 ·exact qA h
 ·exact qA h
 ·exact qA h
 ·exact ET h
 ·exact ET fun b=>h (!b)
 ·exact E5 h
 ·exact E5 fun b=>h (!b)
theorem AJ {sub:Nat->Nat->Bool}{x:D}{st:aB}{t:Ty}{P P':Bool->Prop}(h:∀ b,P b->P' b):iM sub x st t P->iM sub x st t P':=by
 unfold iM
 split
 all_goals first|exact h _|exact id|exact lN (fun _=>h _) fun _ _=>h _
theorem CQ {sub:Nat->Nat->Bool}{x:D}{st:aB}{P P':Bool->Prop}(h:∀ b,P b->P' b):∀{ts:List Ty},tI sub x st ts P->tI sub x st ts P'
 |[]=>id
 |[t]=>AJ h
 |t::u::ts=>by
  unfold tI
  refine AJ fun b=>?_
  split
  ·exact h _
  ·exact CQ h
theorem NV {x y:D}{st:aB}{Q Q':VK}(h:∀ d st,Q d st->Q' d st):nQ x y st Q->nQ x y st Q':=by
 unfold nQ
 split
 all_goals first|exact id|exact dJ (fun _=>h _ _)|exact(fun z=>⟨z.1,dJ (fun _=>h _ _) z.2⟩)|exact(fun z=>⟨z.1,z.2.1,dJ (fun _=>h _ _) z.2.2⟩)|skip
 refine lN (fun _=>?_) (fun _ _ z=>⟨z.1,z.2.1,dJ (fun _=>h _ _) z.2.2⟩)
 split
 ·exact dJ fun _=>h _ _
 ·exact id
theorem zM {ds:List D}{P P':Option Int->Prop}(h:∀ o,P o->P' o):mK ds P->mK ds P':=by
 unfold mK;split
 all_goals first|exact h _|exact id
theorem OR {x:D}{lo hi:Option Int}{st:aB}{Q Q':VK}(h:∀ d st,Q d st->Q' d st):A1 x lo hi st Q->A1 x lo hi st Q':=by
 unfold A1
 split
 ·exact h _ _
 ·exact cU fun _ z p hp=>h _ _ (z p hp)
 ·exact id
theorem KD {d:D}{st:aB}{K K':List Nat->List D->Prop}(h:∀ as xs,K as xs->K' as xs):mJ d st K->mJ d st K':=by
 unfold mJ
 split
 all_goals first|exact h _ _|exact id|exact(fun z=>⟨z.1,h _ _ z.2⟩)|exact cU (fun _=>h _ _)
theorem vI {d:D}{st:aB}{K K':List Nat->List D->Prop}(h:∀ as xs,K as xs->K' as xs):dH d st K->dH d st K':=by
 unfold dH
 split
 all_goals first|exact h _ _|exact id|exact cU (fun _=>h _ _)
theorem wH {k:Option IK}{ds:List D}{st:aB}{P P':List Nat->List D->Prop}(h:∀ as xs,P as xs->P' as xs):fT k ds st P->fT k ds st P':=by
 unfold fT
 split
 ·exact KD h
 ·exact fun z=>⟨z.1,h _ _ z.2⟩
 ·exact fun z=>⟨z.1,z.2.1,h _ _ z.2.2⟩
 ·exact fun z=>⟨z.1,z.2.1,z.2.2.1,h _ _ z.2.2.2⟩
 ·exact cU fun _=>cU fun _=>h _ _
 ·exact cU fun _=>h _ _
 ·exact vI fun _ _=>h _ _
 ·exact id
theorem MZ {d:D}{st:aB}{P P':Nat->Prop}(h:∀ n,P n->P' n):nK d st P->nK d st P':=by
 unfold nK
 split
 all_goals first|exact h _|exact id|exact(fun z=>⟨z.1,h _ z.2⟩)|exact lN (fun _=>h _) fun _ _=>h _
theorem yO {f:BI}{xs:List D}{st:aB}{Q Q':VK}(h:∀ d st,Q d st->Q' d st):eB f xs st Q->eB f xs st Q':=by
 unfold eB
 split
 all_goals first|exact id|exact mU h|exact(fun z=>⟨z.1,h _ _ z.2⟩)|exact dJ (fun _=>h _ _)|skip
 all_goals refine dJ fun is=>?_
 all_goals cases is
 all_goals first|exact id|exact h _ _
theorem OQ {f:BI}{ds:List D}{st:aB}{Q Q':VK}(h:∀ d st,Q d st->Q' d st):gJ f ds st Q->gJ f ds st Q':=by
 unfold gJ
 split
 all_goals first|exact id|exact h _ _|exact MZ (fun _=>h _ _)|exact vI (fun _ _=>yO h)|exact dJ (fun _ z=>⟨z.1,h _ _ z.2⟩)
theorem LS {d:D}{st:aB}{K K':List D->Prop}(h:∀ xs,K xs->K' xs):uR d st K->uR d st K':=by
 unfold uR
 split
 all_goals first|exact h _|exact id|exact cU h
theorem KI {m:MT}{o:D}{ds:List D}{st:aB}{Q Q':VK}(h:∀ d st,Q d st->Q' d st):iS m o ds st Q->iS m o ds st Q':=by
 unfold iS
 split
 ·exact cU fun _ z=>⟨z.1,h _ _ z.2⟩
 ·exact cU fun _=>LS fun _ z=>⟨z.1,h _ _ z.2⟩
 ·exact cU fun _=>dJ fun _=>h _ _
 ·exact vI fun _ _ z=>⟨z.1,z.2.1,dJ (fun _=>h _ _) z.2.2⟩
 ·exact id
theorem A2 {one:Bool}{tg:List Nat}{x:D}{σ:St}{P P':St->Prop}(h:∀ σ,P σ->P' σ):jG one tg x σ P->jG one tg x σ P':=by
 unfold jG
 split
 ·exact h _
 ·exact fun z=>⟨z.1,h _ z.2⟩
 ·exact id
theorem AS {g:aB->Prop}{turn qM:D->aB->(Option D->aB->Prop)->Prop}{R R':List D->aB->Prop}
 (ht:∀ x st K K',(∀ o st,K o st->K' o st)->turn x st K->qM x st K')(h:∀ ds st,R ds st->R' ds st):∀{xs acc:List D}{st:aB},iR g turn xs acc st R->iR g qM xs acc st R'
 |[],_,_,z=>⟨z.1,h _ _ z.2⟩
 |_::_,_,_,z=>⟨z.1,z.2.1,ht _ _ _ _ (fun _ _ y=>AS ht h y) z.2.2⟩
theorem AG {st:aB}{a:Nat}{K K':List Nat->List (List Nat×D)->Prop}(h:∀ c fs,K c fs->K' c fs):lB st a K->lB st a K':=by
 unfold lB;split
 ·exact h _ _
 ·exact id
theorem sQ {st:aB}{a:Nat}{K K':List D->List D->Prop}(h:∀ c fs,K c fs->K' c fs):tabAt st a K->tabAt st a K':=by
 unfold tabAt;split
 ·exact h _ _
 ·exact id
theorem L6 {c f:List Nat}{x:D}{st:aB}{Q Q':VK}(h:∀ d st,Q d st->Q' d st):nN c f x st Q->nN c f x st Q':=by
 unfold nN;split
 ·exact AG fun _ _ z=>⟨z.1,dJ (fun _=>h _ _) z.2⟩
 ·exact id
theorem N4 {c f:List Nat}{v x:D}{st:aB}{Q Q':aB->Prop}(h:∀ st,Q st->Q' st):zX c f v x st Q->zX c f v x st Q':=by
 unfold zX;split
 ·exact AG fun _ _ z=>⟨z.1,z.2.1,h _ z.2.2⟩
 ·exact id
theorem K0 {x y:D}{st:aB}{P P':Bool->Prop}(h:∀ b,P b->P' b):tJ x y st P->tJ x y st P':=by
 unfold tJ;split
 ·exact sQ fun _ _ z=>⟨z.1,h _ z.2⟩
 ·exact id
theorem MY {x y:D}{st:aB}{Q Q':VK}(h:∀ d st,Q d st->Q' d st):oS x y st Q->oS x y st Q':=by
 unfold oS;split
 ·exact sQ fun _ _ z=>⟨z.1,dJ (fun _=>h _ _) z.2⟩
 ·exact id
theorem FQ {x v y:D}{st:aB}{Q Q':aB->Prop}(h:∀ st,Q st->Q' st):xX x v y st Q->xX x v y st Q':=by
 unfold xX;split
 ·exact sQ fun _ _ z=>⟨z.1,z.2.1,z.2.2.1,h _ z.2.2.2⟩
 ·exact id
noncomputable def bP (C C':bC):Prop:=∀ f ds st Q Q' E E',(∀ d st,Q d st->Q' d st)->(∀ c st,E c st->E' c st)->C f ds st Q E->C' f ds st Q' E'
mutual
theorem aQ {C C':bC}{sub}{E E':XK}(hC:bP C C')(hE:∀ c st,E c st->E' c st):∀(e:Ex){σ:St}{st:aB}{Q Q':VK},(∀ d st,Q d st->Q' d st)->aH C sub E e σ st Q->aH C' sub E' e σ st Q'
 |.c d,σ,st,Q,Q',h=>by exact h _ _
 |.v i,σ,st,Q,Q',h=>by exact DC fun d=>h _ _
 |.tup es,σ,st,Q,Q',h=>by exact cN hC hE es fun _ _=>h _ _
 |.lst es,σ,st,Q,Q',h=>by exact cN hC hE es fun _ _=>mU h
 |.bin op a b,σ,st,Q,Q',h=>by exact aQ hC hE a fun _ _=>aQ hC hE b fun _ _=>CB h
 |.neg a,σ,st,Q,Q',h=>by
  exact aQ hC hE a fun _ _=>MW h
 |.cmp op a b,σ,st,Q,Q',h=>by exact aQ hC hE a fun _ _=>aQ hC hE b fun _ _=>uP fun _=>h _ _
 |.chain op op' a b c,σ,st,Q,Q',h=>by
  refine aQ hC hE a fun _ _=>aQ hC hE b fun _ _=>uP fun k=>?_
  split
  ·exact aQ hC hE c fun _ _=>uP fun _=>h _ _
  ·exact h _ _
 |.and_ a b,σ,st,Q,Q',h=>by
  refine aQ hC hE a fun _ _=>iJ fun k=>?_
  split
  ·exact aQ hC hE b h
  ·exact h _ _
 |.or_ a b,σ,st,Q,Q',h=>by
  refine aQ hC hE a fun _ _=>iJ fun k=>?_
  split
  ·exact h _ _
  ·exact aQ hC hE b h
 |.not_ a,σ,st,Q,Q',h=>by exact aQ hC hE a fun _ _=>iJ fun k=>h _ _
 |.ite c a b,σ,st,Q,Q',h=>by
  refine aQ hC hE c fun _ _=>iJ fun k=>?_
  split
  ·exact aQ hC hE a h
  ·exact aQ hC hE b h
 |.call f es,σ,st,Q,Q',h=>by exact cN hC hE es fun _ _=>hC _ _ _ _ _ _ _ h hE
 |.bi f es,σ,st,Q,Q',h=>by exact cN hC hE es fun _ _=>OQ h
 |.isi a ts,σ,st,Q,Q',h=>by exact aQ hC hE a fun _ _=>CQ fun _=>h _ _
 |.cK m o es,σ,st,Q,Q',h=>by exact aQ hC hE o fun _ _ z=>⟨z.1,cN hC hE es (fun _ _=>KI h) z.2⟩
 |.ix a b,σ,st,Q,Q',h=>by exact aQ hC hE a fun _ _=>aQ hC hE b fun _ _=>NV h
 |.sl a lo hi,σ,st,Q,Q',h=>by exact aQ hC hE a fun _ _=>cN hC hE lo fun _ _=>zM fun _=>cN hC hE hi fun _ _=>zM fun _=>OR h
 |.bit f k es,σ,st,Q,Q',h=>by exact cN hC hE es fun _ _=>wH fun _ _=>yO h
 |.comp n aY tg one k aD ifs elt,σ,st,Q,Q',h=>by
  refine cN hC hE aD fun d aC=>wH fun as xs=>?_
  intro z
  refine AS (fun x st K K' hK=>?_) (fun _ _=>mU h) z
  refine A2 fun σ'=>DE hC hE ifs fun b st=>?_
  split
  ·exact aQ hC hE elt fun _ _=>hK _ _
  ·exact hK _ _
 |.dic _ _,σ,st,Q,Q',h=>by exact id
 |.fld c f o,σ,st,Q,Q',h=>by exact aQ hC hE o fun _ _=>L6 h
 |.mk c f es,σ,st,Q,Q',h=>by exact cN hC hE es fun _ _ z p hp=>hC _ _ _ _ _ _ _ (fun _ _ y=>⟨y.1,h _ _ y.2⟩) hE (z p hp)
 |.mcl c m f o es,σ,st,Q,Q',h=>by exact aQ hC hE o fun _ _ z=>⟨z.1,cN hC hE es (fun _ _=>hC _ _ _ _ _ _ _ h hE) z.2⟩
 |.dnew,σ,st,Q,Q',h=>by exact fun z p hp=>h _ _ (z p hp)
 |.d1 k v,σ,st,Q,Q',h=>by exact fun z p hp=>aQ hC hE k (fun _ _=>aQ hC hE v fun _ _=>FQ fun _=>h _ _) (z p hp)
 |.din neg k d,σ,st,Q,Q',h=>by exact aQ hC hE k fun _ _=>aQ hC hE d fun _ _=>K0 fun _=>h _ _
 |.dix d k,σ,st,Q,Q',h=>by exact aQ hC hE d fun _ _=>aQ hC hE k fun _ _=>MY h
theorem cN {C C':bC}{sub}{E E':XK}(hC:bP C C')(hE:∀ c st,E c st->E' c st):∀(es:List Ex){σ:St}{st:aB}{Q Q':List D->aB->Prop},(∀ d st,Q d st->Q' d st)->bN C sub E es σ st Q->bN C' sub E' es σ st Q'
 |[],σ,st,Q,Q',h=>by exact h _ _
 |e::es,σ,st,Q,Q',h=>by exact aQ hC hE e fun _ _=>cN hC hE es fun _ _=>h _ _
theorem DE {C C':bC}{sub}{E E':XK}(hC:bP C C')(hE:∀ c st,E c st->E' c st):∀(es:List Ex){σ:St}{st:aB}{Q Q':Bool->aB->Prop},(∀ d st,Q d st->Q' d st)->gO C sub E es σ st Q->gO C' sub E' es σ st Q'
 |[],σ,st,Q,Q',h=>by exact h _ _
 |e::es,σ,st,Q,Q',h=>by
  refine aQ hC hE e fun _ _=>iJ fun k=>?_
  split
  ·exact DE hC hE es h
  ·exact h _ _
end
structure fR.Le (P P':fR):Prop where
 nx:∀ σ st,P.nx σ st->P'.nx σ st
 rt:∀ d st,P.rt d st->P'.rt d st
 bk:∀ σ st,P.bk σ st->P'.bk σ st
 ct:∀ σ st,P.ct σ st->P'.ct σ st
 ex:∀ c σ st,P.ex c σ st->P'.ex c σ st
theorem LC {o i v:D}{st:aB}{Q Q':aB->Prop}(h:∀ st,Q st->Q' st):zB o i v st Q->zB o i v st Q':=by
 unfold zB
 split
 ·exact cU fun _=>dJ fun _=>h _
 ·exact id
theorem tM {C C':bC}{sub}{E E':XK}(hC:bP C C')(hE:∀ c st,E c st->E' c st){d:D}{Q Q':St->aB->Prop}(h:∀ σ st,Q σ st->Q' σ st):∀(t:Tg){σ:St}{st:aB},lH C sub E t d σ st Q->lH C' sub E' t d σ st Q'
 |.nm i,_,_=>by exact h _ _
 |.tp is,_,_=>by exact A2 fun _=>h _ _
 |.ix o i,_,_=>by exact aQ hC hE o fun _ _=>aQ hC hE i fun _ _=>LC fun _=>h _ _
 |.fl c f o,_,_=>by exact aQ hC hE o fun _ _=>N4 fun _=>h _ _
 |.dk o i,_,_=>by exact aQ hC hE o fun _ _=>aQ hC hE i fun _ _=>FQ fun _=>h _ _
theorem DF {g:aB->Prop}{turn qM:D->(St->aB->Prop)->St->aB->Prop}{N N':St->aB->Prop}
 (ht:∀ x M M' σ st,(∀ σ st,M σ st->M' σ st)->turn x M σ st->qM x M' σ st)(h:∀ σ st,N σ st->N' σ st):∀{xs:List D}{σ:St}{st:aB},oT g turn N xs σ st->oT g qM N' xs σ st
 |[],_,_,z=>⟨z.1,h _ _ z.2⟩
 |_::_,_,_,z=>⟨z.1,ht _ _ _ _ _ (fun _ _=>DF ht h) z.2⟩
theorem yM {turn qM:(St->aB->Prop)->St->aB->Prop}(ht:∀ M M' σ st,(∀ σ st,M σ st->M' σ st)->turn M σ st->qM M' σ st):∀{n:Nat}{σ:St}{st:aB},mZ turn n σ st->mZ qM n σ st
 |0,_,_,z=>z
 |n+1,_,_,z=>ht _ _ _ _ (fun _ _=>yM ht) z
theorem GX:bP GN GN:=fun _ _ _ _ _ _ _ _ _ x=>x
mutual
theorem wpS_mono {C C':bC}{sub}(hC:bP C C'):∀(s:Sx){P P':fR}{σ:St}{st:aB},P.Le P'->wpS C sub s P σ st->wpS C' sub s P' σ st
 |.ex e,P,P',σ,st,h=>by exact aQ hC (fun _ _=>h.ex _ _ _) e fun _ _=>h.nx _ _
 |.asg t e,P,P',σ,st,h=>by exact aQ hC (fun _ _=>h.ex _ _ _) e fun _ _=>tM hC (fun _ _=>h.ex _ _ _) h.nx t
 |.aug i op e,P,P',σ,st,h=>by
  exact DC fun x=>aQ hC (fun _ _=>h.ex _ _ _) e fun _ _ z=>⟨z.1,CB (fun _ _=>h.nx _ _) z.2⟩
 |.iff c a b,P,P',σ,st,h=>by
  refine aQ hC (fun _ _=>h.ex _ _ _) c fun _ _=>iJ fun k=>?_
  split
  ·exact gX hC a h
  ·exact gX hC b h
 |.whl c b,P,P',σ,st,h=>by
  rintro⟨n,z⟩
  refine⟨n,yM (fun M M' σ st hM=>aQ hC (fun _ _=>h.ex _ _ _) c fun _ _=>iJ fun k=>?_) z⟩
  split
  ·exact gX hC b ⟨hM,h.rt,h.nx,hM,h.ex⟩
  ·exact h.nx _ _
 |.iX t k aD b,P,P',σ,st,h=>by
  refine cN hC (fun _ _=>h.ex _ _ _) aD fun _ _=>wH fun as xs=>?_
  exact DF (fun x M M' σ st hM=>tM hC (fun _ _=>h.ex _ _ _) (fun _ _=>gX hC b (P:={ P with nx:=M,ct:=M,bk:=P.nx }) (P':={ P' with nx:=M',ct:=M',bk:=P'.nx }) ⟨hM,h.rt,h.nx,hM,h.ex⟩) t) h.nx
 |.ret e,P,P',σ,st,h=>by exact aQ hC (fun _ _=>h.ex _ _ _) e h.rt
 |.brk,P,P',σ,st,h=>by exact h.bk _ _
 |.cnt,P,P',σ,st,h=>by exact h.ct _ _
 |.pass,P,P',σ,st,h=>by exact h.nx _ _
 |.rais c es,P,P',σ,st,h=>by exact cN hC (fun _ _=>h.ex _ _ _) es fun _ _=>h.ex _ _ _
 |.tryy b c n hh,P,P',σ,st,h=>by
  refine gX hC b ⟨h.nx,h.rt,h.bk,h.ct,fun c' σ st=>?_⟩
  show(if sub c' c=true then _ else _)->(if sub c' c=true then _ else _)
  split
  ·exact gX GX hh ⟨fun _ _=>h.nx _ _,h.rt,fun _ _=>id,fun _ _=>id,fun _ _ _=>id⟩
  ·exact h.ex _ _ _
theorem gX {C C':bC}{sub}(hC:bP C C'):∀(ss:List Sx){P P':fR}{σ:St}{st:aB},P.Le P'->cH C sub ss P σ st->cH C' sub ss P' σ st
 |[],P,P',σ,st,h=>by exact h.nx _ _
 |s::ss,P,P',σ,st,h=>by exact wpS_mono hC s ⟨fun _ _=>gX hC ss h,h.rt,h.bk,h.ct,h.ex⟩
end
theorem vR (G:Prog):∀{j k:Nat},j<=k->bP (aN G j) (aN G k)
 |0,k,_=>fun _ _ _ _ _ _ _ _ _ x=>x.elim
 |j+1,0,h=>by omega
 |j+1,k+1,h=>fun f ds st Q Q' E E' hQ hE=>by
  simp only[aN]
  split
  ·exact id
  ·have hj:j<=k:=by omega
   exact fun z=>⟨z.1,gX (vR G hj) _ (P:=⟨fun _ aA=>Q .non aA,Q,fun _ _=>False,fun _ _=>False,fun c _ aA=>E c aA⟩) (P':=⟨fun _ aA=>Q' .non aA,Q',fun _ _=>False,fun _ _=>False,fun c _ aA=>E' c aA⟩) ⟨fun _ _=>hQ _ _,hQ,fun _ _=>id,fun _ _=>id,fun _ _ _=>hE _ _⟩ z.2⟩
end L3
end
section
namespace L3
section
variable {C:bC}{sub:Nat->Nat->Bool}{E:XK}{σ:St}{st:aB}{Q:VK}{P:Bool->Prop}{e a b c:Ex}{es:List Ex}{x y:D}{i j:Int}{u v:List Nat}{ds xs ys ks vs:List D}{p q:Nat}{K:List D->Prop}{M:List D->List D->Prop}
theorem aE {R:fR}:cH C sub [] R σ st=R.nx σ st:=rfl
theorem MQ {R:fR}{s:Sx}{ss:List Sx}:cH C sub (s::ss) R σ st=wpS C sub s { R with nx:=cH C sub ss R } σ st:=rfl
theorem fQ {R:fR}{s:Sx}{ss:List Sx}(h:wpS C sub s { R with nx:=cH C sub ss R } σ st):cH C sub (s::ss) R σ st:=h
theorem fI (h:st p=some (.lst ds)):dO st p K M=K ds:=by unfold dO;rw[h]
theorem aF (h:st p=some (.lst ds)):cA st p K=K ds:=by unfold cA;rw[h]
theorem bA {α:Type}{x:α}{K:α->Prop}:cQ (some x) K=K x:=rfl
theorem NC {α:Type}{K:α->Prop}:cQ none K=False:=rfl
theorem UN {d:D}{r:St}{R:D->Prop}:fE (some d::r) 0 R=R d:=rfl
theorem X9 {o:Option D}{r:St}{n:Nat}{R:D->Prop}:fE (o::r) (n+1) R=fE r n R:=rfl
theorem aV {o:MO}:put st p o p=some o:=by unfold put;rw[if_pos rfl]
theorem bH {o:MO}(h:q≠p):put st p o q=st q:=by unfold put;rw[if_neg h]
theorem A5 {o u:MO}(h:st p=none)(h':st q=some u):put st p o q=some u:=by
 rw[bH];exact h'
 intro e;rw[e,h]at h';cases h'
theorem SI:dI .non st P=P false:=rfl
theorem Y3 {k:Bool}:dI (.bl k) st P=P k:=rfl
theorem SX:dI (.int i) st P=P (i != 0):=rfl
theorem R9:dI (.tup ds) st P=P (!ds.isEmpty):=rfl
theorem S8:dI (.ref p) st P=dO st p (fun ds=>P (!ds.isEmpty)) fun ks _=>P (!ks.isEmpty):=rfl
theorem O7:dI (.bB ds) st P=P (!ds.isEmpty):=rfl
theorem U4:cR .eq x y st P=(plainS st x/\plainS st y/\P (bK st x y)):=rfl
theorem XS:cR .ne x y st P=(plainS st x/\plainS st y/\P (!bK st x y)):=rfl
theorem YK:cR .lt (.int i) (.int j) st P=P (decide (i<j)):=rfl
theorem YF:cR .le (.int i) (.int j) st P=P (decide (i<=j)):=rfl
theorem cmp_gt:cR .gt (.int i) (.int j) st P=P (decide (j<i)):=rfl
theorem YX:cR .ge (.int i) (.int j) st P=P (decide (j<=i)):=rfl
theorem SD:cR .is_ x .non st P=P (DP x):=rfl
theorem RJ {k:Bool}:cR .is_ x (.bl k) st P=P (NH k x):=rfl
theorem OV:cR .isnot x .non st P=P (!DP x):=rfl
theorem OH {k:Bool}:cR .isnot x (.bl k) st P=P (!NH k x):=rfl
theorem JV:cR .in_ x (.tup ds) st P=(plainS st x/\dG st ds/\P (ds.any fun d=>bK st d x)):=rfl
theorem GU {w:List Nat}:cR .in_ (.str w) (.cM ks vs) st P=P (ks.any fun d=>bG d (.str w)):=rfl
theorem KJ:cR .in_ (.str u) (.str v) st P=P (occurs u v):=rfl
theorem GZ:cR .fV x (.tup ds) st P=(plainS st x/\dG st ds/\P (!ds.any fun d=>bK st d x)):=rfl
theorem yP:cR .fV x (.ref p) st P=dO st p (fun ds=>plainS st x/\dG st ds/\P (!ds.any fun d=>bK st d x)) fun ks _=>plain x/\rL ks/\P (!ks.any fun d=>bG d x):=rfl
theorem D1 {w:List Nat}:cR .fV (.str w) (.cM ks vs) st P=P (!ks.any fun d=>bG d (.str w)):=rfl
theorem GS:cR .fV (.str u) (.str v) st P=P (!occurs u v):=rfl
theorem add_int:hZ .add (.int i) (.int j) st Q=Q (.int (i+j)) st:=rfl
theorem add_str:hZ .add (.str u) (.str v) st Q=(u.length+v.length<=bE/\Q (.str (u++v)) st):=rfl
theorem TM:hZ .add (.tup xs) (.tup ys) st Q=(xs.length+ys.length<=bE/\Q (.tup (xs++ys)) st):=rfl
theorem SJ:hZ .add (.ref p) (.ref q) st Q=cA st p fun xs=>cA st q fun ys=>gB (xs++ys) st Q:=rfl
theorem sub_int:hZ .sub (.int i) (.int j) st Q=Q (.int (i-j)) st:=rfl
theorem mul_int:hZ .mul (.int i) (.int j) st Q=((mO i∨mO j)/\Q (.int (i*j)) st):=rfl
theorem Q2:hZ .mul (.tup xs) (.int i) st Q=((0<xs.length/\xs.length<=1000/\1<=i/\i<1000)/\Q (.tup (List.replicate i.toNat xs).flatten) st):=rfl
theorem NX:hZ .fdiv (.int i) (.int j) st Q=((0<j/\j<1073741824)/\Q (.int (i / j)) st):=rfl
theorem mod_int:hZ .mod (.int i) (.int j) st Q=(0<j/\Q (.int (i % j)) st):=rfl
theorem pow_int:hZ .pow (.int i) (.int j) st Q=((0<=j/\j<=1000000/\i.natAbs<18446744073709551616)/\Q (.int (i ^ j.toNat)) st):=rfl
theorem neg_int:vQ (.int i) st Q=Q (.int (-i)) st:=rfl
theorem RN {t:Ty}:tI sub x st [t] P=iM sub x st t P:=rfl
theorem S0 {t t':Ty}{ts:List Ty}:tI sub x st (t::t'::ts) P=iM sub x st t fun b=>if b=true then P true else tI sub x st (t'::ts) P:=rfl
theorem jO:nQ (.tup ds) (.int i) st Q=cQ (eV ds i) fun d=>Q d st:=rfl
theorem HQ:nQ (.bB ds) (.int i) st Q=cQ (eV ds i) fun d=>Q d st:=rfl
theorem FH:nQ (.str u) (.int i) st Q=(u.length<=bE/\cQ (eV u i) fun c=>Q (.str [c]) st):=rfl
theorem QY {w:List Nat}:nQ (.cM ks vs) (.str w) st Q=cQ (tS ks vs (.str w)) fun d=>Q d st:=rfl
theorem eI (h:st p=some (.lst ds)):nQ (.ref p) (.int i) st Q=cQ (eV ds i) fun d=>Q d st:=by
 show dO st p _ _=_
 rw[fI h]
theorem eD {α:Type}{xs:List α}{n:Nat}(h:n<xs.length):eV xs (n:Int)=xs[n]?:=by
 unfold eV lS
 rw[if_pos (by omega),if_pos (by omega)]
 simp
theorem DY {α:Type}{x:α}{r:List α}:eV (x::r) 0=some x:=eD (n:=0) (by simp)
theorem NR {α:Type}{x y:α}{r:List α}:eV (x::y::r) 1=some y:=eD (n:=1) (by simp)
theorem PB {α:Type}{x y z:α}{r:List α}:eV (x::y::z::r) 2=some z:=eD (n:=2) (by simp)
theorem Gf {α:Type}{x y z w:α}{r:List α}:eV (x::y::z::w::r) 3=some w:=eD (n:=3) (by simp)
theorem Fx {α:Type}{x y z w t:α}{r:List α}:eV (x::y::z::w::t::r) 4=some t:=eD (n:=4) (by simp)
theorem UZ {R:Option Int->Prop}:mK [] R=R none:=rfl
theorem W9 {R:Option Int->Prop}:mK [.int i] R=R (some i):=rfl
theorem GO {lo hi:Option Int}:A1 (.tup ds) lo hi st Q=Q (.tup (cut ds lo hi)) st:=rfl
theorem UL {lo hi:Option Int}:A1 (.ref p) lo hi st Q=cA st p fun ds=>∀ p,st p=none->Q (.ref p) (put st p (.lst (cut ds lo hi))):=rfl
theorem Z6 {α:Type}{d:α}{ds:List α}:cut (d::ds) (some 1) none=ds:=by simp [cut,bX]
theorem xK {α:Type}{xs:List α}{lo hi:Option Int}:(cut xs lo hi).length<=xs.length:=by simp only[cut,List.length_take,List.length_drop];omega
theorem SQ {R:List Nat->List D->Prop}:fT none [x] st R=mJ x st R:=rfl
theorem OM {R:List Nat->List D->Prop}:mJ (.tup ds) st R=R [] ds:=rfl
theorem N1 {R:List Nat->List D->Prop}:mJ (.str u) st R=(u.length<=bE/\R [] (u.map fun c=>.str [c])):=rfl
theorem pG {R:List Nat->List D->Prop}:mJ (.ref p) st R=cA st p fun ds=>R [p] ds:=rfl
theorem MG {R:List Nat->List D->Prop}:mJ (.bB ds) st R=R [] ds:=rfl
theorem rW {R:List Nat->List D->Prop}:dH (.tup ds) st R=R [] ds:=rfl
theorem BU {R:List Nat->List D->Prop}:dH (.ref p) st R=cA st p fun ds=>R [p] ds:=rfl
theorem N5 {R:List Nat->List D->Prop}:dH (.bB ds) st R=R [] ds:=rfl
theorem KN {R:List Nat->List D->Prop}:fT (some .range) [.int j] st R=(cW j/\R [] (gR 0 j.toNat)):=rfl
theorem JP {R:List Nat->List D->Prop}:fT (some .range) [.int i,.int j] st R=(cW i/\cW j/\R [] (gR i (j-i).toNat)):=rfl
theorem AI {R:List Nat->List D->Prop}{c:Int}:fT (some .range) [.int i,.int j,.int c] st R=(c = -1/\cW i/\cW j/\R [] (mC i (i-j).toNat)):=rfl
theorem TQ {R:List Nat->List D->Prop}:fT (some .rev) [x] st R=dH x st fun as xs=>R as xs.reverse:=rfl
theorem LV:gJ .len [x] st Q=nK x st fun n=>Q (.int (n:Nat)) st:=rfl
theorem Q3 {R:Nat->Prop}:nK (.tup ds) st R=R ds.length:=rfl
theorem GK {R:Nat->Prop}:nK (.bB ds) st R=R ds.length:=rfl
theorem len_str {R:Nat->Prop}:nK (.str u) st R=(u.length<=bE/\R u.length):=rfl
theorem IA {R:Nat->Prop}:nK (.ref p) st R=dO st p (fun ds=>R ds.length) fun ks _=>R ks.length:=rfl
theorem MB:gJ .all [x] st Q=dH x st fun _ xs=>eB .all xs st Q:=rfl
theorem L8:gJ .any [x] st Q=dH x st fun _ xs=>eB .any xs st Q:=rfl
theorem U7:gJ .max [x] st Q=dH x st fun _ xs=>eB .max xs st Q:=by cases x<;>rfl
theorem XM:gJ .min [x] st Q=dH x st fun _ xs=>eB .min xs st Q:=by cases x<;>rfl
theorem UI:gJ .sum [x] st Q=dH x st fun _ xs=>eB .sum xs st Q:=by cases x<;>rfl
theorem G8:gJ .list [x] st Q=dH x st fun _ xs=>eB .list xs st Q:=rfl
theorem FP:gJ .tuple [x] st Q=dH x st fun _ xs=>eB .tuple xs st Q:=rfl
theorem B9 {ds:List D}:gJ .pS [.tup ds] st Q=cQ (strsOf ds) fun ws=>ws.length<4000/\Q (.int (wK [] ws:Nat)) st:=rfl
theorem S5:gJ .max [.int i,.int j] st Q=Q (.int (if j>i then j else i)) st:=rfl
theorem XX:gJ .int [.int i] st Q=Q (.int i) st:=rfl
theorem TV {k:Bool}:gJ .int [.bl k] st Q=Q (.int (if k then 1 else 0)) st:=rfl
theorem U5:eB .all xs st Q=cQ (boolsOf xs) fun bs=>Q (.bl (bs.all id)) st:=rfl
theorem YC:eB .any xs st Q=cQ (boolsOf xs) fun bs=>Q (.bl (bs.any id)) st:=rfl
theorem WZ:eB .sum xs st Q=cQ (intsOf xs) fun is=>Q (.int is.sum) st:=rfl
theorem Q6:eB .list xs st Q=gB xs st Q:=rfl
theorem NN:eB .tuple xs st Q=(xs.length<=bE/\Q (.tup xs) st):=rfl
theorem SA:uR (.tup ds) st K=K ds:=rfl
theorem TJ:uR (.ref p) st K=cA st p K:=rfl
theorem zO:uY .append (.ref p) st=cA st p fun _=>True:=rfl
theorem J7:uY .extend (.ref p) st=cA st p fun _=>True:=rfl
theorem SE:uY .pop (.ref p) st=cA st p fun _=>True:=rfl
theorem wA {x:D}:uY .index x st=dH x st fun _ _=>True:=rfl
theorem zA {x d:D}:iS .index x [d] st Q=dH x st fun _ ds=>plainS st d/\dG st ds/\cQ (findD st d ds) fun i=>Q (.int (i:Nat)) st:=rfl
theorem qL:iS .append (.ref p) [x] st Q=cA st p fun xs=>xs.length<bE/\Q .non (put st p (.lst (xs++[x]))):=rfl
theorem vG:iS .extend (.ref p) [x] st Q=cA st p fun xs=>uR x st fun ys=>xs.length+ys.length<=bE/\Q .non (put st p (.lst (xs++ys))):=rfl
theorem FA:iS .pop (.ref p) [] st Q=cA st p fun xs=>cQ (xs[xs.length-1]?) fun d=>Q d (put st p (.lst xs.dropLast)):=rfl
theorem G9 {R:aB->Prop}:zB (.ref p) (.int i) x st R=cA st p fun xs=>cQ (lS xs.length i) fun j=>R (put st p (.lst (xs.set j x))):=rfl
theorem YN {n:Nat}{R:St->Prop}:jG true [n] x σ R=R (σ.set n (some x)):=rfl
theorem MD {is:List Nat}{R:St->Prop}:jG false is (.tup ds) σ R=(ds.length=is.length/\R ((is.zip ds).foldl (fun σ p=>σ.set p.1 (some p.2)) σ)):=by cases is<;>rfl
end
theorem Ext.refl {st:aB}:Ext st st:=fun _ _ h=>h
theorem Ext.trans {a b c:aB}(h:Ext a b)(h':Ext b c):Ext a c:=fun x o e=>h' x o (h x o e)
theorem Ext.new {st:aB}{p:Nat}{o:MO}(h:st p=none):Ext st (put st p o):=fun a u e=>A5 h e
end L3
end
section
namespace L3
theorem iN {st aA:aB}:same [] st aA:=fun _ h=>nomatch h
theorem comp_map {g:aB->Prop}{turn:D->aB->(Option D->aB->Prop)->Prop}{R:List D->aB->Prop}(f:D->D):∀(xs acc:List D)(st:aB),
  (∀ aA,Ext st aA->g aA)->(∀ x∈xs,∀ aA (K:Option D->aB->Prop),Ext st aA->(∀ aT,Ext aA aT->K (some (f x)) aT)->turn x aA K) ->
  acc.length+xs.length<=bE->(∀ aA,Ext st aA->R (acc++xs.map f) aA)->iR g turn xs acc st R
 |[],acc,st,hg,_,_,hR=>⟨hg st .refl,by simpa using hR st .refl⟩
 |x::xs,acc,st,hg,ht,hl,hR=>by
  refine⟨hg st .refl,by simp at hl;omega,ht x (by simp) st _ .refl fun aT h''=>?_⟩
  refine comp_map f xs (acc++[f x]) aT (fun aA h=>hg aA (h''.trans h)) (fun y hy aA K h=>ht y (by simp [hy]) aA K (h''.trans h)) (by simp at hl ⊢;omega) fun aA h=>?_
  simpa using hR aA (h''.trans h)
mutual
theorem sI {st:aB}:∀ d:D,aX d=true->fK st d=true
 |.non,_=>rfl
 |.bl _,_=>rfl
 |.int _,_=>rfl
 |.str _,_=>rfl
 |.tup ds,h=>by simp only[aX]at h;simp only[fK];exact pU ds h
 |.ref _,h=>by simp [aX]at h
 |.cM _ _,h=>by simp [aX]at h
 |.bB _,h=>by simp [aX]at h
 |.exc _,h=>by simp [aX]at h
theorem pU {st:aB}:∀ ds:List D,bL ds=true->gC st ds=true
 |[],_=>rfl
 |d::ds,h=>by
  simp only[bL,Bool.and_eq_true]at h
  simp only[gC,Bool.and_eq_true]
  exact⟨sI d h.1,pU ds h.2⟩
end
theorem plain.s {d:D}(h:plain d){st:aB}:plainS st d:=⟨sI d h.1,h.2⟩
theorem rL.s {ds:List D}(h:rL ds){st:aB}:dG st ds:=⟨pU ds h.1,h.2⟩
theorem CJ {x:List Nat}:plain (.str x):=⟨rfl,Nat.zero_le _⟩
theorem CS {i:Int}:plain (.int i):=⟨rfl,Nat.zero_le _⟩
theorem D3 {b:Bool}:plain (.bl b):=⟨rfl,Nat.zero_le _⟩
theorem CP:plain .non:=⟨rfl,Nat.zero_le _⟩
theorem tQ {x:List Nat}{st:aB}:plainS st (.str x):=CJ.s
theorem IM {i:Int}{st:aB}:plainS st (.int i):=CS.s
theorem LR {b:Bool}{st:aB}:plainS st (.bl b):=D3.s
theorem IF {st:aB}:plainS st .non:=CP.s
theorem kA:∀ xs:List (List Nat),rL (xs.map .str)
 |[]=>⟨rfl,Nat.zero_le _⟩
 |x::xs=>by
  have h:=kA xs
  exact⟨by simp only[List.map_cons,bL,aX,Bool.true_and];exact h.1,by simp only[List.map_cons,cG,cI];exact Nat.max_le.mpr ⟨Nat.zero_le _,h.2⟩⟩
theorem gQ {st:aB}{x y:List Nat}:bK st (.str x) (.str y)=(x==y):=by simp only[bK]
theorem SF {st:aB}{x y:Int}:bK st (.int x) (.int y)=(x==y):=by simp only[bK]
theorem XA {st:aB}{x y:Bool}:bK st (.bl x) (.bl y)=(x==y):=by simp only[bK]
theorem SS {x y:List Nat}:bG (.str x) (.str y)=(x==y):=by simp only[bG]
theorem oR {st:aB}(x:List Nat):∀ xs:List (List Nat),((xs.map D.str).any fun d=>bK st d (.str x))=xs.contains x
 |[]=>rfl
 |y::xs=>by
  simp only[List.map_cons,List.any_cons,gQ,oR x xs,List.contains_cons]
  congr 1
  exact Bool.beq_comm
end L3
end
section
namespace L3
open PySem PySem.Spec PyProof.Rows L2
mutual
noncomputable def nT (w:World):D->Int
 |.str x=>hashStr w ⟨x.toArray⟩
 |.bl b=>reduceHash (if b=true then 1 else 0)
 |.tup ds=>reduceHash (Builtin.Tuple.tupleHashOf (gE w ds))
 |_=>0
noncomputable def gE (w:World):List D->List Int
 |[]=>[]
 |d::ds=>nT w d::gE w ds
end
mutual
noncomputable def qH:D->Nat
 |.tup ds=>iZ ds+1
 |_=>1
noncomputable def iZ:List D->Nat
 |[]=>0
 |d::ds=>qH d+iZ ds
end
noncomputable def Ge (w:World)(x:D×Addr×Value):DictEntry:=⟨nT w x.1,.ref x.2.1,x.2.2⟩
noncomputable def IX (a:Addr)(xs:List (D×Addr×Value))(w:World)(h:Heap):Prop:=∃ o es ep,h.get? a=some o/\o.ExactDict/\o.data=.dict es ep/\es.toList=xs.map (Ge w)
noncomputable def FR (a:Addr)(xs:List (D×Addr×Value)):HO:=.ext fun _ w h=>IX a xs w h
noncomputable def clsAt (K:PySem.W.Frag)(c:List Nat)(C:Addr):Prop:=PySem.W.nsIn K mainGlobals ⟨c.toArray⟩=some (some (.ref C))
theorem clsAt.inj {K:PySem.W.Frag}{c:List Nat}{C C':Addr}(h:clsAt K c C)(h':clsAt K c C'):C=C':=by
 have:=h.symm.trans h'
 injection this with e;injection e with e;injection e
end L3
end
section
namespace L3
open PySem PySem.Spec PyProof.Rows L2
noncomputable def oX (K:PySem.W.Frag)(H:Hp)(a:Addr)(vs:List V):Prop :=
 (∃ o,H a=some (.frz o (.lst vs)))∨∃(o:Obj)(aD:Array Value)(n:Nat),K.lookup a=some o/\o.cls=.type "list" /\ o.dict=none/\o.data=.seq aD n/\aD.size<=sizeLine/\aL vs aD.toList
theorem oX.sq {K:PySem.W.Frag}{H:Hp}{a:Addr}{vs:List V}:oX K H a vs->cZ K H a vs
 |.inl ⟨o,h⟩=>.inl (.inr ⟨o,h⟩)
 |.inr h=>.inr h
noncomputable def pZ:PyData->D
 |.bool b=>.bl b
 |.int i=>.int i
 |.str x=>.str x.cps.toList
 |_=>.non
noncomputable def mE:PyData->Bool
 |.none=>true
 |.bool _=>true
 |.int _=>true
 |.str _=>true
 |_=>false
noncomputable def YD (K:PySem.W.Frag)(a:Addr)(ks vs:List D):Prop:=∃ T:List (Str×PyData),KTD.tabLook KTD.flatLooks (fun b=>K.lookup b) a T=true/\(T.all fun p=>mE p.2)=true/\ks=T.map (fun p=>.str p.1.cps.toList)/\vs=T.map (fun p=>pZ p.2)
mutual
inductive Rep (K:PySem.W.Frag)(H:Hp):D->V->Prop where
 |non:Rep K H .non .non
 |bl (b:Bool):Rep K H (.bl b) (.bl b)
 |int (i:Int):Rep K H (.int i) (.int i)
 |str (x:List Nat):Rep K H (.str x) (.str ⟨x.toArray⟩)
 |tup {ds:List D}{a:Addr}{vs:List V}(h:dP K H a vs)(r:aK K H ds vs):Rep K H (.tup ds) (.ref a)
 |ref (a:Addr):Rep K H (.ref a) (.ref a)
 |bB {ds:List D}{a:Addr}{vs:List V}(h:oX K H a vs)(r:aK K H ds vs):Rep K H (.bB ds) (.ref a)
 |cM {ks vs:List D}{a:Addr}(h:YD K a ks vs):Rep K H (.cM ks vs) (.ref a)
inductive aK (K:PySem.W.Frag)(H:Hp):List D->List V->Prop where
 |nil:aK K H [] []
 |cons {d:D}{v:V}{ds:List D}{vs:List V}(h:Rep K H d v)(r:aK K H ds vs):aK K H (d::ds) (v::vs)
end
noncomputable def gT (K:PySem.W.Frag)(H:Hp)(fs:List (List Nat×D))(ws:List (Str×V)):Prop:=ws.map (·.1)=fs.map (fun p=>(⟨p.1.toArray⟩:Str))/\aK K H (fs.map (·.2)) (ws.map (·.2))
noncomputable def bears:HO->Bool
 |.lst _=>true
 |.ins _ _ _=>true
 |.ext _=>true
 |_=>false
noncomputable def vN (K:PySem.W.Frag)(H:Hp)(a:Addr):MO->Prop
 |.lst ds=>∃ vs,H a=some (.lst vs)/\aK K H ds vs
 |.dic _ _=>False
 |.ins c fs=>∃ C dx ws,clsAt K c C/\H a=some (.ins C dx ws)/\gT K H fs ws
 |.tab ks vs=>∃(xs:List (D×Addr×Value))(ws:List V),H a=some (FR a xs)/\(a==sysModules)=false/\xs.map (·.1)=ks/\(xs.map (·.1)).Nodup/\aK K H ks (xs.map fun x=>.ref x.2.1)/\(∀ x∈xs,keyed x.1)/\aL ws (xs.map (·.2.2))/\aK K H vs ws
noncomputable def aO (K:PySem.W.Frag)(st:aB)(H:Hp):Prop:=∀ a o,st a=some o->vN K H a o
noncomputable def Step (H:Hp)(st:aB)(H':Hp)(aA:aB):Prop:=∀ a o,H a=some o->st a=none->H' a=some o/\aA a=none
theorem Step.refl {H:Hp}{st:aB}:Step H st H st:=fun _ _ h n=>⟨h,n⟩
theorem Step.trans {H H1 H2:Hp}{st aC aG:aB}(a:Step H st H1 aC)(b:Step H1 aC H2 aG):Step H st H2 aG:=fun x o h n=>let⟨h1,n1⟩:=a x o h n;b x o h1 n1
section
variable {K:PySem.W.Frag}{H H' H1:Hp}{st aA aC:aB}{a p:Addr}{d:D}{v:V}{ds:List D}{vs:List V}
theorem vN.bears {m:MO}(h:vN K H a m):∃ o,H a=some o/\L3.bears o=true:=by
 cases m with
 |lst ds=>obtain⟨vs,q,_⟩:=h;exact⟨_,q,rfl⟩
 |dic _ _=>exact h.elim
 |ins c fs=>obtain⟨_,_,_,_,q,_⟩:=h;exact⟨_,q,rfl⟩
 |tab ks vs=>obtain⟨_,_,q,_⟩:=h;exact⟨_,q,rfl⟩
theorem aO.GA (ok:aO K st H){o:HO}(h:H a=some o)(n:L3.bears o=false):st a=none:=by
 cases e:st a with
 |none=>rfl
 |some u =>
 obtain⟨o',e1,e2⟩:=(ok a u e).bears
 rw[h]at e1;cases e1
 rw[n]at e2;cases e2
theorem aO.fresh (ok:aO K st H)(h:H a=none):st a=none:=by
 cases e:st a with
 |none=>rfl
 |some u =>
 obtain⟨o',e1,e2⟩:=(ok a u e).bears
 rw[h]at e1;cases e1
theorem tP (ok:aO K st H)(s:Step H st H' aA)(h:dP K H a vs):dP K H' a vs:=by
 rcases h with(h|⟨o,h⟩)|h
 ·exact .inl (.inl (s a _ h (ok.GA h rfl)).1)
 ·exact .inl (.inr ⟨o,(s a _ h (ok.GA h rfl)).1⟩)
 ·exact .inr h
theorem qF (ok:aO K st H)(s:Step H st H' aA)(h:oX K H a vs):oX K H' a vs:=by
 rcases h with⟨o,h⟩|h
 ·exact .inl ⟨o,(s a _ h (ok.GA h rfl)).1⟩
 ·exact .inr h
mutual
theorem Rep.step (ok:aO K st H)(s:Step H st H' aA):∀{d:D}{v:V},Rep K H d v->Rep K H' d v
 |_,_,.non=>.non
 |_,_,.bl b=>.bl b
 |_,_,.int i=>.int i
 |_,_,.str x=>.str x
 |_,_,.tup h r=>.tup (tP ok s h) (aK.step ok s r)
 |_,_,.ref a=>.ref a
 |_,_,.bB h r=>.bB (qF ok s h) (aK.step ok s r)
 |_,_,.cM h=>.cM h
theorem aK.step (ok:aO K st H)(s:Step H st H' aA):∀{ds:List D}{vs:List V},aK K H ds vs->aK K H' ds vs
 |_,_,.nil=>.nil
 |_,_,.cons h r=>.cons (Rep.step ok s h) (aK.step ok s r)
end
theorem vN.step (ok:aO K st H)(s:Step H st H' aA){m:MO}(h:vN K H a m)(e:H' a=H a):vN K H' a m:=by
 cases m with
 |lst ds=>obtain⟨vs,q,r⟩:=h;exact⟨vs,e.trans q,r.step ok s⟩
 |dic _ _=>exact h
 |ins c fs=>obtain⟨C,dx,ws,q,q2,q3,r⟩:=h;exact⟨C,dx,ws,q,e.trans q2,q3,r.step ok s⟩
 |tab ks vs=>obtain⟨xs,ws,q,q0,q1,q2,q3,q4,q5,r⟩:=h;exact⟨xs,ws,e.trans q,q0,q1,q2,q3.step ok s,q4,q5,r.step ok s⟩
theorem aK.length:∀{ds:List D}{vs:List V},aK K H ds vs->ds.length=vs.length
 |_,_,.nil=>rfl
 |_,_,.cons _ r=>by simp [aK.length r]
theorem aK.get:∀{ds:List D}{vs:List V}{i:Nat}{d:D},aK K H ds vs->ds[i]? = some d->∃ v,vs[i]? = some v/\Rep K H d v
 |_,_,_,_,.nil,e=>by simp at e
 |_,_,0,_,.cons h _,e=>by simp at e;subst e;exact⟨_,rfl,h⟩
 |_,_,i+1,d,.cons _ r,e=>by
  obtain⟨v,e1,e2⟩:=aK.get (i:=i) (d:=d) r (by simpa using e)
  exact⟨v,by simpa using e1,e2⟩
theorem aK.append:∀{ds es:List D}{vs us:List V},aK K H ds vs->aK K H es us->aK K H (ds++es) (vs++us)
 |_,_,_,_,.nil,s=>s
 |_,_,_,_,.cons h r,s=>.cons h (aK.append r s)
theorem aK.take:∀{ds:List D}{vs:List V}(n:Nat),aK K H ds vs->aK K H (ds.take n) (vs.take n)
 |_,_,0,_=>by simp;exact .nil
 |_,_,_+1,.nil=>by simp;exact .nil
 |_,_,n+1,.cons h r=>by simp only[List.take_succ_cons];exact .cons h (aK.take n r)
theorem aK.drop:∀{ds:List D}{vs:List V}(n:Nat),aK K H ds vs->aK K H (ds.drop n) (vs.drop n)
 |_,_,0,r=>by simpa using r
 |_,_,_+1,.nil=>by simp;exact .nil
 |_,_,n+1,.cons _ r=>by simp only[List.drop_succ_cons];exact aK.drop n r
theorem aK.set (h:Rep K H d v):∀{ds:List D}{vs:List V}(i:Nat),aK K H ds vs->aK K H (ds.set i d) (vs.set i v)
 |_,_,_,.nil=>by simp;exact .nil
 |_,_,0,.cons _ r=>by simp only[List.set_cons_zero];exact .cons h r
 |_,_,i+1,.cons q r=>by simp only[List.set_cons_succ];exact .cons q (aK.set h i r)
theorem aK.dropLast {ds:List D}{vs:List V}(r:aK K H ds vs):aK K H ds.dropLast vs.dropLast:=by
 rw[List.dropLast_eq_take,List.dropLast_eq_take,r.length]
 exact r.take _
theorem aK.reverse:∀{ds:List D}{vs:List V},aK K H ds vs->aK K H ds.reverse vs.reverse
 |_,_,.nil=>by simp;exact .nil
 |_,_,.cons h r=>by simp only[List.reverse_cons];exact(aK.reverse r).append (.cons h .nil)
inductive QD (K:PySem.W.Frag)(H:Hp)(st:aB)(R:VK)(v:V)(H':Hp):Prop where
 |mk (d:D)(aA:aB)(s:Step H st H' aA)(ok:aO K aA H')(r:Rep K H' d v)(q:R d aA):QD K H st R v H'
inductive Dl (K:PySem.W.Frag)(H:Hp)(st:aB)(R:List D->aB->Prop)(vs:List V)(H':Hp):Prop where
 |mk (ds:List D)(aA:aB)(s:Step H st H' aA)(ok:aO K aA H')(r:aK K H' ds vs)(q:R ds aA):Dl K H st R vs H'
inductive QX (K:PySem.W.Frag)(H:Hp)(st:aB)(R:aB->Prop)(H':Hp):Prop where
 |mk (aA:aB)(s:Step H st H' aA)(ok:aO K aA H')(q:R aA):QX K H st R H'
theorem QD.here {R:VK}(ok:aO K st H)(r:Rep K H d v)(h:R d st):QD K H st R v H:=⟨d,st,.refl,ok,r,h⟩
theorem QD.after {R:VK}(s:Step H st H1 aC)(h:QD K H1 aC R v H'):QD K H st R v H':=let⟨d,aA,s',ok,r,q⟩:=h;⟨d,aA,s.trans s',ok,r,q⟩
theorem oG {o:HO}(hp:H p=none):Step H st (upd H p o) st:=fun a u h n=>by
 have e:a≠p:=fun e=>by rw[e,hp]at h;cases h
 exact⟨by rw[bR e];exact h,n⟩
theorem mY {o:HO}{m:MO}(hp:H p=none):Step H st (upd H p o) (put st p m):=fun a u h n=>by
 have e:a≠p:=fun e=>by rw[e,hp]at h;cases h
 exact⟨by rw[bR e];exact h,by rw[bH e];exact n⟩
theorem aO.new {o:HO}(ok:aO K st H)(hp:H p=none):aO K st (upd H p o):=fun a u e=>by
 have ne:a≠p:=fun z=>by obtain⟨o',q,_⟩:=(ok a u e).bears;rw[z,hp]at q;cases q
 exact(ok a u e).step ok (oG (st:=st) hp) (bR ne)
theorem aO.XJ {o:HO}{m:MO}(ok:aO K st H)(hp:H p=none)(r:vN K (upd H p o) p m):aO K (put st p m) (upd H p o):=fun a u e=>by
 have s:Step H st (upd H p o) (put st p m):=mY hp
 by_cases ha:a=p
 ·subst ha
  rw[aV]at e;cases e
  exact r
 ·rw[bH ha]at e
  exact(ok a u e).step ok s (bR ha)
theorem aO.gB (ok:aO K st H)(hp:H p=none)(r:aK K H ds vs):aO K (put st p (.lst ds)) (upd H p (.lst vs)):=fun a u e=>by
 have s:Step H st (upd H p (.lst vs)) (put st p (.lst ds)):=mY hp
 by_cases ha:a=p
 ·subst ha
  rw[aV]at e;cases e
  exact⟨vs,eT,r.step ok s⟩
 ·rw[bH ha]at e
  exact(ok a u e).step ok s (bR ha)
theorem QD.D2 {R:VK}(ok:aO K st H)(r:aK K H ds vs)(hp:H p=none)(h:R (.tup ds) st):QD K H st R (.ref p) (upd H p (.tup vs)) :=
 ⟨.tup ds,st,oG hp,ok.new hp,.tup (dP.of eT) (r.step ok (oG (st:=st) hp)),h⟩
theorem QD.gB {R:VK}(ok:aO K st H)(r:aK K H ds vs)(hp:H p=none)(h:∀ p,st p=none->R (.ref p) (put st p (.lst ds))):QD K H st R (.ref p) (upd H p (.lst vs)) :=
 ⟨.ref p,put st p (.lst ds),mY hp,ok.gB hp r,.ref p,h p (ok.fresh hp)⟩
theorem aO.lst (ok:aO K st H)(h:st a=some (.lst ds)):∃ vs,H a=some (.lst vs)/\aK K H ds vs:=ok a _ h
theorem kL {o:HO}{m m':MO}(h:st a=some m):Step H st (upd H a o) (put st a m'):=fun b u hb n=>by
 have e:b≠a:=fun e=>by rw[e,h]at n;cases n
 exact⟨by rw[bR e];exact hb,by rw[bH e];exact n⟩
theorem aO.set (ok:aO K st H){m:MO}(h:st a=some m)(r:aK K H ds vs):aO K (put st a (.lst ds)) (upd H a (.lst vs)):=fun b u e=>by
 have s:Step H st (upd H a (.lst vs)) (put st a (.lst ds)):=kL h
 by_cases ha:b=a
 ·subst ha
  rw[aV]at e;cases e
  exact⟨vs,eT,r.step ok s⟩
 ·rw[bH ha]at e
  exact(ok b u e).step ok s (bR ha)
theorem aO.ES {o:HO}{m m':MO}(ok:aO K st H)(h:st a=some m)(r:vN K (upd H a o) a m'):aO K (put st a m') (upd H a o):=fun b u e=>by
 have s:Step H st (upd H a o) (put st a m'):=kL h
 by_cases ha:b=a
 ·subst ha
  rw[aV]at e;cases e
  exact r
 ·rw[bH ha]at e
  exact(ok b u e).step ok s (bR ha)
theorem QD.set {R:VK}(ok:aO K st H){m:MO}(h:st a=some m)(r:aK K H ds vs)(rd:Rep K H d v)(q:R d (put st a (.lst ds))):QD K H st R v (upd H a (.lst vs)) :=
 ⟨d,put st a (.lst ds),kL h,ok.set h r,rd.step ok (kL (m':=.lst ds) h),q⟩
end
noncomputable def cY (K:PySem.W.Frag)(H:Hp)(σd:St)(σ:L2.St):Prop:=σd.length=σ.length/\∀(i:Nat)(d:D),σd[i]? = some (some d)->∃ v,σ[i]? = some (some v)/\Rep K H d v
theorem cY.step {K:PySem.W.Frag}{H H':Hp}{st aA:aB}{σd:St}{σ:L2.St}(r:cY K H σd σ)(ok:aO K st H)(s:Step H st H' aA):cY K H' σd σ :=
 ⟨r.1,fun i d e=>let⟨v,e1,e2⟩:=r.2 i d e;⟨v,e1,e2.step ok s⟩⟩
theorem cY.set {K:PySem.W.Frag}{H:Hp}{σd:St}{σ:L2.St}{d:D}{v:V}(r:cY K H σd σ)(i:Nat)(h:Rep K H d v):cY K H (σd.set i (some d)) (σ.set i (some v)):=by
 refine⟨by simpa using r.1,fun j e hj=>?_⟩
 by_cases q:j=i
 ·subst q
  by_cases hl:j<σd.length
  ·rw[List.getElem?_set_self hl]at hj
   cases hj
   exact⟨v,by rw[List.getElem?_set_self (by rw[<-r.1];exact hl)],h⟩
  ·rw[List.getElem?_eq_none (by simp;omega)]at hj;cases hj
 ·rw[List.getElem?_set_ne (Ne.symm q)]at hj
  obtain⟨u,e1,e2⟩:=r.2 j e hj
  exact⟨u,by rw[List.getElem?_set_ne (Ne.symm q)];exact e1,e2⟩
noncomputable abbrev VL:=St->aB->VK->Prop
inductive bS (K:PySem.W.Frag)(te:VL)(σ:L2.St)(H:Hp)(Q:L2.VK):Prop where
 |mk (σd:St)(st:aB)(R:VK)(r:cY K H σd σ)(ok:aO K st H)(q:te σd st R)(hq:∀ v H',QD K H st R v H'->Q v H'):bS K te σ H Q
inductive jW (K:PySem.W.Frag)(te:St->aB->(List D->aB->Prop)->Prop)(σ:L2.St)(H:Hp)(Q:List V->Hp->Prop):Prop where
 |mk (σd:St)(st:aB)(R:List D->aB->Prop)(r:cY K H σd σ)(ok:aO K st H)(q:te σd st R)(hq:∀ vs H',Dl K H st R vs H'->Q vs H'):jW K te σ H Q
inductive iU (K:PySem.W.Frag)(te:VL)(σ:L2.St)(H:Hp)(Q:Bool->Hp->Prop):Prop where
 |mk (σd:St)(st:aB)(R:Bool->aB->Prop)(r:cY K H σd σ)(ok:aO K st H)(q:te σd st (fun d aA=>dI d aA fun b=>R b aA))(hq:∀(b:Bool) H',QX K H st (R b) H'->Q b H'):iU K te σ H Q
theorem _root_.L2.PE.imp {X:Cx}{e:Expr}{t t':L2.TE}(i:∀ σ H Q,t' σ H Q->t σ H Q)(h:PE X e t):PE X e t':=fun pins s σ H Q I q=>h pins s σ H Q I (i σ H Q q)
theorem _root_.L2.PT.imp {X:Cx}{e:Expr}{t t':L2.TT}(i:∀ σ H Q,t' σ H Q->t σ H Q)(h:PT X e t):PT X e t':=fun pins s σ H Q I q=>h pins s σ H Q I (i σ H Q q)
theorem _root_.L2.PW.imp {X:Cx}{e:Expr}{t t':L2.TT}(i:∀ σ H Q,t' σ H Q->t σ H Q)(h:PW X e t):PW X e t':=fun wh pins s σ H Q I q=>h wh pins s σ H Q I (i σ H Q q)
theorem _root_.L2.PA.imp {X:Cx}{es:List Expr}{t t':L2.TA}(i:∀ σ H Q,t' σ H Q->t σ H Q)(h:PA X es t):PA X es t':=fun pos pins s σ H Q I q=>h pos pins s σ H Q I (i σ H Q q)
theorem _root_.L2.PS.imp {X:Cx}{e:Stmt}{t t':L2.TS}(i:∀ D σ H,t' D σ H->t D σ H)(h:PS X e t):PS X e t':=fun pins s σ H D I q=>h pins s σ H D I (i D σ H q)
theorem _root_.L2.jQ.imp {X:Cx}{e:List Stmt}{t t':L2.TS}(i:∀ D σ H,t' D σ H->t D σ H)(h:jQ X e t):jQ X e t':=fun pins s σ H D I q=>h pins s σ H D I (i D σ H q)
end L3
end
section
namespace L3
open PySem PySem.Spec PyProof.Rows L2
theorem fL:sizeLine=bE:=sizeLine_eq
section
variable {X:Cx}{C:bC}{sub:Nat->Nat->Bool}{E:XK}{a b c e:Expr}{x y z:Ex}{pos:Pos}
theorem rS {d:D}{v:V}(h:PE X e (tC v))(r:∀ H,Rep X.K H d v):PE X e (bS X.K (aH C sub E (.c d))) :=
 h.imp fun σ H Q ⟨σd,st,R,_,ok,q,hq⟩=>by
 exact hq v H (.here ok (r H) q)
theorem QR {i:Nat}(h:PE X e (OX i)):PE X e (bS X.K (aH C sub E (.v i))) :=
 h.imp fun σ H Q ⟨σd,st,R,r,ok,q,hq⟩=>by
 have q:fE σd i (fun d=>R d st):=q
 unfold fE at q
 split at q
 ·rename_i d ed
  obtain⟨v,e1,e2⟩:=r.2 i d ed
  exact⟨v,e1,hq v H (.here ok e2 q)⟩
 ·exact q.elim
theorem ZD:PA X [] (jW X.K (bN C sub E [])) :=
 LK.imp fun σ H Q ⟨σd,st,R,r,ok,q,hq⟩=>by
 exact hq [] H ⟨[],st,.refl,ok,.nil,q⟩
theorem Y1 {es:List Expr}{xs:List Ex}(h:PE X e (bS X.K (aH C sub E x)))(hs:PA X es (jW X.K (bN C sub E xs)))
 (eF:starEach (e::es) X.env=(false,eval e X.env)::starEach es X.env):PA X (e::es) (jW X.K (bN C sub E (x::xs))) :=
 (BF h hs eF).imp fun σ H Q ⟨σd,st,R,r,ok,q,hq⟩=>by
 refine⟨σd,st,_,r,ok,q,fun v H1 ⟨d,aC,s1,aM,r1,q1⟩=>?_⟩
 refine⟨σd,aC,_,r.step ok s1,aM,q1,fun vs H2 ⟨ds,aG,s2,bZ,r2,q2⟩=>?_⟩
 exact hq _ _ ⟨d::ds,aG,s1.trans s2,bZ,.cons (r1.step aM s2) r2,q2⟩
theorem pQ:∀(xs:List Ex){σ:St}{st:aB}{R:List D->aB->Prop},bP C C->bN C sub E xs σ st R->bN C sub E xs σ st (fun ds aA=>ds.length=xs.length/\R ds aA)
 |[],σ,st,R,_,h=>by exact⟨rfl,h⟩
 |x::xs,σ,st,R,hC,h=>by
  refine aQ hC (fun _ _ z=>z) x (fun d aA h'=>?_) h
  exact cN hC (fun _ _ z=>z) xs (fun ds aT z=>⟨by simp [z.1],z.2⟩) (pQ xs hC h')
theorem Ak {es:List Expr}{xs:List Ex}{k:Nat}(hC:bP C C)(hs:PA X es (jW X.K (bN C sub E xs)))(hl:xs.length<=bE):PE X (.Tuple es k pos) (bS X.K (aH C sub E (.tup xs))) :=
 (WK hs).imp fun σ H Q ⟨σd,st,R,r,ok,q,hq⟩=>by
 refine⟨σd,st,_,r,ok,pQ xs hC q,fun vs H1 ⟨ds,aC,s1,aM,r1,l1,q1⟩=>⟨?_,fun p hp=>?_⟩⟩
 ·rw[fL,<-r1.length,l1];exact hl
 ·exact hq _ _ (.after s1 (.D2 aM r1 hp q1))
theorem Ae {es:List Expr}{xs:List Ex}(hs:PA X es (jW X.K (bN C sub E xs))):PE X (.List es pos) (bS X.K (aH C sub E (.lst xs))) :=
 (VI hs).imp fun σ H Q ⟨σd,st,R,r,ok,q,hq⟩=>by
 refine⟨σd,st,_,r,ok,q,fun vs H1 ⟨ds,aC,s1,aM,r1,q1⟩=>⟨?_,fun p hp=>?_⟩⟩
 ·rw[fL,<-r1.length];exact q1.1
 ·exact hq _ _ (.after s1 (.gB aM r1 hp q1.2))
theorem two {r:R2}{te tf:VL}{σ:L2.St}{H:Hp}{Q:L2.VK}{σd:St}{st:aB}{W:D->D->aB->Prop}{R:VK}
 (sr:cY X.K H σd σ)(ok:aO X.K st H)(q:te σd st fun d aC=>tf σd aC fun d' aG=>W d d' aG)(hq:∀ v H',QD X.K H st R v H'->Q v H')
 (op:∀ d d' v v' H2 aG,aO X.K aG H2->Rep X.K H2 d v->Rep X.K H2 d' v'->W d d' aG->r v v' H2 (QD X.K H2 aG R))
 (mono:∀ v v' H (Q Q':L2.VK),(∀ v H,Q v H->Q' v H)->r v v' H Q->r v v' H Q'):YJ r (bS X.K te) (bS X.K tf) σ H Q:=by
 refine⟨σd,st,_,sr,ok,q,fun v H1 ⟨d,aC,s1,aM,r1,q1⟩=>?_⟩
 refine⟨σd,aC,_,sr.step ok s1,aM,q1,fun v' H2 ⟨d',aG,s2,bZ,r2,q2⟩=>?_⟩
 refine mono _ _ _ _ _ (fun u H' z=>hq u H' (.after (s1.trans s2) z)) (op d d' v v' H2 aG bZ (r1.step aM s2) r2 q2)
theorem D4 {g:Int->Int->V}(v v':V)(H:Hp)(Q Q':L2.VK)(h:∀ v H,Q v H->Q' v H)(z:FG g v v' H Q):FG g v v' H Q':=let⟨i,j,e,e',q⟩:=z;⟨i,j,e,e',h _ _ q⟩
theorem xB {P:Int->Int->Prop}{g:Int->Int->V}(v v':V)(H:Hp)(Q Q':L2.VK)(h:∀ v H,Q v H->Q' v H)(z:rI P g v v' H Q):rI P g v v' H Q':=let⟨i,j,e,e',p,q⟩:=z;⟨i,j,e,e',p,h _ _ q⟩
end
end L3
end
section
namespace L3
open PySem PySem.Spec PyProof.Rows L2
theorem zE:fillsNumberSlot (.type "tuple") "mul" = pure false:=by kernel_rfl
theorem FJ:seqRepeat? (.type "tuple")=pure (some (.builtin "tuple.__mul__")):=by kernel_rfl
theorem A7 (a:Int)(t:Tok)(l:Addr)(items:Array Value)(n:Nat)(dd:Option Addr)(sl:Array (Option Value)):
 Meets (Builtin.«int.__rmul__» ⟨[.int a t,.ref l],[]⟩) (fun _ R s=>s.heap.get? l=some { cls:=.type "tuple", dict:=dd,data:=.seq items n,slots:=sl }/\R (.ok (.ret Value.notImplemented)) s) :=
 .of_wp fun prog w A R s h=>by obtain⟨hp,g,d,tk,os⟩:=s;obtain⟨hl,h⟩:=h;wp_walk;exact⟨_,rfl,h⟩
section
variable {prog:Program}{w:World}{A:Around}{E:Value->Shared->Prop}{s:Shared}
theorem E1 {l:Addr}{items:Array Value}{n:Nat}{dd:Option Addr}{sl:Array (Option Value)}{k:Int}{t:Tok}{Q:PySem.Fin->Shared->Prop}(hl:s.heap.get? l=some { cls:=.type "tuple", dict:=dd,data:=.seq items n,slots:=sl })
  (h1:1<=k)(h2:k<1000)(hm:0<items.size)(hm2:items.size<=1000)(mF:k=1->Q (.done (.ret (.ref l))) s)
  (h:Q (.done (.ret (.ref s.heap.objs.size))) { s with heap:=s.heap.push { cls:=.type "tuple", data:=.seq ((List.replicate k.toNat items).foldl (·++ ·) #[]) } }):
  wpAny (model prog w) A (Builtin.«tuple.__mul__» ⟨[.ref l,.int k t],[]⟩) Q E s:=by
 have hT:s.TypeIs (.ref l) "tuple":=⟨_,hl,rfl⟩
 unfold Builtin.«tuple.__mul__»
 wp_walk
 rw[if_neg (by simp;omega)]
 show wpAny _ _ (Builtin.Tuple.tupleItemsOf (.ref l) >>= _) _ _ s
 refine wpAny_bind (wpAny_tupleItemsOf hl rfl ?_)
 have hne:items.isEmpty=false:=by
  rw[Array.isEmpty_eq_false_iff];intro z;rw[z]at hm;simp at hm
 have jp:wpAny (model prog w) A (if(decide (k<=0)||items.isEmpty)=true then do
     let __do_lift <-Builtin.Tuple.tupleExact #[]
     ret __do_lift
    else
     have __do_jp:=fun(__r:Unit) =>
      have __do_jp:=fun(__r:Unit)=>do
       let __do_lift <-
        Builtin.Tuple.tupleExact (List.foldl (fun x1 x2=>x1++x2) #[] (List.replicate k.toNat items))
       ret __do_lift;
      if Builtin.Tuple.tupleTooMany (↑items.size*k)=true then do
       let __r <-unsupported "tuple.__mul__:memory"
       __do_jp __r
      else __do_jp ();
     if ↑items.size*k>(2 ^ 63-1) / 8 then do
      rule "tuple.repeat.no-memory"
      let __do_lift <-newExc (Value.type "MemoryError") []
      let __r <-raiseNew __do_lift
      __do_jp __r
     else __do_jp ()) Q E s:=by
  rw[if_neg (by rw[hne];simp;omega)]
  have hmul:(items.size:Int)*k<=1000*1000:=Int.mul_le_mul (by omega) (by omega) (by omega) (by decide)
  have hmul0:0<=(items.size:Int)*k:=Int.mul_nonneg (by omega) (by omega)
  dsimp only
  rw[if_neg (by omega),if_neg (by simp [Builtin.Tuple.tupleTooMany,sizeLine_eq];omega)]
  wp_walk
  have lU:¬(List.foldl (fun x1 x2=>x1++x2) #[] (List.replicate k.toNat items)).size>sizeLine:=by
   have e1:=foldl_rep items.toList k.toNat []
   rw[List.nil_append]at e1
   have e2:List.foldl (fun x1 x2=>x1++x2) #[] (List.replicate k.toNat items)=(List.replicate k.toNat items.toList).flatten.toArray:=by simpa using e1
   rw[e2,List.size_toArray,List.length_flatten,List.map_replicate,List.sum_replicate_nat,Array.length_toList,sizeLine_eq]
   have:k.toNat*items.size<=1000*1000:=Nat.mul_le_mul (by omega) hm2
   omega
  rw[if_neg lU]
  wp_walk
  exact h
 show wpAny _ _ (if(items.isEmpty||k==1)=true then _ else _) _ _ s
 by_cases hk:k=1
 ·subst hk
  rw[if_pos (by simp)]
  wp_walk
  exact mF rfl
 ·rw[if_neg (by rw[hne];simpa using hk)]
  exact jp
end
noncomputable def QE (K:PySem.W.Frag):R2:=fun x y H Q=>∃(a:Addr)(k:Int)(xs:List V),x=.ref a/\y=.int k/\dP K H a xs/\0<xs.length/\xs.length<=1000/\1<=k/\k<1000/\(k=1->Q (.ref a) H)/\∀ p,H p=none->Q (.ref p) (upd H p (.tup (List.replicate k.toNat xs).flatten))
theorem RC {X:Cx}:gK X (binaryOp .Mult) (QE X.K):=by
 intro pins s σ H x y v u Q I rx ry h
 obtain⟨a,k,xs,rfl,rfl,hH,h0,h00,h1,h2,mF,q⟩:=h
 cases rx
 obtain⟨t,rfl⟩:=ry
 obtain⟨aD,r,⟨⟨cls,dd,data,sl⟩,ho,hc,n,hd⟩,z⟩:=I.tuple hH
 simp only at hc hd
 subst hc hd
 have hl:xs.length=aD.length:=r.length
 have hnew:List.foldl (fun x1 x2=>x1++x2) #[] (List.replicate k.toNat aD.toArray)=(List.replicate k.toNat aD).flatten.toArray:=by
  have:=foldl_rep aD k.toNat []
  rw[List.nil_append]at this
  exact this
 refine wpAny_binaryOp_repeat_ref (T :="tuple") (U :="int") (by decide) ⟨_,ho,rfl⟩ (fun s'=>typeIs_int s' k t) zE PySem.F.fills_int_mul PySem.F.slot_int_rmul FJ PySem.F.slot_int_index.lookup
  (call_meets PySem.F.slot_int_rmul (typeIs_int s k t) PySem.F.entry_int_rmul (PySem.F.args_int_rmul_2 _ _) (A7 k t a aD.toArray n dd sl)
   ⟨ho,rfl,⟨_,ho,rfl⟩,wpAny_call_entry PySem.F.slot_tuple_mul ⟨_,ho,rfl⟩ PySem.F.entry_tuple_mul (E1 ho h1 h2 (by simpa [<-hl]using h0) (by simpa [<-hl]using h00) (fun e=>?_) ?_) (PySem.F.args_tuple_mul_2 _ _)⟩)
 ·exact⟨_,rfl,.ref a,H,I,rfl,mF e⟩
 ·refine⟨_,rfl,.ref s.heap.objs.size,_,I.laid (a:=s.heap.objs.size) (o:=.tup (List.replicate k.toNat xs).flatten) (t':=s.toks) (fun b u e=>Heap.get?_push_of_some _ e) (Nat.le_refl _) ?_,rfl,q _ (I.bY.fresh (Nat.le_refl _))⟩
  refine⟨by rw[len_rep,sizeLine_eq];have:k.toNat*xs.length<=1000*1000:=Nat.mul_le_mul (by omega) h00;omega,_,r.rep k.toNat,?_⟩
  rw[hnew]
  exact nM.new s.heap _
end L3
end
section
namespace L3
open PySem PySem.Spec PyProof.Rows L2
section
variable {X:Cx}
theorem SV {prog:Program}{w:World}{A:Around}{E:Value->Shared->Prop}{s:Shared}{t b:Addr}{ws:List Value}{Q:Value->Shared->Prop}(ht:IsTup s.heap t #[])(hb:IsTup s.heap b ws.toArray)
  (h:Q (.ref b) s):wpAny (model prog w) A (binaryOp .Add (.ref t) (.ref b)) Q E s:=by
 obtain⟨⟨cls,dd,data,sl⟩,ho,hc,n,hd⟩:=id ht
 obtain⟨⟨cls2,dd2,data2,sl2⟩,ho2,hc2,n2,hd2⟩:=id hb
 simp only at hc hd hc2 hd2
 subst hc hd hc2 hd2
 exact concat_meets ⟨_,ho,rfl⟩ ⟨_,ho2,rfl⟩ noFill_tuple_add seq_tuple_add PySem.F.slot_tuple_add PySem.F.entry_tuple_add (PySem.F.args_tuple_add_2 _ _)
  (tuple_addW0 t b #[] ws.toArray n n2 dd dd2 sl sl2 (by simp)) ⟨ho,ho2,h⟩
noncomputable def QG (K:PySem.W.Frag):R2:=fun x y H Q=>∃ a b ys,x=.ref a/\y=.ref b/\dP K H a []/\dP K H b ys/\Q (.ref b) H
theorem TN:gK X (binaryOp .Add) (QG X.K):=by
 intro pins s σ H x y v u Q I rx ry h
 obtain⟨a,b,ys,rfl,rfl,ha,hb,q⟩:=h
 cases rx
 cases ry
 obtain⟨aD,r1,p1,_⟩:=I.tuple ha
 obtain⟨lO,r2,p2,_⟩:=I.tuple hb
 have e:aD=[]:=r1.xJ.mpr rfl
 subst e
 exact SV p1 p2 ⟨.ref b,H,I,rfl,q⟩
noncomputable def Cc:R2:=fun x y H Q=>∃ i j,x=.str i/\y=.str j/\i.length+j.length<=sizeLine/\Q (.str (i++j)) H
noncomputable abbrev P7 (K:PySem.W.Frag):R2:=fun x y H Q=>FG (fun i j=>.int (i+j)) x y H Q∨Cc x y H Q∨QO K x y H Q∨QG K x y H Q∨UA x y H Q
theorem RF:gK X (binaryOp .Add) (P7 X.K):=gK.or WU (gK.or IL (gK.or RW (gK.or TN UT)))
noncomputable abbrev P0 (K:PySem.W.Frag):R2:=fun x y H Q=>rI IY (fun i j=>.int (i*j)) x y H Q∨XG x y H Q∨QE K x y H Q
theorem RA:gK X (binaryOp .Mult) (P0 X.K):=gK.or WQ (gK.or UG RC)
noncomputable def UM:sC->Operator
 |.add=>.Add|.sub=>.Sub|.mul=>.Mult|.fdiv=>.FloorDiv|.mod=>.Mod|.pow=>.Pow
noncomputable def J3 (K:PySem.W.Frag):sC->R2
 |.add=>P7 K
 |.sub=>FG fun i j=>.int (i-j)
 |.mul=>P0 K
 |.fdiv=>rI U0 fun i j=>.int (i / j)
 |.mod=>rI (fun _ j=>0<j) fun i j=>.int (i % j)
 |.pow=>rI V7 fun i j=>.int (i ^ j.toNat)
theorem WT:∀ op:sC,gK X (binaryOp (UM op)) (J3 X.K op)
 |.add=>RF
 |.sub=>X6
 |.mul=>RA
 |.fdiv=>SY
 |.mod=>TZ
 |.pow=>XE
theorem LQ {K:PySem.W.Frag}:∀(op:sC)(v v':V)(H:Hp)(Q Q':L2.VK),(∀ v H,Q v H->Q' v H)->J3 K op v v' H Q->J3 K op v v' H Q'
 |.add,v,v',H,Q,Q',h,z=>by
  rcases z with z|⟨i,j,e,e',l,q⟩|⟨a,b,xs,ys,e,e',s,s',n,l,q,q'⟩|⟨a,b,ys,e,e',s,s',q⟩|⟨l,b,xs,zs,e,e',s,s',n,q⟩
  ·exact .inl (D4 _ _ _ _ _ h z)
  ·exact .inr (.inl ⟨i,j,e,e',l,h _ _ q⟩)
  ·exact .inr (.inr (.inl ⟨a,b,xs,ys,e,e',s,s',n,l,fun z=>h _ _ (q z),fun z p hp=>h _ _ (q' z p hp)⟩))
  ·exact .inr (.inr (.inr (.inl ⟨a,b,ys,e,e',s,s',h _ _ q⟩)))
  ·exact .inr (.inr (.inr (.inr ⟨l,b,xs,zs,e,e',s,s',n,fun p hp=>h _ _ (q p hp)⟩)))
 |.sub,v,v',H,Q,Q',h,z=>D4 _ _ _ _ _ h z
 |.mul,v,v',H,Q,Q',h,z=>by
  rcases z with z|⟨l,k,xs,e,e',s,b1,b2,b3,q⟩|⟨l,k,xs,e,e',s,b1,b2,b3,b4,q0,q⟩
  ·exact .inl (xB _ _ _ _ _ h z)
  ·exact .inr (.inl ⟨l,k,xs,e,e',s,b1,b2,b3,fun p hp=>h _ _ (q p hp)⟩)
  ·exact .inr (.inr ⟨l,k,xs,e,e',s,b1,b2,b3,b4,fun z=>h _ _ (q0 z),fun p hp=>h _ _ (q p hp)⟩)
 |.fdiv,v,v',H,Q,Q',h,z=>xB _ _ _ _ _ h z
 |.mod,v,v',H,Q,Q',h,z=>xB _ _ _ _ _ h z
 |.pow,v,v',H,Q,Q',h,z=>xB _ _ _ _ _ h z
end
section
variable {K:PySem.W.Frag}{H:Hp}{st:aB}{R:VK}
theorem Rep.int_inv {i:Int}{v:V}(r:Rep K H (.int i) v):v=.int i:=by cases r;rfl
theorem Rep.str_inv {x:List Nat}{v:V}(r:Rep K H (.str x) v):v=.str ⟨x.toArray⟩:=by cases r;rfl
theorem Rep.eJ {b:Bool}{v:V}(r:Rep K H (.bl b) v):v=.bl b:=by cases r;rfl
theorem Rep.eO {v:V}(r:Rep K H .non v):v=.non:=by cases r;rfl
theorem Rep.cE {a:Addr}{v:V}(r:Rep K H (.ref a) v):v=.ref a:=by cases r;rfl
theorem Rep.bM {ds:List D}{v:V}(r:Rep K H (.tup ds) v):∃ a vs,v=.ref a/\dP K H a vs/\aK K H ds vs:=by cases r with|tup h r=>exact⟨_,_,rfl,h,r⟩
theorem Rep.EN {ks vs:List D}{v:V}(r:Rep K H (.cM ks vs) v):∃ a,v=.ref a/\YD K a ks vs:=by cases r with|cM h=>exact⟨_,rfl,h⟩
theorem Rep.jL {ds:List D}{v:V}(r:Rep K H (.bB ds) v):∃ a vs,v=.ref a/\oX K H a vs/\aK K H ds vs:=by cases r with|bB h r=>exact⟨_,_,rfl,h,r⟩
theorem dD {a:Nat}{P:List D->Prop}(h:cA st a P):∃ ds,st a=some (.lst ds)/\P ds:=by
 unfold cA at h
 split at h
 ·rename_i ds e;exact⟨ds,e,h⟩
 ·exact h.elim
theorem qG {a:Nat}{P:List D->Prop}{M:List D->List D->Prop}(ok:aO K st H)(h:dO st a P M):∃ ds,st a=some (.lst ds)/\P ds:=by
 unfold dO at h
 split at h
 ·rename_i ds e;exact⟨ds,e,h⟩
 ·rename_i e;exact(ok _ _ e).elim
 ·exact h.elim
theorem dU {α:Type}{o:Option α}{P:α->Prop}(h:cQ o P):∃ x,o=some x/\P x:=by
 unfold cQ at h
 split at h
 ·exact⟨_,rfl,h⟩
 ·exact h.elim
theorem QZ (x y:List Nat):(⟨x.toArray⟩:Str)++⟨y.toArray⟩=⟨(x++y).toArray⟩:=by
 show Str.mk _=Str.mk _
 simp
theorem aK.nil_inv {vs:List V}(r:aK K H [] vs):vs=[]:=by cases r;rfl
theorem aK.flat {ds:List D}{vs:List V}(r:aK K H ds vs):∀ k:Nat,aK K H (List.replicate k ds).flatten (List.replicate k vs).flatten
 |0=>.nil
 |k+1=>by simp only[List.replicate_succ,List.flatten_cons];exact r.append (aK.flat r k)
theorem KY {op:sC}{d d':D}{v v':V}(ok:aO K st H)(r:Rep K H d v)(r':Rep K H d' v')(h:hZ op d d' st R):J3 K op v v' H (QD K H st R):=by
 unfold hZ at h
 split at h
 ·cases r.int_inv;cases r'.int_inv
  exact .inl ⟨_,_,rfl,rfl,.here ok (.int _) h⟩
 ·rename_i a b
  cases r.str_inv;cases r'.str_inv
  refine .inr (.inl ⟨_,_,rfl,rfl,?_,?_⟩)
  ·rw[fL];simpa [Str.length]using h.1
  ·rw[QZ];exact .here ok (.str _) h.2
 ·rename_i ds es
  obtain⟨a,vs,rfl,s1,q1⟩:=r.bM
  obtain⟨b,us,rfl,s2,q2⟩:=r'.bM
  cases ds with
  |nil =>
   cases q1.nil_inv
   exact .inr (.inr (.inr (.inl ⟨a,b,us,rfl,rfl,s1,s2,.here ok r' (by simpa using h.2)⟩)))
  |cons d ds =>
   refine .inr (.inr (.inl ⟨a,b,vs,us,rfl,rfl,s1,s2,?_,?_,fun e=>?_,fun _ p hp=>.D2 ok (q1.append q2) hp h.2⟩))
   ·intro e;subst e;cases q1
   ·rw[fL,<-q1.length,<-q2.length];exact h.1
   ·subst e
    cases q2
    exact .here ok r (by simpa using h.2)
 ·rename_i a b
  cases r.cE;cases r'.cE
  obtain⟨xs,e1,h⟩:=dD h
  obtain⟨ys,e2,h⟩:=dD h
  obtain⟨vs,g1,q1⟩:=ok.lst e1
  obtain⟨us,g2,q2⟩:=ok.lst e2
  refine .inr (.inr (.inr (.inr ⟨a,b,vs,us,rfl,rfl,g1,g2,?_,fun p hp=>.gB ok (q1.append q2) hp h.2⟩)))
  rw[fL,<-q1.length,<-q2.length];simpa using h.1
 ·cases r.int_inv;cases r'.int_inv
  exact⟨_,_,rfl,rfl,.here ok (.int _) h⟩
 ·cases r.int_inv;cases r'.int_inv
  exact .inl ⟨_,_,rfl,rfl,h.1.imp (fun z=>z) (fun z=>z),.here ok (.int _) h.2⟩
 ·rename_i a k
  cases r.cE;cases r'.int_inv
  obtain⟨xs,e1,h1,h2,h⟩:=dD h
  obtain⟨vs,g1,q1⟩:=ok.lst e1
  refine .inr (.inl ⟨a,k,vs,rfl,rfl,g1,by omega,by omega,?_,fun p hp=>.gB ok (q1.flat _) hp h.2⟩)
  rw[fL,<-q1.length];exact h1
 ·rename_i xs k
  obtain⟨a,vs,rfl,f,g⟩:=r.bM
  cases r'.int_inv
  obtain⟨⟨c1,c2,c3,c4⟩,h⟩:=h
  refine .inr (.inr ⟨a,k,vs,rfl,rfl,f,by rw[<-g.length];exact c1,by rw[<-g.length];exact c2,c3,c4,fun e=>?_,fun p hp=>.D2 ok (g.flat _) hp h⟩)
  subst e
  have e1:(List.replicate (1:Int).toNat xs).flatten=xs:=by simp
  rw[e1]at h
  exact .here ok r h
 ·cases r.int_inv;cases r'.int_inv
  exact⟨_,_,rfl,rfl,h.1,.here ok (.int _) h.2⟩
 ·cases r.int_inv;cases r'.int_inv
  exact⟨_,_,rfl,rfl,h.1,.here ok (.int _) h.2⟩
 ·cases r.int_inv;cases r'.int_inv
  exact⟨_,_,rfl,rfl,h.1,.here ok (.int _) h.2⟩
 ·exact h.elim
end
section
variable {X:Cx}{C:bC}{sub:Nat->Nat->Bool}{E:XK}{a b c e:Expr}{x y z:Ex}{pos:Pos}
theorem Cb {op:sC}(ha:PE X a (bS X.K (aH C sub E x)))(hb:PE X b (bS X.K (aH C sub E y))):PE X (.BinOp a (UM op) b pos) (bS X.K (aH C sub E (.bin op x y))) :=
 (Bl (WT op) ha hb).imp fun σ H Q ⟨σd,st,R,r,ok,q,hq⟩=>by
 exact two (W:=fun d d' aG=>hZ op d d' aG R) r ok q hq (fun d d' v v' H2 aG bZ r1 r2 h=>KY bZ r1 r2 h) (LQ op)
theorem Cq (ha:PE X a (bS X.K (aH C sub E x))):PE X (.UnaryOp .USub a pos) (bS X.K (aH C sub E (.neg x))) :=
 (Ab UP ha).imp fun σ H Q ⟨σd,st,R,r,ok,q,hq⟩=>by
 refine⟨σd,st,_,r,ok,q,fun v H1 ⟨d,aC,s1,aM,r1,q1⟩=>?_⟩
 have q1:vQ d aC R:=q1
 unfold vQ at q1
 split at q1
 ·cases r1.int_inv
  exact⟨_,rfl,hq _ _ (.after s1 (.here aM (.int _) q1))⟩
 ·exact q1.elim
noncomputable def Fm (d:D)(st:aB):Option Bool:=match d with
 |.non=>some false
 |.bl b=>some b
 |.int i=>some (i != 0)
 |.str x=>if x.length<=bE then some (!x.isEmpty)else none
 |.tup ds=>some (!ds.isEmpty)
 |.ref a=>match st a with
  |some (.lst ds)=>some (!ds.isEmpty)
  |some (.dic ks _)=>some (!ks.isEmpty)
  |some _=>none
  |none=>none
 |.bB ds=>some (!ds.isEmpty)
 |_=>none
theorem sH {d:D}{st:aB}{P:Bool->Prop}:dI d st P↔∃ k,Fm d st=some k/\P k:=by
 cases d with
 |str x =>
  show(x.length<=bE/\P (!x.isEmpty))↔∃ k,(if x.length<=bE then some (!x.isEmpty)else none)=some k/\P k
  split
  ·rename_i h;exact⟨fun z=>⟨_,rfl,z.2⟩,fun⟨k,e,q⟩=>⟨h,by cases e;exact q⟩⟩
  ·rename_i h;exact⟨fun z=>(h z.1).elim,fun⟨k,e,q⟩=>by cases e⟩
 |ref a =>
  show dO st a _ _↔∃ k,(match st a with|some (.lst ds)=>some (!ds.isEmpty)|some (.dic ks _)=>some (!ks.isEmpty)|some _=>none|none=>none)=some k/\P k
  unfold dO
  cases st a with
  |none=>exact⟨fun z=>z.elim,fun⟨k,e,q⟩=>by cases e⟩
  |some o=>cases o with
   |lst ds=>exact⟨fun z=>⟨_,rfl,z⟩,fun⟨k,e,q⟩=>by cases e;exact q⟩
   |dic ks vs=>exact⟨fun z=>⟨_,rfl,z⟩,fun⟨k,e,q⟩=>by cases e;exact q⟩
   |ins _ _=>exact⟨fun z=>z.elim,fun⟨k,e,q⟩=>by cases e⟩
   |tab _ _=>exact⟨fun z=>z.elim,fun⟨k,e,q⟩=>by cases e⟩
 |cM _ _=>exact⟨fun z=>z.elim,fun⟨k,e,q⟩=>by cases e⟩
 |exc _=>exact⟨fun z=>z.elim,fun⟨k,e,q⟩=>by cases e⟩
 |_=>exact⟨fun z=>⟨_,rfl,z⟩,fun⟨k,e,q⟩=>by cases e;exact q⟩
theorem iA {α:Type}(x:List α):(!x.isEmpty)=(((x.length:Nat):Int) != 0):=by
 cases x with
 |nil=>rfl
 |cons a r =>
 simp only[List.isEmpty_cons,Bool.not_false,List.length_cons]
 symm
 rw[bne_iff_ne];omega
theorem pX {K:PySem.W.Frag}{H:Hp}{st:aB}{d:D}{v:V}{P:Bool->Prop}(ok:aO K st H)(r:Rep K H d v)(h:dI d st P):∃ k,NF K v H k/\P k:=by
 unfold dI at h
 split at h
 ·cases r.eO;exact⟨_,rfl,h⟩
 ·cases r.eJ;exact⟨_,rfl,h⟩
 ·cases r.int_inv;exact⟨_,rfl,h⟩
 ·rename_i x P
  cases r.str_inv
  refine⟨_,⟨by rw[fL];simpa [Str.length]using h.1,?_⟩,h.2⟩
  rw[iA];simp [Str.length]
 ·obtain⟨a,vs,rfl,s1,q1⟩:=r.bM
  refine⟨_,.inr (.inl ⟨vs,s1,?_⟩),h⟩
  rw[iA,iA,q1.length]
 ·cases r.cE
  obtain⟨ds,e,h⟩:=qG ok h
  obtain⟨vs,g,q⟩:=ok.lst e
  refine⟨_,.inl ⟨vs,cZ.of g,?_⟩,h⟩
  rw[iA,iA,q.length]
 ·obtain⟨a,vs,rfl,s1,q1⟩:=r.jL
  refine⟨_,.inl ⟨vs,s1.sq,?_⟩,h⟩
  rw[iA,iA,q1.length]
 ·exact h.elim
theorem OA (h:PE X e (bS X.K (aH C sub E x)))(he:∀ whole,isTrue e X.env whole=(do let v <-whole;standAt e.pos;holding [v] (truthy v))):PT X e (iU X.K (aH C sub E x)) :=
 (NJ h he).imp fun σ H Q ⟨σd,st,R,r,ok,q,hq⟩=>by
 refine⟨σd,st,_,r,ok,q,fun v H1 ⟨d,aC,s1,aM,r1,q1⟩=>?_⟩
 obtain⟨k,t,z⟩:=pX aM r1 q1
 exact⟨k,t,hq _ _ ⟨aC,s1,aM,z⟩⟩
theorem UH (h:PT X e (iU X.K (aH C sub E x))):PT X (.UnaryOp .Not e pos) (iU X.K (aH C sub E (.not_ x))) :=
 (VE h).imp fun σ H Q ⟨σd,st,R,r,ok,q,hq⟩=>by
 exact⟨σd,st,fun b aA=>R (!b) aA,r,ok,q,fun b H1 z=>hq _ _ z⟩
theorem Ai (h:PE X e (bS X.K (aH C sub E x))):PE X (.UnaryOp .Not e pos) (bS X.K (aH C sub E (.not_ x))):=by
 intro pins s σ H Q I ⟨σd,st,R,r,ok,q,hq⟩
 refine UnaryOp_ (aW (h pins s σ H _ I ⟨σd,st,_,r,ok,q,fun v H' z=>z⟩) fun u s1 ⟨v,H1,I1,rv,d,aC,st1s,aM,r1,q1⟩=>?_)
 obtain⟨k,t,z⟩:=pX aM r1 q1
 exact not_of (aW (AU pins s1 σ H1 v u (fun b H'=>Q (.bl (!b)) H') I1 rv ⟨k,t,hq _ _ (.after st1s (.here aM (.bl _) z))⟩) fun b s2 ⟨H2,I2,w⟩=>⟨.bl (!b),H2,I2,rfl,w⟩)
theorem XU {op:BoolOp}(h:PT X e (iU X.K (aH C sub E x))):PW X (.BoolOp op [e] pos) (iU X.K (aH C sub E x)):=by
 cases op
 ·exact SN h
 ·exact XW h
theorem Y4 {rest:List Expr}(hC:bP C C)(ha:PT X a (iU X.K (aH C sub E x)))(hb:PW X (.BoolOp .And (b::rest) pos) (iU X.K (aH C sub E y))):PW X (.BoolOp .And (a::b::rest) pos) (iU X.K (aH C sub E (.and_ x y))) :=
 (YW ha hb).imp fun σ H Q ⟨σd,st,R,r,ok,q,hq⟩=>by
 refine⟨σd,st,fun k aC=>if k=true then aH C sub E y σd aC (fun d aA=>dI d aA fun b=>R b aA)else R false aC,r,ok,aQ hC (fun _ _ z=>z) x (fun d aC z=>?_) q,fun k H1 ⟨aC,s1,aM,z⟩=>?_⟩
 ·rw[sH]at z ⊢
  obtain⟨k,t,z⟩:=z
  refine⟨k,t,?_⟩
  cases k with
  |true=>exact z
  |false =>
  have z':dI d aC fun b=>R b aC:=z
  rw[sH]at z'
  obtain⟨k',t',z'⟩:=z'
  rw[t]at t';cases t'
  exact z'
 ·cases k with
  |true=>exact⟨σd,aC,R,r.step ok s1,aM,z,fun k H2 ⟨aG,s2,bZ,w⟩=>hq _ _ ⟨aG,s1.trans s2,bZ,w⟩⟩
  |false=>exact hq _ _ ⟨aC,s1,aM,z⟩
theorem ZN {rest:List Expr}(hC:bP C C)(ha:PT X a (iU X.K (aH C sub E x)))(hb:PW X (.BoolOp .Or (b::rest) pos) (iU X.K (aH C sub E y))):PW X (.BoolOp .Or (a::b::rest) pos) (iU X.K (aH C sub E (.or_ x y))) :=
 (Bf ha hb).imp fun σ H Q ⟨σd,st,R,r,ok,q,hq⟩=>by
 refine⟨σd,st,fun k aC=>if k=true then R true aC else aH C sub E y σd aC (fun d aA=>dI d aA fun b=>R b aA),r,ok,aQ hC (fun _ _ z=>z) x (fun d aC z=>?_) q,fun k H1 ⟨aC,s1,aM,z⟩=>?_⟩
 ·rw[sH]at z ⊢
  obtain⟨k,t,z⟩:=z
  refine⟨k,t,?_⟩
  cases k with
  |false=>exact z
  |true =>
  have z':dI d aC fun b=>R b aC:=z
  rw[sH]at z'
  obtain⟨k',t',z'⟩:=z'
  rw[t]at t';cases t'
  exact z'
 ·cases k with
  |false=>exact⟨σd,aC,R,r.step ok s1,aM,z,fun k H2 ⟨aG,s2,bZ,w⟩=>hq _ _ ⟨aG,s1.trans s2,bZ,w⟩⟩
  |true=>exact hq _ _ ⟨aC,s1,aM,z⟩
theorem Af {rest:List Expr}(ha:PE X a (bS X.K (aH C sub E x)))(hb:PE X (.BoolOp .And (b::rest) pos) (bS X.K (aH C sub E y))):PE X (.BoolOp .And (a::b::rest) pos) (bS X.K (aH C sub E (.and_ x y))):=by
 intro pins s σ H Q I ⟨σd,st,R,r,ok,q,hq⟩
 refine BoolOp_and (aW (ha pins s σ H _ I ⟨σd,st,_,r,ok,q,fun v H' z=>z⟩) fun u s1 ⟨v,H1,I1,rv,d,aC,st1s,aM,r1,q1⟩=>?_)
 obtain⟨k,t,z⟩:=pX aM r1 q1
 refine aW (AU pins s1 σ H1 v u (fun b H'=>b=k/\H'=H1) I1 rv ⟨k,t,rfl,rfl⟩) fun b s2 ⟨H2,I2,e,e'⟩=>?_
 subst e e'
 cases b with
 |true=>exact hb pins s2 σ H2 Q I2 ⟨σd,aC,R,r.step ok st1s,aM,z,fun v H' w=>hq _ _ (.after st1s w)⟩
 |false=>exact⟨v,H2,I2,rv,hq _ _ (.after st1s (.here aM r1 z))⟩
theorem Gr {rest:List Expr}(ha:PE X a (bS X.K (aH C sub E x)))(hb:PE X (.BoolOp .Or (b::rest) pos) (bS X.K (aH C sub E y))):PE X (.BoolOp .Or (a::b::rest) pos) (bS X.K (aH C sub E (.or_ x y))):=by
 intro pins s σ H Q I ⟨σd,st,R,r,ok,q,hq⟩
 refine BoolOp_or (aW (ha pins s σ H _ I ⟨σd,st,_,r,ok,q,fun v H' z=>z⟩) fun u s1 ⟨v,H1,I1,rv,d,aC,st1s,aM,r1,q1⟩=>?_)
 obtain⟨k,t,z⟩:=pX aM r1 q1
 refine aW (AU pins s1 σ H1 v u (fun b H'=>b=k/\H'=H1) I1 rv ⟨k,t,rfl,rfl⟩) fun b s2 ⟨H2,I2,e,e'⟩=>?_
 subst e e'
 cases b with
 |false=>exact hb pins s2 σ H2 Q I2 ⟨σd,aC,R,r.step ok st1s,aM,z,fun v H' w=>hq _ _ (.after st1s w)⟩
 |true=>exact⟨v,H2,I2,rv,hq _ _ (.after st1s (.here aM r1 z))⟩
theorem ZI {op:BoolOp}(h:PE X e (bS X.K (aH C sub E x))):PE X (.BoolOp op [e] pos) (bS X.K (aH C sub E x)):=WV h
end
end L3
end
section
namespace L3
open PySem PySem.Spec PyProof.Rows L2 PySem.SeqAt
mutual
theorem tN:∀ d:D,aX d=true->bG d d=true
 |.non,_=>rfl
 |.bl b,_=>by simp [bG]
 |.int i,_=>by simp [bG]
 |.str x,_=>by simp [bG]
 |.tup ds,h=>by simp only[aX]at h;simp only[bG];exact jK ds h
 |.ref _,h=>by simp [aX]at h
 |.cM _ _,h=>by simp [aX]at h
 |.bB _,h=>by simp [aX]at h
 |.exc _,h=>by simp [aX]at h
theorem jK:∀ ds:List D,bL ds=true->fS ds ds=true
 |[],_=>rfl
 |d::ds,h=>by
  simp only[bL,Bool.and_eq_true]at h
  simp only[fS,Bool.and_eq_true]
  exact⟨tN d h.1,jK ds h.2⟩
end
theorem lF:∀{ds:List D}{d:D},bL ds=true->d∈ds->aX d=true
 |e::ds,d,h,m=>by
  simp only[bL,Bool.and_eq_true]at h
  rcases List.mem_cons.mp m with rfl|m
  ·exact h.1
  ·exact lF h.2 m
theorem iH:∀{ds:List D}{d:D},d∈ds->cI d<=cG ds
 |e::ds,d,m=>by
  simp only[cG]
  rcases List.mem_cons.mp m with rfl|m
  ·omega
  ·have:=iH m;omega
theorem sT:∀{ds es:List D}(e:Nat->Bool),(∀ j d d',ds[j]? = some d->es[j]? = some d'->e j=bG d d')->((List.range (min ds.length es.length)).all e&&ds.length==es.length)=fS ds es
 |[],[],e,h=>by simp [fS]
 |[],_::_,e,h=>by simp [fS]
 |_::_,[],e,h=>by simp [fS]
 |d::ds,d'::es,e,h=>by
  have ih:=sT (fun j=>e (j+1)) fun j x x' e1 e2=>h (j+1) x x' (by simpa using e1) (by simpa using e2)
  have h0:=h 0 d d' rfl rfl
  simp only[fS,List.length_cons,Nat.add_min_add_right,List.range_succ_eq_map,List.all_cons,List.all_map,Function.comp_def]
  rw[<-ih,h0]
  have hl:(ds.length+1==es.length+1)=(ds.length==es.length):=by simp
  rw[hl,Bool.and_assoc]
theorem M9 {ds es:List D}(e:Nat->Bool)(hl:ds.length=es.length)(h:∀ j d d',ds[j]? = some d->es[j]? = some d'->e j=bG d d'):(List.range ds.length).all e=fS ds es:=by
 rw[<-sT e h,<-hl];simp
theorem EJ:∀{ds es:List D},ds.length≠es.length->fS ds es=false
 |[],[],h=>(h rfl).elim
 |[],_::_,h=>rfl
 |_::_,[],h=>rfl
 |d::ds,d'::es,h=>by simp only[fS,EJ (ds:=ds) (es:=es) (by simpa using h),Bool.and_false]
section
variable {X:Cx}{pins:List (Addr×Obj)}{σ:L2.St}{H:Hp}{s:Shared}{st:aB}
theorem aL.at {vs:List V}{aD:List Value}(r:aL vs aD){j:Nat}(h:j<aD.toArray.size):∃ v,vs[j]? = some v/\RelV v aD.toArray[j]:=by
 have hl:=r.length
 have hj:j<vs.length:=by simp at h;omega
 obtain⟨u,e1,e2⟩:=aL.get r (List.getElem?_eq_getElem hj)
 refine⟨vs[j],List.getElem?_eq_getElem hj,?_⟩
 rw[List.getElem?_eq_some_iff]at e1
 obtain⟨h1,e1⟩:=e1
 simp only[List.getElem_toArray,e1]
 exact e2
theorem aK.get' {K:PySem.W.Frag}:∀{ds:List D}{vs:List V}{i:Nat}{v:V},aK K H ds vs->vs[i]? = some v->∃ d,ds[i]? = some d/\Rep K H d v
 |_,_,_,_,.nil,e=>by simp at e
 |_,_,0,_,.cons h _,e=>by simp at e;subst e;exact⟨_,rfl,h⟩
 |_,_,i+1,v,.cons _ r,e=>by
  obtain⟨d,e1,e2⟩:=aK.get' (i:=i) (v:=v) r (by simpa using e)
  exact⟨d,by simpa using e1,e2⟩
theorem wQ (I:Inv X pins σ H s):∀(n:Nat){d d':D}{v:V},cI d<=n->aX d=true->aX d'=true->Rep X.K H d v->Rep X.K H d' v->d=d':=by
 intro n
 induction n with
 |zero =>
 intro d d' v hn p p' r r'
 cases r<;>cases r'<;>first|rfl|(simp [aX]at p;done)|(simp [aX]at p';done)|(simp [cI]at hn;done)
 |succ n ih =>
 intro d d' v hn p p' r r'
 cases r<;>cases r'<;>first|rfl|(simp [aX]at p;done)|(simp [aX]at p';done)|skip
 rename_i ds a vs h r es us r' h'
 cases I.pW h h'
 have go:∀(ds es:List D)(vs:List V),cG ds<=n->bL ds=true->bL es=true->aK X.K H ds vs->aK X.K H es vs->ds=es:=by
  intro ds
  induction ds with
  |nil=>intro es vs _ _ _ r r';cases r;cases r';rfl
  |cons d ds ihs =>
  intro es vs hd pp pp' r r'
  cases r with
  |cons r1 r2=>cases r' with
   |cons r1' r2' =>
   simp only[cG]at hd
   simp only[bL,Bool.and_eq_true]at pp pp'
   rw[ih (by omega) pp.1 pp'.1 r1 r1',ihs _ _ (by omega) pp.2 pp'.2 r2 r2']
 rw[go ds es vs (by simp only[cI]at hn;omega) (by simpa [aX]using p) (by simpa [aX]using p') r r']
noncomputable def tZ (A:Around)(s:Shared)(u u':Value)(b:Bool):Prop:=RcAt A s u u' b/\EqAt A s u u' b/\RcNeAt A s u u' (!b)
noncomputable def mL:D->Bool
 |.non=>true
 |.bl _=>true
 |.int _=>true
 |.str _=>true
 |_=>false
theorem DX (x y:List Nat):((⟨x.toArray⟩:Str)==⟨y.toArray⟩)=(x==y):=by
 rw[<-str_beq]
theorem tK {K:PySem.W.Frag}{H:Hp}{A:Around}{s:Shared}{d d':D}{v v':V}{u u':Value}(p:mL d=true)(p':mL d'=true)(r:Rep K H d v)(rv:RelV v u)(r':Rep K H d' v')(aZ:RelV v' u'):tZ A s u u' (bG d d'):=by
 cases d with
 |non=>cases d' with
  |non =>
   cases r.eO;cases rv
   cases r'.eO;cases aZ
   exact⟨RcAt.none_none,EqAt.same _,RcNeAt.none_none⟩
  |bl b' =>
   cases r.eO;cases rv
   cases r'.eJ;cases aZ
   simp only[bG]
   exact⟨RcAt.none_bool _,EqAt.none_bool _,RcNeAt.none_bool _⟩
  |int i' =>
   cases r.eO;cases rv
   cases r'.int_inv;obtain⟨_,rfl⟩:=aZ
   simp only[bG]
   exact⟨RcAt.none_int _ _,EqAt.none_int _ _,RcNeAt.none_int _ _⟩
  |str x' =>
   cases r.eO;cases rv
   cases r'.str_inv;obtain⟨_,rfl⟩:=aZ
   simp only[bG]
   exact⟨RcAt.none_str _ _,EqAt.none_str _ _,RcNeAt.none_str _ _⟩
  |_=>cases p'
 |bl b=>cases d' with
  |non =>
   cases r.eJ;cases rv
   cases r'.eO;cases aZ
   simp only[bG]
   exact⟨RcAt.bool_none _,EqAt.bool_none _,RcNeAt.bool_none _⟩
  |bl b' =>
   cases r.eJ;cases rv
   cases r'.eJ;cases aZ
   simp only[bG]
   exact⟨RcAt.bool_bool _ _,EqAt.bool_bool _ _,RcNeAt.bool_bool _ _⟩
  |int i' =>
   cases r.eJ;cases rv
   cases r'.int_inv;obtain⟨_,rfl⟩:=aZ
   simp only[bG]
   exact⟨RcAt.bool_int _ _ _,EqAt.bool_int _ _ _,RcNeAt.bool_int _ _ _⟩
  |str x' =>
   cases r.eJ;cases rv
   cases r'.str_inv;obtain⟨_,rfl⟩:=aZ
   simp only[bG]
   exact⟨RcAt.bool_str _ _ _,EqAt.bool_str _ _ _,RcNeAt.bool_str _ _ _⟩
  |_=>cases p'
 |int i=>cases d' with
  |non =>
   cases r.int_inv;obtain⟨_,rfl⟩:=rv
   cases r'.eO;cases aZ
   simp only[bG]
   exact⟨RcAt.int_none _ _,EqAt.int_none _ _,RcNeAt.int_none _ _⟩
  |bl b' =>
   cases r.int_inv;obtain⟨_,rfl⟩:=rv
   cases r'.eJ;cases aZ
   simp only[bG]
   exact⟨RcAt.int_bool _ _ _,EqAt.int_bool _ _ _,RcNeAt.int_bool _ _ _⟩
  |int i' =>
   cases r.int_inv;obtain⟨_,rfl⟩:=rv
   cases r'.int_inv;obtain⟨_,rfl⟩:=aZ
   simp only[bG]
   exact⟨RcAt.int_int _ _ _ _,EqAt.int_int _ _ _ _,RcNeAt.int_int _ _ _ _⟩
  |str x' =>
   cases r.int_inv;obtain⟨_,rfl⟩:=rv
   cases r'.str_inv;obtain⟨_,rfl⟩:=aZ
   simp only[bG]
   exact⟨RcAt.int_str _ _ _ _,EqAt.int_str _ _ _ _,RcNeAt.int_str _ _ _ _⟩
  |_=>cases p'
 |str x=>cases d' with
  |non =>
   cases r.str_inv;obtain⟨_,rfl⟩:=rv
   cases r'.eO;cases aZ
   simp only[bG]
   exact⟨RcAt.str_none _ _,EqAt.str_none _ _,RcNeAt.str_none _ _⟩
  |bl b' =>
   cases r.str_inv;obtain⟨_,rfl⟩:=rv
   cases r'.eJ;cases aZ
   simp only[bG]
   exact⟨RcAt.str_bool _ _ _,EqAt.str_bool _ _ _,RcNeAt.str_bool _ _ _⟩
  |int i' =>
   cases r.str_inv;obtain⟨_,rfl⟩:=rv
   cases r'.int_inv;obtain⟨_,rfl⟩:=aZ
   simp only[bG]
   exact⟨RcAt.str_int _ _ _ _,EqAt.str_int _ _ _ _,RcNeAt.str_int _ _ _ _⟩
  |str x' =>
   cases r.str_inv;obtain⟨_,rfl⟩:=rv
   cases r'.str_inv;obtain⟨_,rfl⟩:=aZ
   have e:bG (.str x) (.str x')=((⟨x.toArray⟩:Str)==⟨x'.toArray⟩):=by rw[DX];simp only[bG]
   rw[e]
   exact⟨RcAt.str_str _ _ _ _,EqAt.str_str _ _ _ _,RcNeAt.str_str _ _ _ _⟩
  |_=>cases p'
 |_=>cases p
theorem fY {K:PySem.W.Frag}{H:Hp}{A:Around}{s:Shared}{l:Addr}{aD:Array Value}{d':D}{v':V}{u':Value}(hl:s.heap.IsTuple l aD)(hu:A.units<cLine)(p':mL d'=true)(r':Rep K H d' v')(aZ:RelV v' u'):tZ A s (.ref l) u' false/\tZ A s u' (.ref l) false:=by
 cases d' with
 |non =>
 cases r'.eO;cases aZ
 exact⟨⟨RcAt.tuple_none hl hu,EqAt.tuple_none hl hu,RcNeAt.tuple_none hl hu⟩,⟨RcAt.none_tuple hl hu,EqAt.none_tuple hl hu,RcNeAt.none_tuple hl hu⟩⟩
 |bl b =>
 cases r'.eJ;cases aZ
 exact⟨⟨RcAt.tuple_bool _ hl hu,EqAt.tuple_bool _ hl hu,RcNeAt.tuple_bool _ hl hu⟩,⟨RcAt.bool_tuple _ hl hu,EqAt.bool_tuple _ hl hu,RcNeAt.bool_tuple _ hl hu⟩⟩
 |int i =>
 cases r'.int_inv;obtain⟨_,rfl⟩:=aZ
 exact⟨⟨RcAt.tuple_int _ _ hl hu,EqAt.tuple_int _ _ hl hu,RcNeAt.tuple_int _ _ hl hu⟩,⟨RcAt.int_tuple _ _ hl hu,EqAt.int_tuple _ _ hl hu,RcNeAt.int_tuple _ _ hl hu⟩⟩
 |str x =>
 cases r'.str_inv;obtain⟨_,rfl⟩:=aZ
 exact⟨⟨RcAt.tuple_str _ _ hl hu,EqAt.tuple_str _ _ hl hu,RcNeAt.tuple_str _ _ hl hu⟩,⟨RcAt.str_tuple _ _ hl hu,EqAt.str_tuple _ _ hl hu,RcNeAt.str_tuple _ _ hl hu⟩⟩
 |_=>cases p'
theorem kG {K:PySem.W.Frag}{H:Hp}{A:Around}{s:Shared}{l:Addr}{aD:Array Value}{d':D}{v':V}{u':Value}(hl:s.heap.IsList l aD)(hu:A.units<cLine)(p':mL d'=true)(r':Rep K H d' v')(aZ:RelV v' u'):tZ A s (.ref l) u' false/\tZ A s u' (.ref l) false:=by
 cases d' with
 |non =>
 cases r'.eO;cases aZ
 exact⟨⟨RcAt.list_none hl hu,EqAt.list_none hl hu,RcNeAt.list_none hl hu⟩,⟨RcAt.none_list hl hu,EqAt.none_list hl hu,RcNeAt.none_list hl hu⟩⟩
 |bl b =>
 cases r'.eJ;cases aZ
 exact⟨⟨RcAt.list_bool _ hl hu,EqAt.list_bool _ hl hu,RcNeAt.list_bool _ hl hu⟩,⟨RcAt.bool_list _ hl hu,EqAt.bool_list _ hl hu,RcNeAt.bool_list _ hl hu⟩⟩
 |int i =>
 cases r'.int_inv;obtain⟨_,rfl⟩:=aZ
 exact⟨⟨RcAt.list_int _ _ hl hu,EqAt.list_int _ _ hl hu,RcNeAt.list_int _ _ hl hu⟩,⟨RcAt.int_list _ _ hl hu,EqAt.int_list _ _ hl hu,RcNeAt.int_list _ _ hl hu⟩⟩
 |str x =>
 cases r'.str_inv;obtain⟨_,rfl⟩:=aZ
 exact⟨⟨RcAt.list_str _ _ hl hu,EqAt.list_str _ _ hl hu,RcNeAt.list_str _ _ hl hu⟩,⟨RcAt.str_list _ _ hl hu,EqAt.str_list _ _ hl hu,RcNeAt.str_list _ _ hl hu⟩⟩
 |_=>cases p'
theorem FW (I:Inv X pins σ H s){A:Around}{a b:Addr}{vs us:List V}{b0:Bool}(e:Nat->Bool)(ha:dP X.K H a vs)(hb:dP X.K H b us)(hu:A.units<cLine)(hs:a=b->b0=true)
  (he:∀ j v v' u u',vs[j]? = some v->us[j]? = some v'->RelV v u->RelV v' u'->EqAt A.in1 s u u' (e j))(hb0:((List.range (min vs.length us.length)).all e&&vs.length==us.length)=b0):tZ A s (.ref a) (.ref b) b0:=by
 obtain⟨aD,r1,p1,_⟩:=I.tuple ha
 obtain⟨jts,r2,p2,_⟩:=I.tuple hb
 have l1:aD.toArray.size=vs.length:=by rw[List.size_toArray];exact r1.length.symm
 have l2:jts.toArray.size=us.length:=by rw[List.size_toArray];exact r2.length.symm
 have hi:∀ j (h1:j<aD.toArray.size)(h2:j<jts.toArray.size),EqAt A.in1 s aD.toArray[j] jts.toArray[j] (e j):=fun j h1 h2=>by
  obtain⟨v,e1,q1⟩:=aL.at r1 h1
  obtain⟨v',e2,q2⟩:=aL.at r2 h2
  exact he j v v' _ _ e1 e2 q1 q2
 have rc:RcAt A s (.ref a) (.ref b) b0:=by
  have:=RcAt.tuples (e:=e) p1 p2 hu hi
  rw[l1,l2,hb0]at this
  exact this
 have rn:RcNeAt A s (.ref a) (.ref b) (!b0):=by
  have:=RcNeAt.tuples (e:=e) p1 p2 hu hi
  rw[l1,l2,hb0]at this
  exact this
 refine⟨rc,?_,rn⟩
 by_cases q:a=b
 ·rw[hs q,q];exact EqAt.same _
 ·exact EqAt.of_refs q rc
theorem OD (I:Inv X pins σ H s){A:Around}{a b:Addr}{vs us:List V}{b0:Bool}(e:Nat->Bool)(ha:cZ X.K H a vs)(hb:cZ X.K H b us)(hu:A.units<cLine)(hs:a=b->b0=true)
  (he:∀ j v v' u u',vs[j]? = some v->us[j]? = some v'->RelV v u->RelV v' u'->EqAt A.in1 s u u' (e j))(hn:vs.length≠us.length->b0=false)(hb0:vs.length=us.length->(List.range vs.length).all e=b0):tZ A s (.ref a) (.ref b) b0:=by
 obtain⟨aD,r1,p1,_⟩:=I.list ha
 obtain⟨jts,r2,p2,_⟩:=I.list hb
 have l1:aD.toArray.size=vs.length:=by rw[List.size_toArray];exact r1.length.symm
 have l2:jts.toArray.size=us.length:=by rw[List.size_toArray];exact r2.length.symm
 have hi:∀ j (h1:j<aD.toArray.size)(h2:j<jts.toArray.size),EqAt A.in1 s aD.toArray[j] jts.toArray[j] (e j):=fun j h1 h2=>by
  obtain⟨v,e1,q1⟩:=aL.at r1 h1
  obtain⟨v',e2,q2⟩:=aL.at r2 h2
  exact he j v v' _ _ e1 e2 q1 q2
 have both:RcAt A s (.ref a) (.ref b) b0/\RcNeAt A s (.ref a) (.ref b) (!b0):=by
  by_cases hl:vs.length=us.length
  ·have:=RcAt.lists (e:=e) p1.isList p2.isList (by rw[l1,l2,hl]) hu hi
   have rn:=RcNeAt.lists (e:=e) p1.isList p2.isList (by rw[l1,l2,hl]) hu hi
   rw[l1,hb0 hl]at this rn
   exact⟨this,rn⟩
  ·rw[hn hl]
   have hz:(aD.toArray.size != jts.toArray.size)=true:=by rw[l1,l2,bne_iff_ne];exact hl
   exact⟨RcAt.lists_lengths p1.isList p2.isList hz hu,RcNeAt.lists_lengths p1.isList p2.isList hz hu⟩
 refine⟨both.1,?_,both.2⟩
 by_cases q:a=b
 ·rw[hs q,q];exact EqAt.same _
 ·exact EqAt.of_refs q both.1
theorem rN {d:D}(p:aX d=true):mL d=true∨∃ ds,d=.tup ds:=by
 cases d<;>first|exact .inl rfl|exact .inr ⟨_,rfl⟩|cases p
theorem Hg (I:Inv X pins σ H s):∀(n:Nat){d d':D}{A:Around}{v v':V}{u u':Value},cI d<=n->aX d=true->aX d'=true->Rep X.K H d v->RelV v u->Rep X.K H d' v'->RelV v' u'->A.units+n+2<cLine ->
  tZ A s u u' (bG d d'):=by
 intro n
 induction n with
 |zero =>
  intro d d' A v v' u u' hn p p' r rv r' aZ hu
  have iF:A.units<cLine:=by omega
  rcases rN p with q|⟨ds,rfl⟩
  ·rcases rN p' with q'|⟨iK,rfl⟩
   ·exact tK q q' r rv r' aZ
   ·obtain⟨b,us,rfl,h2,q2⟩:=r'.bM
    cases aZ
    obtain⟨aD,r1,p1,_⟩:=I.tuple h2
    have:=(fY p1 iF q r rv).2
    have e:bG d (.tup iK)=false:=by cases d<;>first|rfl|cases q
    rw[e];exact this
  ·simp only[cI]at hn;omega
 |succ n ih =>
  intro d d' A v v' u u' hn p p' r rv r' aZ hu
  have iF:A.units<cLine:=by omega
  rcases rN p with q|⟨ds,rfl⟩
  ·rcases rN p' with q'|⟨iK,rfl⟩
   ·exact tK q q' r rv r' aZ
   ·obtain⟨b,us,rfl,h2,q2⟩:=r'.bM
    cases aZ
    obtain⟨aD,r1,p1,_⟩:=I.tuple h2
    have:=(fY p1 iF q r rv).2
    have e:bG d (.tup iK)=false:=by cases d<;>first|rfl|cases q
    rw[e];exact this
  ·obtain⟨a,vs,rfl,h1,q1⟩:=r.bM
   cases rv
   rcases rN p' with q'|⟨iK,rfl⟩
   ·obtain⟨aD,r1,p1,_⟩:=I.tuple h1
    have:=(fY p1 iF q' r' aZ).1
    have e:bG (.tup ds) d'=false:=by cases d'<;>first|rfl|cases q'
    rw[e];exact this
   ·obtain⟨b,us,rfl,h2,q2⟩:=r'.bM
    cases aZ
    have pd:bL ds=true:=by simpa [aX]using p
    have pd':bL iK=true:=by simpa [aX]using p'
    have e0:bG (.tup ds) (.tup iK)=fS ds iK:=by simp only[bG]
    rw[e0]
    refine FW I (fun j=>match ds[j]?,iK[j]? with|some x,some y=>bG x y|_,_=>true) h1 h2 iF (fun e=>?_) (fun j v v' u u' e1 e2 rv aZ=>?_) ?_
    ·subst e
     have:=wQ I (cI (.tup ds)) (Nat.le_refl _) p p' r r'
     cases this
     exact jK ds pd
    ·obtain⟨x,f1,g1⟩:=aK.get' q1 e1
     obtain⟨y,f2,g2⟩:=aK.get' q2 e2
     simp only[f1,f2]
     have hx:=iH (List.mem_of_getElem? f1)
     simp only[cI]at hn
     exact(ih (by omega) (lF pd (List.mem_of_getElem? f1)) (lF pd' (List.mem_of_getElem? f2)) g1 rv g2 aZ (by simp only[Around.in1_units];omega)).2.1
    ·rw[<-q1.length,<-q2.length]
     exact sT _ fun j x y e1 e2=>by simp only[e1,e2]
end
end L3
end
section
namespace L3
open PySem PySem.Spec PyProof.Rows L2 PySem.SeqAt
noncomputable def oY (st:aB):D->Option (List D)
 |.ref a=>match st a with
  |some (.lst xs)=>some xs
  |_=>none
 |.bB xs=>some xs
 |_=>none
theorem kinds {st:aB}{d:D}(p:fK st d=true):mL d=true∨(∃ ds,d=.tup ds/\gC st ds=true)∨∃ xs,oY st d=some xs/\bL xs=true/\cG xs<=kM:=by
 cases d with
 |tup ds=>exact .inr (.inl ⟨ds,rfl,by simpa [fK]using p⟩)
 |ref a =>
  simp only[fK]at p
  cases q:st a with
  |none=>rw[q]at p;cases p
  |some o=>cases o with
   |lst xs =>
    rw[q]at p
    simp only[LL,Bool.and_eq_true,decide_eq_true_eq]at p
    exact .inr (.inr ⟨xs,by simp [oY,q],p⟩)
   |dic _ _=>rw[q]at p;cases p
   |ins _ _=>rw[q]at p;cases p
   |tab _ _=>rw[q]at p;cases p
 |bB xs =>
  simp only[fK,Bool.and_eq_true,decide_eq_true_eq]at p
  exact .inr (.inr ⟨xs,rfl,p⟩)
 |cM _ _=>cases p
 |exc _=>cases p
 |_=>exact .inl rfl
theorem A3 {st:aB}{d d':D}{xs ys:List D}(h:oY st d=some xs)(h':oY st d'=some ys):bK st d d'=fS xs ys:=by
 cases d with
 |ref a =>
  simp only[oY]at h
  split at h
  ·rename_i zs e
   cases h
   cases d' with
   |ref b =>
    simp only[oY]at h'
    split at h'
    ·rename_i ws e'
     cases h'
     simp only[bK,e,e',DI]
    ·cases h'
   |bB ws=>cases h';simp only[bK,e,DI]
   |_=>cases h'
  ·cases h
 |bB zs =>
  cases h
  cases d' with
  |ref b =>
   simp only[oY]at h'
   split at h'
   ·rename_i ws e'
    cases h'
    simp only[bK,e',DI]
   ·cases h'
  |bB ws=>cases h';simp only[bK]
  |_=>cases h'
 |_=>cases h
theorem zN {st:aB}{d d':D}{xs:List D}(h:oY st d=some xs)(p:mL d'=true):bK st d d'=false/\bK st d' d=false:=by
 cases d<;>first|(cases h;done)|skip
 all_goals (cases d'<;>first|(cases p;done)|exact⟨rfl,rfl⟩|(simp [bK];done))
theorem EB {st:aB}{d:D}{ds xs:List D}(h:oY st d=some xs):bK st d (.tup ds)=false/\bK st (.tup ds) d=false:=by
 cases d<;>first|(cases h;done)|exact⟨rfl,rfl⟩|(simp [bK];done)
theorem AR {st:aB}{d d':D}(p:mL d=true)(p':mL d'=true):bK st d d'=bG d d':=by
 cases d<;>first|(cases p;done)|skip
 all_goals (cases d'<;>first|(cases p';done)|rfl|(simp [bK,bG];done))
theorem EW {st:aB}{d:D}{ds:List D}(p:mL d=true):bK st d (.tup ds)=false/\bK st (.tup ds) d=false:=by
 cases d<;>first|(cases p;done)|exact⟨rfl,rfl⟩|(simp [bK];done)
theorem fU {st:aB}:∀{ds:List D}{d:D},gC st ds=true->d∈ds->fK st d=true
 |e::ds,d,h,m=>by
  simp only[gC,Bool.and_eq_true]at h
  rcases List.mem_cons.mp m with rfl|m
  ·exact h.1
  ·exact fU h.2 m
theorem GH {st:aB}:∀{ds es:List D}(e:Nat->Bool),(∀ j d d',ds[j]? = some d->es[j]? = some d'->e j=bK st d d')->((List.range (min ds.length es.length)).all e&&ds.length==es.length)=hU st ds es
 |[],[],e,h=>by simp [hU]
 |[],_::_,e,h=>by simp [hU]
 |_::_,[],e,h=>by simp [hU]
 |d::ds,d'::es,e,h=>by
  have ih:=GH (fun j=>e (j+1)) fun j x x' e1 e2=>h (j+1) x x' (by simpa using e1) (by simpa using e2)
  have h0:=h 0 d d' rfl rfl
  simp only[hU,List.length_cons,Nat.add_min_add_right,List.range_succ_eq_map,List.all_cons,List.all_map,Function.comp_def]
  rw[<-ih,h0]
  have hl:(ds.length+1==es.length+1)=(ds.length==es.length):=by simp
  rw[hl,Bool.and_assoc]
section
variable {X:Cx}{pins:List (Addr×Obj)}{σ:L2.St}{H:Hp}{s:Shared}{st:aB}
theorem fH {K:PySem.W.Frag}{d:D}{v:V}{xs:List D}(ok:aO K st H)(h:oY st d=some xs)(r:Rep K H d v):∃ a vs,v=.ref a/\cZ K H a vs/\aK K H xs vs:=by
 cases r with
 |ref a =>
 simp only[oY]at h
 split at h
 ·rename_i zs e
  cases h
  obtain⟨vs,g,q⟩:=ok.lst e
  exact⟨a,vs,rfl,cZ.of g,q⟩
 ·cases h
 |bB f q=>cases h;exact⟨_,_,rfl,f.sq,q⟩
 |_=>cases h
theorem pO (I:Inv X pins σ H s):∀{ds es:List D}{vs:List V},bL ds=true->bL es=true->aK X.K H ds vs->aK X.K H es vs->ds=es
 |_,_,_,_,_,.nil,.nil=>rfl
 |_,_,_,p,p',.cons h r,.cons h' r'=>by
  simp only[bL,Bool.and_eq_true]at p p'
  rw[wQ I _ (Nat.le_refl _) p.1 p'.1 h h',pO I p.2 p'.2 r r']
theorem BB (I:Inv X pins σ H s){a:Addr}{vs us:List V}(h:cZ X.K H a vs)(h':dP X.K H a us):False:=by
 obtain⟨aD,_,p1,_⟩:=I.list h
 obtain⟨jts,_,p2,_⟩:=I.tuple h'
 exact ne_of_list_tuple p1.isList p2 rfl
theorem SR (I:Inv X pins σ H s)(ok:aO X.K st H):∀(n:Nat){d d':D}{v:V},cI d<=n->fK st d=true->fK st d'=true->Rep X.K H d v->Rep X.K H d' v->bK st d d'=true:=by
 intro n
 induction n with
 |zero =>
  intro d d' v hn p p' r r'
  rcases kinds p with q|⟨ds,rfl,q⟩|⟨xs,q,q1,q2⟩
  ·rcases kinds p' with q'|⟨iK,rfl,q'⟩|⟨ys,q',q1',q2'⟩
   ·rw[AR q q']
    have pd:aX d=true:=by cases d<;>first|rfl|cases q
    have pd':aX d'=true:=by cases d'<;>first|rfl|cases q'
    rw[wQ I _ (Nat.le_refl _) pd pd' r r']
    exact tN d' pd'
   ·obtain⟨a,vs,rfl,_⟩:=r'.bM
    cases r<;>cases q
   ·obtain⟨a,vs,rfl,_⟩:=fH ok q' r'
    cases r<;>cases q
  ·simp only[cI]at hn;omega
  ·obtain⟨a,vs,rfl,f1,g1⟩:=fH ok q r
   rcases kinds p' with q'|⟨iK,rfl,q'⟩|⟨ys,q',q1',q2'⟩
   ·cases r'<;>cases q'
   ·obtain⟨b,us,e,f2,g2⟩:=r'.bM
    cases e
    exact(BB I f1 f2).elim
   ·obtain⟨b,us,e,f2,g2⟩:=fH ok q' r'
    cases e
    cases I.oH f1 f2
    rw[A3 q q',pO I q1 q1' g1 g2]
    exact jK _ q1'
 |succ n ih =>
  intro d d' v hn p p' r r'
  rcases kinds p with q|⟨ds,rfl,q⟩|⟨xs,q,q1,q2⟩
  ·rcases kinds p' with q'|⟨iK,rfl,q'⟩|⟨ys,q',q1',q2'⟩
   ·rw[AR q q']
    have pd:aX d=true:=by cases d<;>first|rfl|cases q
    have pd':aX d'=true:=by cases d'<;>first|rfl|cases q'
    rw[wQ I _ (Nat.le_refl _) pd pd' r r']
    exact tN d' pd'
   ·obtain⟨a,vs,rfl,_⟩:=r'.bM
    cases r<;>cases q
   ·obtain⟨a,vs,rfl,_⟩:=fH ok q' r'
    cases r<;>cases q
  ·obtain⟨a,vs,rfl,f1,g1⟩:=r.bM
   rcases kinds p' with q'|⟨iK,rfl,q'⟩|⟨ys,q',q1',q2'⟩
   ·cases r'<;>cases q'
   ·obtain⟨b,us,e,f2,g2⟩:=r'.bM
    cases e
    cases I.pW f1 f2
    simp only[cI]at hn
    have go:∀(ds es:List D)(vs:List V),cG ds<=n->gC st ds=true->gC st es=true->aK X.K H ds vs->aK X.K H es vs->hU st ds es=true:=by
     intro ds
     induction ds with
     |nil=>intro es vs _ _ _ r r';cases r;cases r';rfl
     |cons d ds ihs =>
      intro es vs hd pp pp' r r'
      cases r with
      |cons r1 r2=>cases r' with
       |cons r1' r2' =>
        simp only[cG]at hd
        simp only[gC,Bool.and_eq_true]at pp pp'
        simp only[hU,Bool.and_eq_true]
        exact⟨ih (by omega) pp.1 pp'.1 r1 r1',ihs _ _ (by omega) pp.2 pp'.2 r2 r2'⟩
    simp only[bK]
    exact go ds iK vs (by omega) q q' g1 g2
   ·obtain⟨b,us,e,f2,g2⟩:=fH ok q' r'
    cases e
    exact(BB I f2 f1).elim
  ·obtain⟨a,vs,rfl,f1,g1⟩:=fH ok q r
   rcases kinds p' with q'|⟨iK,rfl,q'⟩|⟨ys,q',q1',q2'⟩
   ·cases r'<;>cases q'
   ·obtain⟨b,us,e,f2,g2⟩:=r'.bM
    cases e
    exact(BB I f1 f2).elim
   ·obtain⟨b,us,e,f2,g2⟩:=fH ok q' r'
    cases e
    cases I.oH f1 f2
    rw[A3 q q',pO I q1 q1' g1 g2]
    exact jK _ q1'
theorem mB {A:Around}{l b:Addr}{aD jts:Array Value}(hl:s.heap.IsList l aD)(hb:s.heap.IsTuple b jts)(hu:A.units<cLine):tZ A s (.ref l) (.ref b) false/\tZ A s (.ref b) (.ref l) false :=
 ⟨⟨RcAt.list_tuple hl hb hu,EqAt.list_tuple hl hb hu,RcNeAt.list_tuple hl hb hu⟩,⟨RcAt.tuple_list hb hl hu,EqAt.tuple_list hb hl hu,RcNeAt.tuple_list hb hl hu⟩⟩
theorem LH (I:Inv X pins σ H s){A:Around}{a b:Addr}{vs us:List V}{xs ys:List D}(f1:cZ X.K H a vs)(g1:aK X.K H xs vs)(f2:cZ X.K H b us)(g2:aK X.K H ys us)(p1:bL xs=true)(d1:cG xs<=kM)(p2:bL ys=true)
  (hu:A.units+85<cLine):tZ A s (.ref a) (.ref b) (fS xs ys):=by
 refine OD I (fun j=>match xs[j]?,ys[j]? with|some x,some y=>bG x y|_,_=>true) f1 f2 (by omega) (fun e=>?_) (fun j v v' u u' e1 e2 rv aZ=>?_) (fun h=>?_) (fun h=>?_)
 ·subst e
  cases I.oH f1 f2
  rw[pO I p1 p2 g1 g2]
  exact jK _ p2
 ·obtain⟨x,h1,k1⟩:=aK.get' g1 e1
  obtain⟨y,h2,k2⟩:=aK.get' g2 e2
  simp only[h1,h2]
  have hx:=iH (List.mem_of_getElem? h1)
  have hD:kM=80:=rfl
  exact(Hg I kM (by omega) (lF p1 (List.mem_of_getElem? h1)) (lF p2 (List.mem_of_getElem? h2)) k1 rv k2 aZ (by simp only[Around.in1_units];omega)).2.1
 ·exact EJ (by rw[g1.length,g2.length];exact h)
 ·rw[<-g1.length]
  exact M9 _ (by rw[g1.length,g2.length];exact h) fun j x y e1 e2=>by simp only[e1,e2]
theorem J6 (I:Inv X pins σ H s)(ok:aO X.K st H):∀(n:Nat){d d':D}{A:Around}{v v':V}{u u':Value},cI d<=n->fK st d=true->fK st d'=true->Rep X.K H d v->RelV v u->Rep X.K H d' v'->RelV v' u'->A.units+n+85<cLine ->
  tZ A s u u' (bK st d d'):=by
 intro n
 induction n with
 |zero =>
  intro d d' A v v' u u' hn p p' r rv r' aZ hu
  have iF:A.units<cLine:=by omega
  rcases kinds p with q|⟨ds,rfl,q⟩|⟨xs,q,q1,q2⟩
  ·rcases kinds p' with q'|⟨iK,rfl,q'⟩|⟨ys,q',q1',q2'⟩
   ·rw[AR q q'];exact tK q q' r rv r' aZ
   ·obtain⟨b,us,rfl,h2,g2⟩:=r'.bM
    cases aZ
    obtain⟨aD,r1,p1,_⟩:=I.tuple h2
    rw[(EW q).1]
    exact(fY p1 iF q r rv).2
   ·obtain⟨b,us,rfl,h2,g2⟩:=fH ok q' r'
    cases aZ
    obtain⟨aD,r1,p1,_⟩:=I.list h2
    rw[(zN q' q).2]
    exact(kG p1.isList iF q r rv).2
  ·simp only[cI]at hn;omega
  ·obtain⟨a,vs,rfl,f1,g1⟩:=fH ok q r
   cases rv
   obtain⟨aD,r1,p1,_⟩:=I.list f1
   rcases kinds p' with q'|⟨iK,rfl,q'⟩|⟨ys,q',q1',q2'⟩
   ·rw[(zN q q').1]
    exact(kG p1.isList iF q' r' aZ).1
   ·obtain⟨b,us,rfl,h2,g2⟩:=r'.bM
    cases aZ
    obtain⟨jts,r2,p2,_⟩:=I.tuple h2
    rw[(EB q).1]
    exact(mB p1.isList p2 iF).1
   ·obtain⟨b,us,rfl,h2,g2⟩:=fH ok q' r'
    cases aZ
    rw[A3 q q']
    exact LH I f1 g1 h2 g2 q1 q2 q1' (by omega)
 |succ n ih =>
  intro d d' A v v' u u' hn p p' r rv r' aZ hu
  have iF:A.units<cLine:=by omega
  rcases kinds p with q|⟨ds,rfl,q⟩|⟨xs,q,q1,q2⟩
  ·rcases kinds p' with q'|⟨iK,rfl,q'⟩|⟨ys,q',q1',q2'⟩
   ·rw[AR q q'];exact tK q q' r rv r' aZ
   ·obtain⟨b,us,rfl,h2,g2⟩:=r'.bM
    cases aZ
    obtain⟨aD,r1,p1,_⟩:=I.tuple h2
    rw[(EW q).1]
    exact(fY p1 iF q r rv).2
   ·obtain⟨b,us,rfl,h2,g2⟩:=fH ok q' r'
    cases aZ
    obtain⟨aD,r1,p1,_⟩:=I.list h2
    rw[(zN q' q).2]
    exact(kG p1.isList iF q r rv).2
  ·obtain⟨a,vs,rfl,f1,g1⟩:=r.bM
   cases rv
   obtain⟨aD,r1,p1,_⟩:=I.tuple f1
   rcases kinds p' with q'|⟨iK,rfl,q'⟩|⟨ys,q',q1',q2'⟩
   ·rw[(EW q').2]
    exact(fY p1 iF q' r' aZ).1
   ·obtain⟨b,us,rfl,h2,g2⟩:=r'.bM
    cases aZ
    have e0:bK st (.tup ds) (.tup iK)=hU st ds iK:=by simp only[bK]
    refine FW I (fun j=>match ds[j]?,iK[j]? with|some x,some y=>bK st x y|_,_=>true) f1 h2 iF (fun e=>?_) (fun j v v' u u' e1 e2 rv aZ=>?_) ?_
    ·subst e
     exact SR I ok _ (Nat.le_refl _) p p' r r'
    ·obtain⟨x,k1,l1⟩:=aK.get' g1 e1
     obtain⟨y,k2,l2⟩:=aK.get' g2 e2
     simp only[k1,k2]
     have hx:=iH (List.mem_of_getElem? k1)
     simp only[cI]at hn
     exact(ih (by omega) (fU q (List.mem_of_getElem? k1)) (fU q' (List.mem_of_getElem? k2)) l1 rv l2 aZ (by simp only[Around.in1_units];omega)).2.1
    ·rw[<-g1.length,<-g2.length,e0]
     exact GH _ fun j x y e1 e2=>by simp only[e1,e2]
   ·obtain⟨b,us,rfl,h2,g2⟩:=fH ok q' r'
    cases aZ
    obtain⟨jts,r2,p2,_⟩:=I.list h2
    rw[(EB q').2]
    exact(mB p2.isList p1 iF).2
  ·obtain⟨a,vs,rfl,f1,g1⟩:=fH ok q r
   cases rv
   obtain⟨aD,r1,p1,_⟩:=I.list f1
   rcases kinds p' with q'|⟨iK,rfl,q'⟩|⟨ys,q',q1',q2'⟩
   ·rw[(zN q q').1]
    exact(kG p1.isList iF q' r' aZ).1
   ·obtain⟨b,us,rfl,h2,g2⟩:=r'.bM
    cases aZ
    obtain⟨jts,r2,p2,_⟩:=I.tuple h2
    rw[(EB q).1]
    exact(mB p1.isList p2 iF).1
   ·obtain⟨b,us,rfl,h2,g2⟩:=fH ok q' r'
    cases aZ
    rw[A3 q q']
    exact LH I f1 g1 h2 g2 q1 q2 q1' (by omega)
end
end L3
end
section
namespace L3
open PySem PySem.Spec PyProof.Rows L2 PySem.SeqAt
mutual
inductive iI (h:Heap):D->Value->Prop where
 |str (x:List Nat)(t:Tok):iI h (.str x) (.str ⟨x.toArray⟩ t)
 |bl (b:Bool):iI h (.bl b) (.bool b)
 |tup {ds:List D}{a:Addr}{o:Obj}{aD:Array Value}{n:Nat}(e:h.get? a=some o)(c:o.cls=.type "tuple")(d:o.data=.seq aD n)(r:fG h ds aD.toList):iI h (.tup ds) (.ref a)
inductive fG (h:Heap):List D->List Value->Prop where
 |nil:fG h [] []
 |cons {d:D}{ds:List D}{v:Value}{vs:List Value}(r:iI h d v)(rs:fG h ds vs):fG h (d::ds) (v::vs)
end
section
variable {h h':Heap}
theorem iI.str_inv {d:D}{x:Str}{t:Tok}(q:iI h d (.str x t)):∃ y,d=.str y/\x=⟨y.toArray⟩:=by
 cases q;exact⟨_,rfl,rfl⟩
theorem iI.eJ {d:D}{b:Bool}(q:iI h d (.bool b)):d=.bl b:=by
 cases q;rfl
theorem iI.cE {d:D}{a:Addr}(q:iI h d (.ref a)):∃ ds o aD n,d=.tup ds/\h.get? a=some o/\o.cls=.type "tuple" /\ o.data=.seq aD n/\fG h ds aD.toList:=by
 cases q with|tup e c d r=>exact⟨_,_,_,_,rfl,e,c,d,r⟩
mutual
theorem iI.inj:∀{x y:D}{v:Value},iI h x v->iI h y v->x=y
 |_,y,_,.str x t,q=>by
  obtain⟨z,rfl,e⟩:=q.str_inv
  have:x.toArray=z.toArray:=congrArg Str.cps e
  have:x=z:=by simpa using this
  rw[this]
 |_,y,_,.bl b,q=>q.eJ.symm
 |_,y,_,.tup e c d r,q=>by
  obtain⟨ds,o,aD,n,rfl,e',c',d',r'⟩:=q.cE
  rw[e]at e';cases e'
  rw[d]at d'
  injection d' with d1 d2
  subst d1
  rw[fG.inj r r']
theorem fG.inj:∀{xs ys:List D}{vs:List Value},fG h xs vs->fG h ys vs->xs=ys
 |_,_,_,.nil,q=>by cases q;rfl
 |_,_,_,.cons r rs,q=>by cases q with|cons r' rs'=>rw[iI.inj r r',fG.inj rs rs']
end
mutual
theorem iI.keeps {b:Addr}{ob:Obj}{es:Array DictEntry}{ep:Nat}(ho:h.get? b=some ob)(hd:ob.data=.dict es ep)(hs:Heap.SameBut b h h'):∀{x:D}{v:Value},iI h x v->iI h' x v
 |_,_,.str x t=>.str x t
 |_,_,.bl b=>.bl b
 |_,_,@iI.tup _ ds a o aD n e c d r=>.tup (by
  have ne:a≠b:=by
   intro z
   rw[z,ho]at e;cases e
   rw[hd]at d;cases d
  exact(hs.2 a ne).trans e) c d (fG.keeps ho hd hs r)
theorem fG.keeps {b:Addr}{ob:Obj}{es:Array DictEntry}{ep:Nat}(ho:h.get? b=some ob)(hd:ob.data=.dict es ep)(hs:Heap.SameBut b h h'):∀{xs:List D}{vs:List Value},fG h xs vs->fG h' xs vs
 |_,_,.nil=>.nil
 |_,_,.cons r rs=>.cons (iI.keeps ho hd hs r) (fG.keeps ho hd hs rs)
end
theorem fG.length:∀{xs:List D}{vs:List Value},fG h xs vs->xs.length=vs.length
 |_,_,.nil=>rfl
 |_,_,.cons _ rs=>by simp [fG.length rs]
theorem fG.get:∀{xs:List D}{vs:List Value}{j:Nat}{v:Value},fG h xs vs->vs[j]? = some v->∃ x,xs[j]? = some x/\iI h x v
 |_,_,_,_,.nil,e=>by simp at e
 |_,_,0,_,.cons r _,e=>by simp at e;subst e;exact⟨_,rfl,r⟩
 |_,_,j+1,v,.cons _ rs,e=>by
  obtain⟨x,e1,e2⟩:=fG.get (j:=j) (v:=v) rs (by simpa using e)
  exact⟨x,by simpa using e1,e2⟩
end
theorem uM (w:World):∀ a b:List D,gE w (a++b)=gE w a++gE w b
 |[],b=>by simp [gE]
 |d::a,b=>by simp [gE,uM w a b]
theorem uB:∀ a b:List D,iZ (a++b)=iZ a+iZ b
 |[],b=>by simp [iZ]
 |d::a,b=>by simp [iZ,uB a b,Nat.add_assoc]
theorem HP {prog:Program}{w:World}{b:Bool}{A:Around}{E:Value->Shared->Prop}{s:Shared}{Q:Int->Shared->Prop}(hu:A.units<cLine)(h:Q (nT w (.bl b)) { s with toks:=s.toks+qH (.bl b) }):wpAny (model prog w) A (pyHash (.bool b)) Q E s:=by
 refine PySem.W.pyHash_slot (T :="bool") rfl PySem.F.slot_bool_hash PySem.F.entry_int_hash (PySem.F.args_int_hash_1 _) (beq_builtin_none _) (.inr hu) ?_
 cases b
 ·exact(show wpAny _ _ (do ret (<-mkInt 0)) _ _ s from wpAny_bind (wpAny_mkInt (wpAny_pure ⟨_,_,rfl,h⟩)))
 ·exact(show wpAny _ _ (do ret (<-mkInt 1)) _ _ s from wpAny_bind (wpAny_mkInt (wpAny_pure ⟨_,_,rfl,h⟩)))
theorem RR {prog:Program}{w:World}:∀(n:Nat){d:D}{v:Value}{A:Around}{E:Value->Shared->Prop}{s:Shared}{Q:Int->Shared->Prop},cI d<=n->iI s.heap d v->A.units+n<cLine->Q (nT w d) { s with toks:=s.toks+qH d } ->
  wpAny (model prog w) A (pyHash v) Q E s:=by
 intro n
 induction n with
 |zero =>
  intro d v A E s Q hn hk hu h
  cases hk with
  |str x t =>
   simp only[nT,qH]at h
   exact(strKind prog w).pyHash (k:=⟨x.toArray⟩) (strKind_is _ _ _ _) h
  |bl b=>exact HP (by omega) h
  |tup e c dd r=>simp only[cI]at hn;omega
 |succ n ih =>
  intro d v A E s Q hn hk hu h
  cases hk with
  |str x t =>
   simp only[nT,qH]at h
   exact(strKind prog w).pyHash (k:=⟨x.toArray⟩) (strKind_is _ _ _ _) h
  |bl b=>exact HP (by omega) h
  |@tup ds a o items m ho c hd hi =>
   have hT:s.TypeIs (.ref a) "tuple":=⟨o,ho,c⟩
   simp only[cI]at hn
   simp only[nT,qH]at h
   unfold pyHash
   first|unfold pyHashByItsType|skip
   first|refine wpAny_bind (wpAny_cRoomFor_or (.inr (by omega)) ?_)|skip
   refine wpAny_bind (wpAny_specialOf hT PySem.F.slot_tuple_hash.lookup ?_)
   show wpAny _ _ (if(some (Value.builtin "tuple.__hash__")==some Value.none)=true then _ else _) Q E s
   rw[if_neg (by rw[beq_builtin_none];exact Bool.false_ne_true)]
   refine wpAny_bind (wpAny_specialOf hT PySem.F.slot_tuple_hash.lookup ?_)
   show wpAny _ _ (callSpecialIfBoundUnlessNone? (.ref a) "__hash__" _ >>= _) Q E s
   refine wpAny_bind (wpAny_callSpecialIfBoundUnlessNone?_slot hT PySem.F.slot_tuple_hash (wpAny_call_entry PySem.F.slot_tuple_hash hT PySem.F.entry_tuple_hash ?_ (PySem.F.args_tuple_hash_1 _)))
   show wpAny _ _ (Builtin.Tuple.tupleItemsOf (.ref a) >>= _) _ _ s
   refine wpAny_bind (wpAny_tupleItemsOf ho hd ?_)
   refine wpAny_bind ?_
   rw[<-Array.forIn_toList]
   refine wpAny_forIn_list _
    (fun rest (b:Array Int) s'=>∃ done left,ds=done++left/\fG s.heap left rest/\b.toList=gE w done/\s' = { s with toks:=s.toks+iZ done })
    _ ?_ ?_ _ _ ⟨[],ds,rfl,hi,rfl,rfl⟩
   ·rintro x rest b s' ⟨done,left,e0,hl,hb,rfl⟩
    cases hl with
    |@cons k ks' _ _ h1 hl' =>
     have hdep:cI k<=cG ds:=iH (by rw[e0];simp)
     refine wpAny_bind (ih (s:={ s with toks:=s.toks+iZ done }) (d:=k) (by omega) h1 (by simp only[Around.in1_units];omega) ?_)
     have e1:iZ (done++[k])=iZ done+qH k:=by rw[uB];simp [iZ]
     have e2:gE w (done++[k])=gE w done++[nT w k]:=by rw[uM];simp [gE]
     first
      |exact wpAny_pure ⟨done++[k],ks',by simp [e0],hl',by simp [hb,e2],by simp [e1,Nat.add_assoc]⟩
      |exact wpAny_bind (wpAny_pure (wpAny_pure ⟨done++[k],ks',by simp [e0],hl',by simp [hb,e2],by simp [e1,Nat.add_assoc]⟩))
   ·rintro b s' ⟨done,left,e0,hl,hb,rfl⟩
    cases hl
    rw[List.append_nil]at e0
    subst e0
    show wpAny _ _ (retInt (Builtin.Tuple.tupleHashOf b.toList)) _ _ _
    rw[hb]
    refine wpAny_ret_mkInt ?_
    show wpAny _ _ (if(decide (-(2:Int) ^ 63<=Builtin.Tuple.tupleHashOf (gE w ds))&&decide (Builtin.Tuple.tupleHashOf (gE w ds)<2 ^ 63))=true then _ else _) Q E _
    unfold reduceHash at h
    by_cases hr:(decide (-(2:Int) ^ 63<=Builtin.Tuple.tupleHashOf (gE w ds))&&decide (Builtin.Tuple.tupleHashOf (gE w ds)<2 ^ 63))=true
    ·rw[if_pos hr]
     rw[if_pos hr]at h
     exact wpAny_pure (by simpa [Nat.add_assoc]using h)
    ·rw[if_neg hr]
     rw[if_neg hr]at h
     exact wpAny_bind (wpAny_rule (wpAny_pure (by simpa [Nat.add_assoc]using h)))
mutual
theorem ED:∀ d:D,iD d=true->aX d=true
 |.str _,_=>rfl
 |.tup ds,h=>by simp only[iD]at h;simp only[aX];exact vC ds h
 |.non,h=>by cases h
 |.bl _,_=>rfl
 |.int _,h=>by cases h
 |.ref _,h=>by cases h
 |.cM _ _,h=>by cases h
 |.bB _,h=>by cases h
 |.exc _,h=>by cases h
theorem vC:∀ ds:List D,iL ds=true->bL ds=true
 |[],_=>rfl
 |d::ds,h=>by
  simp only[iL,Bool.and_eq_true]at h
  simp only[bL,Bool.and_eq_true]
  exact⟨ED d h.1,vC ds h.2⟩
end
mutual
theorem M3:∀ x y:D,iD x=true->iD y=true->bG x y=true->x=y
 |.str a,y,_,_,e=>by
  cases y with
  |str b=>simp only[bG,beq_iff_eq]at e;rw[e]
  |_=>simp [bG]at e
 |.bl a,y,_,h',e=>by
  cases y with
  |bl b=>simp only[bG,beq_iff_eq]at e;rw[e]
  |int _=>cases h'
  |_=>simp [bG]at e
 |.tup as,y,h,h',e=>by
  cases y with
  |tup bs=>simp only[bG]at e;simp only[iD]at h h';rw[HG as bs h h' e]
  |_=>simp [bG]at e
 |.non,_,h,_,_=>by cases h
 |.int _,_,h,_,_=>by cases h
 |.ref _,_,h,_,_=>by cases h
 |.cM _ _,_,h,_,_=>by cases h
 |.bB _,_,h,_,_=>by cases h
 |.exc _,_,h,_,_=>by cases h
theorem HG:∀ xs ys:List D,iL xs=true->iL ys=true->fS xs ys=true->xs=ys
 |[],[],_,_,_=>rfl
 |[],_::_,_,_,e=>by cases e
 |_::_,[],_,_,e=>by cases e
 |x::xs,y::ys,h,h',e=>by
  simp only[fS,Bool.and_eq_true]at e
  simp only[iL,Bool.and_eq_true]at h h'
  rw[M3 x y h.1 h'.1 e.1,HG xs ys h.2 h'.2 e.2]
end
noncomputable instance decD:DecidableEq D:=fun a b=>Classical.propDecidable (a=b)
theorem BA {x y:D}(h:iD x=true)(h':iD y=true):bG x y=decide (x=y):=by
 by_cases e:x=y
 ·subst e;rw[tN x (ED x h)];simp
 ·rw[decide_eq_false e]
  cases q:bG x y with
  |false=>rfl
  |true=>exact(e (M3 x y h h' q)).elim
theorem Z0:∀(n:Nat){x y:D}{u v:Value}{A:Around}{s:Shared},cI x<=n->iI s.heap x u->iI s.heap y v->iD x=true->A.units+n+2<cLine->EqAt A s u v (bG x y):=by
 intro n
 induction n with
 |zero =>
  intro x y u v A s hn hx hy ht hu
  have iF:A.units<cLine:=by omega
  cases hx with
  |str a t =>
   cases hy with
   |str b t' =>
    have e:bG (.str a) (.str b)=((⟨a.toArray⟩:Str)==⟨b.toArray⟩):=by rw[DX];simp only[bG]
    rw[e]
    exact EqAt.str_str _ _ _ _
   |tup e c d r =>
    simp only[bG]
    exact EqAt.str_tuple _ _ (show s.heap.IsTuple _ _ from⟨_,e,c,_,d⟩) iF
   |bl b =>
    simp only[bG]
    exact EqAt.str_bool _ _ _
  |bl a =>
   cases hy with
   |str b t' =>
    simp only[bG]
    exact EqAt.bool_str _ _ _
   |bl b=>exact EqAt.bool_bool _ _
   |tup e c d r =>
    simp only[bG]
    exact EqAt.bool_tuple _ (show s.heap.IsTuple _ _ from⟨_,e,c,_,d⟩) iF
  |tup e c d r=>simp only[cI]at hn;omega
 |succ n ih =>
  intro x y u v A s hn hx hy ht hu
  have iF:A.units<cLine:=by omega
  cases hx with
  |str a t =>
   cases hy with
   |str b t' =>
    have e:bG (.str a) (.str b)=((⟨a.toArray⟩:Str)==⟨b.toArray⟩):=by rw[DX];simp only[bG]
    rw[e]
    exact EqAt.str_str _ _ _ _
   |tup e c d r =>
    simp only[bG]
    exact EqAt.str_tuple _ _ (show s.heap.IsTuple _ _ from⟨_,e,c,_,d⟩) iF
   |bl b =>
    simp only[bG]
    exact EqAt.str_bool _ _ _
  |bl a =>
   cases hy with
   |str b t' =>
    simp only[bG]
    exact EqAt.bool_str _ _ _
   |bl b=>exact EqAt.bool_bool _ _
   |tup e c d r =>
    simp only[bG]
    exact EqAt.bool_tuple _ (show s.heap.IsTuple _ _ from⟨_,e,c,_,d⟩) iF
  |@tup ds a o aD m e c d r =>
   have hp1:s.heap.IsTuple a aD:=⟨_,e,c,_,d⟩
   cases hy with
   |str b t' =>
    simp only[bG]
    exact EqAt.tuple_str _ _ hp1 iF
   |bl b =>
    simp only[bG]
    exact EqAt.tuple_bool _ hp1 iF
   |@tup es b o' jts m' e' c' d' r' =>
    have iG:s.heap.IsTuple b jts:=⟨_,e',c',_,d'⟩
    have e0:bG (.tup ds) (.tup es)=fS ds es:=by simp only[bG]
    rw[e0]
    have hts:iL ds=true:=by simpa [iD]using ht
    by_cases q:a=b
    ·subst q
     rw[e]at e';cases e'
     rw[d]at d';injection d' with d1 d2;subst d1
     rw[fG.inj r r',jK es (vC es (by rw[<-fG.inj r r'];exact hts))]
     exact EqAt.same _
    ·refine EqAt.of_refs q ?_
     have l1:aD.size=ds.length:=by rw[<-Array.length_toList];exact r.length.symm
     have l2:jts.size=es.length:=by rw[<-Array.length_toList];exact r'.length.symm
     have:=RcAt.tuples (e:=fun j=>match ds[j]?,es[j]? with|some x,some y=>bG x y|_,_=>true) hp1 iG iF (fun j h1 h2=>by
      obtain⟨x,f1,g1⟩:=r.get (j:=j) (v:=aD[j]) (by simp [h1])
      obtain⟨y,f2,g2⟩:=r'.get (j:=j) (v:=jts[j]) (by simp [h2])
      simp only[f1,f2]
      have hx:=iH (List.mem_of_getElem? f1)
      simp only[cI]at hn
      have htx:iD x=true:=by
       have:∀(l:List D)(x:D),iL l=true->x∈l->iD x=true:=by
        intro l
        induction l with
        |nil=>intro x _ hm;cases hm
        |cons z l ihl =>
         intro x hh hm
         simp only[iL,Bool.and_eq_true]at hh
         rcases List.mem_cons.mp hm with rfl|hm
         ·exact hh.1
         ·exact ihl x hh.2 hm
       exact this ds x hts (List.mem_of_getElem? f1)
      exact ih (by omega) g1 g2 htx (by simp only[Around.in1_units];omega))
     rw[l1,l2,sT _ fun j x y e1 e2=>by simp only[e1,e2]]at this
     exact this
theorem O8 {prog:Program}{w:World}:∀(n:Nat){d:D}{v:Value}{A:Around}{E:Value->Shared->Prop}{s:Shared}{Q:Bool->Shared->Prop},cI d<=n->iI s.heap d v->Q true s->wpAny (model prog w) A (eqIsQuiet n v) Q E s:=by
 intro n
 induction n with
 |zero =>
  intro d v A E s Q hn hk h
  cases hk with
  |str x t=>rw[eqIsQuiet_byValue _ rfl];exact wpAny_pure h
  |bl b=>rw[eqIsQuiet_byValue _ rfl];exact wpAny_pure h
  |tup e c dd r=>simp only[cI]at hn;omega
 |succ n ih =>
  intro d v A E s Q hn hk h
  cases hk with
  |str x t=>rw[eqIsQuiet_byValue _ rfl];exact wpAny_pure h
  |bl b=>rw[eqIsQuiet_byValue _ rfl];exact wpAny_pure h
  |@tup ds a o items m ho c hd hi =>
   have hT:s.TypeIs (.ref a) "tuple":=⟨o,ho,c⟩
   simp only[cI]at hn
   unfold eqIsQuiet
   refine wpAny_bind (wpAny_specialOf hT PySem.F.slot_tuple_eq.lookup ?_)
   show wpAny _ _ (isInstance (.ref a) (.type "tuple") >>= _) _ _ s
   refine wpAny_bind (wpAny_isInstance hT isSubtype_tuple_tuple ?_)
   simp only[Bool.not_true,Bool.false_eq_true,if_false]
   refine wpAny_bind (wpAny_seqItems ho hd ?_)
   refine wpAny_bind ?_
   show wpAny _ _ (forIn items _ _) _ _ s
   rw[<-Array.forIn_toList]
   refine wpAny_forIn_list _ (fun rest r s'=>r.1=none/\s'=s/\∃ ks,fG s.heap ks rest/\cG ks<=n) _ ?_ ?_ _ _ ⟨rfl,rfl,ds,hi,by omega⟩
   ·rintro v rest r s' ⟨hr,rfl,ks,hks,hdep⟩
    cases hks with
    |@cons k ks' _ _ h1 h2 =>
     simp only[cG]at hdep
     refine wpAny_bind (ih (d:=k) (by omega) h1 ?_)
     simp only[Bool.not_true,Bool.false_eq_true,if_false]
     exact wpAny_pure ⟨rfl,rfl,ks',h2,by omega⟩
   ·rintro⟨r1,r2⟩ s' ⟨hr,rfl,_⟩
    simp only at hr
    subst hr
    exact wpAny_pure h
theorem keyed.aJ {d:D}(h:keyed d):cI d<=8:=by
 cases d with
 |tup ds=>have:=h.2;simp only[cI];omega
 |_=>exact h.elim
theorem keyed.txt {d:D}(h:keyed d):iD d=true:=by
 cases d with
 |tup ds=>simp only[iD];exact h.1
 |_=>exact h.elim
noncomputable def wN (prog:Program)(w:World):HeapKind prog w D where
 is:=fun h d a=>keyed d/\iI h d (.ref a)
 hash:=nT w
 draws:=qH
 room:=fun A=>A.units+12<cLine
 inj:=fun hx hy=>hx.2.inj hy.2
 keeps:=fun x ho hd hs=>⟨x.1,x.2.keeps ho hd hs⟩
 pyHash:=fun hu hk h=>RR 8 hk.1.aJ hk.2 (by omega) h
 eqBool:=fun{A E s x y a b Q} hu hx hy h=>by
  have:=Z0 8 hx.1.aJ hx.2 hy.2 hx.1.txt (A:=A) (by omega) prog w E Q
  rw[BA hx.1.txt hy.1.txt]at this
  exact this h
 quiet:=fun hk h=>O8 8 hk.1.aJ hk.2 h
end L3
end
section
namespace L3
open PySem PySem.Spec PyProof.Rows L2 PySem.SeqAt
noncomputable def lV (X:Cx)(op:CmpOp)(W:D->D->aB->(Bool->Prop)->Prop):Prop :=
 ∀(pins:List (Addr×Obj))(s:Shared)(σ:L2.St)(H:Hp)(st:aB)(d d':D)(v v':V)(u u':Value)(P:Bool->Prop),Inv X pins σ H s->aO X.K st H->Rep X.K H d v->RelV v u->Rep X.K H d' v'->RelV v' u'->W d d' st P ->
 wpAny (model X.prog X.w) X.A (compareOp op u u') (fun r s'=>∃ k,r=.bool k/\P k/\Inv X pins σ H s') X.xe s
theorem AE (w:List Nat):∀ z:List Nat,occurs w z=true↔∃ i,i+w.length<=z.length/\(z.drop i).take w.length=w
 |[]=>by
  unfold occurs
  constructor
  ·intro h;rw[List.isEmpty_iff]at h;subst h;exact⟨0,by simp,by simp⟩
  ·rintro⟨i,h,_⟩;rw[List.isEmpty_iff];exact List.length_eq_zero_iff.mp (by simp only[List.length_nil]at h;omega)
 |c::r=>by
  unfold occurs
  rw[Bool.or_eq_true,AE w r,List.isPrefixOf_iff_prefix]
  constructor
  ·rintro(h|⟨i,h1,h2⟩)
   ·exact⟨0,by have:=h.length_le;omega,by rw[List.drop_zero];exact(List.prefix_iff_eq_take.mp h).symm⟩
   ·exact⟨i+1,by simp;omega,by simpa using h2⟩
  ·rintro⟨i,h1,h2⟩
   cases i with
   |zero=>exact .inl (by rw[List.drop_zero]at h2;rw[List.prefix_iff_eq_take];exact h2.symm)
   |succ i=>exact .inr ⟨i,by simp at h1;omega,by simpa using h2⟩
theorem CT (w z:List Nat):(!(Builtin.Str.occurrences ⟨z.toArray⟩ ⟨w.toArray⟩ 0 (⟨z.toArray⟩:Str).length 1).isEmpty)=occurs w z:=by
 rw[Bool.eq_iff_iff,PySem.StrLaws.found_iff,AE]
 refine⟨fun⟨i,h1,h2⟩=>⟨i,by simpa [Str.length]using h1,?_⟩,fun⟨i,h1,h2⟩=>⟨i,by simpa [Str.length]using h1,?_⟩⟩
 ·unfold Builtin.Str.subAt at h2
  have:=eq_of_beq h2
  simp only[Str.length,List.size_toArray]at this
  have e:=congrArg Array.toList this
  simp only[Array.toList_extract,List.extract_eq_take_drop,Nat.add_sub_cancel_left]at e
  exact e
 ·unfold Builtin.Str.subAt
  rw[beq_iff_eq]
  simp only[Str.length,List.size_toArray]
  apply Array.toList_inj.mp
  simp only[Array.toList_extract,List.extract_eq_take_drop,Nat.add_sub_cancel_left]
  exact h2
section
variable {X:Cx}{C:bC}{sub:Nat->Nat->Bool}{E:XK}{a b c e:Expr}{x y z:Ex}{pos:Pos}
theorem Ef (hu:X.A.units+180<cLine):lV X .Eq (cR .eq):=by
 intro pins s σ H st d d' v v' u u' P I ok r rv r' aZ ⟨p,p',q⟩
 have hD:kM=80:=rfl
 exact(J6 I ok 80 (by have:=p.2;omega) p.1 p'.1 r rv r' aZ (by omega)).1 _ _ _ _ ⟨_,rfl,q,I⟩
theorem Gg (hu:X.A.units+180<cLine):lV X .NotEq (cR .ne):=by
 intro pins s σ H st d d' v v' u u' P I ok r rv r' aZ ⟨p,p',q⟩
 have hD:kM=80:=rfl
 exact(J6 I ok 80 (by have:=p.2;omega) p.1 p'.1 r rv r' aZ (by omega)).2.2 _ _ _ _ ⟨_,rfl,q,I⟩
theorem DQ {op:CmpOp}{o:pE}{f:Int->Int->Bool}(hW:∀ d d' st P,cR o d d' st P=sP f d d' P)
  (rule:∀(i j:Int)(t u:Tok)(Q:Value->Shared->Prop)(s:Shared),Q (.bool (f i j)) s->wpAny (model X.prog X.w) X.A (compareOp op (.int i t) (.int j u)) Q X.xe s):lV X op (cR o):=by
 intro pins s σ H st d d' v v' u u' P I ok r rv r' aZ q
 rw[hW]at q
 unfold sP at q
 split at q
 ·cases r.int_inv;cases r'.int_inv
  obtain⟨t,rfl⟩:=rv
  obtain⟨t',rfl⟩:=aZ
  exact rule _ _ _ _ _ _ ⟨_,rfl,q,I⟩
 ·exact q.elim
theorem Fi:lV X .Lt (cR .lt):=DQ (fun _ _ _ _=>rfl) fun _ _ _ _ _ _ h=>lt_int h
theorem Fd:lV X .LtE (cR .le):=DQ (fun _ _ _ _=>rfl) fun _ _ _ _ _ _ h=>le_int h
theorem Fv:lV X .Gt (cR .gt):=DQ (fun _ _ _ _=>rfl) fun _ _ _ _ _ _ h=>gt_int h
theorem Ec:lV X .GtE (cR .ge):=DQ (fun _ _ _ _=>rfl) fun _ _ _ _ _ _ h=>ge_int h
theorem LO {pins:List (Addr×Obj)}{s:Shared}{σ:L2.St}{H:Hp}{a:Addr}{vs us:List V}(I:Inv X pins σ H s)(h:H a=some (.lst vs))(f:oX X.K H a us):False:=by
 rcases f with⟨o,e⟩|⟨o,_,_,e,_⟩
 ·rw[h]at e;cases e
 ·have:=(I.bs a o (I.ok.mod.kin a o e)).2
  rw[h]at this;cases this
theorem GF {pins:List (Addr×Obj)}{s:Shared}{σ:L2.St}{H:Hp}{st:aB}(I:Inv X pins σ H s)(ok:aO X.K st H):∀(n:Nat){d d':D}{v:V},cI d<=n->fK st d=true->fK st d'=true->Rep X.K H d v->Rep X.K H d' v->d=d':=by
 have lists:∀{d d':D}{v:V}{xs ys:List D},oY st d=some xs->oY st d'=some ys->bL xs=true->bL ys=true->Rep X.K H d v->Rep X.K H d' v->d=d':=by
  intro d d' v xs ys q q' p p' r r'
  cases r with
  |ref a=>cases r' with
   |ref _=>rfl
   |bB f g =>
    simp only[oY]at q
    split at q
    ·rename_i e
     obtain⟨vs,h,_⟩:=ok.lst e
     exact(LO I h f).elim
    ·cases q
   |_=>cases q'
  |bB f g=>cases r' with
   |ref _ =>
    simp only[oY]at q'
    split at q'
    ·rename_i e
     obtain⟨vs,h,_⟩:=ok.lst e
     exact(LO I h f).elim
    ·cases q'
   |bB f' g' =>
    cases q;cases q'
    cases I.oH f.sq f'.sq
    rw[pO I p p' g g']
   |_=>cases q'
  |_=>cases q
 intro n
 induction n with
 |zero =>
  intro d d' v hn p p' r r'
  rcases kinds p with q|⟨ds,rfl,q⟩|⟨xs,q,q1,q2⟩
  ·cases r<;>cases r'<;>first|rfl|(cases q;done)|skip
  ·simp only[cI]at hn;omega
  ·obtain⟨a,vs,rfl,f1,g1⟩:=fH ok q r
   rcases kinds p' with q'|⟨iK,rfl,q'⟩|⟨ys,q',q1',q2'⟩
   ·cases r'<;>cases q'
   ·obtain⟨b,us,e,f2,g2⟩:=r'.bM
    cases e
    exact(BB I f1 f2).elim
   ·exact lists q q' q1 q1' r r'
 |succ n ih =>
  intro d d' v hn p p' r r'
  rcases kinds p with q|⟨ds,rfl,q⟩|⟨xs,q,q1,q2⟩
  ·cases r<;>cases r'<;>first|rfl|(cases q;done)|skip
  ·obtain⟨a,vs,rfl,f1,g1⟩:=r.bM
   rcases kinds p' with q'|⟨iK,rfl,q'⟩|⟨ys,q',q1',q2'⟩
   ·cases r'<;>cases q'
   ·obtain⟨b,us,e,f2,g2⟩:=r'.bM
    cases e
    cases I.pW f1 f2
    simp only[cI]at hn
    have go:∀(ds es:List D)(vs:List V),cG ds<=n->gC st ds=true->gC st es=true->aK X.K H ds vs->aK X.K H es vs->ds=es:=by
     intro ds
     induction ds with
     |nil=>intro es vs _ _ _ r r';cases r;cases r';rfl
     |cons d ds ihs =>
      intro es vs hd pp pp' r r'
      cases r with
      |cons r1 r2=>cases r' with
       |cons r1' r2' =>
        simp only[cG]at hd
        simp only[gC,Bool.and_eq_true]at pp pp'
        rw[ih (by omega) pp.1 pp'.1 r1 r1',ihs _ _ (by omega) pp.2 pp'.2 r2 r2']
    rw[go ds iK vs (by omega) q q' g1 g2]
   ·obtain⟨b,us,e,f2,g2⟩:=fH ok q' r'
    cases e
    exact(BB I f2 f1).elim
  ·obtain⟨a,vs,rfl,f1,g1⟩:=fH ok q r
   rcases kinds p' with q'|⟨iK,rfl,q'⟩|⟨ys,q',q1',q2'⟩
   ·cases r'<;>cases q'
   ·obtain⟨b,us,e,f2,g2⟩:=r'.bM
    cases e
    exact(BB I f1 f2).elim
   ·exact lists q q' q1 q1' r r'
theorem B3 {pins:List (Addr×Obj)}{s:Shared}{σ:L2.St}{H:Hp}{st:aB}(I:Inv X pins σ H s)(ok:aO X.K st H){ds:List D}{vs:List V}{aD:List Value}{d:D}{v:V}{u:Value}{A:Around}
  (g:aK X.K H ds vs)(r:aL vs aD)(p:dG st ds)(pd:plainS st d)(rd:Rep X.K H d v)(rv:RelV v u)(hu:A.units+178<cLine):
  ∃ e:Value->Bool,(∀ y,y∈aD.toArray->EqAt A.in1 s y u (e y))/\aD.toArray.any e=ds.any fun d'=>bK st d' d:=by
 classical
 have hD:kM=80:=rfl
 have item:∀(d':D)(v':V)(y:Value),d'∈ds->Rep X.K H d' v'->RelV v' y->EqAt A.in1 s y u (bK st d' d):=fun d' v' y m r' aZ=>by
  have h1:=iH m
  have h2:=p.2
  exact(J6 I ok 80 (by omega) (fU p.1 m) pd.1 r' aZ rd rv (by simp only[Around.in1_units];omega)).2.1
 let e:Value->Bool:=fun y=>decide (∃ d' v',d'∈ds/\Rep X.K H d' v'/\RelV v' y/\bK st d' d=true)
 have he:∀(d':D)(v':V)(y:Value),d'∈ds->Rep X.K H d' v'->RelV v' y->e y=bK st d' d:=fun d' v' y m r' aZ=>by
  show decide _=_
  cases q:bK st d' d with
  |true=>exact decide_eq_true ⟨d',v',m,r',aZ,q⟩
  |false =>
   refine decide_eq_false fun⟨d2,v2,m2,r2,rv2,q2⟩=>?_
   cases RelV.inj aZ rv2
   have:=GF I ok _ (Nat.le_refl _) (fU p.1 m) (fU p.1 m2) r' r2
   subst this
   rw[q]at q2;cases q2
 refine⟨e,fun y hy=>?_,?_⟩
 ·obtain⟨j,hj,rfl⟩:=Array.mem_iff_getElem.mp hy
  obtain⟨v',e1,e2⟩:=aL.at r hj
  obtain⟨d',e3,e4⟩:=aK.get' g e1
  rw[he d' v' _ (List.mem_of_getElem? e3) e4 e2]
  exact item d' v' _ (List.mem_of_getElem? e3) e4 e2
 ·have go:∀(es:List D)(vs:List V)(aD:List Value),(∀ d∈es,d∈ds)->aK X.K H es vs->aL vs aD->aD.any e=es.any fun d'=>bK st d' d:=by
   intro es
   induction es with
   |nil=>intro vs aD _ g r;cases g;cases r;rfl
   |cons d1 es ih =>
    intro vs aD hm g r
    cases g with
    |cons g1 g2=>cases r with
     |cons r1 r2 =>
      simp only[List.any_cons]
      rw[he d1 _ _ (hm d1 (by simp)) g1 r1,ih _ _ (fun d m=>hm d (by simp [m])) g2 r2]
  rw[List.any_toArray]
  exact go ds vs aD (fun _ m=>m) g r
theorem K6 (k x:Str):(decide (k=x))=(x.cps.toList==k.cps.toList):=by
 by_cases h:k=x
 ·subst h;simp
 ·rw[decide_eq_false h]
  symm
  refine beq_eq_false_iff_ne.mpr fun e=>h ?_
  obtain⟨⟨k⟩⟩:=k
  obtain⟨⟨x⟩⟩:=x
  have e:x=k:=e
  subst e;rfl
theorem A8 {pins:List (Addr×Obj)}{s:Shared}{σ:L2.St}{H:Hp}{a:Addr}{T:List (Str×PyData)}(I:Inv X pins σ H s)(h:KTD.tabLook KTD.flatLooks (fun b=>X.K.lookup b) a T=true):KTD.Here s.heap s.heap a (T.map fun p=>(p.1,KTD.Dat.flat p.2)) :=
 ⟨(KTD.tab_of_look (fun d v=>KTD.flat_of_looks) (fun a o e=>I.jA a o e) h).text,fun _ _ e=>e⟩
theorem HL (k:List Nat):∀(T:List (Str×PyData)),KTD.inKeys (⟨k.toArray⟩:Str) (T.map fun p=>(p.1,KTD.Dat.flat p.2))=(T.map fun p=>D.str p.1.cps.toList).any fun d=>bG d (.str k)
 |[]=>rfl
 |(x,d)::T=>by
  show(decide ((⟨k.toArray⟩:Str)=x)||KTD.inKeys _ _)=((x.cps.toList==k)||_)
  rw[HL k T,K6]
theorem YH (hu:X.A.units+180<cLine):lV X .In (cR .in_)/\lV X .NotIn (cR .fV):=by
 have main:∀(neg:Bool)(pins:List (Addr×Obj))(s:Shared)(σ:L2.St)(H:Hp)(st:aB)(d d':D)(v v':V)(u u':Value)(P:Bool->Prop),Inv X pins σ H s->aO X.K st H->Rep X.K H d v->RelV v u->Rep X.K H d' v'->RelV v' u' ->
   EK d d' st (fun b=>P (if neg then !b else b))->wpAny (model X.prog X.w) X.A (compareOp (if neg then .NotIn else .In) u u') (fun r s'=>∃ k,r=.bool k/\P k/\Inv X pins σ H s') X.xe s:=by
  intro neg pins s σ H st d d' v v' u u' P I ok r rv r' aZ q
  have lst:∀(a:Addr)(vs:List V)(ds:List D),cZ X.K H a vs->aK X.K H ds vs->plainS st d->dG st ds->P (if neg then !(ds.any fun d'=>bK st d' d)else ds.any fun d'=>bK st d' d) ->
    wpAny (model X.prog X.w) X.A (compareOp (if neg then .NotIn else .In) u (.ref a)) (fun r s'=>∃ k,r=.bool k/\P k/\Inv X pins σ H s') X.xe s:=by
   intro a vs ds f g pd ps q
   obtain⟨aD,r1,p1,_⟩:=I.list f
   obtain⟨e,he,ha⟩:=B3 I ok g r1 ps pd r rv (A:=X.A) (by omega)
   rw[<-ha]at q
   cases neg with
   |true=>exact notIn_listAt e p1.isList he ⟨_,rfl,q,I⟩
   |false=>exact in_listAt e p1.isList he ⟨_,rfl,q,I⟩
  unfold EK at q
  split at q
  ·obtain⟨a,vs,rfl,f,g⟩:=r'.bM
   cases aZ
   obtain⟨aD,r1,p1,_⟩:=I.tuple f
   obtain⟨pd,ps,q⟩:=q
   obtain⟨e,he,ha⟩:=B3 I ok g r1 ps pd r rv (A:=X.A) (by omega)
   rw[<-ha]at q
   cases neg with
   |true=>exact notIn_tupleAt e p1 he ⟨_,rfl,q,I⟩
   |false=>exact in_tupleAt e p1 he ⟨_,rfl,q,I⟩
  ·cases r'.cE
   cases aZ
   obtain⟨ds,e1,pd,ps,q⟩:=qG ok q
   obtain⟨vs,g1,g2⟩:=ok.lst e1
   exact lst _ vs ds (cZ.of g1) g2 pd ps q
  ·obtain⟨a,rfl,T,h1,_,h2,_⟩:=r'.EN
   cases aZ
   cases r.str_inv
   obtain⟨t,rfl⟩:=rv
   rw[h2,<-HL]at q
   cases neg with
   |true=>exact KTD.notin_text (A8 I h1) ⟨_,rfl,q,I.tok _⟩
   |false=>exact KTD.in_text (A8 I h1) ⟨_,rfl,q,I.tok _⟩
  ·obtain⟨a,vs,rfl,f,g⟩:=r'.jL
   cases aZ
   exact lst a vs _ f.sq g q.1 q.2.1 q.2.2
  ·cases r.str_inv;cases r'.str_inv
   cases neg with
   |true =>
    refine aW (EE (X:=X) pins s σ H _ _ _ _ (fun v H'=>H'=H/\∃ k,v=.bl k/\P k) I rv aZ ⟨_,_,rfl,rfl,rfl,_,rfl,?_⟩) fun r s1 ⟨v,H',I1,r1,e,k,e',q'⟩=>?_
    ·rw[CT];exact q
    ·subst e e';cases r1;exact⟨k,rfl,q',I1⟩
   |false =>
    refine aW (LW (X:=X) pins s σ H _ _ _ _ (fun v H'=>H'=H/\∃ k,v=.bl k/\P k) I rv aZ ⟨_,_,rfl,rfl,rfl,_,rfl,?_⟩) fun r s1 ⟨v,H',I1,r1,e,k,e',q'⟩=>?_
    ·rw[CT];exact q
    ·subst e e';cases r1;exact⟨k,rfl,q',I1⟩
  ·exact q.elim
 exact⟨fun pins s σ H st d d' v v' u u' P I ok r rv r' aZ q=>main false pins s σ H st d d' v v' u u' P I ok r rv r' aZ q,fun pins s σ H st d d' v v' u u' P I ok r rv r' aZ q=>main true pins s σ H st d d' v v' u u' P I ok r rv r' aZ q⟩
theorem CV {K:PySem.W.Frag}{H:Hp}{d:D}{v:V}{u:Value}(r:Rep K H d v)(rv:RelV v u):(u==Value.none)=DP d:=by
 rw[rv.OW]
 cases r<;>rfl
theorem XN:lV X .Is (cR .is_)/\lV X .IsNot (cR .isnot):=by
 constructor
 ·intro pins s σ H st d d' v v' u u' P I ok r rv r' aZ q
  have q:AX d d' P:=q
  unfold AX at q
  split at q
  ·cases r'.eO;cases aZ
   exact is_none_gen ⟨_,rfl,by rw[CV r rv];exact q,I⟩
  ·rename_i b
   cases r'.eJ;cases aZ
   cases r with
   |bl c=>cases rv;exact is_bool ⟨_,rfl,q,I⟩
   |non=>cases rv;exact wpAny_is_other rfl (by intro z;cases z) ⟨_,rfl,q,I⟩
   |int i=>obtain⟨t,rfl⟩:=rv;exact wpAny_is_other rfl (by intro z;cases z) ⟨_,rfl,q,I⟩
   |str z=>obtain⟨t,rfl⟩:=rv;exact wpAny_is_other rfl (by intro z;cases z) ⟨_,rfl,q,I⟩
   |tup _ _=>cases rv;exact wpAny_is_other rfl (by intro z;cases z) ⟨_,rfl,q,I⟩
   |ref _=>cases rv;exact wpAny_is_other rfl (by intro z;cases z) ⟨_,rfl,q,I⟩
   |bB _ _=>cases rv;exact wpAny_is_other rfl (by intro z;cases z) ⟨_,rfl,q,I⟩
   |cM _=>cases rv;exact wpAny_is_other rfl (by intro z;cases z) ⟨_,rfl,q,I⟩
  ·exact q.elim
 ·intro pins s σ H st d d' v v' u u' P I ok r rv r' aZ q
  have q:AX d d' (fun b=>P (!b)):=q
  unfold AX at q
  split at q
  ·cases r'.eO;cases aZ
   exact isnot_none_gen ⟨_,rfl,by rw[CV r rv];exact q,I⟩
  ·rename_i b
   cases r'.eJ;cases aZ
   cases r with
   |bl c=>cases rv;exact isnot_bool ⟨_,rfl,q,I⟩
   |non=>cases rv;exact wpAny_isNot_other rfl (by intro z;cases z) ⟨_,rfl,q,I⟩
   |int i=>obtain⟨t,rfl⟩:=rv;exact wpAny_isNot_other rfl (by intro z;cases z) ⟨_,rfl,q,I⟩
   |str z=>obtain⟨t,rfl⟩:=rv;exact wpAny_isNot_other rfl (by intro z;cases z) ⟨_,rfl,q,I⟩
   |tup _ _=>cases rv;exact wpAny_isNot_other rfl (by intro z;cases z) ⟨_,rfl,q,I⟩
   |ref _=>cases rv;exact wpAny_isNot_other rfl (by intro z;cases z) ⟨_,rfl,q,I⟩
   |bB _ _=>cases rv;exact wpAny_isNot_other rfl (by intro z;cases z) ⟨_,rfl,q,I⟩
   |cM _=>cases rv;exact wpAny_isNot_other rfl (by intro z;cases z) ⟨_,rfl,q,I⟩
  ·exact q.elim
noncomputable def nC:pE->CmpOp
 |.eq=>.Eq|.ne=>.NotEq|.lt=>.Lt|.le=>.LtE|.gt=>.Gt|.ge=>.GtE|.is_=>.Is|.isnot=>.IsNot|.in_=>.In|.fV=>.NotIn
theorem DT (hu:X.A.units+180<cLine):∀ o:pE,lV X (nC o) (cR o)
 |.eq=>Ef hu
 |.ne=>Gg hu
 |.lt=>Fi
 |.le=>Fd
 |.gt=>Fv
 |.ge=>Ec
 |.is_=>XN.1
 |.isnot=>XN.2
 |.in_=>(YH hu).1
 |.fV=>(YH hu).2
theorem ZS {o:pE}(hu:X.A.units+180<cLine)(ha:PE X a (bS X.K (aH C sub E x)))(hb:PE X b (bS X.K (aH C sub E y)))(hm:behindInMarks (nC o) b=false):PE X (.Compare a [nC o] [b] pos) (bS X.K (aH C sub E (.cmp o x y))):=by
 intro pins s σ H Q I ⟨σd,st,R,r,ok,q,hq⟩
 refine wpAny_Compare1 (aW (ha pins s σ H _ I ⟨σd,st,_,r,ok,q,fun v H' z=>z⟩) fun u s1 ⟨v,H1,I1,rv,d,aC,cV,aM,r1,q1⟩ =>
 aW (hb pins s1 σ H1 _ I1 ⟨σd,aC,_,r.step ok cV,aM,q1,fun v H' z=>z⟩) fun u' s2 ⟨v',H2,I2,aZ,d',aG,gZ,bZ,r2,q2⟩ =>
 aW (DT hu o pins s2 σ H2 aG d d' v v' u u' _ I2 bZ (r1.step aM gZ) rv r2 aZ q2) fun w s3 ⟨k,e,q3,I3⟩=>?_) hm
 subst e
 exact⟨.bl k,H2,I3,rfl,hq _ _ (.after (cV.trans gZ) (.here bZ (.bl k) q3))⟩
theorem XO {o:pE}(hu:X.A.units+180<cLine)(ha:PE X a (bS X.K (aH C sub E x)))(hb:PE X b (bS X.K (aH C sub E y)))(hm:behindInMarks (nC o) b=false):PT X (.Compare a [nC o] [b] pos) (iU X.K (aH C sub E (.cmp o x y))):=by
 intro pins s σ H Q I ⟨σd,st,R,r,ok,q,hq⟩
 refine wpAny_isTrue_Compare1 (aW (ha pins s σ H _ I ⟨σd,st,_,r,ok,q,fun v H' z=>z⟩) fun u s1 ⟨v,H1,I1,rv,d,aC,cV,aM,r1,q1⟩ =>
 aW (hb pins s1 σ H1 _ I1 ⟨σd,aC,_,r.step ok cV,aM,q1,fun v H' z=>z⟩) fun u' s2 ⟨v',H2,I2,aZ,d',aG,gZ,bZ,r2,q2⟩ =>
 aW (DT hu o pins s2 σ H2 aG d d' v v' u u' _ I2 bZ (r1.step aM gZ) rv r2 aZ q2) fun w s3 ⟨k,e,q3,I3⟩=>?_) hm
 subst e
 exact wpAny_truthy_bool ⟨H2,I3,hq _ _ ⟨aG,cV.trans gZ,bZ,q3⟩⟩
theorem SU {o o':pE}(hu:X.A.units+180<cLine)(ha:PE X a (bS X.K (aH C sub E x)))(hb:PE X b (bS X.K (aH C sub E y)))(hc:PE X c (bS X.K (aH C sub E z)))(hm:lastMarks [nC o,nC o'] [b,c]=false):
 PE X (.Compare a [nC o,nC o'] [b,c] pos) (bS X.K (aH C sub E (.chain o o' x y z))):=by
 intro pins s σ H Q I ⟨σd,st,R,r,ok,q,hq⟩
 refine Compare_chain (aW (ha pins s σ H _ I ⟨σd,st,_,r,ok,q,fun v H' z=>z⟩) fun u s1 ⟨v,H1,I1,rv,d,aC,cV,aM,r1,q1⟩ =>
 chain_link (aW (hb pins s1 σ H1 _ I1 ⟨σd,aC,_,r.step ok cV,aM,q1,fun v H' z=>z⟩) fun u' s2 ⟨v',H2,I2,aZ,d',aG,gZ,bZ,r2,q2⟩ =>
 aW (DT hu o pins s2 σ H2 aG d d' v v' u u' _ I2 bZ (r1.step aM gZ) rv r2 aZ q2) fun w s3 ⟨k,e,q3,I3⟩=>?_)) hm
 subst e
 refine wpAny_truthy_bool ?_
 cases k with
 |false=>exact ite_ff ⟨.bl false,H2,I3,rfl,hq _ _ (.after (cV.trans gZ) (.here bZ (.bl _) q3))⟩
 |true =>
 refine ite_tt (chain_last (aW (hc pins s3 σ H2 _ I3 ⟨σd,aG,_,(r.step ok cV).step aM gZ,bZ,q3,fun v H' z=>z⟩) fun u3 s4 ⟨v3,H4,I4,rv3,d3,cP,s4s,QU,r4,q4⟩ =>
  aW (DT hu o' pins s4 σ H4 cP d' d3 v' v3 u' u3 _ I4 QU (r2.step bZ s4s) aZ r4 rv3 q4) fun w s5 ⟨k,e,q5,I5⟩=>?_))
 subst e
 exact⟨.bl k,H4,I5,rfl,hq _ _ (.after ((cV.trans gZ).trans s4s) (.here QU (.bl k) q5))⟩
end
end L3
end
section
namespace L3
open PySem PySem.Spec PyProof.Rows PyProof.V L2
section
variable {X:Cx}{C:bC}{sub:Nat->Nat->Bool}{E:XK}{a b c e:Expr}{x y z:Ex}{pos:Pos}
theorem V9 (n:Nat)(i:Int):L2.lS n i=lS n i:=rfl
theorem BG {K:PySem.W.Frag}{H:Hp}{ds:List D}{vs:List V}{i:Int}{d:D}(r:aK K H ds vs)(h:eV ds i=some d):∃ v,L2.eV vs i=some v/\Rep K H d v:=by
 unfold eV at h
 unfold L2.eV
 rw[V9,<-r.length]
 cases e:lS ds.length i with
 |none=>rw[e]at h;cases h
 |some j =>
 rw[e]at h
 obtain⟨v,e1,e2⟩:=r.get (i:=j) h
 exact⟨v,e1,e2⟩
noncomputable def UQ (K:PySem.W.Frag):R2:=fun x y H Q=>∃(p:Addr)(T:List (Str×PyData))(k:Str)(d:PyData),x=.ref p/\y=.str k/\KTD.tabLook KTD.flatLooks (fun b=>K.lookup b) p T=true/\KTD.datumAt k T=some d/\mE d=true/\∀ v u,RelV v u->Flat u d->Q v H
noncomputable def JF (K:PySem.W.Frag):R2:=fun x y H Q=>Dg K x y H Q∨UQ K x y H Q
theorem sM {k:Str}{d:PyData}:∀{T:List (Str×PyData)},KTD.datumAt k T=some d->KTD.datumAt k (T.map fun p=>(p.1,KTD.Dat.flat p.2))=some (.flat d)
 |[],h=>by cases h
 |(x,e)::T,h=>by
  show(if decide (k=x)=true then some (KTD.Dat.flat e)else _)=_
  have h:(if decide (k=x)=true then some e else KTD.datumAt k T)=some d:=h
  by_cases c:decide (k=x)=true
  ·rw[if_pos c]at h ⊢;cases h;rfl
  ·rw[if_neg c]at h ⊢;exact sM h
theorem Ah {X:Cx}:tX X (UQ X.K):=by
 intro value slice pins s σ H x y v u Q I rx ry h hs
 obtain⟨p,T,k,d,rfl,rfl,hT,hd,hsd,q⟩:=h
 cases rx
 obtain⟨t,rfl⟩:=ry
 have hh:=A8 I hT
 refine subscriptTail_builtin_flat hh.typeIs slot_dict_getitem.lookup ?_ hs
 unfold getItem
 try with_reducible refine wpAny_holding ?_
 refine wpAny_bind (wpAny_sequenceKey hh.typeIs (by decide) ?_)
 refine wpAny_bind (wpAny_callSpecial?_slot (name:=Str.ofString "__getitem__") hh.typeIs slot_dict_getitem
  (wpAny_call_entry slot_dict_getitem hh.typeIs entry_dict_getitem ?_ (args_dict_getitem _ _)))
 show wpAny _ _ (dictGet p (.str k t) >>= _) _ _ s
 refine wpAny_bind (KTD.dictGet_text hh (fun d' v ha hv=>?_) fun hn=>?_)
 ·rw[sM hd]at ha
  cases ha
  have hv:Flat v d:=hv
  refine wpAny_pure ⟨v,rfl,wpAny_pure ⟨Flat.notRef hv,?_⟩⟩
  obtain⟨w,rw'⟩:∃ w,RelV w v:=by
   cases d with
   |none=>cases Flat.none_inv hv;exact⟨.non,rfl⟩
   |bool b=>cases Flat.bool_inv hv;exact⟨.bl b,rfl⟩
   |int i=>obtain⟨t,rfl⟩:=Flat.int_inv hv;exact⟨.int i,⟨t,rfl⟩⟩
   |str x=>obtain⟨t,rfl⟩:=Flat.str_inv hv;exact⟨.str x,⟨t,rfl⟩⟩
   |_=>cases hsd
  exact⟨w,H,I.tok _,rw',q w v rw' hv⟩
 ·rw[sM hd]at hn;cases hn
theorem VJ {X:Cx}:tX X (JF X.K):=UK.or Ah
theorem MU {K:PySem.W.Frag}(v v':V)(H:Hp)(Q Q':L2.VK)(h:∀ v H,Q v H->Q' v H)(z:JF K v v' H Q):JF K v v' H Q':=by
 rcases z with z|⟨p,T,k,d,e,e',e1,e2,e3,q⟩
 ·refine .inl ?_
  rcases z with⟨p,xs,i,v,e,e',s,t,q⟩|⟨p,xs,i,v,e,e',s,t,q⟩|⟨z,i,c,e,e',s,t,q⟩
  ·exact .inl ⟨p,xs,i,v,e,e',s,t,h _ _ q⟩
  ·exact .inr (.inl ⟨p,xs,i,v,e,e',s,t,h _ _ q⟩)
  ·exact .inr (.inr ⟨z,i,c,e,e',s,t,h _ _ q⟩)
 ·exact .inr ⟨p,T,k,d,e,e',e1,e2,e3,fun v u r f=>h _ _ (q v u r f)⟩
theorem E9 {k:List Nat}{d:D}:∀{T:List (Str×PyData)},(T.all fun p=>mE p.2)=true->tS (T.map fun p=>.str p.1.cps.toList) (T.map fun p=>pZ p.2) (.str k)=some d->∃ e,KTD.datumAt (⟨k.toArray⟩:Str) T=some e/\mE e=true/\d=pZ e
 |[],_,h=>by cases h
 |(x,e)::T,a,h=>by
  simp only[List.all_cons,Bool.and_eq_true]at a
  have h:(if(x.cps.toList==k)=true then some (pZ e)else tS (T.map fun p=>.str p.1.cps.toList) (T.map fun p=>pZ p.2) (.str k))=some d:=h
  show ∃ e',(if decide ((⟨k.toArray⟩:Str)=x)=true then some e else KTD.datumAt _ T)=some e'/\_
  rw[K6]
  by_cases c:(x.cps.toList==k)=true
  ·rw[if_pos c]at h;cases h
   exact⟨e,if_pos c,a.1,rfl⟩
  ·rw[if_neg c]at h
   obtain⟨e',h1,h2⟩:=E9 a.2 h
   exact⟨e',(if_neg c).trans h1,h2⟩
theorem NU {K:PySem.W.Frag}{H:Hp}{e:PyData}{v:V}{u:Value}(s:mE e=true)(r:RelV v u)(f:Flat u e):Rep K H (pZ e) v:=by
 cases e with
 |none=>cases Flat.none_inv f;cases RelV.inj r (show RelV .non .none from rfl);exact .non
 |bool b=>cases Flat.bool_inv f;cases RelV.inj r (show RelV (.bl b) (.bool b)from rfl);exact .bl b
 |int i=>obtain⟨t,rfl⟩:=Flat.int_inv f;cases RelV.inj r (show RelV (.int i) (.int i t)from⟨t,rfl⟩);exact .int i
 |str x=>obtain⟨t,rfl⟩:=Flat.str_inv f;cases RelV.inj r (show RelV (.str x) (.str x t)from⟨t,rfl⟩);exact .str x.cps.toList
 |_=>cases s
theorem NP {K:PySem.W.Frag}{H:Hp}{st:aB}{R:VK}{d d':D}{v v':V}(ok:aO K st H)(r:Rep K H d v)(r':Rep K H d' v')(h:nQ d d' st R):JF K v v' H (QD K H st R):=by
 unfold nQ at h
 split at h
 ·obtain⟨a,vs,rfl,f,g⟩:=r.bM
  cases r'.int_inv
  obtain⟨d,e,q⟩:=dU h
  obtain⟨v,e1,e2⟩:=BG g e
  exact .inl (.inr (.inl ⟨a,vs,_,v,rfl,rfl,f,e1,.here ok e2 q⟩))
 ·obtain⟨a,vs,rfl,f,g⟩:=r.jL
  cases r'.int_inv
  obtain⟨d,e,q⟩:=dU h
  obtain⟨v,e1,e2⟩:=BG g e
  exact .inl (.inl ⟨a,vs,_,v,rfl,rfl,f.sq,e1,.here ok e2 q⟩)
 ·cases r.str_inv
  cases r'.int_inv
  obtain⟨l,h⟩:=h
  obtain⟨c,e,q⟩:=dU h
  exact .inl (.inr (.inr ⟨_,_,c,rfl,rfl,by rw[fL];simpa [Str.length]using l,e,.here ok (.str [c]) q⟩))
 ·obtain⟨a,rfl,T,h1,h2,h3,h4⟩:=r.EN
  cases r'.str_inv
  obtain⟨d,e,q⟩:=dU h
  rw[h3,h4]at e
  obtain⟨e',e1,e2,rfl⟩:=E9 h2 e
  exact .inr ⟨a,T,_,e',rfl,rfl,h1,e1,e2,fun v u r f=>.here ok (NU e2 r f) q⟩
 ·cases r.cE
  obtain⟨ds,e,q⟩:=qG ok h
  obtain⟨vs,g1,g2⟩:=ok.lst e
  split at q
  ·cases r'.int_inv
   obtain⟨d,e,q⟩:=dU q
   obtain⟨v,e1,e2⟩:=BG g2 e
   exact .inl (.inl ⟨_,vs,_,v,rfl,rfl,cZ.of g1,e1,.here ok e2 q⟩)
  ·exact q.elim
 ·exact h.elim
theorem Ej (ha:PE X a (bS X.K (aH C sub E x)))(hb:PE X b (bS X.K (aH C sub E y)))(hp:rD b):PE X (.Subscript a b pos) (bS X.K (aH C sub E (.ix x y))) :=
 (P2 VJ ha hb hp).imp fun σ H Q ⟨σd,st,R,r,ok,q,hq⟩=>by
 exact two (W:=fun d d' aG=>nQ d d' aG R) r ok q hq (fun d d' v v' H2 aG bZ r1 r2 h=>NP bZ r1 r2 h) MU
theorem uN {prog:Program}{w:World}{A:Around}{E:Value->Shared->Prop}{s:Shared}{t sl:Addr}{items:Array Value}{vl vu:Value}{lo hi:Option Int}{Q:Value->Shared->Prop}(ht:IsTup s.heap t items)(hs:s.heap.IsSliceOf sl vl vu .none)(pl:IsPart vl lo)(pu:IsPart vu hi)
  (hw:HT.bX items.size 0 lo=0/\HT.bX items.size items.size hi=items.size)(h:Q (.ref t) s):wpAny (model prog w) A (getItem (.ref t) (.ref sl)) Q E s:=by
 obtain⟨os,hos,hcs,hds⟩:=id hs
 have hTs:s.TypeIs (.ref sl) "slice":=⟨os,hos,hcs⟩
 unfold getItem
 try with_reducible refine wpAny_holding ?_
 first|refine wpAny_bind (wpAny_pure ?_)|skip
 refine wpAny_bind (wpAny_sequenceKey ht.typeIs (by decide) ?_)
 refine wpAny_bind (wpAny_callSpecial?_slot (name:=Str.ofString "__getitem__") ht.typeIs PyProof.Rows.slot_tuple_getitem
  (wpAny_call_entry PyProof.Rows.slot_tuple_getitem ht.typeIs entry_tuple_getitem ?_ (args_tuple_getitem _ _)))
 show wpAny _ _ (Builtin.Tuple.tupleItemsOf (.ref t) >>= _) _ _ s
 refine wpAny_bind (tupleItemsOf_ ht ?_)
 refine wpAny_bind (wpAny_typeOf hTs ?_)
 rw[if_pos (by decide)]
 refine wpAny_bind (HT.pA hs pl pu ?_)
 have hyes:(((HT.bX items.size 0 lo:Nat):Int)==0&&(1:Int)==1&&(HT.bX items.size items.size hi-HT.bX items.size 0 lo)==items.size)=true:=by
  rw[hw.1,hw.2];simp
 show wpAny _ _ (if(((HT.bX items.size 0 lo:Nat):Int)==0&&(1:Int)==1&&(HT.bX items.size items.size hi-HT.bX items.size 0 lo)==items.size)=true then _ else _) _ _ s
 rw[if_pos hyes]
 have hex:∀{Q:Bool->Shared->Prop},Q true s->wpAny (model prog w) A.in1 (Builtin.Tuple.tupleIsExact (.ref t)) Q E s:=fun h=>by
  unfold Builtin.Tuple.tupleIsExact
  exact wpAny_bind (wpAny_typeOf ht.typeIs (wpAny_pure h))
 refine wpAny_bind (hex ?_)
 rw[if_pos rfl]
 exact wpAny_bind (wpAny_rule (wpAny_pure ⟨_,rfl,wpAny_pure h⟩))
theorem ML (n d:Nat)(o:Option Int):HT.bX n d o=bX n d o:=rfl
theorem aK.cut {K:PySem.W.Frag}{H:Hp}{ds:List D}{vs:List V}(r:aK K H ds vs)(lo hi:Option Int):aK K H (cut ds lo hi) (cut vs lo hi):=by
 unfold L3.cut
 rw[r.length]
 exact(r.drop _).take _
noncomputable def VO (K:PySem.W.Frag):V->Option Int->Option Int->Hp->L2.VK->Prop:=fun x lo hi H Q=>∃ a xs,x=.ref a/\dP K H a xs/\(HT.bX xs.length 0 lo=0/\HT.bX xs.length xs.length hi=xs.length)/\Q (.ref a) H
theorem TH:vB X (VO X.K):=by
 intro pins s σ H x v vl vu lo hi sl Q I rx hs pl pu h
 obtain⟨a,xs,rfl,hx,hw,q⟩:=h
 cases rx
 obtain⟨aD,r,ht,hz⟩:=I.tuple hx
 have hlen:aD.toArray.size=xs.length:=by rw[List.size_toArray];exact r.length.symm
 refine⟨"tuple", _,PyProof.Rows.slot_tuple_getitem.lookup,ht.typeIs,?_⟩
 exact uN ht hs pl pu (by rw[hlen];exact hw) ⟨.ref a,H,I,rfl,q⟩
noncomputable abbrev XF (K:PySem.W.Frag):V->Option Int->Option Int->Hp->L2.VK->Prop:=fun x lo hi H Q=>Y0 K x lo hi H Q∨VO K x lo hi H Q∨WH K x lo hi H Q
theorem XR:vB X (XF X.K):=vB.or L2.GO (vB.or TH TY)
theorem PF {K:PySem.W.Frag}{H:Hp}{st:aB}{R:VK}{Q:L2.VK}{d:D}{v:V}{lo hi:Option Int}(ok:aO K st H)(r:Rep K H d v)(h:A1 d lo hi st R)(hq:∀ v H',QD K H st R v H'->Q v H'):XF K v lo hi H Q:=by
 unfold A1 at h
 split at h
 ·rename_i ds0
  obtain⟨a,vs,rfl,f,g⟩:=r.bM
  by_cases hw:HT.bX vs.length 0 lo=0/\HT.bX vs.length vs.length hi=vs.length
  ·refine .inr (.inl ⟨a,vs,rfl,f,hw,hq _ _ (.here ok r ?_)⟩)
   have e:L3.cut ds0 lo hi=ds0:=by
    unfold L3.cut
    rw[g.length,<-ML,<-ML,hw.1,hw.2,List.drop_zero,Nat.sub_zero,<-g.length,List.take_length]
   rw[e]at h
   exact h
  ·exact .inl ⟨a,vs,rfl,f,hw,fun p hp=>hq _ _ (.D2 ok (g.cut lo hi) hp h)⟩
 ·cases r.cE
  obtain⟨ds,e,h⟩:=dD h
  obtain⟨vs,g1,g2⟩:=ok.lst e
  exact .inr (.inr ⟨_,vs,rfl,cZ.of g1,fun p hp=>hq _ _ (.gB ok (g2.cut lo hi) hp h)⟩)
 ·exact h.elim
inductive BX (K:PySem.W.Frag)(te:St->aB->(List D->aB->Prop)->Prop)(σ:L2.St)(H:Hp)(Q:Option Int->Hp->Prop):Prop where
 |mk (σd:St)(st:aB)(R:Option Int->aB->Prop)(r:cY K H σd σ)(ok:aO K st H)(q:te σd st (fun ds aA=>mK ds fun o=>R o aA))(hq:∀(o:Option Int) H',QX K H st (R o) H'->Q o H'):BX K te σ H Q
theorem _root_.L2.PO.imp {X:Cx}{e:Option Expr}{t t':TO}(i:∀ σ H Q,t' σ H Q->t σ H Q)(h:PO X e t):PO X e t':=fun pins s σ H Q I q=>h pins s σ H Q I (i σ H Q q)
theorem Q5:PO X none (BX X.K (bN C sub E [])) :=
 SW.imp fun σ H Q ⟨σd,st,R,r,ok,q,hq⟩=>by
 exact hq _ _ ⟨st,.refl,ok,q⟩
theorem SH (h:PE X e (bS X.K (aH C sub E x))):PO X (some e) (BX X.K (bN C sub E [x])) :=
 (RI h).imp fun σ H Q ⟨σd,st,R,r,ok,q,hq⟩=>by
 refine⟨σd,st,_,r,ok,q,fun v H1 ⟨d,aC,s1,aM,r1,q1⟩=>?_⟩
 cases d with
 |int i=>cases r1.int_inv;exact⟨i,rfl,hq _ _ ⟨aC,s1,aM,q1⟩⟩
 |_=>exact q1.elim
theorem Ez {lo hi:Option Expr}{xl xh:List Ex}{p2:Pos}(ha:PE X a (bS X.K (aH C sub E x)))(hl:PO X lo (BX X.K (bN C sub E xl)))(hh:PO X hi (BX X.K (bN C sub E xh))):
 PE X (.Subscript a (.Slice lo hi none p2) pos) (bS X.K (aH C sub E (.sl x xl xh))) :=
 (OO XR ha hl hh).imp fun σ H Q ⟨σd,st,R,r,ok,q,hq⟩=>by
 refine⟨σd,st,_,r,ok,q,fun v H1 ⟨d,aC,s1,aM,r1,q1⟩=>?_⟩
 refine⟨σd,aC,_,r.step ok s1,aM,q1,fun lo H2 ⟨aG,s2,bZ,q2⟩=>?_⟩
 refine⟨σd,aG,_,(r.step ok s1).step aM s2,bZ,q2,fun hi H3 ⟨aR,s3,sE,q3⟩=>?_⟩
 exact PF sE ((r1.step aM s2).step bZ s3) q3 fun v H' z=>hq _ _ (.after ((s1.trans s2).trans s3) z)
noncomputable def uZ (X:Cx)(f:Value)(W:List D->aB->VK->Prop):Prop :=
 ∀(pins:List (Addr×Obj))(s:Shared)(σ:L2.St)(H:Hp)(st:aB)(ds:List D)(vs:List V)(us:List Value)(R:VK),Inv X pins σ H s->aO X.K st H->aK X.K H ds vs->aL vs us->W ds st R ->
 wpAny (model X.prog X.w) X.A (call f us) (EP X pins σ (QD X.K H st R)) X.xe s
inductive YM (K:PySem.W.Frag)(W:List D->aB->VK->Prop)(vs:List V)(H:Hp)(Q:L2.VK):Prop where
 |mk (ds:List D)(st:aB)(R:VK)(r:aK K H ds vs)(ok:aO K st H)(q:W ds st R)(hq:∀ v H',QD K H st R v H'->Q v H'):YM K W vs H Q
theorem uZ.call {f:Value}{W:List D->aB->VK->Prop}(h:uZ X f W):tF X f (YM X.K W):=fun pins s σ H vs us Q I rv ⟨ds,st,R,r,ok,q,hq⟩ =>
 aW (h pins s σ H st ds vs us R I ok r rv q) fun u s' ⟨v,H',I',r',z⟩=>⟨v,H',I',r',hq _ _ z⟩
theorem EZ {K:PySem.W.Frag}{W:List D->aB->VK->Prop}{xs:List Ex}{σ:L2.St}{H:Hp}{Q:L2.VK}(h:bS K (fun σ st R=>bN C sub E xs σ st fun ds aA=>W ds aA R) σ H Q):U2 (YM K W) (jW K (bN C sub E xs)) σ H Q:=by
 obtain⟨σd,st,R,r,ok,q,hq⟩:=h
 refine⟨σd,st,_,r,ok,q,fun vs H1 ⟨ds,aC,s1,aM,r1,q1⟩=>?_⟩
 exact⟨ds,aC,R,r1,aM,q1,fun v H' z=>hq _ _ (.after s1 z)⟩
theorem Av {W:List D->aB->VK->Prop}{n:Str}{id:String}{p:Pos}{es:List Expr}{xs:List Ex}(hW:uZ X (.builtin id) W)(hg:Gl X n)(hm:X.mg n=none)(hv:bootBuiltins n=some (.builtin id))(ha:PA X (e::es) (jW X.K (bN C sub E xs)))
 (hn:n ≠"__name__")(hdb:(n==("__debug__" : Str))=false)(he:starEach (e::es) X.env=(false,eval e X.env)::starEach es X.env)(cS:(backTo pos (starEach es X.env)).any (·.1)=false):
 PE X (.Call (.Name n p) (e::es) [] pos) (bS X.K fun σ st R=>bN C sub E xs σ st fun ds aA=>W ds aA R) :=
 (FN hW.call hg hm hv ha hn hdb he cS).imp fun σ H Q h=>EZ h
theorem VG {W:List D->aB->VK->Prop}{n:Str}{T:String}{p:Pos}{es:List Expr}{xs:List Ex}(hW:uZ X (.type T) W)(hg:Gl X n)(hm:X.mg n=none)(hv:bootBuiltins n=some (.type T))(ha:PA X (e::es) (jW X.K (bN C sub E xs)))
 (hn:n ≠"__name__")(hdb:(n==("__debug__" : Str))=false)(he:starEach (e::es) X.env=(false,eval e X.env)::starEach es X.env)(cS:(backTo pos (starEach es X.env)).any (·.1)=false):
 PE X (.Call (.Name n p) (e::es) [] pos) (bS X.K fun σ st R=>bN C sub E xs σ st fun ds aA=>W ds aA R) :=
 (LG hW.call hg hm hv ha hn hdb he cS).imp fun σ H Q h=>EZ h
theorem aK.one {K:PySem.W.Frag}{H:Hp}{d:D}{vs:List V}(r:aK K H [d] vs):∃ v,vs=[v]/\Rep K H d v:=by
 cases r with|cons h r=>cases r;exact⟨_,rfl,h⟩
theorem K3 {K:PySem.W.Frag}{H:Hp}{st:aB}{d:D}{v:V}{P:Nat->Prop}(ok:aO K st H)(r:Rep K H d v)(h:nK d st P):∃ n,X1 K v H n/\P n:=by
 unfold nK at h
 split at h
 ·obtain⟨a,vs,rfl,f,g⟩:=r.bM
  exact⟨_,.inr ⟨vs,f,g.length⟩,h⟩
 ·cases r.str_inv
  exact⟨_,⟨by rw[fL];simpa [Str.length]using h.1,by simp [Str.length]⟩,h.2⟩
 ·cases r.cE
  obtain⟨ds,e,h⟩:=qG ok h
  obtain⟨vs,g1,g2⟩:=ok.lst e
  exact⟨_,.inl ⟨vs,cZ.of g1,g2.length⟩,h⟩
 ·obtain⟨a,vs,rfl,f,g⟩:=r.jL
  exact⟨_,.inl ⟨vs,f.sq,g.length⟩,h⟩
 ·exact h.elim
theorem cJ:uZ X (.builtin "len") (gJ .len):=by
 intro pins s σ H st ds vs us R I ok r rv q
 match ds,q with
 |[d],q =>
 have q:nK d st fun n=>R (.int (n:Nat)) st:=q
 obtain⟨v,rfl,rd⟩:=r.one
 obtain⟨n,l,q⟩:=K3 ok rd q
 exact N0 pins s σ H _ us _ I rv ⟨v,n,rfl,l,.here ok (.int _) q⟩
 |[],q=>exact(show False from q).elim
 |_::_::_,q=>exact(show False from q).elim
end
end L3
end
section
namespace L3
open PySem PySem.Spec PyProof.Rows L2
section
variable {X:Cx}{pins:List (Addr×Obj)}{σ:L2.St}{H:Hp}{s:Shared}
noncomputable def MV (K:PySem.W.Frag)(H:Hp)(a:Addr)(vs:List V):Prop:=cZ K H a vs∨dP K H a vs
theorem E4 {A:Around}{E:Value->Shared->Prop}{a:Addr}{vs:List V}{Q:Value->Shared->Prop}(hh:A.handled=none)(I:Inv X pins σ H s)(h:MV X.K H a vs)
  (hQ:∀(aD:List Value)(I0:Addr)(fp wr:List Addr)(St:Nat->Heap->Prop)(s₂:Shared),aL vs aD->Walks X.prog X.w A I0 fp wr aD.length (fun i v=>aD[i]? = some v) St->St 0 s₂.heap->(∀ b∈fp,b<s₂.heap.objs.size) ->
   (∀ h' tk,(∀ b o,b∉wr->s₂.heap.get? b=some o->h'.get? b=some o)->Inv X pins σ H { s₂ with heap:=h',toks:=tk })->Q (.ref I0) s₂):wpAny (model X.prog X.w) A (pyIter (.ref a)) Q E s:=by
 rcases h with h|h
 ·obtain⟨aD,r,p,hz⟩:=I.list h
  have hl:=p.isList
  have eY:a<s.heap.objs.size:=by obtain⟨_,e,_⟩:=hl;exact Heap.lt_size e
  have W:=Walks.list (prog:=X.prog) (w:=X.w) (A:=A) hh s.heap.objs.size a (Nat.ne_of_lt eY) aD.toArray
  have e1:aD.toArray.size=aD.length:=by simp
  have e2:(fun(i:Nat)(v:Value)=>aD.toArray[i]? = some v)=fun i v=>aD[i]? = some v:=by funext i v;simp
  rw[e1,e2]at W
  refine wpAny_pyIter_list hl (hQ aD s.heap.objs.size _ _ _ _ r W ⟨⟨_,Heap.get?_push_size _ rfl,rfl,rfl⟩,hl.push _⟩ (fun b hb=>?_) fun h' tk hk=>?_)
  ·show b<(s.heap.push _).objs.size
   rw[Heap.size_push]
   rcases List.mem_cons.mp hb with rfl|hb
   ·exact Nat.lt_succ_self _
   ·rcases List.mem_cons.mp hb with rfl|hb
    ·exact Nat.lt_succ_of_lt eY
    ·cases hb
  ·exact I.kept (t':=tk) (old_kept hk)
 ·obtain⟨aD,r,p,hz⟩:=I.tuple h
  have hl:s.heap.IsTuple a aD.toArray:=p
  have eY:a<s.heap.objs.size:=by obtain⟨_,e,_⟩:=hl;exact Heap.lt_size e
  have W:=Walks.tuple (prog:=X.prog) (w:=X.w) (A:=A) hh s.heap.objs.size a (Nat.ne_of_lt eY) aD.toArray
  have e1:aD.toArray.size=aD.length:=by simp
  have e2:(fun(i:Nat)(v:Value)=>aD.toArray[i]? = some v)=fun i v=>aD[i]? = some v:=by funext i v;simp
  rw[e1,e2]at W
  refine wpAny_pyIter_tuple hl (hQ aD s.heap.objs.size _ _ _ _ r W ⟨⟨_,Heap.get?_push_size _ rfl,rfl,rfl⟩,hl.push _⟩ (fun b hb=>?_) fun h' tk hk=>?_)
  ·show b<(s.heap.push _).objs.size
   rw[Heap.size_push]
   rcases List.mem_cons.mp hb with rfl|hb
   ·exact Nat.lt_succ_self _
   ·rcases List.mem_cons.mp hb with rfl|hb
    ·exact Nat.lt_succ_of_lt eY
    ·cases hb
  ·refine I.kept (t':=tk) fun b o e=>hk b o (fun hm=>?_) (Heap.get?_push_of_some _ e)
   rcases List.mem_cons.mp hm with e1|hm
   ·exact absurd (e1▸Heap.lt_size e) (Nat.lt_irrefl _)
   ·cases hm
theorem mM {K:PySem.W.Frag}{st:aB}{d:D}{v:V}{P:List Nat->List D->Prop}(ok:aO K st H)(r:Rep K H d v)(h:dH d st P):∃ a vs as ds,v=.ref a/\MV K H a vs/\aK K H ds vs/\P as ds:=by
 unfold dH at h
 split at h
 ·obtain⟨a,vs,rfl,f,g⟩:=r.bM
  exact⟨a,vs,_,_,rfl,.inr f,g,h⟩
 ·cases r.cE
  obtain⟨ds,e,h⟩:=dD h
  obtain⟨vs,g1,g2⟩:=ok.lst e
  exact⟨_,vs,_,ds,rfl,.inl (cZ.of g1),g2,h⟩
 ·obtain⟨a,vs,rfl,f,g⟩:=r.jL
  exact⟨a,vs,_,_,rfl,.inl f.sq,g,h⟩
 ·exact h.elim
theorem yU {K:PySem.W.Frag}:∀{ds:List D}{vs:List V}{aD:List Value}{bs:List Bool},boolsOf ds=some bs->aK K H ds vs->aL vs aD->aD=bs.map Value.bool
 |_,_,_,_,h,.nil,.nil=>by cases h;rfl
 |d::ds,_,_,bs,h,.cons r1 r2,.cons v1 v2=>by
  cases d with
  |bl b =>
   simp only[boolsOf,Option.map_eq_some_iff]at h
   obtain⟨bs',e,rfl⟩:=h
   cases r1.eJ
   cases v1
   rw[yU e r2 v2];rfl
  |_=>simp [boolsOf]at h
theorem all_range (bs:List Bool):(List.range bs.length).all (fun i=>(bs[i]?).getD true)=bs.all id:=by
 induction bs with
 |nil=>rfl
 |cons b bs ih =>
 simp only[List.length_cons,List.range_succ_eq_map,List.all_cons,List.all_map,Function.comp_def,List.getElem?_cons_zero,List.getElem?_cons_succ,Option.getD_some,id]
 rw[<-ih]
theorem any_range (bs:List Bool):(List.range bs.length).any (fun i=>(bs[i]?).getD true)=bs.any id:=by
 induction bs with
 |nil=>rfl
 |cons b bs ih =>
 simp only[List.length_cons,List.range_succ_eq_map,List.any_cons,List.any_map,Function.comp_def,List.getElem?_cons_zero,List.getElem?_cons_succ,Option.getD_some,id]
 rw[<-ih]
theorem yG {prog:Program}{w:World}{A:Around}(bs:List Bool):TruthOf prog w A (fun i v=>(bs.map Value.bool)[i]? = some v) (fun i=>(bs[i]?).getD true):=fun i v s Q E hP hQ=>by
 have hP:(bs.map Value.bool)[i]? = some v:=hP
 rw[List.getElem?_map,Option.map_eq_some_iff]at hP
 obtain⟨b,e,rfl⟩:=hP
 simp only[e,Option.getD_some]at hQ
 exact wpAny_truthy_bool hQ
theorem jJ (hh:X.A.handled=none):uZ X (.builtin "all") (gJ .all):=by
 intro pins s σ H st ds vs us R I ok r rv q
 match ds,q with
 |[d],q =>
 have q:gJ .all [d] st R:=q
 rw[MB]at q
 obtain⟨v,rfl,rd⟩:=r.one
 obtain⟨u,rfl,ru⟩:=vals1 rv
 obtain⟨a,ws,as,xs,rfl,sa,g,q⟩:=mM ok rd q
 cases ru
 obtain⟨bs,e,q⟩:=dU q
 refine call_all_walk (E4 (A:=X.A.in1) hh I sa fun aD I0 fp wr St s₂ rr W h0 hfp hk=>?_)
 cases yU e g rr
 refine⟨I0,fp,wr,_,_,St,_,rfl,W,h0,yG bs,fun h' tk hk'=>⟨.bl _,H,hk h' tk hk',rfl,?_⟩⟩
 rw[List.length_map,all_range]
 exact .here ok (.bl _) q
 |[],q=>exact(show False from q).elim
 |_::_::_,q=>exact(show False from q).elim
theorem CW (hh:X.A.handled=none):uZ X (.builtin "any") (gJ .any):=by
 intro pins s σ H st ds vs us R I ok r rv q
 match ds,q with
 |[d],q =>
 have q:gJ .any [d] st R:=q
 rw[L8]at q
 obtain⟨v,rfl,rd⟩:=r.one
 obtain⟨u,rfl,ru⟩:=vals1 rv
 obtain⟨a,ws,as,xs,rfl,sa,g,q⟩:=mM ok rd q
 cases ru
 obtain⟨bs,e,q⟩:=dU q
 refine call_any_walk (E4 (A:=X.A.in1) hh I sa fun aD I0 fp wr St s₂ rr W h0 hfp hk=>?_)
 cases yU e g rr
 refine⟨I0,fp,wr,_,_,St,_,rfl,W,h0,yG bs,fun h' tk hk'=>⟨.bl _,H,hk h' tk hk',rfl,?_⟩⟩
 rw[List.length_map,any_range]
 exact .here ok (.bl _) q
 |[],q=>exact(show False from q).elim
 |_::_::_,q=>exact(show False from q).elim
theorem zQ:uZ X (.type "list") (gJ .list):=by
 intro pins s σ H st ds vs us R I ok r rv q
 match ds,q with
 |[d],q =>
 have q:gJ .list [d] st R:=q
 rw[G8]at q
 obtain⟨v,rfl,rd⟩:=r.one
 obtain⟨a,ws,as,xs,rfl,sa,g,q⟩:=mM ok rd q
 exact E3 pins s σ H _ us _ I rv ⟨a,ws,rfl,sa,fun l hl=>.gB ok g hl q.2⟩
 |[],q=>exact(show False from q).elim
 |_::_::_,q=>exact(show False from q).elim
theorem dQ:uZ X (.type "tuple") (gJ .tuple):=by
 intro pins s σ H st ds vs us R I ok r rv q
 match ds,q with
 |[d],q =>
 have q:gJ .tuple [d] st R:=q
 rw[FP]at q
 obtain⟨v,rfl,rd⟩:=r.one
 obtain⟨a,ws,as,xs,rfl,sa,g,q⟩:=mM ok rd q
 rcases sa with sa|sa
 ·exact tW pins s σ H _ us _ I rv ⟨a,ws,rfl,.inl ⟨sa,fun l hl=>.D2 ok g hl q.2⟩⟩
 ·exact tW pins s σ H _ us _ I rv ⟨a,ws,rfl,.inr ⟨sa,.here ok (.tup sa g) q.2⟩⟩
 |[],q=>exact(show False from q).elim
 |_::_::_,q=>exact(show False from q).elim
theorem Hc {K:PySem.W.Frag}{a:Addr}{vs:List V}(h:H a=some (.lst vs)):MP K "list" (.ref a) H:=.inl ⟨rfl,vs,cZ.of h⟩
theorem xQ (l:Addr)(items:Array Value)(n:Nat)(b:Addr)(items2:Array Value)(n2:Nat)(dd:Option Addr)(sl:Array (Option Value))(hs0:¬(!items.isEmpty&&Builtin.List.listTooLong (items.size+items2.size))=true)(hs1:items.size<=sizeLine)(hs2:items.size+items2.size<=sizeLine+1):
 Meets (Builtin.«list.extend» ⟨[.ref l,.ref b],[]⟩) (fun _ R s=>s.heap.get? l=some { cls:=.type "list", dict:=none,data:=.seq items n,slots:=#[] }/\s.heap.get? b=some { cls:=.type "tuple", dict:=dd,data:=.seq items2 n2,slots:=sl }/\R (.ok (.ret Value.none)) { s with heap:=s.heap.update l (Obj.mapSeq fun x=>x++items2),toks:=s.toks }) :=
 .of_wp fun prog w A R s h=>by
 obtain⟨hp,g,d,tk,os⟩:=s;obtain⟨hl,hb,h⟩:=h;have f1:=AutoSeq1.idx_int;have f2:=AutoSeq1.sub_tuple_tuple;have f3:=AutoSeq1.sub_list_list;have f4:=AutoSeq1.sub_tuple_list;have f5:=AutoSeq1.sub_list_tuple;
 have hz':(items++items2).size<=sizeLine+1:=by rw[Array.size_append];exact hs2
 wp_walk using(wpAny_updateSeq hl rfl (hz:=hs1) (_hz':=hz')),AutoSeq1.wpAny_loadPart' hl,AutoSeq1.wpAny_loadPart' hb;exact⟨_,rfl,h⟩
noncomputable def N3 (K:PySem.W.Frag):V->List V->Hp->L2.VK->Prop:=fun x vs H Q=>∃ l b xs zs,x=.ref l/\vs=[.ref b]/\H l=some (.lst xs)/\dP K H b zs/\xs.length+zs.length<=sizeLine/\Q .non (upd H l (.lst (xs++zs)))
theorem JJ:PV X "list.extend" (N3 X.K):=by
 intro pins s σ H x vs v us Q I rx rv h
 obtain⟨l,b,xs,zs,rfl,rfl,hH,hB,hz,q⟩:=h
 cases rx
 obtain⟨u,rfl,ru⟩:=rv.one
 cases ru
 obtain⟨z,aD,n,r,hl,e⟩:=I.tR hH
 obtain⟨lO,r2,p2,_⟩:=I.tuple hB
 have hl2:=r2.length
 obtain⟨⟨cls,dd,data,sl⟩,ho,hc,n2,hd⟩:=id p2
 simp only at hc hd
 subst hc hd
 have lU:aD.toArray.size+lO.toArray.size<=sizeLine:=by rw[List.size_toArray,List.size_toArray];omega
 have hlong:¬(!aD.toArray.isEmpty&&Builtin.List.listTooLong (aD.toArray.size+lO.toArray.size))=true:=by
  rw[yT lU,Bool.and_false]
  exact Bool.false_ne_true
 refine call_meets F.slot_list_extend ⟨_,e,rfl⟩ F.entry_list_extend (F.args_list_extend_2 _ _)
  (xQ l aD.toArray n b lO.toArray n2 dd sl hlong (by rw[List.size_toArray];omega) (by omega)) ⟨e,ho,?_⟩
 refine⟨.non,_,I.J0 (jX:=aD++lO) hH e (by simp) (r.append r2) ?_,rfl,q⟩
 rw[List.length_append]
 omega
noncomputable def FK (X:Cx)(T id:String)(W:D->List D->aB->VK->Prop):Prop :=
 ∀(pins:List (Addr×Obj))(s:Shared)(σ:L2.St)(H:Hp)(st:aB)(d:D)(ds:List D)(v:V)(vs:List V)(u:Value)(us:List Value)(R:VK),Inv X pins σ H s->aO X.K st H->Rep X.K H d v->RelV v u->aK X.K H ds vs->aL vs us->W d ds st R ->
 wpAny (model X.prog X.w) X.A (call (.builtin id) (u::us)) (EP X pins σ (QD X.K H st R)) X.xe s
inductive V8 (K:PySem.W.Frag)(W:D->List D->aB->VK->Prop)(v:V)(vs:List V)(H:Hp)(Q:L2.VK):Prop where
 |mk (d:D)(ds:List D)(st:aB)(R:VK)(r:Rep K H d v)(rs:aK K H ds vs)(ok:aO K st H)(q:W d ds st R)(hq:∀ v H',QD K H st R v H'->Q v H'):V8 K W v vs H Q
theorem FK.mt {T id:String}{W:D->List D->aB->VK->Prop}(h:FK X T id W):PV X id (V8 X.K W):=fun pins s σ H v vs u us Q I rv rvs ⟨d,ds,st,R,r,rs,ok,q,hq⟩ =>
 aW (h pins s σ H st d ds v vs u us R I ok r rv rs rvs q) fun u s' ⟨v,H',I',r',z⟩=>⟨v,H',I',r',hq _ _ z⟩
theorem NA:FK X "list" "list.append" (iS .append):=by
 intro pins s σ H st d ds v vs u us R I ok r rv rs rvs q
 cases d<;>first|exact(show False from q).elim|skip
 match ds,q with
 |[d],q =>
 cases r.cE
 obtain⟨w,rfl,rd⟩:=rs.one
 obtain⟨xs,e,q⟩:=dD (st:=st) q
 obtain⟨ys,g1,g2⟩:=ok.lst e
 exact L2.qL pins s σ H _ _ u us _ I rv rvs ⟨_,ys,w,rfl,rfl,g1,by rw[fL,<-g2.length];exact q.1,.set ok e (g2.append (.cons rd .nil)) .non q.2⟩
 |[],q=>exact(show False from q).elim
 |_::_::_,q=>exact(show False from q).elim
theorem LF:FK X "list" "list.extend" (iS .extend):=by
 intro pins s σ H st d ds v vs u us R I ok r rv rs rvs q
 cases d<;>first|exact(show False from q).elim|skip
 match ds,q with
 |[d],q =>
 cases r.cE
 obtain⟨w,rfl,rd⟩:=rs.one
 obtain⟨xs,e,q⟩:=dD (st:=st) q
 obtain⟨ys,g1,g2⟩:=ok.lst e
 have q:uR d st fun zs=>xs.length+zs.length<=bE/\R .non (put st _ (.lst (xs++zs))):=q
 cases d<;>first|exact(show False from q).elim|skip
 ·obtain⟨b,ws,rfl,f,g⟩:=rd.bM
  exact JJ pins s σ H _ _ u us _ I rv rvs ⟨_,b,ys,ws,rfl,rfl,g1,f,by rw[fL,<-g2.length,<-g.length];exact q.1,.set ok e (g2.append g) .non q.2⟩
 ·cases rd.cE
  obtain⟨zs,e2,q⟩:=dD (st:=st) q
  obtain⟨ws,k1,k2⟩:=ok.lst e2
  exact L2.vG pins s σ H _ _ u us _ I rv rvs ⟨_,_,ys,ws,rfl,rfl,g1,k1,by rw[fL,<-g2.length,<-k2.length];exact q.1,.set ok e (g2.append k2) .non q.2⟩
 |[],q=>exact(show False from q).elim
 |_::_::_,q=>exact(show False from q).elim
theorem X0:FK X "list" "list.pop" (iS .pop):=by
 intro pins s σ H st d ds v vs u us R I ok r rv rs rvs q
 cases d<;>first|exact(show False from q).elim|skip
 match ds,q with
 |[],q =>
 cases r.cE
 cases rs
 obtain⟨xs,e,q⟩:=dD (st:=st) q
 obtain⟨ys,g1,g2⟩:=ok.lst e
 obtain⟨d,e2,q⟩:=dU q
 obtain⟨w,k1,k2⟩:=g2.get e2
 exact L2.FA pins s σ H _ _ u us _ I rv rvs ⟨_,ys,w,rfl,rfl,g1,by rw[<-g2.length];exact k1,.set ok e g2.dropLast k2 q⟩
 |_::_,q=>exact(show False from q).elim
theorem M4 {K:PySem.W.Frag}{m:MT}{st:aB}{d:D}{v:V}(hm:m≠.index)(ok:aO K st H)(r:Rep K H d v)(h:uY m d st):MP K "list" v H:=by
 unfold uY at h
 split at h
 all_goals first|(exact h.elim;done)|(exact absurd rfl hm;done)|skip
 all_goals
 cases r.cE
 obtain⟨ds,e,_⟩:=dD h
 obtain⟨vs,g,_⟩:=ok.lst e
 exact Hc g
end
section
variable {X:Cx}{C:bC}{sub:Nat->Nat->Bool}{E:XK}{a b c e o:Expr}{x y z:Ex}{pos apos jF:Pos}
theorem ME {m:MT}{name:Str}{id:String}{es:List Expr}{xs:List Ex}(hmi:m≠.index)(slot:Slot "list" name id)(hty:typeOf (.builtin id)=pure (.type "method_descriptor"))(hm:FK X "list" id (iS m))(ho:PE X o (bS X.K (aH C sub E x)))(ha:PA X (e::es) (jW X.K (bN C sub E xs)))
 (iV:attributeBase o name X.env (eval o X.env)=eval o X.env)
 (tV:((backTo jF (starEach (e::es) X.env)).all (fun x=>!x.1)&&(backToKw jF (keywordEach [] X.env)).all (fun x=>x.1.isSome)&&decide ((e::es).length+([]:List Keyword).length+(if([]:List Keyword).isEmpty then 0 else 1)<30))=true)(iW:(apos.endLine==jF.line)=true)
 (hs:starEach (e::es) X.env=(false,eval e X.env)::starEach es X.env)(pR:(backTo jF (starEach es X.env)).any (·.1)=false):
 PE X (.Call (.Attribute o name apos) (e::es) [] jF) (bS X.K (aH C sub E (.cK m x xs))) :=
 (Cr PySem.F.plainAttrs_list slot hty hm.mt ho ha iV tV iW hs pR).imp fun σ H Q ⟨σd,st,R,r,ok,q,hq⟩=>by
 refine⟨σd,st,_,r,ok,q,fun v H1 ⟨d,aC,s1,aM,r1,q1⟩=>⟨M4 hmi aM r1 q1.1,?_⟩⟩
 refine⟨σd,aC,_,r.step ok s1,aM,q1.2,fun vs H2 ⟨ds,aG,s2,bZ,r2,q2⟩=>?_⟩
 exact⟨d,ds,aG,R,r1.step aM s2,r2,bZ,q2,fun v H' z=>hq _ _ (.after (s1.trans s2) z)⟩
theorem RD {m:MT}{name:Str}{id:String}(hmi:m≠.index)(slot:Slot "list" name id)(hty:typeOf (.builtin id)=pure (.type "method_descriptor"))(hm:FK X "list" id (iS m))(ho:PE X o (bS X.K (aH C sub E x)))
 (iV:attributeBase o name X.env (eval o X.env)=eval o X.env)(iW:(apos.endLine==jF.line)=true):
 PE X (.Call (.Attribute o name apos) [] [] jF) (bS X.K (aH C sub E (.cK m x []))) :=
 (WS PySem.F.plainAttrs_list slot hty hm.mt ho iV iW).imp fun σ H Q ⟨σd,st,R,r,ok,q,hq⟩=>by
 refine⟨σd,st,_,r,ok,q,fun v H1 ⟨d,aC,s1,aM,r1,q1⟩=>⟨M4 hmi aM r1 q1.1,?_⟩⟩
 exact⟨d,[],aC,R,r1,.nil,aM,q1.2,fun v H' z=>hq _ _ (.after s1 z)⟩
inductive eU (K:PySem.W.Frag)(C:bC)(f:Nat)(vs:List V)(H:Hp)(Q:L2.VK)(E:L2.XK):Prop where
 |mk (ds:List D)(st:aB)(R:VK)(r:aK K H ds vs)(ok:aO K st H)(q:C f ds st R (fun _ _=>False))(hq:∀ v H',QD K H st R v H'->Q v H'):eU K C f vs H Q E
theorem U1 {CX:uI}{k:Nat}{f:Addr}{fid:Nat}{fd:FuncData}{ps:List Str}{n:Str}{p:Pos}{es:List Expr}{xs:List Ex}(F:dX X.prog X.w X.K X.mg X.base CX k f fd ps (eU X.K C fid))(hr:dA k X.A)(hg:Gl X n)(hm:X.mg n=some (.ref f))
 (hk:PySem.W.keepIn X.K (.ref f)=true)(hb:Binds X.K fd ps [])(hx:oB CX X E0)(ha:PA X (e::es) (jW X.K (bN C sub (fun _ _=>False) xs)))
 (hdb:(n==("__debug__" : Str))=false)(he:starEach (e::es) X.env=(false,eval e X.env)::starEach es X.env)(cS:(backTo pos (starEach es X.env)).any (·.1)=false):
 PE X (.Call (.Name n p) (e::es) [] pos) (bS X.K (aH C sub (fun _ _=>False) (.call fid xs))) :=
 (RY F hr hg hm hk hb .nil hx ha hdb he cS).imp fun σ H Q ⟨σd,st,R,r,ok,q,hq⟩=>by
 refine⟨σd,st,_,r,ok,q,fun vs H1 ⟨ds,aC,s1,aM,r1,q1⟩=>?_⟩
 show eU X.K C fid (vs++[]) H1 Q E0
 rw[List.append_nil]
 exact⟨ds,aC,R,r1,aM,q1,fun v H' z=>hq _ _ (.after s1 z)⟩
end
end L3
end
section
namespace L3
open PySem PySem.Spec PyProof.Rows L2
noncomputable abbrev EF:XK:=fun _ _=>False
structure AK (K:PySem.W.Frag)(H:Hp)(st:aB)(P:fR)(D:Ends):Prop where
 nx:∀ σ' H' dF aA,cY K H' dF σ'->Step H st H' aA->aO K aA H'->P.nx dF aA->D.nx σ' H'
 rt:∀ v H',QD K H st P.rt v H'->D.rt v H'
 bk:∀ σ' H' dF aA,cY K H' dF σ'->Step H st H' aA->aO K aA H'->P.bk dF aA->D.bk σ' H'
 ct:∀ σ' H' dF aA,cY K H' dF σ'->Step H st H' aA->aO K aA H'->P.ct dF aA->D.ct σ' H'
 ex:∀ c σd st,¬P.ex c σd st
theorem AK.after {K:PySem.W.Frag}{H H1:Hp}{st aC:aB}{P:fR}{D:Ends}(h:AK K H st P D)(s:Step H st H1 aC):AK K H1 aC P D :=
 ⟨fun σ' H' dF aA r t ok q=>h.nx σ' H' dF aA r (s.trans t) ok q,fun v H' z=>h.rt v H' (.after s z),fun σ' H' dF aA r t ok q=>h.bk σ' H' dF aA r (s.trans t) ok q,fun σ' H' dF aA r t ok q=>h.ct σ' H' dF aA r (s.trans t) ok q,h.ex⟩
inductive gN (K:PySem.W.Frag)(ts:fR->St->aB->Prop)(D:Ends)(σ:L2.St)(H:Hp):Prop where
 |mk (σd:St)(st:aB)(P:fR)(r:cY K H σd σ)(ok:aO K st H)(q:ts P σd st)(h:AK K H st P D):gN K ts D σ H
section
variable {X:Cx}{C:bC}{sub:Nat->Nat->Bool}{a b c e:Expr}{x y z:Ex}{pos:Pos}{s:Stmt}{ss:List Stmt}{xs:List Sx}{sx:Sx}
theorem Aw:jQ X [] (gN X.K (cH C sub [])) :=
 RH.imp fun D σ H ⟨σd,st,P,r,ok,q,h⟩=>by
 exact h.nx _ _ _ _ r .refl ok q
theorem XC (h1:PS X s (gN X.K (wpS C sub sx)))(h2:jQ X ss (gN X.K (cH C sub xs))):jQ X (s::ss) (gN X.K (cH C sub (sx::xs))) :=
 (OY h1 h2).imp fun D σ H ⟨σd,st,P,r,ok,q,h⟩=>by
 exact⟨σd,st,_,r,ok,q,⟨fun σ' H' dF aA r' s' fJ q'=>⟨dF,aA,P,r',fJ,q',h.after s'⟩,h.rt,h.bk,h.ct,h.ex⟩⟩
theorem oO {P:fR}{σd:St}{st:aB}{x:Ex}{Q:VK}(hC:bP C C)(he:∀ c σd st,¬P.ex c σd st)(q:aH C sub (fun c aA=>P.ex c σd aA) x σd st Q):aH C sub EF x σd st Q :=
 aQ hC (fun c st z=>he _ _ _ z) x (fun _ _ z=>z) q
theorem Bw {P:fR}{σd:St}{st:aB}{xs:List Ex}{Q:List D->aB->Prop}(hC:bP C C)(he:∀ c σd st,¬P.ex c σd st)(q:bN C sub (fun c aA=>P.ex c σd aA) xs σd st Q):bN C sub EF xs σd st Q :=
 cN hC (fun c st z=>he _ _ _ z) xs (fun _ _ z=>z) q
theorem ZV (hC:bP C C)(h:PE X e (bS X.K (aH C sub EF x))):PS X (.Return (some e) pos) (gN X.K (wpS C sub (.ret x))) :=
 (W4 h).imp fun D σ H ⟨σd,st,P,r,ok,q,h⟩=>by
 exact⟨σd,st,_,r,ok,oO hC h.ex q,h.rt⟩
theorem WJ:PS X (.Return none pos) (gN X.K (wpS C sub (.ret (.c .non)))) :=
 RT.imp fun D σ H ⟨σd,st,P,r,ok,q,h⟩=>by
 exact h.rt _ _ (.here ok .non q)
theorem Gi (hC:bP C C)(h:PE X e (bS X.K (aH C sub EF x)))(hs:swapsWith e none pos.line X.env=pure false):PS X (.Expr e pos) (gN X.K (wpS C sub (.ex x))) :=
 (RK h hs).imp fun D σ H ⟨σd,st,P,r,ok,q,h⟩=>by
 exact⟨σd,st,_,r,ok,oO hC h.ex q,fun v H' ⟨d,aA,s',fJ,_,q'⟩=>h.nx _ _ _ _ (r.step ok s') s' fJ q'⟩
theorem Ed {as bs:List Stmt}{ax bx:List Sx}(hC:bP C C)(hc:PT X c (iU X.K (aH C sub EF x)))(ha:jQ X as (gN X.K (cH C sub ax)))(hb:jQ X bs (gN X.K (cH C sub bx))):PS X (.If c as bs pos) (gN X.K (wpS C sub (.iff x ax bx))) :=
 (ZL hc ha hb).imp fun D σ H ⟨σd,st,P,r,ok,q,h⟩=>by
 refine⟨σd,st,fun k aA=>if k=true then cH C sub ax P σd aA else cH C sub bx P σd aA,r,ok,oO hC h.ex q,fun k H' ⟨aA,s',fJ,q'⟩=>?_⟩
 cases k with
 |true=>exact⟨σd,aA,P,r.step ok s',fJ,q',h.after s'⟩
 |false=>exact⟨σd,aA,P,r.step ok s',fJ,q',h.after s'⟩
theorem UB {cl:Nat}{es:List Ex}(hC:bP C C)(hn:∀ σd st,¬bN C sub EF es σd st fun _ _=>False):PS X s (gN X.K (wpS C sub (.rais cl es))) :=
 OK.imp fun D σ H ⟨σd,st,P,r,ok,q,h⟩=>by
 exact hn σd st (cN hC (fun c st z=>(h.ex _ _ _ z).elim) es (fun _ _ z=>(h.ex _ _ _ z).elim) q)
inductive EV (K:PySem.W.Frag)(g:D->St->aB->(St->aB->Prop)->Prop)(v:V)(σ:L2.St)(H:Hp)(Q:L2.St->Hp->Prop):Prop where
 |mk (d:D)(σd:St)(st:aB)(M:St->aB->Prop)(r:Rep K H d v)(sr:cY K H σd σ)(ok:aO K st H)(q:g d σd st M)(hq:∀ σ' H' dF aA,cY K H' dF σ'->Step H st H' aA->aO K aA H'->M dF aA->Q σ' H'):EV K g v σ H Q
theorem _root_.L2.PG.imp {X:Cx}{e:Expr}{t t':TG}(i:∀ v σ H Q,t' v σ H Q->t v σ H Q)(h:PG X e t):PG X e t':=fun pins s σ H v u Q I r q=>h pins s σ H v u Q I r (i v σ H Q q)
theorem NO {E:XK}{i:Nat}(h:PG X e (AZ i)):PG X e (EV X.K (lH C sub E (.nm i))) :=
 h.imp fun v σ H Q ⟨d,σd,st,M,rd,r,ok,q,hq⟩=>by
 exact hq _ _ _ _ (r.set i rd) .refl ok q
theorem II {tg:Expr}{t:Tg}(hC:bP C C)(he:PE X e (bS X.K (aH C sub EF x)))(hg:PG X tg (EV X.K (lH C sub EF t)))
 (hs:swapsWithSole [tg] e pos.line X.env=pure false)(hw:swappedStores [tg] e X.env=pure none)(h1:(assignEach [tg] X.env).map (·.2)=[assign tg X.env]):PS X (.Assign [tg] e pos) (gN X.K (wpS C sub (.asg t x))) :=
 (YB he hg hs hw h1).imp fun D σ H ⟨σd,st,P,r,ok,q,h⟩=>by
 refine⟨σd,st,_,r,ok,oO hC h.ex q,fun v H' ⟨d,aA,s',fJ,rd,q'⟩=>?_⟩
 refine⟨d,σd,aA,P.nx,rd,r.step ok s',fJ,tM hC (fun c st z=>h.ex _ _ _ z) (fun _ _ z=>z) t q',fun σ2 H2 qN aG r2 s2 bZ q2=>?_⟩
 exact h.nx _ _ _ _ r2 (s'.trans s2) bZ q2
theorem R8 {bs:List Stmt}{bx:List Sx}(hC:bP C C)(hp:PassesOwn (model X.prog X.w) X.A X.env X.xe)(hc:PT X c (iU X.K (aH C sub EF x)))(hb:jQ X bs (gN X.K (cH C sub bx))):PS X (.While c bs [] pos) (gN X.K (wpS C sub (.whl x bx))) :=
 (PL hp hc hb).imp fun D σ H ⟨σd,st,P,r,ok,q,h⟩=>by
 obtain⟨n,q⟩:=q
 refine⟨fun m σ' H'=>∃ dF aA,cY X.K H' dF σ'/\Step H st H' aA/\aO X.K aA H'/\mZ _ m dF aA,⟨n,σd,st,r,.refl,ok,q⟩,fun m σ1 H1 ⟨σd1,aC,r1,s1,aM,q1⟩=>?_⟩
 cases m with
 |zero=>exact q1.elim
 |succ m =>
  simp only[mZ]at q1
  refine⟨σd1,aC,fun k aA=>if k=true then cH C sub bx _ σd1 aA else P.nx σd1 aA,r1,aM,oO hC h.ex q1,fun k H2 ⟨aG,s2,bZ,q2⟩=>?_⟩
  cases k with
  |false=>exact h.nx _ _ _ _ (r1.step aM s2) (s1.trans s2) bZ q2
  |true =>
  refine⟨fun σ' H'=>∃ dF aA,cY X.K H' dF σ'/\Step H st H' aA/\aO X.K aA H'/\mZ _ m dF aA,fun σ' H' z=>⟨m,Nat.lt_succ_self _,z⟩,?_⟩
  refine⟨σd1,aG,_,r1.step aM s2,bZ,q2,⟨fun σ' H' dF aA r' s' fJ q'=>⟨dF,aA,r',(s1.trans s2).trans s',fJ,q'⟩,fun v H' z=>h.rt _ _ (.after (s1.trans s2) z),fun σ' H' dF aA r' s' fJ q'=>h.nx _ _ _ _ r' ((s1.trans s2).trans s') fJ q',
   fun σ' H' dF aA r' s' fJ q'=>⟨dF,aA,r',(s1.trans s2).trans s',fJ,q'⟩,h.ex⟩⟩
end
end L3
end
section
namespace L3
open PySem PySem.Spec PyProof.Rows L2
noncomputable def QM (x:Str):It:=⟨fun i _=>i<x.cps.size,fun i H v H'=>H'=H/\∃ c,x.cps[i]? = some c/\v=.str ⟨#[c]⟩,fun i _=>x.cps.size<=i⟩
theorem EL {P:Program}{w:World}{K:PySem.W.Frag}{tg:Expr}(it:Addr)(x:Str)(t:Tok)(ty:String)(hty:["enumerate","zip","dict_itemiterator","dict_reverseitemiterator","odict_iterator","itertools.zip_longest","itertools.pairwise"].contains ty=false)
  (W:∀ A:Around,A.handled=none->Walks P w A it [it] [it] x.cps.size (SignAt x) (fun i h=>h.IsStrIter it ty x t i))
  (hd:∀(A:Around)(i:Nat)(s:Shared)(Q:Option Value->Shared->Prop)(E:Value->Shared->Prop),A.handled=none->s.heap.IsStrIter it ty x t i->x.cps.size<=i->(∀ h',(∀ b o,b≠it->s.heap.get? b=some o->h'.get? b=some o)->Q none { s with heap:=h' })->wpAny (model P w) A (pyNext (.ref it)) Q E s)
  (hself:∀(A:Around)(i:Nat)(s:Shared)(Q:Value->Shared->Prop)(E:Value->Shared->Prop),s.heap.IsStrIter it ty x t i->Q (.ref it) s->wpAny (model P w) A (pyIter (.ref it)) Q E s):Turn P w K tg (QM x) [it] it (fun i h=>h.IsStrIter it ty x t i) where
 mem:=by simp
 obj:=fun i h st b hb=>by
  have e:b=it:=by simpa using hb
  subst e
  obtain⟨o,e,c,d⟩:=st
  exact⟨o,e,fun v z=>by rw[d]at z;cases z⟩
 keep:=fun i h h' st k=>let⟨o,e,r⟩:=st;⟨o,k it (by simp) o e,r⟩
 item:=by
  intro X hP hw hK hc i pins s σ H E I hf st hg
  subst hP hw hK
  obtain⟨f0,f1,f2,f3,f4,f5⟩:=hf it (by simp)
  refine(W X.A (I.ok.hd hc)).item i s _ _ hg st fun v h' tk hv aA kk=>?_
  obtain⟨c,u,hc',rfl⟩:=hv
  have I1:Inv X pins σ H { s with heap:=h',toks:=tk }:=I.turned (fun b o hb e=>kk b o (by simpa using hb) e) f0 f1 f3 f4 f5
  obtain⟨o,e,c1,d⟩:=id aA
  exact⟨_,rfl,AY (s:={ s with heap:=h',toks:=tk }) e c1 d hty ⟨.str ⟨#[c]⟩,H,I1,⟨u,rfl⟩,⟨rfl,c,hc',rfl⟩,aA,fun b hb=>(hf b hb).1⟩⟩
 done:=by
  intro X hP hw hK hc i pins s σ H E I hf st hg
  subst hP hw hK
  obtain⟨f0,f1,f2,f3,f4,f5⟩:=hf it (by simp)
  exact hd X.A i s _ _ (I.ok.hd hc) st hg fun h' eb=>⟨rfl,I.turned (t':=s.toks) (fun b o hb e=>eb b o hb e) f0 f1 f3 f4 f5⟩
 self:=fun A i s Q E st h=>hself A i s Q E st h
structure yD (K:PySem.W.Frag)(J:It)(as:List Nat)(xs:List D)(H1:Hp)(aC:aB):Prop where
 go:∀ i H st d,Step H1 aC H st->aO K st H->same as aC st->xs[i]? = some d->J.go i H
 yld:∀ i H st d x H',Step H1 aC H st->aO K st H->same as aC st->xs[i]? = some d->J.yld i H x H'->Step H st H' st/\aO K st H'/\Rep K H' d x
 stop:∀ i H st,Step H1 aC H st->aO K st H->same as aC st->xs.length<=i->J.stop i H
inductive QJ (K:PySem.W.Frag)(H:Hp)(st:aB)(M:List Nat->List D->aB->Prop)(J:It)(H1:Hp):Prop where
 |mk (as:List Nat)(xs:List D)(aC:aB)(s:Step H st H1 aC)(ok:aO K aC H1)(j:yD K J as xs H1 aC)(q:M as xs aC):QJ K H st M J H1
inductive zH (K:PySem.W.Frag)(te:St->aB->(List Nat->List D->aB->Prop)->Prop)(σ:L2.St)(H:Hp)(R:It->Hp->Prop):Prop where
 |mk (σd:St)(st:aB)(M:List Nat->List D->aB->Prop)(r:cY K H σd σ)(ok:aO K st H)(q:te σd st M)(hq:∀ J H1,QJ K H st M J H1->R J H1):zH K te σ H R
section
variable {K:PySem.W.Frag}{H1:Hp}{aC:aB}{a:Addr}{xs:List D}{vs:List V}
theorem TF (aM:aO K aC H1)(f:dP K H1 a vs)(g:aK K H1 xs vs):yD K (X8 K a) [] xs H1 aC where
 go:=fun i H st d s ok _ e=>let⟨v,e1,_⟩:=g.get e;⟨vs,v,tP aM s f,e1⟩
 yld:=fun i H st d x H' s ok _ e ⟨e',h⟩=>by
  subst e'
  obtain⟨v,e1,e2⟩:=g.get e
  have:=h vs (tP aM s f)
  rw[e1]at this;cases this
  exact⟨.refl,ok,e2.step aM s⟩
 stop:=fun i H st s ok _ l=>⟨vs,tP aM s f,by rw[<-g.length];exact l⟩
theorem O3 (aM:aO K aC H1)(f:oX K H1 a vs)(g:aK K H1 xs vs):yD K (P1 K a) [] xs H1 aC where
 go:=fun i H st d s ok _ e=>let⟨v,e1,_⟩:=g.get e;⟨vs,v,(qF aM s f).sq,e1⟩
 yld:=fun i H st d x H' s ok _ e ⟨e',h⟩=>by
  subst e'
  obtain⟨v,e1,e2⟩:=g.get e
  have:=h vs (qF aM s f).sq
  rw[e1]at this;cases this
  exact⟨.refl,ok,e2.step aM s⟩
 stop:=fun i H st s ok _ l=>⟨vs,(qF aM s f).sq,by rw[<-g.length];exact l⟩
theorem TL (aM:aO K aC H1)(e0:aC a=some (.lst xs)):yD K (P1 K a) [a] xs H1 aC where
 go:=fun i H st d s ok sm e=>by
  have e':st a=some (.lst xs):=(sm a (by simp)).trans e0
  obtain⟨us,g1,g2⟩:=ok.lst e'
  obtain⟨v,e1,_⟩:=g2.get e
  exact⟨us,v,cZ.of g1,e1⟩
 yld:=fun i H st d x H' s ok sm e ⟨e',h⟩=>by
  subst e'
  have e':st a=some (.lst xs):=(sm a (by simp)).trans e0
  obtain⟨us,g1,g2⟩:=ok.lst e'
  obtain⟨v,e1,e2⟩:=g2.get e
  have:=h us (cZ.of g1)
  rw[e1]at this;cases this
  exact⟨.refl,ok,e2⟩
 stop:=fun i H st s ok sm l=>by
  have e':st a=some (.lst xs):=(sm a (by simp)).trans e0
  obtain⟨us,g1,g2⟩:=ok.lst e'
  exact⟨us,cZ.of g1,by rw[<-g2.length];exact l⟩
theorem MJ (lo:Int)(n:Nat):yD K (P9 lo n) [] (gR lo n) H1 aC where
 go:=fun i H st d s ok _ e=>by
  have:=(List.getElem?_eq_some_iff.mp e).1
  show i<n
  simpa [gR]using this
 yld:=fun i H st d x H' s ok _ e ⟨e',h⟩=>by
  subst e' h
  simp only[gR,List.getElem?_map,Option.map_eq_some_iff]at e
  obtain⟨k,e1,rfl⟩:=e
  have:k=i:=by
   rw[List.getElem?_eq_some_iff]at e1
   obtain⟨_,e2⟩:=e1
   simp at e2
   exact e2.symm
  subst this
  exact⟨.refl,ok,.int _⟩
 stop:=fun i H st s ok _ l=>by show n<=i;simpa [gR]using l
theorem HJ (x:List Nat):yD K (QM ⟨x.toArray⟩) [] (x.map fun c=>.str [c]) H1 aC where
 go:=fun i H st d s ok _ e=>by
  have:=(List.getElem?_eq_some_iff.mp e).1
  show i<(⟨x.toArray⟩:Str).cps.size
  simpa using this
 yld:=fun i H st d v H' s ok _ e ⟨e',c,ec,ev⟩=>by
  subst e' ev
  simp only[List.getElem?_map,Option.map_eq_some_iff]at e
  obtain⟨c',e1,rfl⟩:=e
  have:c=c':=by
   have ec:x.toArray[i]? = some c:=ec
   simp at ec
   rw[ec]at e1;exact Option.some.inj e1
  subst this
  exact⟨.refl,ok,.str [c]⟩
 stop:=fun i H st s ok _ l=>by
  show(⟨x.toArray⟩:Str).cps.size<=i
  simpa using l
end
section
variable {X:Cx}{C:bC}{sub:Nat->Nat->Bool}{a b c e tg:Expr}{x y z:Ex}{pos:Pos}
theorem _root_.L2.PI.imp {X:Cx}{tg e:Expr}{t t':TI}(i:∀ σ H Q,t' σ H Q->t σ H Q)(h:PI X tg e t):PI X tg e t':=fun pins s σ H Q I q=>h pins s σ H Q I (i σ H Q q)
theorem XB {E:XK}(h:PE X e (bS X.K (aH C sub E x))):PI X tg e (zH X.K fun σ st M=>bN C sub E [x] σ st fun ds aC=>fT none ds aC fun as xs=>M as xs aC):=by
 intro pins s σ H R I ⟨σd,st,M,r,ok,q,hq⟩
 refine aW (h pins s σ H _ I ⟨σd,st,_,r,ok,q,fun v H' z=>z⟩) fun u s1 ⟨v,H1,I1,rv,d,aC,cV,aM,r1,q1⟩=>?_
 have fresh:∀{b:Addr},b∈[s1.heap.objs.size]->lI X pins H1 b:=fun{b} hb=>by
  have e:b=s1.heap.objs.size:=by simpa using hb
  subst e
  exact I1.DZ (Nat.le_refl _) (I1.bY.fresh (Nat.le_refl _))
 have tup:∀(a:Addr)(vs:List V)(as:List Nat)(xs:List D),v=.ref a->dP X.K H1 a vs->yD X.K (X8 X.K a) as xs H1 aC->M as xs aC->wpAny (model X.prog X.w) X.A (pyIter u) (M6 X pins σ tg R) X.xe s1:=by
  intro a vs as xs e f j q
  subst e
  cases rv
  obtain⟨aD,rr,p,hz⟩:=I1.tuple f
  exact wpAny_pyIter_tuple (show s1.heap.IsTuple a aD.toArray from p) ⟨s1.heap.objs.size,[s1.heap.objs.size],_,_,H1,rfl,I1.kept (t':=s1.toks) fun b o e=>Heap.get?_push_of_some _ e,JU a _,⟨_,Heap.get?_push_size _ rfl,rfl,rfl⟩,fun b hb=>fresh hb,hq _ _ ⟨as,xs,aC,cV,aM,j,q⟩⟩
 have lst:∀(a:Addr)(vs:List V)(as:List Nat)(xs:List D),v=.ref a->cZ X.K H1 a vs->yD X.K (P1 X.K a) as xs H1 aC->M as xs aC->wpAny (model X.prog X.w) X.A (pyIter u) (M6 X pins σ tg R) X.xe s1:=by
  intro a vs as xs e f j q
  subst e
  cases rv
  obtain⟨aD,rr,p,hz⟩:=I1.list f
  exact wpAny_pyIter_list p.isList ⟨s1.heap.objs.size,[s1.heap.objs.size],_,_,H1,rfl,I1.kept (t':=s1.toks) fun b o e=>Heap.get?_push_of_some _ e,K7 a _,⟨_,Heap.get?_push_size _ rfl,rfl,rfl⟩,fun b hb=>fresh hb,hq _ _ ⟨as,xs,aC,cV,aM,j,q⟩⟩
 have q1:mJ d aC fun as xs=>M as xs aC:=q1
 cases d with
 |tup ds =>
  obtain⟨a,vs,e,f,g⟩:=r1.bM
  exact tup a vs _ _ e f (TF aM f g) q1
 |str z =>
  have q1:z.length<=bE/\M [] (z.map fun c=>.str [c]) aC:=q1
  cases r1.str_inv
  obtain⟨t,rfl⟩:=rv
  cases ha:(⟨z.toArray⟩:Str).cps.all (·< 128)
  ·exact wpAny_pyIter_wide ha ⟨s1.heap.objs.size,[s1.heap.objs.size],_,QM ⟨z.toArray⟩,H1,rfl,I1.kept (t':=s1.toks) fun b o e=>Heap.get?_push_of_some _ e,
   EL s1.heap.objs.size ⟨z.toArray⟩ t "str_iterator" (by decide) (fun A hA=>Walks.strWide hA _ _ t) (fun A i s Q E hA hi hn hQ=>wpAny_pyNext_wide_end hA hi (by simpa using hn) fun h' he=>hQ h' he) (fun A i s Q E hi hQ=>wpAny_pyIter_striter_wide hi hQ),
   ⟨_,Heap.get?_push_size _ rfl,rfl,rfl⟩,fun b hb=>fresh hb,hq _ _ ⟨_,_,aC,cV,aM,HJ z,q1.2⟩⟩
  ·exact wpAny_pyIter_ascii ha ⟨s1.heap.objs.size,[s1.heap.objs.size],_,QM ⟨z.toArray⟩,H1,rfl,I1.kept (t':=s1.toks) fun b o e=>Heap.get?_push_of_some _ e,
   EL s1.heap.objs.size ⟨z.toArray⟩ t "str_ascii_iterator" (by decide) (fun A hA=>Walks.strAscii hA _ _ t) (fun A i s Q E hA hi hn hQ=>wpAny_pyNext_ascii_end hA hi (by simpa using hn) fun h' he=>hQ h' he) (fun A i s Q E hi hQ=>wpAny_pyIter_striter_ascii hi hQ),
   ⟨_,Heap.get?_push_size _ rfl,rfl,rfl⟩,fun b hb=>fresh hb,hq _ _ ⟨_,_,aC,cV,aM,HJ z,q1.2⟩⟩
 |ref a =>
  cases r1.cE
  obtain⟨ds,e,q1⟩:=dD (st:=aC) q1
  obtain⟨vs,g1,g2⟩:=aM.lst e
  exact lst _ vs _ _ rfl (cZ.of g1) (TL aM e) q1
 |bB ds =>
  obtain⟨a,vs,e,f,g⟩:=r1.jL
  exact lst a vs _ _ e f.sq (O3 aM f g) q1
 |_=>exact(show False from q1).elim
theorem Q4 {E:XK}{p:Pos}(hC:bP C C)(hg:Gl X "range")(hm:X.mg "range" = none)(ha:PA X [a] (jW X.K (bN C sub E [x])))(hs:starEach [a] X.env=[(false,eval a X.env)]):
 PI X tg (.Call (.Name "range" p) [a] [] pos) (zH X.K fun σ st M=>bN C sub E [x] σ st fun ds aC=>fT (some .range) ds aC fun as xs=>M as xs aC) :=
 (KS hg hm ha hs).imp fun σ H R ⟨σd,st,M,r,ok,q,hq⟩=>by
 refine⟨σd,st,_,r,ok,pQ [x] hC q,fun vs H1 ⟨ds,aC,s1,aM,r1,l1,q1⟩=>?_⟩
 match ds,l1,q1 with
 |[d],_,q1 =>
  obtain⟨v,rfl,rd⟩:=r1.one
  have q1:fT (some .range) [d] aC fun as xs=>M as xs aC:=q1
  cases d with
  |int j =>
  cases rd.int_inv
  exact⟨j,rfl,q1.1.1,q1.1.2,hq _ _ ⟨_,_,aC,s1,aM,MJ 0 _,q1.2⟩⟩
  |_=>exact(show False from q1).elim
theorem QC {k:Option IK}{aD:List Ex}{iter:Expr}{t:Tg}{bs:List Stmt}{bx:List Sx}(hC:bP C C)(hp:PassesOwn (model X.prog X.w) X.A X.env X.xe)(hc:X.calm=true)
 (hi:PI X tg iter (zH X.K fun σ st M=>bN C sub EF aD σ st fun ds aC=>fT k ds aC fun as xs=>M as xs aC))(hg:PG X tg (EV X.K (lH C sub EF t)))(hb:jQ X bs (gN X.K (cH C sub bx)))
 (hs:∀ x,foldedSetIterable iter X.env x=pure x):PS X (.For tg iter bs [] pos) (gN X.K (wpS C sub (.iX t k aD bx))) :=
 (UY hp hc hi hg hb hs).imp fun DD σ H ⟨σd,st,P,r,ok,q,h⟩=>by
 refine⟨σd,st,_,r,ok,Bw hC h.ex q,fun J H1 ⟨as,xs,aC,s1,aM,j,q1⟩=>?_⟩
 refine⟨fun i m σ' H'=>∃ dF aA,cY X.K H' dF σ'/\Step H1 aC H' aA/\aO X.K aA H'/\m+i=xs.length/\oT (same as aC) (fun(x:L3.D) next σ st=>lH C sub (fun c aA=>P.ex c σ aA) t x σ st fun σ' aA=>cH C sub bx { P with nx:=next,ct:=next,bk:=P.nx } σ' aA) P.nx (xs.drop i) dF aA,⟨xs.length,σd,aC,r.step ok s1,.refl,aM,by omega,by simpa using q1⟩,fun i m σ2 H2 ⟨qN,aG,r2,s2,bZ,e2,q2⟩=>?_⟩
 by_cases hi':i<xs.length
 ·have ed:xs.drop i=xs[i]::xs.drop (i+1):=List.drop_eq_getElem_cons hi'
  rw[ed]at q2
  obtain⟨g2,q2⟩:=q2
  refine .inr ⟨j.go i H2 aG xs[i] s2 bZ g2 (List.getElem?_eq_getElem hi'),fun σ' H'=>∃ dF aA,cY X.K H' dF σ'/\Step H1 aC H' aA/\aO X.K aA H'/\oT (same as aC) (fun(x:L3.D) next σ st=>lH C sub (fun c aA=>P.ex c σ aA) t x σ st fun σ' aA=>cH C sub bx { P with nx:=next,ct:=next,bk:=P.nx } σ' aA) P.nx (xs.drop (i+1)) dF aA,
  fun σ' H' ⟨dF,aA,r',s',fJ,q'⟩=>⟨m-1,by omega,dF,aA,r',s',fJ,by omega,q'⟩,fun v H3 y3=>?_⟩
  obtain⟨s3,sE,r3⟩:=j.yld i H2 aG xs[i] v H3 s2 bZ g2 (List.getElem?_eq_getElem hi') y3
  refine⟨xs[i],qN,aG,_,r3,r2.step bZ s3,sE,tM hC (fun c st z=>h.ex _ _ _ z) (fun _ _ z=>z) t q2,fun σ4 H4 σd4 cP r4 s4 QU q4=>?_⟩
  refine⟨σd4,cP,_,r4,QU,q4,⟨fun σ' H' dF aA r' s' fJ q'=>⟨dF,aA,r',((s2.trans s3).trans s4).trans s',fJ,q'⟩,fun v H' z=>h.rt _ _ (.after (((s1.trans s2).trans s3).trans s4) z),
  fun σ' H' dF aA r' s' fJ q'=>h.nx _ _ _ _ r' ((((s1.trans s2).trans s3).trans s4).trans s') fJ q',fun σ' H' dF aA r' s' fJ q'=>⟨dF,aA,r',((s2.trans s3).trans s4).trans s',fJ,q'⟩,h.ex⟩⟩
 ·have ed:xs.drop i=[]:=List.drop_eq_nil_of_le (by omega)
  rw[ed]at q2
  exact .inl ⟨j.stop i H2 aG s2 bZ q2.1 (by omega),h.nx _ _ _ _ r2 (s1.trans s2) bZ q2.2⟩
end
end L3
end
section
namespace L3
open PySem PySem.Spec PyProof.Rows L2
section
variable {X:Cx}{C:bC}{sub:Nat->Nat->Bool}{a b c e o i tg:Expr}{x y z:Ex}{pos:Pos}
noncomputable def jU (is:List Nat)(vs:List V)(σ:L2.St):L2.St:=(is.zip vs).foldl (fun σ p=>σ.set p.1 (some p.2)) σ
noncomputable def qZ (is:List Nat):CA:=fun vs σ H Q=>vs.length=is.length/\Q (jU is vs σ) H
theorem VF:zY X [] (qZ []):=fun pins s σ H vs us Q I r h=>by
 have:vs=[]:=List.length_eq_zero_iff.mp h.1
 subst this
 exact Q9 pins s σ H [] us Q I r ⟨rfl,h.2⟩
theorem R0 {es:List Expr}{i:Nat}{is:List Nat}(h1:PG X e (AZ i))(h2:zY X es (qZ is))(hs:(assignEach (e::es) X.env).map (·.2)=assign e X.env::(assignEach es X.env).map (·.2)):zY X (e::es) (qZ (i::is)):=fun pins s σ H vs us Q I r h=>by
 obtain⟨hl,h⟩:=h
 cases vs with
 |nil=>simp at hl
 |cons v vs=>exact PJ h1 h2 hs pins s σ H (v::vs) us Q I r ⟨v,vs,rfl,by simpa using hl,h⟩
theorem cY.OZ {K:PySem.W.Frag}{H:Hp}:∀(is:List Nat){ds:List D}{vs:List V}{σd:St}{σ:L2.St},cY K H σd σ->aK K H ds vs->cY K H ((is.zip ds).foldl (fun σ p=>σ.set p.1 (some p.2)) σd) (jU is vs σ)
 |[],_,_,_,_,r,_=>by simpa [jU]using r
 |_::_,_,_,_,_,r,.nil=>by simpa [jU]using r
 |i::is,_,_,_,_,r,.cons h t=>by
  have:=cY.OZ is (r.set i h) t
  simpa [jU]using this
theorem Fz {E:XK}{es:List Expr}{k:Nat}{is:List Nat}(hc:X.calm=true)(h:zY X es (qZ is))(hn:(assignEach es X.env).length=is.length)(eF:(assignEach es X.env).findIdx? (·.1)=none):
 PG X (.Tuple es k pos) (EV X.K (lH C sub E (.tp is))) :=
 (UR hc h hn eF).imp fun v σ H Q ⟨d,σd,st,M,rd,r,ok,q,hq⟩=>by
 cases d with
 |tup ds0 =>
  have q:ds0.length=is.length/\M _ st:=q
  obtain⟨a,vs,rfl,f,g⟩:=rd.bM
  exact⟨a,vs,rfl,f,by rw[<-g.length];exact q.1,by rw[<-g.length];exact q.1,hq _ _ _ _ (r.OZ is g) .refl ok q.2⟩
 |_=>exact(show False by cases is<;>exact q).elim
theorem Gq {E:XK}(ho:PE X o (bS X.K (aH C sub E x)))(hi:PE X i (bS X.K (aH C sub E y)))
 (ha:∀ v,assign (.Subscript o i pos) X.env v=(do
  let ov <-holding [v] (eval o X.env)
  let iv <-holding [v,ov] (eval i X.env)
  standAt pos
  holding [v,ov,iv] (setItem ov iv v)
  release [v,ov,iv] [])):PG X (.Subscript o i pos) (EV X.K (lH C sub E (.ix x y))) :=
 (YG ho hi set_list ha).imp fun v σ H Q ⟨d,σd,st,M,rd,r,ok,q,hq⟩=>by
 refine⟨σd,st,_,r,ok,q,fun v1 H1 ⟨d1,aC,s1,aM,r1,q1⟩=>?_⟩
 refine⟨σd,aC,_,r.step ok s1,aM,q1,fun v2 H2 ⟨d2,aG,s2,bZ,r2,q2⟩=>?_⟩
 have r1':=r1.step aM s2
 have rd':=(rd.step ok s1).step aM s2
 have q2:zB d1 d2 d aG fun aR=>M σd aR:=q2
 cases d1<;>first|exact(show False from q2).elim|skip
 cases d2<;>first|exact(show False from q2).elim|skip
 cases r1'.cE
 cases r2.int_inv
 rw[G9]at q2
 obtain⟨xs,e,q2⟩:=dD q2
 obtain⟨j,ej,q2⟩:=dU q2
 obtain⟨vs,g1,g2⟩:=bZ.lst e
 refine⟨_,vs,_,j,rfl,rfl,g1,by rw[<-g2.length];exact ej,?_⟩
 have s3:=kL (H:=H2) (st:=aG) (o:=.lst (vs.set j v)) (m':=.lst (xs.set j d)) e
 exact hq _ _ _ _ (((r.step ok s1).step aM s2).step bZ s3) ((s1.trans s2).trans s3) (bZ.set e (g2.set rd' j)) q2
end
end L3
end
section
namespace L3
open PySem PySem.Spec PyProof.Rows L2
noncomputable def kY (cells:List (Str×Addr)):List (Str×NameKind)->List (Str×Addr)->List (Str×Addr)
 |[],cs=>cs
 |(n,k)::r,cs=>kY cells r (if k == .free then(n,(cells.lookup n).getD 0)::cs else cs)
theorem AF {env:Env}:∀(names:List (Str×NameKind))(cs:List (Str×Addr)),(∀ p∈names,p.2=.free->∃ c,env.cells.lookup p.1=some c) ->
  (forIn names cs fun(p:Str×NameKind)(cs:List (Str×Addr))=>(if p.2 == .free then do let c <-cellOf env p.1;pure (ForInStep.yield ((p.1,c)::cs))else pure (ForInStep.yield cs):Sem (ForInStep (List (Str×Addr)))))=pure (kY env.cells names cs)
 |[],cs,_=>by simp [kY]
 |(n,k)::r,cs,h=>by
  have ih:=fun cs=>AF r cs fun p hp=>h p (List.mem_cons_of_mem _ hp)
  simp only[List.forIn_cons,kY]
  cases e:(k==NameKind.free)with
  |true =>
   obtain⟨c,hc⟩:=h (n,k) (List.mem_cons_self ..) (by simpa using e)
   have hc:env.cells.lookup n=some c:=hc
   simp only[if_true,cellOf,hc,Option.getD_some,pure_bind]
   exact ih _
  |false =>
   simp only[Bool.false_eq_true,if_false,pure_bind]
   exact ih _
theorem uF {env:Env}{scope:Scope}(h:∀ p∈scope.names,p.2=.free->∃ c,env.cells.lookup p.1=some c):closureFor scope env=pure (kY env.cells scope.names []):=by
 rw[<-AF scope.names [] h]
 unfold closureFor
 simp only[bind_pure]
theorem kK {cells:List (Str×Addr)}:∀(names:List (Str×NameKind))(cs:List (Str×Addr)){x:Str}{c:Addr},(∀ p∈names,p.2=.free->∃ c,cells.lookup p.1=some c)->(∀ x c,cs.lookup x=some c->cells.lookup x=some c)->(kY cells names cs).lookup x=some c->cells.lookup x=some c
 |[],cs,x,c,_,h,e=>h x c e
 |(n,k)::r,cs,x,c,hn,h,e=>by
  simp only[kY]at e
  refine kK r _ (fun p hp=>hn p (List.mem_cons_of_mem _ hp)) (fun y d ed=>?_) e
  split at ed
  ·rename_i hk
   obtain⟨c',hc'⟩:=hn (n,k) (List.mem_cons_self ..) (by simpa using hk)
   have hc':cells.lookup n=some c':=hc'
   rw[List.lookup_cons]at ed
   split at ed
   ·rename_i q
    have q:y=n:=by simpa using q
    subst q
    rw[hc']at ed ⊢
    simpa using ed
   ·exact h y d ed
  ·exact h y d ed
theorem CO {cells:List (Str×Addr)}:∀(names:List (Str×NameKind))(cs:List (Str×Addr)){x:Str},(∃ c,cs.lookup x=some c)->∃ c,(kY cells names cs).lookup x=some c
 |[],cs,x,h=>h
 |(n,k)::r,cs,x,h=>by
  simp only[kY]
  refine CO r _ ?_
  split
  ·rw[List.lookup_cons]
   split
   ·exact⟨_,rfl⟩
   ·exact h
  ·exact h
theorem zL {cells:List (Str×Addr)}:∀(names:List (Str×NameKind))(cs:List (Str×Addr)){x:Str},names.lookup x=some .free->∃ c,(kY cells names cs).lookup x=some c
 |[],cs,x,h=>by simp at h
 |(n,k)::r,cs,x,h=>by
  simp only[kY]
  rw[List.lookup_cons]at h
  split at h
  ·rename_i q
   cases h
   refine CO r _ ?_
   simp only[beq_self_eq_true,if_true]
   rw[List.lookup_cons,q]
   exact⟨_,rfl⟩
  ·exact zL r _ h
theorem pC {env:Env}:∀{names:List (Str×NameKind)}{x:Str}{k:NameKind},(names.map fun(n,k)=>if(k==NameKind.free&&env.scope.kind == .function&&env.kindOf n==some .cell)then(n,NameKind.cell)else(n,k)).lookup x=some k->∃ k',names.lookup x=some k'/\(k'=k∨(k'=.free/\k=.cell))
 |[],x,k,h=>by simp at h
 |(n,k0)::r,x,k,h=>by
  simp only[List.map_cons]at h
  cases q:(x==n)with
  |true =>
   refine⟨k0,by simp only[List.lookup_cons,q],?_⟩
   by_cases hc:(k0==NameKind.free&&env.scope.kind == .function&&env.kindOf n==some .cell)=true
   ·simp only[hc,if_true,List.lookup_cons,q]at h
    cases h
    simp only[Bool.and_eq_true]at hc
    exact .inr ⟨by simpa using hc.1.1,rfl⟩
   ·simp only[hc,if_false,List.lookup_cons,q,Bool.false_eq_true]at h
    cases h
    exact .inl rfl
  |false =>
   simp only[List.lookup_cons,q]
   refine pC (env:=env) (names:=r) ?_
   by_cases hc:(k0==NameKind.free&&env.scope.kind == .function&&env.kindOf n==some .cell)=true
   ·simp only[hc,if_true,List.lookup_cons,q]at h
    exact h
   ·simp only[hc,if_false,List.lookup_cons,q,Bool.false_eq_true]at h
    exact h
theorem oI {env:Env}:∀{names:List (Str×NameKind)}{x:Str},names.lookup x=some .free->(names.map fun(n,k)=>if(k==NameKind.free&&env.scope.kind == .function&&env.kindOf n==some .cell)then(n,NameKind.cell)else(n,k)).lookup x=some .cell∨(names.map fun(n,k)=>if(k==NameKind.free&&env.scope.kind == .function&&env.kindOf n==some .cell)then(n,NameKind.cell)else(n,k)).lookup x=some .free
 |[],x,h=>by simp at h
 |(n,k0)::r,x,h=>by
  simp only[List.map_cons]
  rw[List.lookup_cons]at h
  split at h
  ·rename_i q;cases h
   split
   ·exact .inl (by rw[List.lookup_cons,q])
   ·exact .inr (by rw[List.lookup_cons,q])
  ·rename_i q
   split
   ·rw[List.lookup_cons,q];exact oI h
   ·rw[List.lookup_cons,q];exact oI h
structure jY (X:Cx)(scope:Scope)(cn:List Str)(aY:List Nat):Prop where
 kind:scope.kind=.function
 nocell:∀ y∈scope.names,y.2≠.cell
 names:∀ y∈scope.names,y.2=.local->scope.names.lookup y.1=some .local
 free:∀ y∈scope.names,y.2=.free->X.env.kindOf y.1=some .cell∨X.env.kindOf y.1=some .free
 len:cn.length=aY.length
 cap:∀(j:Nat)(y:Str),cn[j]? = some y->scope.names.lookup y=some .free/\∃ i,aY[j]? = some i/\X.N[i]? = some y/\(X.env.kindOf y=some .cell∨X.env.kindOf y=some .free)
noncomputable def kX (X:Cx)(scope:Scope)(own cn:List Str)(fp:List Addr)(s:Shared)(H:Hp)(Ca:Addr):Cx :=
 { X with N:=own++cn,s₀:=s,H₀:=H,env:=compEnvC scope (kY X.env.cells scope.names []) Ca X.env,outer:=X.stack,ex:=fp,fn:=fun _=>false,calm:=true,pn:=[],xe:=fun _ _=>False }
noncomputable def nH (aY:List Nat)(σ:L2.St):L2.St:=aY.map fun i=>(σ[i]?).getD none
section
variable {X:Cx}{scope:Scope}{own cn:List Str}{aY:List Nat}{fp:List Addr}{pins:List (Addr×Obj)}{σ:L2.St}{H:Hp}{s:Shared}
theorem jY.cells (S:jY X scope cn aY)(ok:X.Ok):∀ p∈scope.names,p.2=.free->∃ c,X.env.cells.lookup p.1=some c:=fun p hp e=>ok.has p.1 (S.free p hp e)
theorem PK (S:jY X scope cn aY)(hc:X.calm=true)(I:Inv X pins σ H s)(hf:∀ b∈fp,lI X pins H b)(eY:∀ b∈fp,b<s.heap.objs.size){Ca:Addr}(hC:s.heap.objs.size<=Ca):(kX X scope own cn fp s H Ca).Ok where
 mod:=I.ok.mod
 kind:=S.kind
 glob:=I.ok.glob
 blt:=I.ok.blt
 above:=hC
 inj:=fun x y c h1 h2=>I.ok.inj x y c (kK _ [] (S.cells I.ok) (fun _ _ h=>by simp at h) h1) (kK _ [] (S.cells I.ok) (fun _ _ h=>by simp at h) h2)
 has:=fun x h=>by
  refine zL _ [] ?_
  rcases h with h|h
  ·obtain⟨k,e,r⟩:=pC (env:=X.env) (show List.lookup x (List.map _ scope.names)=_ from h)
   rcases r with rfl|⟨rfl,_⟩
   ·exact absurd rfl (S.nocell _ (PySem.mem_of_lookup e))
   ·exact e
  ·obtain⟨k,e,r⟩:=pC (env:=X.env) (show List.lookup x (List.map _ scope.names)=_ from h)
   rcases r with rfl|⟨rfl,r⟩
   ·exact e
   ·cases r
 cab:=fun x c h _=>by cases h
 hd:=fun _=>I.ok.hd hc
 frames:=I.ok.frames
 stk:=.inl rfl
 exf:=fun b hb=>⟨fun e=>absurd (eY b hb) (by rw[e];exact Nat.not_lt.mpr hC),fun x c h=>(hf b hb).2.2.2.2.1 x c (kK _ [] (S.cells I.ok) (fun _ _ h=>by simp at h) h)⟩
 bs:=I.bs
 bsz:=Nat.le_trans I.ok.bsz I.sz
 noex:=fun b o e hb=>by
  rcases(hf b hb).2.2.2.1 with z|z
  ·exact I.ok.noex b o e z
  ·exact absurd (Nat.lt_of_lt_of_le (Heap.lt_size e) (Nat.le_trans I.ok.bsz z)) (Nat.lt_irrefl _)
 exfs:=fun b hb z=>by
  rcases List.mem_cons.mp (I.GJ b z)with e|e
  ·exact(hf b hb).2.1 e
  ·exact(hf b hb).2.2.1 e
 mD:=I.stack
 frf:=I.HZ
theorem G2 (S:jY X scope cn aY)(hc:X.calm=true)(I:Inv X pins σ H s)(hf:∀ b∈fp,lI X pins H b)(eY:∀ b∈fp,b<s.heap.objs.size){Ca:Addr}(hC:s.heap.objs.size<=Ca){h1:Heap}{tk:Nat}
  {m:Str->Option Value}(hn:h1.Ns Ca m)(hk:∀ b o,s.heap.get? b=some o->h1.get? b=some o):
  Inv (kX X scope own cn fp s H Ca) [] (List.replicate own.length none++nH aY σ) H { s with heap:=h1,toks:=tk } where
 ok:=PK S hc I hf eY hC
 os:=rfl
 bare:=I.bare
 base:=Un.kept hk
 loc:=⟨m,hn,fun i y v h1' h2 h3=>by
  have hi:own.length<=i:=by
   refine Nat.le_of_not_lt fun hi=>?_
   rw[List.getElem?_append_left (by simpa using hi),List.getElem?_replicate]at h2
   split at h2<;>cases h2
  rw[List.getElem?_append_right (by simpa using hi)]at h2
  have h1':(own++cn)[i]? = some y:=h1'
  rw[List.getElem?_append_right hi]at h1'
  simp only[List.length_replicate,nH,List.getElem?_map,Option.map_eq_some_iff]at h2
  obtain⟨k,e1,e2⟩:=h2
  obtain⟨hfr,i',e3,e4,e5⟩:=S.cap _ y h1'
  rw[e1]at e3;cases e3
  cases e6:σ[k]? with
  |none=>rw[e6]at e2;cases e2
  |some u =>
   rw[e6]at e2
   have e2:u=some v:=e2
   subst e2
   obtain⟨m0,hn0,hl0⟩:=I.loc
   obtain⟨w,rw',lk⟩:=hl0 k y v e4 e6 (e5.elim (fun z=>.inr (.inl z)) fun z=>.inr (.inr z))
   refine⟨w,rw',?_⟩
   rcases lk with⟨z,_⟩|⟨_,c,ec,⟨oc,hoc,hdc⟩⟩
   ·rcases e5 with e5|e5
    ·rw[e5]at z;cases z
    ·rw[e5]at z;cases z
   ·obtain⟨c',ec'⟩:=zL (cells:=X.env.cells) scope.names [] hfr
    have:=kK _ [] (S.cells I.ok) (fun _ _ h=>by simp at h) ec'
    rw[ec]at this;cases this
    exact .inr ⟨oI (env:=X.env) hfr,c,ec',⟨oc,hk _ _ hoc,hdc⟩⟩⟩
 cell:=fun x c h=>by
  obtain⟨v,o,ho,hd⟩:=I.cell x c (kK _ [] (S.cells I.ok) (fun _ _ h=>by simp at h) h)
  exact⟨v,o,hk _ _ ho,hd⟩
 free:=I.bY.fresh hC
 kI:=fun x c h=>I.kI x c (kK _ [] (S.cells I.ok) (fun _ _ h=>by simp at h) h)
 pin:=fun p hp=>absurd (show p∈([]:List (Addr×Obj))from hp) (by simp)
 bY:=I.bY.kept hk
 len:=by
  show(List.replicate own.length none++nH aY σ).length=(own++cn).length
  simp [nH,S.len]
end
end L3
end
section
namespace L3
open PySem PySem.Spec PyProof.Rows L2
noncomputable def xF (ifs:List Expr)(env:Env):Sem Bool:=forIn ifs true fun c r=>if r=true then do let ok <-isTrue c env (eval c env);pure (ForInStep.yield ok)else pure (ForInStep.yield r)
noncomputable def C4 (X:Cx)(ifs:List Expr)(t:L2.TT):Prop :=
 ∀(pins:List (Addr×Obj))(s:Shared)(σ:L2.St)(H:Hp)(Q:Bool->Hp->Prop),Inv X pins σ H s->t σ H Q->wpAny (model X.prog X.w) X.A (xF ifs X.env) (TP X pins σ Q) X.xe s
inductive sW (K:PySem.W.Frag)(te:St->aB->(Bool->aB->Prop)->Prop)(σ:L2.St)(H:Hp)(Q:Bool->Hp->Prop):Prop where
 |mk (σd:St)(st:aB)(R:Bool->aB->Prop)(r:cY K H σd σ)(ok:aO K st H)(q:te σd st R)(hq:∀(b:Bool) H',QX K H st (R b) H'->Q b H'):sW K te σ H Q
section
variable {X:Cx}{C:bC}{sub:Nat->Nat->Bool}{E:XK}{a b c e o i tg:Expr}{x y z:Ex}{pos:Pos}
theorem xZ (env:Env):∀(ifs:List Expr),(forIn ifs false fun c r=>if r=true then do let ok <-isTrue c env (eval c env);pure (ForInStep.yield ok)else pure (ForInStep.yield r):Sem Bool)=pure false
 |[]=>by simp
 |c::r=>by
  simp only[List.forIn_cons,Bool.false_eq_true,if_false,pure_bind]
  exact xZ env r
theorem YU:C4 X [] (sW X.K (gO C sub E [])):=fun pins s σ H Q I ⟨σd,st,R,r,ok,q,hq⟩=>by
 unfold xF
 simp only[List.forIn_nil]
 exact wpAny_pure ⟨H,I,hq true H ⟨st,.refl,ok,q⟩⟩
theorem R3 {es:List Expr}{xs:List Ex}(h:PT X e (iU X.K (aH C sub E x)))(hs:C4 X es (sW X.K (gO C sub E xs))):C4 X (e::es) (sW X.K (gO C sub E (x::xs))):=fun pins s σ H Q I ⟨σd,st,R,r,ok,q,hq⟩=>by
 unfold xF
 simp only[List.forIn_cons,if_true]
 refine wpAny_bind (wpAny_bind (aW (h pins s σ H _ I ⟨σd,st,fun k aA=>if k=true then gO C sub E xs σd aA R else R false aA,r,ok,q,fun b H' z=>z⟩) fun k s1 ⟨H1,I1,aC,cV,aM,q1⟩=>wpAny_pure ?_))
 cases k with
 |true =>
 have q1:gO C sub E xs σd aC R:=q1
 refine hs pins s1 σ H1 _ I1 ⟨σd,aC,R,r.step ok cV,aM,q1,fun b H' ⟨aA,s',fJ,q'⟩=>hq b H' ⟨aA,cV.trans s',fJ,q'⟩⟩
 |false =>
 show wpAny _ _ (forIn es false _) _ _ _
 rw[xZ]
 exact wpAny_pure ⟨H1,I1,hq false H1 ⟨aC,cV,aM,q1⟩⟩
end
theorem EA {prog:Program}{w:World}{A:Around}{s:Shared}{R:Result->Shared->Prop}{elt target iter:Expr}{ifs:List Expr}{scope:Scope}{pos:Pos}{it acc:Value}{env:Env}(I:Nat->Shared->Prop)
 (turn:∀ n s,I n s->wpAny (model prog w) A (pyNext it) (fun r s₁=>match r with
  |none=>R (.ok .next) s₁
  |some v=>wpAny (model prog w) A (letOwnedTupleGo target it v) (fun _ s₁'=>wpAny (model prog w) A (assign target env v) (fun _ s₂ =>
   wpAny (model prog w) A (xF ifs env) (fun ok s₃ =>
   if ok=true then wpAny (model prog w) A (eval elt env) (fun x s₄ =>
    wpAny (model prog w) A (call (.builtin "list.append") [acc,x]) (fun _ s₅=>∃ m,m<n/\I m s₅) (fun _ _=>False) s₄) (fun _ _=>False) s₃
   else ∃ m,m<n/\I m s₃) (fun _ _=>False) s₂) (fun _ _=>False) s₁') (fun _ _=>False) s₁) (fun _ _=>False) s)
 (n:Nat)(h:I n s):
 codeAny (model prog w) A (.compLoop (.ListComp elt [⟨target,iter,ifs,0⟩] scope pos) 0 it acc env) R s:=by
 refine codeAny_loop rfl I (fun n s hI=>?_) n h
 show wpAny _ A ((compTurn (.ListComp elt [⟨target,iter,ifs,0⟩] scope pos) 0 it acc env).onRaise (fun x=>do noteFrame x env;theTreesLotGoes x)) _ _ s
 refine wpAny_noted ?_
 rw[compTurn_list]
 refine wpAny_bind (wpAny_standAt (wpAny_bind (wpAny_mono (turn n s hI) (fun r s₁ h₁=>?_) fun _ _ h'=>h'.elim)))
 cases r with
 |none=>exact wpAny_pure h₁
 |some v =>
 refine wpAny_bind (wpAny_mono h₁ (fun _ s₁' h₁'=>?_) fun _ _ h'=>h'.elim)
 refine wpAny_bind (wpAny_mono h₁' (fun _ s₂ h₂=>wpAny_bind (wpAny_mono h₂ (fun ok s₃ h₃=>?_) fun _ _ h'=>h'.elim)) fun _ _ h'=>h'.elim)
 cases ok with
 |false=>exact wpAny_pure ⟨rfl,h₃⟩
 |true =>
  exact wpAny_bind (wpAny_bind (wpAny_mono h₃ (fun x s₄ h₄=>wpAny_bind (wpAny_mono h₄ (fun _ s₅ h₅=>wpAny_pure (wpAny_pure ⟨rfl,h₅⟩)) fun _ _ h'=>h'.elim)) fun _ _ h'=>h'.elim))
noncomputable def HM (K:PySem.W.Frag):Bool->Nat->TG
 |true,_=>AZ 0
 |false,n=>YV K n (qZ (List.range n))
theorem AO:∀(is:List Nat)(vs:List V)(σ:L2.St)(n i:Nat),(∀ j∈is,j<n)->n<=i->(jU is vs σ)[i]? = σ[i]?
 |[],_,_,_,_,_,_=>by simp [jU]
 |_::_,[],_,_,_,_,_=>by simp [jU]
 |j::is,v::vs,σ,n,i,h,hi=>by
  have:=AO is vs (σ.set j (some v)) n i (fun k hk=>h k (List.mem_cons_of_mem _ hk)) hi
  simp only[jU,List.zip_cons_cons,List.foldl_cons]at this ⊢
  rw[this]
  have:=h j (List.mem_cons_self ..)
  rw[List.getElem?_set_ne (by omega)]
theorem C7:∀(is:List Nat)(vs:List V)(σ:L2.St),(jU is vs σ).length=σ.length
 |[],_,_=>by simp [jU]
 |_::_,[],_=>by simp [jU]
 |j::is,v::vs,σ=>by
  have:=C7 is vs (σ.set j (some v))
  simp only[jU,List.zip_cons_cons,List.foldl_cons,List.length_set]at this ⊢
  exact this
theorem JM {K:PySem.W.Frag}{H:Hp}{one:Bool}{n:Nat}{d:D}{v:V}{σd:St}{σ:L2.St}{P:St->Prop}{Q:L2.St->Hp->Prop}(hn:one=true->n=1)(h:jG one (List.range n) d σd P)(r:cY K H σd σ)(rd:Rep K H d v)
 (hQ:∀ σ2 qN,cY K H qN σ2->P qN->(∀ i,n<=i->σ2[i]? = σ[i]?)->σ2.length=σ.length->Q σ2 H):HM K one n v σ H Q:=by
 cases one with
 |true =>
 cases hn rfl
 have h:P (σd.set 0 (some d)):=h
 refine hQ _ _ (r.set 0 rd) h (fun i hi=>?_) (by simp)
 rw[List.getElem?_set_ne (by omega)]
 |false =>
 cases d with
 |tup ds =>
  rw[MD]at h
  obtain⟨a,vs,rfl,f,g⟩:=rd.bM
  have hl:vs.length=n:=by rw[<-g.length,h.1];simp
  refine⟨a,vs,rfl,f,hl,by simp [hl],hQ _ _ (r.OZ _ g) h.2 (fun i hi=>AO _ _ _ n i (fun j hj=>by simpa using hj) hi) (C7 _ _ _)⟩
 |_=>exact(show False by cases n<;>exact h).elim
section
variable {K:PySem.W.Frag}{H:Hp}{st:aB}{Da:Addr}{ys zs:List V}
theorem S2 (hD:H Da=some (.lst ys)){a:Addr}{vs:List V}(h:dP K H a vs):dP K (upd H Da (.lst zs)) a vs:=by
 rcases h with(h|⟨o,h⟩)|h
 ·exact .inl (.inl (by rw[bR (J9 h hD (by simp))];exact h))
 ·exact .inl (.inr ⟨o,by rw[bR (J9 h hD (by simp))];exact h⟩)
 ·exact .inr h
theorem NK (hD:H Da=some (.lst ys)){a:Addr}{vs:List V}(h:oX K H a vs):oX K (upd H Da (.lst zs)) a vs:=by
 rcases h with⟨o,h⟩|h
 ·exact .inl ⟨o,by rw[bR (J9 h hD (by simp))];exact h⟩
 ·exact .inr h
mutual
theorem Rep.alt (hD:H Da=some (.lst ys)):∀{d:D}{v:V},Rep K H d v->Rep K (upd H Da (.lst zs)) d v
 |_,_,.non=>.non
 |_,_,.bl b=>.bl b
 |_,_,.int i=>.int i
 |_,_,.str x=>.str x
 |_,_,.tup h r=>.tup (S2 hD h) (aK.alt hD r)
 |_,_,.ref a=>.ref a
 |_,_,.bB h r=>.bB (NK hD h) (aK.alt hD r)
 |_,_,.cM h=>.cM h
theorem aK.alt (hD:H Da=some (.lst ys)):∀{ds:List D}{vs:List V},aK K H ds vs->aK K (upd H Da (.lst zs)) ds vs
 |_,_,.nil=>.nil
 |_,_,.cons h r=>.cons (Rep.alt hD h) (aK.alt hD r)
end
theorem aO.alt (ok:aO K st H)(hD:H Da=some (.lst ys))(hn:st Da=none):aO K st (upd H Da (.lst zs)):=fun a o e=>by
 have ne:a≠Da:=fun z=>by rw[z,hn]at e;cases e
 have:=ok a o e
 cases o with
 |lst ds =>
 obtain⟨vs,q,r⟩:=this
 exact⟨vs,by rw[bR ne];exact q,r.alt hD⟩
 |dic _ _=>exact this.elim
 |ins c fs =>
 obtain⟨C,dx,ws,q,q2,q3,r⟩:=this
 exact⟨C,dx,ws,q,by rw[bR ne];exact q2,q3,r.alt hD⟩
 |tab ks vs =>
 obtain⟨xs,ws,q,q0,q1,q2,q3,q4,q5,r⟩:=this
 exact⟨xs,ws,by rw[bR ne];exact q,q0,q1,q2,q3.alt hD,q4,q5,r.alt hD⟩
theorem aO.take (ok:aO K st H)(hD:H Da=some (.lst ys)){ds:List D}(r:aK K H ds ys):aO K (put st Da (.lst ds)) H:=fun a o e=>by
 by_cases ha:a=Da
 ·subst ha
  rw[aV]at e;cases e
  exact⟨ys,hD,r⟩
 ·rw[bH ha]at e
  exact ok a o e
end
theorem O1 {K:PySem.W.Frag}{H:Hp}{σd:St}{σ:L2.St}(r:cY K H σd σ)(n:Nat)(aY:List Nat):cY K H (List.replicate n none++aY.map fun i=>(σd[i]?).getD none) (List.replicate n none++nH aY σ):=by
 refine⟨by simp [nH],fun i d e=>?_⟩
 by_cases hi:i<n
 ·rw[List.getElem?_append_left (by simpa using hi),List.getElem?_replicate]at e
  split at e<;>cases e
 ·rw[List.getElem?_append_right (by simpa using hi)]at e ⊢
  simp only[List.length_replicate,List.getElem?_map,Option.map_eq_some_iff]at e ⊢
  obtain⟨k,e1,e2⟩:=e
  cases q:σd[k]? with
  |none=>rw[q]at e2;cases e2
  |some u =>
   rw[q]at e2
   have e2:u=some d:=e2
   subst e2
   obtain⟨v,h1,h2⟩:=r.2 k d q
   refine⟨v,?_,h2⟩
   simp only[nH,List.getElem?_map,Option.map_eq_some_iff]
   exact⟨k,e1,by rw[h1];rfl⟩
end L3
end
section
namespace L3
open PySem PySem.Spec PyProof.Rows L2
theorem TU {P:Program}{w:World}{H:Hp}{h h':Heap}{Ca:Addr}(ok:iB P w H h)(hn:H Ca=none)(hs:Heap.SameBut Ca h h'):iB P w H h':=fun b u e=>by
 refine(ok b u e).zJ (fun c v hc q=>hs.extBut c v ?_ q) (fun _ q=>q) fun _ _ q=>q
 rcases hc with z|z
 ·rw[z];exact fun y=>by rw[y,hn]at e;cases e
 ·exact fun y=>by rw[y,hn]at z;cases z
section
variable {X:Cx}{C:bC}{sub:Nat->Nat->Bool}{elt iter tg:Expr}{ifs:List Expr}{xe:Ex}{kO aD:List Ex}{pos:Pos}{scope:Scope}{own cn:List Str}{aY:List Nat}{one:Bool}{k:Option IK}
theorem DG (hC:bP C C)(S:jY X scope cn aY)(hc:X.calm=true)(mF:one=true->own.length=1)
  (hg:∀ fp s H Ca,PG (kX X scope own cn fp s H Ca) tg (HM X.K one own.length))
  (hts:∀ fp s H Ca,C4 (kX X scope own cn fp s H Ca) ifs (sW X.K (gO C sub EF kO)))
  (he:∀ fp s H Ca,PE (kX X scope own cn fp s H Ca) elt (bS X.K (aH C sub EF xe)))
  {use:Option (Value->Sem Unit)}{Qf:Value->Shared->Prop}
  {pins:List (Addr×Obj)}{s₂:Shared}{σ:L2.St}{σd:St}{H1:Hp}{aC:aB}{J:It}{fp:List Addr}{it:Addr}{tn:Nat->Heap->Prop}{as:List Nat}{xs:List D}{R:List D->aB->Prop}
  (I2:Inv X pins σ H1 s₂)(T:Turn X.prog X.w X.K tg J fp it tn)(t0:tn 0 s₂.heap)(f2:∀ b∈fp,lI X pins H1 b)(r:cY X.K H1 σd σ)(aM:aO X.K aC H1)(j:yD X.K J as xs H1 aC)
  (q:iR (same as aC) (fun x aG K=>jG one (List.range own.length) x (List.replicate own.length none++aY.map fun i=>(σd[i]?).getD none) fun σ' =>
    gO C sub EF kO σ' aG fun b aR=>if b=true then aH C sub EF xe σ' aR fun d cP=>K (some d) cP else K none aR) xs [] aC R)
  (fin:∀(Da Ca:Addr)(H':Hp)(aA:aB)(ds:List D)(m:Str->Option Value)(s':Shared),s'.heap.Ns Ca m->(∀ h',Heap.SameBut Ca s'.heap h'->Inv X pins σ H' { s' with heap:=h' })->Inv X pins σ H' s'->Ca≠X.env.locals->(∀ x c,X.env.cells.lookup x=some c->c≠Ca)->Ca∉X.fs->X.s₀.heap.objs.size<=Ca->(∀ p∈X.pn++pins,p.1≠Ca)->H' Ca=none->Step H1 aC H' aA->aO X.K (put aA Da (.lst ds)) H'->H1 Da=none->aA Da=none->R ds aA ->
   compPost (model X.prog X.w) X.A X.xe use Qf (.ref Da) Ca (.ok .next) s'):
  wpAny (model X.prog X.w) X.A (newList []) (fun acc s₃ =>
   wpAny (model X.prog X.w) X.A (newFunctionEnv scope X.env.globals (kY X.env.cells scope.names []) [] X.env.qual none .none (some X.env)) (fun cenv s₄ =>
    codeAny (model X.prog X.w) X.A (.compStart (.ListComp elt [⟨tg,iter,ifs,0⟩] scope pos) 0 (.ref it) acc { cenv with scope:=relabel scope X.env }) (compPost (model X.prog X.w) X.A X.xe use Qf acc cenv.locals) s₄) X.xe s₃) X.xe s₂:=by
 have hD1:H1 s₂.heap.objs.size=none:=I2.fresh
 obtain⟨tf,htf0⟩:∃ tf:D->aB->(Option D->aB->Prop)->Prop,tf=fun x aG K=>jG one (List.range own.length) x (List.replicate own.length none++aY.map fun i=>(σd[i]?).getD none) fun σ' =>
    gO C sub EF kO σ' aG fun b aR=>if b=true then aH C sub EF xe σ' aR fun d cP=>K (some d) cP else K none aR:=⟨_,rfl⟩
 have htf:∀ x aG (K:Option D->aB->Prop),tf x aG K->jG one (List.range own.length) x (List.replicate own.length none++aY.map fun i=>(σd[i]?).getD none) fun σ' =>
    gO C sub EF kO σ' aG fun b aR=>if b=true then aH C sub EF xe σ' aR fun d cP=>K (some d) cP else K none aR:=fun x aG K h=>by rw[htf0]at h;exact h
 rw[<-htf0]at q
 refine wpAny_newObj_type ?_
 have I3:=I2.NS (aD:=[]) (ys:=[]) (t':=s₂.toks) .nil (Nat.zero_le _)
 generalize hS3:({ s₂ with heap:=s₂.heap.push { cls:=.type "list", dict:=none,data:=.seq ([]:List Value).toArray } }:Shared)=s₃
 have I3:Inv X pins σ (upd H1 s₂.heap.objs.size (.lst [])) s₃:=by rw[<-hS3];exact I3
 have lt3:s₂.heap.objs.size<s₃.heap.objs.size:=by rw[<-hS3];show _<(s₂.heap.push _).objs.size;rw[Heap.size_push];exact Nat.lt_succ_self _
 have old3:∀ b o,s₂.heap.get? b=some o->s₃.heap.get? b=some o:=fun b o e=>by rw[<-hS3];exact Heap.get?_push_of_some _ e
 generalize hDa:s₂.heap.objs.size=Da at *
 have hlt2:∀ b∈fp,b<Da:=fun b hb=>by
  obtain⟨o,e,_⟩:=T.obj _ _ t0 b hb
  rw[<-hDa];exact Heap.lt_size e
 have f3:∀ b∈fp,lI X pins (upd H1 Da (.lst [])) b:=fun b hb=>⟨by rw[bR (Nat.ne_of_lt (hlt2 b hb))];exact(f2 b hb).1,(f2 b hb).2⟩
 have hlt3:∀ b∈fp,b<s₃.heap.objs.size:=fun b hb=>Nat.lt_trans (hlt2 b hb) lt3
 refine wpAny_newFunctionEnv S.nocell (by intro y hy;simp at hy) (fun h₁ hns hsb=>?_) S.kind
 have keep1:∀ b o,s₃.heap.get? b=some o->h₁.get? b=some o:=fun b o e=>hsb.extBut b o (Nat.ne_of_lt (Heap.lt_size e)) (Heap.get?_push_of_some _ e)
 have t1:tn 0 h₁:=T.keep _ _ _ t0 fun b hb o e=>keep1 b o (old3 b o e)
 have B0:=G2 (own:=own) S hc I3 f3 hlt3 (Nat.le_refl _) (tk:=s₃.toks+([]:List (Str×Value)).length) hns keep1
 generalize hXc:kX X scope own cn fp s₃ (upd H1 Da (.lst [])) s₃.heap.objs.size=Xc at B0
 have hgc:PG Xc tg (HM X.K one own.length):=by rw[<-hXc];exact hg _ _ _ _
 have htc:C4 Xc ifs (sW X.K (gO C sub EF kO)):=by rw[<-hXc];exact hts _ _ _ _
 have hec:PE Xc elt (bS X.K (aH C sub EF xe)):=by rw[<-hXc];exact he _ _ _ _
 have eP:Xc.prog=X.prog:=by rw[<-hXc];rfl
 have eW:Xc.w=X.w:=by rw[<-hXc];rfl
 have eK:Xc.K=X.K:=by rw[<-hXc];rfl
 have eA:Xc.A=X.A:=by rw[<-hXc];rfl
 have eX:Xc.xe=fun _ _=>False:=by rw[<-hXc];rfl
 have eN:Xc.env=compEnvC scope (kY X.env.cells scope.names []) s₃.heap.objs.size X.env:=by rw[<-hXc];rfl
 have eL:Xc.env.locals=s₃.heap.objs.size:=by rw[eN];rfl
 have eC:Xc.calm=true:=by rw[<-hXc];rfl
 have fC:∀{H':Hp},(∀ b∈fp,H' b=none)->∀ b∈fp,lI Xc [] H' b:=fun{H'} hn b hb=>by
  have ok:=B0.ok
  refine⟨hn b hb,by rw[eL];exact Nat.ne_of_lt (hlt3 b hb),ok.exfs b (by rw[<-hXc];exact hb),.inl (by rw[<-hXc];exact hb),fun x c e=>(ok.exf b (by rw[<-hXc];exact hb)).2 x c e,fun p hp=>?_⟩
  have:p∈([]:List (Addr×Obj)):=by rw[<-hXc]at hp;exact hp
  cases this
 have capsRel:∀{H':Hp}{aA:aB},Step H1 aC H' aA->cY X.K H' (List.replicate own.length none++aY.map fun i=>(σd[i]?).getD none) (List.replicate own.length none++nH aY σ):=fun s'=>(O1 r _ _).step aM s'
 have loop:∀ s4:Shared,s4 = { s₃ with heap:=h₁,toks:=s₃.toks+([]:List (Str×Value)).length }->codeAny (model X.prog X.w) X.A (.compLoop (.ListComp elt [⟨tg,iter,ifs,0⟩] scope pos) 0 (.ref it) (.ref Da) Xc.env) (compPost (model X.prog X.w) X.A X.xe use Qf (.ref Da) s₃.heap.objs.size) s4:=by
  rintro s4 rfl
  refine EA (fun n s'=>∃ i H' aA ds ys,n+i=xs.length/\Inv Xc [] (List.replicate own.length none++nH aY σ) H' s'/\tn i s'.heap/\(∀ b∈fp,H' b=none)/\Step H1 aC H' aA/\aO X.K aA H'/\H' Da=some (.lst ys)/\aA Da=none/\aK X.K H' ds ys /\
   iR (same as aC) tf (xs.drop i) ds aA R) ?_ xs.length
   ⟨0,_,aC,[],[],rfl,B0,t1,fun b hb=>(f3 b hb).1,oG hD1,aM.new hD1,eT,aM.fresh hD1,.nil,by simpa using q⟩
  rintro n s' ⟨i,H',aA,ds,ys,hni,I',ti,fr',cV,fJ,hD',hst',rs,q'⟩
  by_cases hi:i<xs.length
  ·-- a turn
   have ed:xs.drop i=xs[i]::xs.drop (i+1):=List.drop_eq_getElem_cons hi
   rw[ed]at q'
   obtain⟨g1,gl,q'⟩:=q'
   have hx:xs[i]? = some xs[i]:=List.getElem?_eq_getElem hi
   have hpn:=T.item Xc eP eW eK eC i [] s' _ H' (fun _ _=>False) I' (fC fr') ti (j.go i H' aA xs[i] cV fJ g1 hx)
   rw[eA]at hpn
   refine aW hpn fun rr s5 ⟨u,hu,h5⟩=>?_
   subst hu
   refine aW h5 fun _ s6 ⟨v,H6,I6,rv,y6,t6,fr6⟩=>?_
   obtain⟨s6s,Y8,rd⟩:=j.yld i H' aA xs[i] v H6 cV fJ g1 hx y6
   have D6:=s6s Da _ hD' hst'
   have I6':=I6.pinned (fC fr6) (T.obj _ _ t6)
   have hasg:=hgc _ s6 _ H6 v u (fun σ2 H2=>∃ qN,H2=H6/\cY X.K H6 qN σ2/\(∀ i,own.length<=i->σ2[i]? = (List.replicate own.length none++nH aY σ)[i]?)/\σ2.length=(List.replicate own.length none++nH aY σ).length /\
    gO C sub EF kO qN aA fun b aR=>if b=true then aH C sub EF xe qN aR fun d cP=>iR (same as aC) tf (xs.drop (i+1)) (ds++[d]) cP R else iR (same as aC) tf (xs.drop (i+1)) ds aR R) I6' rv
    (JM mF (htf _ _ _ q') ((capsRel cV).step fJ s6s) rd fun σ2 qN r2 p2 k2 l2=>⟨qN,rfl,r2,k2,l2,p2⟩)
   rw[eP,eW,eA,eX]at hasg
   refine aW hasg fun _ s7 ⟨σ2,H7,I7,qN,e7,r7,k7,l7,q7⟩=>?_
   subst e7
   have hte:=htc _ s7 σ2 H7 _ I7 ⟨qN,aA,_,r7,Y8,q7,fun b H' z=>z⟩
   rw[eP,eW,eA,eX]at hte
   have again:∀{H8:Hp}{s8:Shared}{gM:aB}{ds8:List D}{ys8:List V},Inv Xc ([]++vH fp s6.heap) σ2 H8 s8->Step H1 aC H8 gM->aO X.K gM H8->H8 Da=some (.lst ys8)->gM Da=none->aK X.K H8 ds8 ys8->iR (same as aC) tf (xs.drop (i+1)) ds8 gM R ->
     ∃ m,m<n/\∃ i H' aA ds ys,m+i=xs.length/\Inv Xc [] (List.replicate own.length none++nH aY σ) H' s8/\tn i s8.heap/\(∀ b∈fp,H' b=none)/\Step H1 aC H' aA/\aO X.K aA H'/\H' Da=some (.lst ys)/\aA Da=none/\aK X.K H' ds ys/\iR (same as aC) tf (xs.drop i) ds aA R:=fun{H8 s8 gM ds8 ys8} I8 s8s ND hD8 hs8 rs8 q8=>by
    have pinned:∀ b∈fp,∀ o,s6.heap.get? b=some o->s8.heap.get? b=some o/\H8 b=none:=fun b hb o e=>by
     have:=I8.pin (b,o) (List.mem_append_right _ (List.mem_append_right _ (sV hb e)))
     exact⟨this.1,this.2.1⟩
    refine⟨n-1,by omega,i+1,H8,gM,ds8,ys8,by omega,?_,T.keep _ _ _ t6 fun b hb o e=>(pinned b hb o e).1,fun b hb=>?_,s8s,ND,hD8,hs8,rs8,q8⟩
    ·refine I8.sL.weak (by rw[l7]) fun i0 v0 e0=>?_
     by_cases hi0:i0<own.length
     ·rw[List.getElem?_append_left (by simpa using hi0),List.getElem?_replicate]at e0
      split at e0<;>cases e0
     ·rw[k7 i0 (by omega)];exact e0
    ·obtain⟨o,e,_⟩:=T.obj _ _ t6 b hb
     exact(pinned b hb o e).2
   have s17:=cV.trans s6s
   have rs7:=rs.step fJ s6s
   refine aW hte fun b s8 ⟨H8,I8,gM,s8s,ND,q8⟩=>?_
   have D8:=s8s Da _ D6.1 D6.2
   have rs8:=rs7.step Y8 s8s
   cases b with
   |false=>exact again I8 (s17.trans s8s) ND D8.1 D8.2 rs8 q8
   |true =>
    have hel:=hec _ s8 σ2 H8 _ I8 ⟨qN,gM,_,r7.step Y8 s8s,ND,q8,fun v H' z=>z⟩
    rw[eP,eW,eA,eX]at hel
    refine aW hel fun u9 s9 ⟨v9,H9,I9,rv9,d9,nS,s9s,Ht,rd9,q9⟩=>?_
    have D9:=s9s Da _ D8.1 D8.2
    have rs9:=rs8.step ND s9s
    have hap:=L2.qL _ s9 σ2 H9 (.ref Da) [v9] (.ref Da) [u9] (fun _ H'=>H'=upd H9 Da (.lst (ys++[v9]))) I9 rfl (.cons rv9 .nil) ⟨Da,ys,v9,rfl,rfl,D9.1,by rw[fL,<-rs9.length];exact gl,rfl⟩
    rw[eP,eW,eA,eX]at hap
    refine aW hap fun _ s10 ⟨_,H10,I10,_,e10⟩=>?_
    subst e10
    refine again I10 (fun a o e0 n0=>?_) (Ht.alt D9.1 D9.2) eT D9.2 ((rs9.append (.cons rd9 .nil)).alt D9.1) q9
    have:=((s17.trans s8s).trans s9s) a o e0 n0
    exact⟨by rw[bR (gU e0 hD1)];exact this.1,this.2⟩
  ·-- the end
   have ed:xs.drop i=[]:=List.drop_eq_nil_of_le (by omega)
   rw[ed]at q'
   have hpn:=T.done Xc eP eW eK eC i [] s' _ H' (fun _ _=>False) I' (fC fr') ti (j.stop i H' aA cV fJ q'.1 (by omega))
   rw[eA]at hpn
   refine aW hpn fun rr s5 ⟨hr,I5⟩=>?_
   subst hr
   have un5:Un (uE X.stack) fp (upd H1 Da (.lst [])) H' s₃.heap s5.heap:=by have:=I5.base;rw[<-hXc]at this;exact this
   have os5:s5.os=s₃.os:=by have:=I5.os;rw[<-hXc]at this;exact this
   have fC5:H' s₃.heap.objs.size=none:=by have:=I5.free;rw[eL]at this;exact this
   have hch:∀ b∈fp,(b∈X.ex∨X.s₀.heap.objs.size<=b)/\b≠X.env.locals/\(∀ x c,X.env.cells.lookup x=some c->c≠b)/\∀ p∈X.pn++pins,p.1≠b:=fun b hb=>⟨(f2 b hb).2.2.2.1,(f2 b hb).2.1,(f2 b hb).2.2.2.2.1,(f2 b hb).2.2.2.2.2⟩
   have hok5:iB X.prog X.w H' s5.heap:=by have:=I5.bY;rw[eP,eW]at this;exact this
   have Iall:∀ h',(∀ b o,b≠s₃.heap.objs.size->s5.heap.get? b=some o->h'.get? b=some o)->iB X.prog X.w H' h'->Inv X pins σ H' { s5 with heap:=h' }:=fun h' kk bY=>by
    have ne:∀ b o,s₃.heap.get? b=some o->b≠s₃.heap.objs.size:=fun b o e=>Nat.ne_of_lt (Heap.lt_size e)
    refine I3.Aq (s':={ s5 with heap:=h' }) (ch:=fp) os5 ⟨fun b o e n hb hx=>kk b o (ne b o e) (un5.keep b o e n hb hx),fun b o e n hb hx=>?_,un5.free,fun b o e hx=>?_,un5.tT,un5.qU,un5.tU⟩ bY I5.bare hch
    ·obtain⟨sl,e'⟩:=un5.slot b o e n hb hx
     exact⟨sl,kk b _ (ne b o e) e'⟩
    ·obtain⟨o',e'⟩:=un5.there b o e hx
     exact⟨o',kk b o' (ne b o e) e'⟩
   obtain⟨m5,ns5,_⟩:=I5.loc
   rw[eL]at ns5
   refine fin Da s₃.heap.objs.size H' aA ds m5 s5 ns5 (fun h' hs=>Iall h' (fun b o hb e=>hs.extBut b o hb e) (TU hok5 fC5 hs)) (Iall s5.heap (fun b o _ e=>e) hok5) (Nat.ne_of_gt I3.lt) (fun x c e=>?_) (I3.Y5 (Nat.le_refl _)) I3.sz (fun p hp=>Nat.ne_of_lt (Heap.lt_size (I3.pin p hp).1)) fC5 cV (fJ.take hD' rs) hD1 hst' q'.2
   obtain⟨v,o,ho,_⟩:=I3.cell x c e
   exact Nat.ne_of_lt (Heap.lt_size ho)
 have hl:=loop _ rfl
 rw[eN]at hl
 exact codeAny_compStart_list hl (T.self X.A 0 _ _ _ t1 hl)
theorem EC {H H1 H':Hp}{st aC aA:aB}{Da:Addr}{o:MO}(s1:Step H st H1 aC)(s2:Step H1 aC H' aA)(hD:H1 Da=none):Step H st H' (put aA Da o):=fun a u e n=>by
 have e1:=s1 a u e n
 have e2:=s2 a u e1.1 e1.2
 exact⟨e2.1,by rw[bH (gU e1.1 hD)];exact e2.2⟩
theorem VX (hC:bP C C)(S:jY X scope cn aY)(hc:X.calm=true)(mF:one=true->own.length=1)
 (hi:PI X tg iter (zH X.K fun σ st M=>bN C sub EF aD σ st fun ds aC=>fT k ds aC fun as xs=>M as xs aC))
 (hg:∀ fp s H Ca,PG (kX X scope own cn fp s H Ca) tg (HM X.K one own.length))
 (hts:∀ fp s H Ca,C4 (kX X scope own cn fp s H Ca) ifs (sW X.K (gO C sub EF kO)))
 (he:∀ fp s H Ca,PE (kX X scope own cn fp s H Ca) elt (bS X.K (aH C sub EF xe)))
 (hs:∀ x,foldedSetIterable iter X.env x=pure x):
 PE X (.ListComp elt [⟨tg,iter,ifs,0⟩] scope pos) (bS X.K (aH C sub EF (.comp own.length aY (List.range own.length) one k aD kO xe))):=by
 intro pins s σ H Q I ⟨σd,st,R,r,ok,q,hq⟩
 rw[eval_ListComp]
 refine wpAny_comprehension_free (use:=none) rfl hs (uF (S.cells I.ok)) S.kind S.names ?_
 refine aW (hi pins s σ H _ I ⟨σd,st,_,r,ok,q,fun J H1 z=>z⟩) fun v s1 h1=>aW h1 fun itv s2 h2=>?_
 obtain⟨it,fp,tn,J,H1,rfl,I2,T,t0,f2,as,xs,aC,cV,aM,j,q1⟩:=h2
 refine DG (use:=none) hC S hc mF hg hts he I2 T t0 f2 (r.step ok cV) aM j q1 ?_
 intro Da Ca H' aA ds m s' hns nO hI _ _ _ _ _ _ gZ okp hD1 hst' hR
 exact⟨m,hns,fun h' hh=>⟨.ref Da,H',nO h' hh,rfl,hq _ _ ⟨.ref Da,_,EC cV gZ hD1,okp,.ref Da,hR.2 Da hst'⟩⟩⟩
theorem WA {i:Nat}{y:Str}{py spos:Pos}(hC:bP C C)(S:jY X scope cn aY)(hc:X.calm=true)(mF:one=true->own.length=1)
  (hi:PI X tg iter (zH X.K fun σ st M=>bN C sub EF aD σ st fun ds aC=>fT k ds aC fun as xs=>M as xs aC))
  (hg:∀ fp s H Ca,PG (kX X scope own cn fp s H Ca) tg (HM X.K one own.length))
  (hts:∀ fp s H Ca,C4 (kX X scope own cn fp s H Ca) ifs (sW X.K (gO C sub EF kO)))
  (he:∀ fp s H Ca,PE (kX X scope own cn fp s H Ca) elt (bS X.K (aH C sub EF xe)))
  (hN:X.N.Nodup)(hy:X.N[i]? = some y)(hx:Loc X.env.scope y)(hf:X.fn y=true∨X.env.scope.names.lookup y=some .local)
  (hsw:swapsWith (.ListComp elt [⟨tg,iter,ifs,0⟩] scope pos) (some (.Name y py)) spos.line X.env=pure true)
  (hs:∀ x,foldedSetIterable iter X.env x=pure x):
  PS X (.Assign [.Name y py] (.ListComp elt [⟨tg,iter,ifs,0⟩] scope pos) spos) (gN X.K (wpS C sub (.asg (.nm i) (.comp own.length aY (List.range own.length) one k aD kO xe)))):=by
 intro pins s σ H D I ⟨σd,st,P,r,ok,q,h⟩
 have q:=oO hC h.ex q
 rw[exec_Assign_Name_used _ _ _ _ hsw]
 refine wpAny_bind (wpAny_standAt (wpAny_bind ?_))
 show wpAny _ X.A (do let _ <-comprehension (.ListComp elt [⟨tg,iter,ifs,0⟩] scope pos) scope X.env _ (newList []) false (eval iter X.env) (some (assign (.Name y py) X.env))) _ _ s
 refine wpAny_bind (wpAny_mono (wpAny_comprehension_free (use:=some (assign (.Name y py) X.env)) (Q:=fun _ s'=>SP X pins D .next s') rfl hs (uF (S.cells I.ok)) S.kind S.names ?_) (fun _ s' hq=>wpAny_pure (wpAny_pure hq)) fun _ _ e=>e)
 refine aW (hi pins s σ H _ I ⟨σd,st,_,r,ok,q,fun J H1 z=>z⟩) fun v s1 h1=>aW h1 fun itv s2 h2=>?_
 obtain⟨it,fp,tn,J,H1,rfl,I2,T,t0,f2,as,xs,aC,cV,aM,j,q1⟩:=h2
 refine DG (use:=some (assign (.Name y py) X.env)) hC S hc mF hg hts he I2 T t0 f2 (r.step ok cV) aM j q1 ?_
 intro Da Ca H' aA ds m s' hns nO hI hL hcl hfs lU hpins hn gZ okp hD1 hst' hR
 show wpAny _ X.A (assign (.Name y py) X.env (.ref Da)) _ _ _
 refine wpAny_assign_Name (B1 hI hN hy hx (v:=.ref Da) rfl (fun s'' I'' kk=>?_) hf)
 obtain⟨ad,sb,had⟩:=kk
 have nad:Ca≠ad:=fun z=>by
  rcases had with e|e
  ·exact hL (z.trans e)
  ·exact hcl y ad e z.symm
 refine⟨m,hns.at' fun o e=>(sb.2 Ca nad).trans e,fun h' hh=>?_⟩
 refine⟨σ.set i (some (.ref Da)),H',I''.turned (t':=s''.toks) (fun b o hb e=>hh.extBut b o hb e) hn hL (.inr lU) hcl hpins,?_⟩
 have aR:=EC (o:=.lst ds) cV gZ hD1
 exact h.nx _ _ _ _ ((r.step ok aR).set i (.ref Da)) aR okp (hR.2 Da hst')
end
end L3
end
section
namespace L3
open PySem PySem.Spec PyProof.Rows L2
theorem MH {K:PySem.W.Frag}{H:Hp}{ds:List D}{vs:List V}(r:aK K H ds vs){N:List Str}{np:Nat}(h:ds.length=np):cY K H (start np N.length ds) (L2.start N vs):=by
 refine⟨by simp [start,L2.start,r.length,<-h],fun i d e=>?_⟩
 unfold start at e
 by_cases hi:i<ds.length
 ·rw[List.getElem?_append_left (by simpa using hi),List.getElem?_map,Option.map_eq_some_iff]at e
  obtain⟨d',e1,e2⟩:=e
  cases e2
  obtain⟨v,e3,e4⟩:=r.get e1
  refine⟨v,?_,e4⟩
  unfold L2.start
  rw[List.getElem?_append_left (by rw[List.length_map,<-r.length];exact hi),List.getElem?_map,e3];rfl
 ·rw[List.getElem?_append_right (by simpa using hi),List.getElem?_replicate]at e
  split at e<;>cases e
theorem SG {P:Program}{w:World}{K:PySem.W.Frag}{mg:Str->Option Value}{base:Heap}{G:Prog}{f:Nat}{a:Addr}{fd:FuncData}{ps:List Str}:dX P w K mg base gA 0 a fd ps (eU K (aN G 0) f):=by
 have no:∀ vs H Q E,¬eU K (aN G 0) f vs H Q E:=fun vs H Q E ⟨_,_,_,_,_,h,_⟩=>h
 exact⟨fun vs H Q E h=>absurd h (no vs H Q E),fun A outer s H args us vs Q E _ _ _ _ h=>absurd h (no vs H Q E)⟩
theorem UU {K:PySem.W.Frag}{G:Prog}{k f:Nat}(h:∀ ns:List Int,ns.length<=63->aN G k f [.bB (ns.map .int)] (fun _=>none) (fun d _=>d=.bl true) fun _ _=>False)(H:Hp)(a:Addr)(ns:List Int)(hl:ns.length<=63)(hO:JC H)(hS:cZ K H a (ns.map V.int)):
  eU K (aN G k) f [.ref a] H (fun v _=>v=.bl true) fun _ _ _=>False:=by
 have hF:oX K H a (ns.map V.int):=by
  rcases hS with(e|⟨o,e⟩)|e
  ·rcases hO a with z|⟨o,xs,z⟩
   ·rw[z]at e;cases e
   ·rw[z]at e;cases e
  ·exact .inl ⟨o,e⟩
  ·exact .inr e
 have ri:∀ ns:List Int,aK K H (ns.map .int) (ns.map V.int):=fun ns=>by
  induction ns with
  |nil=>exact .nil
  |cons i r ih=>exact .cons (.int i) ih
 refine⟨[.bB (ns.map .int)],fun _=>none,fun d _=>d=.bl true,.cons (.bB hF (ri ns)) .nil,fun a o e=>(by cases e),h ns hl,fun v H' ⟨d,aA,_,_,r,q⟩=>?_⟩
 subst q
 exact r.eJ
end L3
end
section
namespace L3
open PySem PySem.Spec PyProof.Rows L2
theorem dW:bootBuiltins "len" = some (.builtin "len"):=by decide +kernel
theorem oW:bootBuiltins "all" = some (.builtin "all"):=by decide +kernel
theorem LX:bootBuiltins "any" = some (.builtin "any"):=by decide +kernel
theorem DM:bootBuiltins "isinstance" = some (.builtin "isinstance"):=by decide +kernel
theorem VV:bootBuiltins "int" = some (.type "int"):=by decide +kernel
theorem M2:bootBuiltins "str" = some (.type "str"):=by decide +kernel
theorem BR:bootBuiltins "bool" = some (.type "bool"):=by decide +kernel
theorem xE:bootBuiltins "list" = some (.type "list"):=by decide +kernel
theorem dS:bootBuiltins "tuple" = some (.type "tuple"):=by decide +kernel
theorem Y7:bootBuiltins "set" = some (.type "set"):=by decide +kernel
theorem GV:bootBuiltins "reversed" = some (.type "reversed"):=by decide +kernel
theorem NY:bootBuiltins "range" = some (.type "range"):=by decide +kernel
noncomputable def EY:Ty->String
 |.int =>"int"
 |.str =>"str"
 |.bool =>"bool"
 |.list =>"list"
 |.tuple =>"tuple"
 |.dict =>"dict"
 |.err _ =>"?"
noncomputable def DU:Ty->Bool
 |.err _=>false
 |_=>true
section
variable {X:Cx}{pins:List (Addr×Obj)}{σ:L2.St}{H:Hp}{s:Shared}{st:aB}{sub:Nat->Nat->Bool}
noncomputable abbrev YS (X:Cx)(s:Shared)(u:Value)(t:Ty)(b:Bool):Prop:=∀(A:Around)(Q:Value->Shared->Prop)(E:Value->Shared->Prop),(∀ tk,Q (.bool b) { s with toks:=tk })->wpAny (model X.prog X.w) A (call (.builtin "isinstance") [u,.type (EY t)]) Q E s
theorem wV {a:Addr}(I:Inv X pins σ H s)(h:∃ o,s.heap.get? a=some o/\o.cls=.type "list"){t:Ty}{b:Bool}(e:PySem.W.kitOne X.K (.type "list") (.type (EY t))=some b):YS X s (.ref a) t b:=fun A Q E hQ =>
 PySem.W.kia_one PySem.W.kitx_list I.jA h e (fun z=>nomatch z) hQ
theorem HB {a:Addr}(I:Inv X pins σ H s)(h:∃ o,s.heap.get? a=some o/\o.cls=.type "tuple"){t:Ty}{b:Bool}(e:PySem.W.kitOne X.K (.type "tuple") (.type (EY t))=some b):YS X s (.ref a) t b:=fun A Q E hQ =>
 PySem.W.kia_one PySem.W.kitx_tuple I.jA h e (fun z=>nomatch z) hQ
theorem MF {d:D}{v:V}{u:Value}{t:Ty}{P:Bool->Prop}(I:Inv X pins σ H s)(ok:aO X.K st H)(r:Rep X.K H d v)(rv:RelV v u)(ht:DU t=true)(h:iM sub d st t P):∃ b,P b/\YS X s u t b:=by
 cases d with
 |non =>
  cases r.eO;cases rv
  refine⟨false,by cases t<;>exact h,fun A Q E hQ=>PySem.W.kia_one PySem.W.kitx_none I.jA True.intro ?_ (fun z=>nomatch z) hQ⟩
  cases t<;>first|rfl|cases ht
 |bl k =>
  cases r.eJ;cases rv
  cases t with
  |bool=>exact⟨true,h,fun A Q E hQ=>PySem.W.kia_one PySem.W.kitx_bool I.jA True.intro rfl (fun z=>nomatch z) hQ⟩
  |int=>exact⟨true,h,fun A Q E hQ=>PySem.W.kia_one PySem.W.kitx_bool I.jA True.intro rfl (fun z=>nomatch z) hQ⟩
  |err _=>cases ht
  |_=>exact⟨false,h,fun A Q E hQ=>PySem.W.kia_one PySem.W.kitx_bool I.jA True.intro rfl (fun z=>nomatch z) hQ⟩
 |int k =>
  cases r.int_inv;obtain⟨tk,rfl⟩:=rv
  cases t with
  |int=>exact⟨true,h,fun A Q E hQ=>PySem.W.kia_one PySem.W.kitx_int I.jA True.intro rfl (fun z=>nomatch z) hQ⟩
  |err _=>cases ht
  |_=>exact⟨false,h,fun A Q E hQ=>PySem.W.kia_one PySem.W.kitx_int I.jA True.intro rfl (fun z=>nomatch z) hQ⟩
 |str k =>
  cases r.str_inv;obtain⟨tk,rfl⟩:=rv
  cases t with
  |str=>exact⟨true,h,fun A Q E hQ=>PySem.W.kia_one PySem.W.kitx_str I.jA True.intro rfl (fun z=>nomatch z) hQ⟩
  |err _=>cases ht
  |_=>exact⟨false,h,fun A Q E hQ=>PySem.W.kia_one PySem.W.kitx_str I.jA True.intro rfl (fun z=>nomatch z) hQ⟩
 |tup ds =>
  obtain⟨a,vs,rfl,f,g⟩:=r.bM
  cases rv
  obtain⟨aD,_,⟨o,h1,h2,_⟩,_⟩:=I.tuple f
  cases t with
  |tuple=>exact⟨true,h,HB I ⟨o,h1,h2⟩ rfl⟩
  |err _=>cases ht
  |_=>exact⟨false,h,HB I ⟨o,h1,h2⟩ rfl⟩
 |ref a =>
  cases r.cE
  cases rv
  have key:∃ ds,st a=some (.lst ds):=by
   cases e:st a with
   |none=>exfalso;cases t<;>first|(simp only[iM,dO,e]at h)|cases ht
   |some o =>
    cases o with
    |lst ds=>exact⟨ds,rfl⟩
    |dic _ _=>exact(ok a _ e).elim
    |ins _ _=>exfalso;cases t<;>first|(simp only[iM,dO,e]at h)|cases ht
    |tab _ _=>exfalso;cases t<;>first|(simp only[iM,dO,e]at h)|cases ht
  obtain⟨ds,e⟩:=key
  obtain⟨vs,g1,_⟩:=ok.lst e
  obtain⟨_,aD,n,_,_,e1⟩:=I.tR g1
  have ho:∃ o,s.heap.get? a=some o/\o.cls=.type "list":=⟨_,e1,rfl⟩
  cases t with
  |list=>simp only[iM]at h;rw[fI e]at h;exact⟨true,h,wV I ho rfl⟩
  |err _=>cases ht
  |_=>simp only[iM]at h;rw[fI e]at h;exact⟨false,h,wV I ho rfl⟩
 |bB ds =>
  obtain⟨a,vs,rfl,f,g⟩:=r.jL
  cases rv
  obtain⟨aD,_,p,_⟩:=I.list f.sq
  obtain⟨o,h1,h2,_⟩:=p.isList
  cases t with
  |list=>exact⟨true,h,wV I ⟨o,h1,h2⟩ rfl⟩
  |err _=>cases ht
  |_=>exact⟨false,h,wV I ⟨o,h1,h2⟩ rfl⟩
 |cM _ _=>cases t<;>exact(show False from h).elim
 |exc c=>cases r
end
section
variable {X:Cx}{C:bC}{sub:Nat->Nat->Bool}{E:XK}{a:Expr}{x:Ex}{p p2 pos:Pos}
noncomputable def Gc (K:PySem.W.Frag)(sub:Nat->Nat->Bool)(t:Ty):List V->Hp->L2.VK->Prop:=fun vs H Q=>∃ d v st R,vs=[v,.ty (EY t)]/\Rep K H d v/\aO K st H/\iM sub d st t (fun b=>R (.bl b) st)/\∀ v H',QD K H st R v H'->Q v H'
theorem OL {t:Ty}(ht:DU t=true):tF X (.builtin "isinstance") (Gc X.K sub t):=by
 intro pins s σ H vs us Q I rv h
 obtain⟨d,v,st,R,rfl,r,ok,h,hq⟩:=h
 cases rv with|cons r1 r2=>cases r2 with|cons r2 r3 =>
 cases r3
 cases r2
 obtain⟨b,hb,hi⟩:=MF I ok r r1 ht h
 exact hi X.A _ _ fun tk=>⟨.bl b,H,I.tok tk,rfl,hq _ _ (.here ok (.bl b) hb)⟩
theorem Ay {t:Ty}{n:Str}(ht:DU t=true)(hg:Gl X "isinstance")(hm:X.mg "isinstance" = none)(hg2:Gl X n)(hm2:X.mg n=none)(hv2:bootBuiltins n=some (.type (EY t)))(ha:PE X a (bS X.K (aH C sub E x)))
 (hn2:n ≠"__name__")(hd2:(n==("__debug__" : Str))=false)(he:starEach [a,.Name n p2] X.env=(false,eval a X.env)::starEach [.Name n p2] X.env)(he2:starEach [.Name n p2] X.env=[(false,eval (.Name n p2) X.env)])(cS:(backTo pos (starEach [.Name n p2] X.env)).any (·.1)=false):
 PE X (.Call (.Name "isinstance" p) [a,.Name n p2] [] pos) (bS X.K (aH C sub E (.isi x [t]))) :=
 (FN (OL (sub:=sub) ht) hg hm DM (BF ha (BF (R4 hg2 hm2 hv2 (v:=.ty (EY t)) rfl hn2 hd2) LK he2) he) (by decide) (by decide) he cS).imp fun σ H Q ⟨σd,st,R,r,ok,q,hq⟩=>by
 refine⟨σd,st,_,r,ok,q,fun v H1 ⟨d,aC,s1,aM,r1,q1⟩=>?_⟩
 exact⟨d,v,aC,R,rfl,r1,aM,q1,fun v H' z=>hq _ _ (.after s1 z)⟩
theorem ZJ {t:String}{j:Nat}(h:Str.ofString t=⟨(W t).toArray⟩):PE X (.Constant (.str (Str.ofString t)) j pos) (bS X.K (aH C sub E (.c (.str (W t))))) :=
 rS W6 fun H=>by rw[h];exact .str _
end
end L3
end
section
namespace L3
open PySem PySem.Spec PyProof.Rows L2
structure JE (X:Cx)(C:bC)(sub:Nat->Nat->Bool)(E:XK)(e:Expr)(x:Ex):Prop where
 h:PE X e (bS X.K (aH C sub E x))
structure JT (X:Cx)(C:bC)(sub:Nat->Nat->Bool)(E:XK)(e:Expr)(x:Ex):Prop where
 h:PT X e (iU X.K (aH C sub E x))
structure JW (X:Cx)(C:bC)(sub:Nat->Nat->Bool)(E:XK)(e:Expr)(x:Ex):Prop where
 h:PW X e (iU X.K (aH C sub E x))
structure JA (X:Cx)(C:bC)(sub:Nat->Nat->Bool)(E:XK)(es:List Expr)(xs:List Ex):Prop where
 h:PA X es (jW X.K (bN C sub E xs))
structure JO (X:Cx)(C:bC)(sub:Nat->Nat->Bool)(E:XK)(e:Option Expr)(xs:List Ex):Prop where
 h:PO X e (BX X.K (bN C sub E xs))
structure JI (X:Cx)(C:bC)(sub:Nat->Nat->Bool)(E:XK)(tg e:Expr)(k:Option IK)(xs:List Ex):Prop where
 h:PI X tg e (zH X.K fun σ st M=>bN C sub E xs σ st fun ds aC=>fT k ds aC fun as ys=>M as ys aC)
structure JG (X:Cx)(C:bC)(sub:Nat->Nat->Bool)(E:XK)(tg:Expr)(t:Tg):Prop where
 h:PG X tg (EV X.K (lH C sub E t))
structure JN (X:Cx)(tg:Expr)(i:Nat):Prop where
 h:PG X tg (AZ i)
structure P5 (X:Cx)(es:List Expr)(is:List Nat):Prop where
 h:zY X es (qZ is)
structure JB (X:Cx)(tg:Expr)(one:Bool)(n:Nat):Prop where
 h:PG X tg (HM X.K one n)
structure JQ (X:Cx)(C:bC)(sub:Nat->Nat->Bool)(E:XK)(es:List Expr)(xs:List Ex):Prop where
 h:C4 X es (sW X.K (gO C sub E xs))
structure JS (X:Cx)(C:bC)(sub:Nat->Nat->Bool)(s:Stmt)(x:Sx):Prop where
 h:PS X s (gN X.K (wpS C sub x))
structure yB (X:Cx)(C:bC)(sub:Nat->Nat->Bool)(ss:List Stmt)(xs:List Sx):Prop where
 h:jQ X ss (gN X.K (cH C sub xs))
structure rJ (X:Cx)(C:bC)(n:Str)(fid:Nat):Prop where
 h:∃ k f fd ps,dX X.prog X.w X.K X.mg X.base gA k f fd ps (eU X.K C fid)/\dA k X.A/\X.mg n=some (.ref f)/\PySem.W.keepIn X.K (.ref f)=true/\Binds X.K fd ps []
noncomputable def GC (K:PySem.W.Frag)(mg:Str->Option Value)(n:Str)(d:D):Prop:=∃ u v,mg n=some u/\RelV v u/\∀ H,Rep K H d v
section
variable {X:Cx}{C:bC}{sub:Nat->Nat->Bool}{E:XK}{a b c e o tg:Expr}{es:List Expr}{x y z:Ex}{xs:List Ex}{p p2 pos apos:Pos}{k:Nat}{n:Str}{s:Stmt}{ss:List Stmt}{sxs:List Sx}
theorem jv (i:Nat)(hN:X.N[i]? = some n:=by kernel_rfl)(hv:X.env.scope.names.lookup n=some .local:=by kernel_rfl)(hd:(n==("__debug__" : Str))=false:=by kernel_rfl)
 (hcd:(n==("__classdict__" : Str))=false:=by kernel_rfl):JE X C sub E (.Name n pos) (.v i):=⟨QR (pv i hN (.inl hv) hd hcd)⟩
theorem bF (i:Nat)(hN:X.N[i]? = some n:=by kernel_rfl)(hv:X.env.scope.names.lookup n=some .cell:=by kernel_rfl)(hd:(n==("__debug__" : Str))=false:=by kernel_rfl)
 (hcd:(n==("__classdict__" : Str))=false:=by kernel_rfl):JE X C sub E (.Name n pos) (.v i):=⟨QR (pv i hN (.inr (.inl hv)) hd hcd)⟩
theorem ji {i:Int}:JE X C sub E (.Constant (.int i) k pos) (.c (.int i)):=⟨rS U3 fun _=>.int _⟩
theorem jb {i:Bool}:JE X C sub E (.Constant (.bool i) k pos) (.c (.bl i)):=⟨rS Aa fun _=>.bl _⟩
theorem jn:JE X C sub E (.Constant .none k pos) (.c .non):=⟨rS XD fun _=>.non⟩
theorem js {t:String}(h:Str.ofString t=⟨(W t).toArray⟩:=by kernel_rfl):JE X C sub E (.Constant (.str (Str.ofString t)) k pos) (.c (.str (W t))):=⟨ZJ h⟩
theorem jg {d:D}(h:GC X.K X.mg n d)(hg:X.env.kindOf n=some .globalImplicit:=by kernel_rfl)(hd:(n==("__debug__" : Str))=false:=by kernel_rfl):JE X C sub E (.Name n pos) (.c d):=⟨let⟨u,v,h1,h2,h3⟩:=h;rS (Q0 hg h1 h2 hd) h3⟩
theorem ja (h:JE X C sub E e x)(hs:JA X C sub E es xs)(eF:starEach (e::es) X.env=(false,eval e X.env)::starEach es X.env:=by kernel_rfl):JA X C sub E (e::es) (x::xs):=⟨Y1 h.h hs.h eF⟩
theorem jt (m:bP C C)(hs:JA X C sub E es xs)(hl:xs.length<=bE:=by decide):JE X C sub E (.Tuple es k pos) (.tup xs):=⟨Ak m hs.h hl⟩
theorem mP {o:pE}(u:X.A.units+180<cLine)(ha:JE X C sub E a x)(hb:JE X C sub E b y)(hm:behindInMarks (nC o) b=false:=by kernel_rfl):JE X C sub E (.Compare a [nC o] [b] pos) (.cmp o x y):=⟨ZS u ha.h hb.h hm⟩
theorem cL {o:pE}(u:X.A.units+180<cLine)(ha:JE X C sub E a x)(hb:JE X C sub E b y)(hm:behindInMarks (nC o) b=false:=by kernel_rfl):JT X C sub E (.Compare a [nC o] [b] pos) (.cmp o x y):=⟨XO u ha.h hb.h hm⟩
theorem VH {o o':pE}(u:X.A.units+180<cLine)(ha:JE X C sub E a x)(hb:JE X C sub E b y)(hc:JE X C sub E c z)(hm:lastMarks [nC o,nC o'] [b,c]=false:=by kernel_rfl):JE X C sub E (.Compare a [nC o,nC o'] [b,c] pos) (.chain o o' x y z):=⟨SU u ha.h hb.h hc.h hm⟩
theorem tp (h:JE X C sub E e x)(he:∀ whole,isTrue e X.env whole=(do let v <-whole;standAt e.pos;holding [v] (truthy v)):=by intro _;rfl):JT X C sub E e x:=⟨OA h.h he⟩
theorem bD (ha:JE X C sub E a x)(hb:JE X C sub E b y)(hp:rD b:=by intro _ _;rfl):JE X C sub E (.Subscript a b pos) (.ix x y):=⟨Ej ha.h hb.h hp⟩
theorem bT {fid:Nat}(h:rJ X C n fid)(ha:JA X C sub EF (e::es) xs)(hg:X.env.kindOf n=some .globalImplicit:=by kernel_rfl)(hdb:(n==("__debug__" : Str))=false:=by kernel_rfl)(he:starEach (e::es) X.env=(false,eval e X.env)::starEach es X.env:=by kernel_rfl)(cS:(backTo pos (starEach es X.env)).any (·.1)=false:=by kernel_rfl):
 JE X C sub EF (.Call (.Name n p) (e::es) [] pos) (.call fid xs):=⟨let⟨k,f,fd,ps,h1,h2,h3,h4,h5⟩:=h.h;U1 h1 h2 hg h3 h4 h5 J5 ha.h hdb he cS⟩
theorem eQ {f:BI}{id:String}(hW:uZ X (.builtin id) (gJ f))(hv:bootBuiltins n=some (.builtin id))(hm:X.mg n=none)(ha:JA X C sub E (e::es) xs)(hg:X.env.kindOf n=some .globalImplicit:=by kernel_rfl)
 (hn:n ≠"__name__":=by decide)(hdb:(n==("__debug__" : Str))=false:=by kernel_rfl)(he:starEach (e::es) X.env=(false,eval e X.env)::starEach es X.env:=by kernel_rfl)(cS:(backTo pos (starEach es X.env)).any (·.1)=false:=by kernel_rfl):
 JE X C sub E (.Call (.Name n p) (e::es) [] pos) (.bi f xs):=⟨(Av hW hg hm hv ha.h hn hdb he cS).imp fun σ H Q ⟨σd,st,R,r,ok,q,hq⟩=>⟨σd,st,R,r,ok,q,hq⟩⟩
theorem nG {f:BI}{id:String}(hW:uZ X (.type id) (gJ f))(hv:bootBuiltins n=some (.type id))(hm:X.mg n=none)(ha:JA X C sub E (e::es) xs)(hg:X.env.kindOf n=some .globalImplicit:=by kernel_rfl)
 (hn:n ≠"__name__":=by decide)(hdb:(n==("__debug__" : Str))=false:=by kernel_rfl)(he:starEach (e::es) X.env=(false,eval e X.env)::starEach es X.env:=by kernel_rfl)(cS:(backTo pos (starEach es X.env)).any (·.1)=false:=by kernel_rfl):
 JE X C sub E (.Call (.Name n p) (e::es) [] pos) (.bi f xs):=⟨(VG hW hg hm hv ha.h hn hdb he cS).imp fun σ H Q ⟨σd,st,R,r,ok,q,hq⟩=>⟨σd,st,R,r,ok,q,hq⟩⟩
theorem wC {t:Ty}(hv:bootBuiltins n=some (.type (EY t)))(hm:X.mg "isinstance" = none)(hm2:X.mg n=none)(ha:JE X C sub E a x)(ht:DU t=true:=by kernel_rfl)(hg:X.env.kindOf "isinstance" = some .globalImplicit:=by kernel_rfl)(hg2:X.env.kindOf n=some .globalImplicit:=by kernel_rfl)
 (hn2:n ≠"__name__":=by decide)(hd2:(n==("__debug__" : Str))=false:=by kernel_rfl)(he:starEach [a,.Name n p2] X.env=(false,eval a X.env)::starEach [.Name n p2] X.env:=by kernel_rfl)(he2:starEach [.Name n p2] X.env=[(false,eval (.Name n p2) X.env)]:=by kernel_rfl)(cS:(backTo pos (starEach [.Name n p2] X.env)).any (·.1)=false:=by kernel_rfl):
 JE X C sub E (.Call (.Name "isinstance" p) [a,.Name n p2] [] pos) (.isi x [t]):=⟨Ay ht hg hm hg2 hm2 hv ha.h hn2 hd2 he he2 cS⟩
theorem vJ (ho:JE X C sub E o x)(ha:JA X C sub E (e::es) xs)(iV:attributeBase o "append" X.env (eval o X.env)=eval o X.env:=by kernel_rfl)
 (tV:((backTo pos (starEach (e::es) X.env)).all (fun x=>!x.1)&&(backToKw pos (keywordEach [] X.env)).all (fun x=>x.1.isSome)&&decide ((e::es).length+([]:List Keyword).length+(if([]:List Keyword).isEmpty then 0 else 1)<30))=true:=by kernel_rfl)(iW:(apos.endLine==pos.line)=true:=by kernel_rfl)
 (hs:starEach (e::es) X.env=(false,eval e X.env)::starEach es X.env:=by kernel_rfl)(pR:(backTo pos (starEach es X.env)).any (·.1)=false:=by kernel_rfl):
 JE X C sub E (.Call (.Attribute o "append" apos) (e::es) [] pos) (.cK .append x xs):=⟨ME (fun z=>nomatch z) PySem.F.slot_list_append PySem.F.type_list_append NA ho.h ha.h iV tV iW hs pR⟩
theorem Gw (ho:JE X C sub E o x)(ha:JA X C sub E (e::es) xs)(iV:attributeBase o "extend" X.env (eval o X.env)=eval o X.env:=by kernel_rfl)
 (tV:((backTo pos (starEach (e::es) X.env)).all (fun x=>!x.1)&&(backToKw pos (keywordEach [] X.env)).all (fun x=>x.1.isSome)&&decide ((e::es).length+([]:List Keyword).length+(if([]:List Keyword).isEmpty then 0 else 1)<30))=true:=by kernel_rfl)(iW:(apos.endLine==pos.line)=true:=by kernel_rfl)
 (hs:starEach (e::es) X.env=(false,eval e X.env)::starEach es X.env:=by kernel_rfl)(pR:(backTo pos (starEach es X.env)).any (·.1)=false:=by kernel_rfl):
 JE X C sub E (.Call (.Attribute o "extend" apos) (e::es) [] pos) (.cK .extend x xs):=⟨ME (fun z=>nomatch z) PySem.F.slot_list_extend PySem.F.type_list_extend LF ho.h ha.h iV tV iW hs pR⟩
theorem Gz (ho:JE X C sub E o x)(iV:attributeBase o "pop" X.env (eval o X.env)=eval o X.env:=by kernel_rfl)(iW:(apos.endLine==pos.line)=true:=by kernel_rfl):
 JE X C sub E (.Call (.Attribute o "pop" apos) [] [] pos) (.cK .pop x []):=⟨RD (fun z=>nomatch z) PySem.F.slot_list_pop PySem.F.type_list_pop X0 ho.h iV iW⟩
theorem sx (m:bP C C)(h:JE X C sub EF e x)(hs:swapsWith e none pos.line X.env=pure false:=by kernel_rfl):JS X C sub (.Expr e pos) (.ex x):=⟨Gi m h.h hs⟩
theorem sn {i:Nat}(m:bP C C)(nd:X.N.Nodup)(he:JE X C sub EF e x)(hi:X.N[i]? = some n:=by kernel_rfl)(hx:X.env.scope.names.lookup n=some .local:=by kernel_rfl)
 (hs:swapsWithSole [.Name n p] e pos.line X.env=pure false:=by kernel_rfl)(hw:swappedStores [.Name n p] e X.env=pure none:=by kernel_rfl)(h1:(assignEach [.Name n p] X.env).map (·.2)=[assign (.Name n p) X.env]:=by kernel_rfl):JS X C sub (.Assign [.Name n p] e pos) (.asg (.nm i) x):=⟨II m he.h (NO (rQ nd hi (.inl hx) (.inr hx))) hs hw h1⟩
theorem HN {i:Nat}(m:bP C C)(nd:X.N.Nodup)(he:JE X C sub EF e x)(hi:X.N[i]? = some n:=by kernel_rfl)(hx:X.env.scope.names.lookup n=some .cell:=by kernel_rfl)(hf:X.fn n=true:=by kernel_rfl)
 (hs:swapsWithSole [.Name n p] e pos.line X.env=pure false:=by kernel_rfl)(hw:swappedStores [.Name n p] e X.env=pure none:=by kernel_rfl)(h1:(assignEach [.Name n p] X.env).map (·.2)=[assign (.Name n p) X.env]:=by kernel_rfl):JS X C sub (.Assign [.Name n p] e pos) (.asg (.nm i) x):=⟨II m he.h (NO (rQ nd hi (.inr hx) (.inl hf))) hs hw h1⟩
theorem gn {i:Nat}(nd:X.N.Nodup)(hi:X.N[i]? = some n:=by kernel_rfl)(hx:X.env.scope.names.lookup n=some .local:=by kernel_rfl):JN X (.Name n p) i:=⟨rQ nd hi (.inl hx) (.inr hx)⟩
theorem Hb {i:Nat}(nd:X.N.Nodup)(hi:X.N[i]? = some n:=by kernel_rfl)(hx:X.env.scope.names.lookup n=some .cell:=by kernel_rfl)(hf:X.fn n=true:=by kernel_rfl):JN X (.Name n p) i:=⟨rQ nd hi (.inr hx) (.inl hf)⟩
theorem gc {i:Nat}{is:List Nat}(h1:JN X e i)(h2:P5 X es is)(hs:(assignEach (e::es) X.env).map (·.2)=assign e X.env::(assignEach es X.env).map (·.2):=by kernel_rfl):P5 X (e::es) (i::is):=⟨R0 h1.h h2.h hs⟩
theorem gt {is:List Nat}(h:P5 X es is)(hc:X.calm=true:=by kernel_rfl)(hn:(assignEach es X.env).length=is.length:=by kernel_rfl)(eF:(assignEach es X.env).findIdx? (·.1)=none:=by kernel_rfl):JG X C sub E (.Tuple es k pos) (.tp is):=⟨Fz hc h.h hn eF⟩
theorem gi (ho:JE X C sub E o x)(hi:JE X C sub E a y)
 (ha:∀ v,assign (.Subscript o a pos) X.env v=(do
  let ov <-holding [v] (eval o X.env)
  let iv <-holding [v,ov] (eval a X.env)
  standAt pos
  holding [v,ov,iv] (setItem ov iv v)
  release [v,ov,iv] []):=by intro _;rfl):JG X C sub E (.Subscript o a pos) (.ix x y):=⟨Gq ho.h hi.h ha⟩
theorem sg {t:Tg}(m:bP C C)(he:JE X C sub EF e x)(hg:JG X C sub EF tg t)
 (hs:swapsWithSole [tg] e pos.line X.env=pure false:=by kernel_rfl)(hw:swappedStores [tg] e X.env=pure none:=by kernel_rfl)(h1:(assignEach [tg] X.env).map (·.2)=[assign tg X.env]:=by kernel_rfl):JS X C sub (.Assign [tg] e pos) (.asg t x):=⟨II m he.h hg.h hs hw h1⟩
theorem sw (m:bP C C)(hc:JT X C sub EF c x)(hb:yB X C sub ss sxs)(hp:PassesOwn (model X.prog X.w) X.A X.env X.xe:=by exact PassesOwn.never):JS X C sub (.While c ss [] pos) (.whl x sxs):=⟨R8 m hp hc.h hb.h⟩
theorem sf {kk:Option IK}{t:Tg}(m:bP C C)(hi:JI X C sub EF tg e kk xs)(hg:JG X C sub EF tg t)(hb:yB X C sub ss sxs)
 (hp:PassesOwn (model X.prog X.w) X.A X.env X.xe:=by exact PassesOwn.never)(hc:X.calm=true:=by kernel_rfl)(hs:∀ x,foldedSetIterable e X.env x=pure x:=by intro _;rfl):JS X C sub (.For tg e ss [] pos) (.iX t kk xs sxs):=⟨QC m hp hc hi.h hg.h hb.h hs⟩
theorem yL {kk:Option IK}{i:Nat}(m:bP C C)(nd:X.N.Nodup)(hi:JI X C sub EF (.Name n p) e kk xs)(hb:yB X C sub ss sxs)
 (hN:X.N[i]? = some n:=by kernel_rfl)(hx:X.env.scope.names.lookup n=some .local:=by kernel_rfl)
 (hp:PassesOwn (model X.prog X.w) X.A X.env X.xe:=by exact PassesOwn.never)(hc:X.calm=true:=by kernel_rfl)(hs:∀ x,foldedSetIterable e X.env x=pure x:=by intro _;rfl):JS X C sub (.For (.Name n p) e ss [] pos) (.iX (.nm i) kk xs sxs):=⟨QC m hp hc hi.h (NO (rQ nd hN (.inl hx) (.inr hx))) hb.h hs⟩
theorem C6 (m:bP C C)(hm:X.mg "range" = none)(ha:JA X C sub E [a] [x])(hg:X.env.kindOf "range" = some .globalImplicit:=by kernel_rfl)(hs:starEach [a] X.env=[(false,eval a X.env)]:=by kernel_rfl):
 JI X C sub E tg (.Call (.Name "range" p) [a] [] pos) (some .range) [x]:=⟨Q4 m hg hm ha.h hs⟩
theorem Dk {cl:Nat}{t:String}(m:bP C C):JS X C sub s (.rais cl [.c (.str (W t))]):=⟨UB m fun σd st h=>h⟩
end
section
variable {X:Cx}{C:bC}{sub:Nat->Nat->Bool}{E:XK}{a b c e o tg:Expr}{es rest:List Expr}{x y z:Ex}{xs:List Ex}{p p2 pos apos:Pos}{k:Nat}{n:Str}{s:Stmt}{ss as bs:List Stmt}{sx1:Sx}{sxs ax bx:List Sx}
theorem an:JA X C sub E [] []:=⟨ZD⟩
theorem jl (hs:JA X C sub E es xs):JE X C sub E (.List es pos) (.lst xs):=⟨Ae hs.h⟩
theorem cD {op:sC}(ha:JE X C sub E a x)(hb:JE X C sub E b y):JE X C sub E (.BinOp a (UM op) b pos) (.bin op x y):=⟨Cb ha.h hb.h⟩
theorem Dr (ha:JE X C sub E a x):JE X C sub E (.UnaryOp .USub a pos) (.neg x):=⟨Cq ha.h⟩
theorem HU (ha:JE X C sub E a x):JE X C sub E (.UnaryOp .Not a pos) (.not_ x):=⟨Ai ha.h⟩
theorem jV {op:BoolOp}(ha:JE X C sub E a x):JE X C sub E (.BoolOp op [a] pos) x:=⟨ZI ha.h⟩
theorem kP (ha:JE X C sub E a x)(hb:JE X C sub E (.BoolOp .And (b::rest) pos) y):JE X C sub E (.BoolOp .And (a::b::rest) pos) (.and_ x y):=⟨Af ha.h hb.h⟩
theorem HI (ha:JE X C sub E a x)(hb:JE X C sub E (.BoolOp .Or (b::rest) pos) y):JE X C sub E (.BoolOp .Or (a::b::rest) pos) (.or_ x y):=⟨Gr ha.h hb.h⟩
theorem on:JO X C sub E none []:=⟨Q5⟩
theorem os (h:JE X C sub E e x):JO X C sub E (some e) [x]:=⟨SH h.h⟩
theorem AL {lo hi:Option Expr}{xl xh:List Ex}(ha:JE X C sub E a x)(hl:JO X C sub E lo xl)(hh:JO X C sub E hi xh):JE X C sub E (.Subscript a (.Slice lo hi none p2) pos) (.sl x xl xh):=⟨Ez ha.h hl.h hh.h⟩
theorem nP (h:JT X C sub E e x):JT X C sub E (.UnaryOp .Not e pos) (.not_ x):=⟨UH h.h⟩
theorem pI (h:JW X C sub E e x):JT X C sub E e x:=⟨h.h.pt⟩
theorem oK {op:BoolOp}(h:JT X C sub E e x):JW X C sub E (.BoolOp op [e] pos) x:=⟨XU h.h⟩
theorem PR (m:bP C C)(ha:JT X C sub E a x)(hb:JW X C sub E (.BoolOp .And (b::rest) pos) y):JW X C sub E (.BoolOp .And (a::b::rest) pos) (.and_ x y):=⟨Y4 m ha.h hb.h⟩
theorem rO (m:bP C C)(ha:JT X C sub E a x)(hb:JW X C sub E (.BoolOp .Or (b::rest) pos) y):JW X C sub E (.BoolOp .Or (a::b::rest) pos) (.or_ x y):=⟨ZN m ha.h hb.h⟩
theorem iv (h:JE X C sub E e x):JI X C sub E tg e none [x]:=⟨XB h.h⟩
theorem qn:JQ X C sub E [] []:=⟨YU⟩
theorem qc (h:JT X C sub E e x)(hs:JQ X C sub E es xs):JQ X C sub E (e::es) (x::xs):=⟨R3 h.h hs.h⟩
theorem nn:P5 X [] []:=⟨VF⟩
theorem b1 (h:JN X tg 0):JB X tg true 1:=⟨h.h⟩
theorem c0:yB X C sub [] []:=⟨Aw⟩
theorem cc (h1:JS X C sub s sx1)(h2:yB X C sub ss sxs):yB X C sub (s::ss) (sx1::sxs):=⟨XC h1.h h2.h⟩
theorem cO (m:bP C C)(hc:JT X C sub EF c x)(ha:yB X C sub as ax)(hb:yB X C sub bs bx):JS X C sub (.If c as bs pos) (.iff x ax bx):=⟨Ed m hc.h ha.h hb.h⟩
theorem bQ (m:bP C C)(h:JE X C sub EF e x):JS X C sub (.Return (some e) pos) (.ret x):=⟨ZV m h.h⟩
theorem Ho:JS X C sub (.Return none pos) (.ret (.c .non)):=⟨WJ⟩
end
section
variable {X:Cx}{C:bC}{sub:Nat->Nat->Bool}{elt iter tg:Expr}{ifs:List Expr}{xe:Ex}{kO aD:List Ex}{pos:Pos}{scope:Scope}{own cn:List Str}{aY:List Nat}{one:Bool}{k:Option IK}
theorem jZ (m:bP C C)(S:jY X scope cn aY)(hi:JI X C sub EF tg iter k aD)
 (hg:∀ fp s H Ca,JB (kX X scope own cn fp s H Ca) tg one own.length)
 (hts:∀ fp s H Ca,JQ (kX X scope own cn fp s H Ca) C sub EF ifs kO)
 (he:∀ fp s H Ca,JE (kX X scope own cn fp s H Ca) C sub EF elt xe)(hc:X.calm=true:=by kernel_rfl)(mF:one=true->own.length=1:=by decide)
 (hs:∀ x,foldedSetIterable iter X.env x=pure x:=by intro _;rfl):
 JE X C sub EF (.ListComp elt [⟨tg,iter,ifs,0⟩] scope pos) (.comp own.length aY (List.range own.length) one k aD kO xe) :=
 ⟨VX m S hc mF hi.h (fun a b c d=>(hg a b c d).h) (fun a b c d=>(hts a b c d).h) (fun a b c d=>(he a b c d).h) hs⟩
theorem QL {i:Nat}{y:Str}{py spos:Pos}(m:bP C C)(nd:X.N.Nodup)(S:jY X scope cn aY)(hi:JI X C sub EF tg iter k aD)
 (hg:∀ fp s H Ca,JB (kX X scope own cn fp s H Ca) tg one own.length)
 (hts:∀ fp s H Ca,JQ (kX X scope own cn fp s H Ca) C sub EF ifs kO)
 (he:∀ fp s H Ca,JE (kX X scope own cn fp s H Ca) C sub EF elt xe)(hy:X.N[i]? = some y:=by kernel_rfl)(hx:X.env.scope.names.lookup y=some .local:=by kernel_rfl)
 (hsw:swapsWith (.ListComp elt [⟨tg,iter,ifs,0⟩] scope pos) (some (.Name y py)) spos.line X.env=pure true:=by kernel_rfl)(hc:X.calm=true:=by kernel_rfl)(mF:one=true->own.length=1:=by decide)
 (hs:∀ x,foldedSetIterable iter X.env x=pure x:=by intro _;rfl):
 JS X C sub (.Assign [.Name y py] (.ListComp elt [⟨tg,iter,ifs,0⟩] scope pos) spos) (.asg (.nm i) (.comp own.length aY (List.range own.length) one k aD kO xe)) :=
 ⟨WA m S hc mF hi.h (fun a b c d=>(hg a b c d).h) (fun a b c d=>(hts a b c d).h) (fun a b c d=>(he a b c d).h) nd hy (.inl hx) (.inr hx) hsw hs⟩
end
noncomputable def IJ (k:Option NameKind):Bool:=k==some .cell||k==some .free
noncomputable def PX (names on:List (Str×NameKind))(N cn:List Str)(aY:List Nat):Bool :=
 names.all (fun y=>!(y.2 == .cell)&&(!(y.2 == .local)||names.lookup y.1==some .local)&&(!(y.2 == .free)||IJ (on.lookup y.1)))&&(cn.length==aY.length) &&
 (cn.zip aY).all (fun p=>names.lookup p.1==some .free&&N[p.2]? == some p.1&&IJ (on.lookup p.1))
theorem HA {k:Option NameKind}(h:IJ k=true):k=some .cell∨k=some .free:=by
 unfold IJ at h
 rw[Bool.or_eq_true]at h
 rcases h with h|h
 ·exact .inl (by simpa using h)
 ·exact .inr (by simpa using h)
theorem jC {X:Cx}{scope:Scope}{cn:List Str}{aY:List Nat}{on:List (Str×NameKind)}{N:List Str}(h:PX scope.names on N cn aY=true)(hE:X.env.scope.names=on:=by kernel_rfl)(hN:X.N=N:=by kernel_rfl)(hk:scope.kind=.function:=by kernel_rfl):jY X scope cn aY:=by
 unfold PX at h
 rw[Bool.and_eq_true,Bool.and_eq_true]at h
 obtain⟨⟨h1,h2⟩,h3⟩:=h
 have h1:=List.all_eq_true.mp h1
 have hl:cn.length=aY.length:=by simpa using h2
 refine⟨hk,fun y hy=>?_,fun y hy e=>?_,fun y hy e=>?_,hl,fun j y e=>?_⟩
 ·have:=h1 y hy
  simp only[Bool.and_eq_true]at this
  intro z;rw[z]at this;simp at this
 ·have:=h1 y hy
  simp only[Bool.and_eq_true,Bool.or_eq_true]at this
  rcases this.1.2 with q|q
  ·rw[e]at q;simp at q
  ·simpa using q
 ·have:=h1 y hy
  simp only[Bool.and_eq_true,Bool.or_eq_true]at this
  rcases this.2 with q|q
  ·rw[e]at q;simp at q
  ·show X.env.scope.names.lookup y.1=_∨X.env.scope.names.lookup y.1=_
   rw[hE];exact HA q
 ·obtain⟨hj,ej⟩:=List.getElem?_eq_some_iff.mp e
  have hj':j<aY.length:=by omega
  have hm:(y,aY[j])∈cn.zip aY:=by
   rw[<-ej]
   exact List.mem_iff_getElem.mpr ⟨j,by simp;omega,by simp⟩
  have:=List.all_eq_true.mp h3 _ hm
  simp only[Bool.and_eq_true]at this
  refine⟨by simpa using this.1.1,aY[j],List.getElem?_eq_getElem hj',by rw[hN];simpa using this.1.2,?_⟩
  show X.env.scope.names.lookup y=_∨X.env.scope.names.lookup y=_
  rw[hE];exact HA this.2
end L3
namespace L3
theorem Bq {k:Nat}{A:PySem.Around}(hr:L2.dA k A):A.units+180<PySem.cLine:=by have:=hr.un;omega
end L3
end
section
namespace PySem
open Sem (wp)
section
variable {prog:Program}{w:World}{A:Around}{s:Shared}{R:Result->Shared->Prop}{I:Addr}{fp wr:List Addr}{n:Nat}{P:Nat->Value->Prop}{St:Nat->Heap->Prop}
noncomputable def wJ (prog:Program)(w:World)(I:Addr)(St:Nat->Heap->Prop):Prop:=∀(A:Around)(s:Shared)(Q:Bool->Shared->Prop)(E:Value->Shared->Prop),St 0 s.heap->(∀ b tk,Q b { s with toks:=tk })->wpAny (model prog w) A (Builtin.List.listLengthHint (.ref I)) Q E s
theorem K1 {T:String}(W:Walks prog w A.in1 I fp wr n P St)(hn:n<=sizeLine)(hT:∀ h,St 0 h->∃ o,h.get? I=some o/\o.cls=.type T)(h2:(Value.type T==Value.type "list")=false)(h3:(Value.type T==Value.type "tuple")=false)(hint:wJ prog w I St)
  (S:Addr)(res:Value)(c₀:Nat)(eF:St 0 s.heap)(hSf:S∉fp)(hI:I∈fp)(hS:s.heap.get? S=some { cls:=.type "list", data:=.seq #[] c₀ })
  (hR:∀ h' tk lQ c',(∀ b o,b∉S::wr->s.heap.get? b=some o->h'.get? b=some o)->h'.get? S=some { cls:=.type "list", dict:=none,data:=.seq lQ c',slots:=#[] }->ItemsOf P lQ n->R (.ok (.ret res)) { s with heap:=h',toks:=tk }):
  wpAny (model prog w) A.in1 (Builtin.List.listExtendWith (.ref S) (.ref I) res)
   (fun fin s'=>match fin with|.done f=>R (.ok f) s'|.again c'=>c'.quiet=true/\codeAny (model prog w) A c' R s') (fun e s'=>R (.error e) s') s:=by
 have hSI:S≠I:=fun e=>hSf (e▸hI)
 have key:∀(h:Heap)(c₁ tk:Nat),St 0 h->(∀ b o,b≠S->s.heap.get? b=some o->h.get? b=some o)->h.get? S=some { cls:=.type "list", data:=.seq #[] c₁ } ->
   codeAny (model prog w) A (.builtin "list.extend.loop" ⟨[.ref S,.ref I,res],[]⟩) R { s with heap:=h,toks:=tk }:=by
  intro h c₁ tk hst₁ hk hS₁
  refine codeAny_extend_loopS W.toS hn S hSf res n 0 _ #[] c₁ rfl (Nat.zero_le _) hst₁ hS₁ (ItemsOf.nil _) fun s' lQ c' hm hS' hacc=>?_
  rw[Moved.eq_with hm]
  exact hR s'.heap s'.toks lQ c' (fun b o hb e=>hm.heap b o hb (hk b o (fun z=>hb (by rw[z];exact List.mem_cons_self ..)) e)) hS' hacc
 unfold Builtin.List.listExtendWith
 refine wpAny_bind (wpAny_typeOf (T:=T) (hT _ eF) ?_)
 have h1:Builtin.List.listSameRef (.ref S) (.ref I)=false:=by simp [Builtin.List.listSameRef,hSI]
 simp only[h1,h2,h3,Bool.or_false,Bool.false_eq_true,if_false]
 refine wpAny_bind (W.self 0 _ _ _ eF ?_)
 refine wpAny_bind (wpAny_holding (hint _ _ _ _ eF fun b tk=>?_))
 have touch:∀{Q:Fin->Shared->Prop}{E:Value->Shared->Prop}{k:Unit->Sem Fin},(∀ h' , St 0 h'->(∀ b o,b≠S->s.heap.get? b=some o->h'.get? b=some o)->(∃ c₁,h'.get? S=some { cls:=.type "list", data:=.seq #[] c₁ })->wpAny (model prog w) A.in1 (k ()) Q E { s with heap:=h',toks:=tk }) ->
   wpAny (model prog w) A.in1 (rule "list.extend.makes-room" >>= fun _=>Builtin.List.listTouch (.ref S) >>= k) Q E { s with toks:=tk }:=fun{Q E k} hk=>by
  refine wpAny_bind (wpAny_rule (wpAny_bind ?_))
  show wpAny _ A.in1 (updateSeq S (·.push .none) >>= fun _=>updateSeq S (·.pop)) _ _ _
  refine wpAny_bind (wpAny_updateSeq hS rfl ?_)
  have hS₂:=Heap.get?_update_self (Obj.mapSeq (·.push Value.none)) hS rfl
  refine wpAny_updateSeq (hz:=by seq_fits) hS₂ rfl ?_
  have hS₃:=Heap.get?_update_self (Obj.mapSeq (·.pop)) hS₂ rfl
  have oth:∀ b o,b≠S->s.heap.get? b=some o->((s.heap.update S (Obj.mapSeq (·.push Value.none))).update S (Obj.mapSeq (·.pop))).get? b=some o :=
   fun b o hb e=>(Heap.get?_update_other _ _ (Ne.symm hb)).trans ((Heap.get?_update_other _ _ (Ne.symm hb)).trans e)
  exact hk _ (W.frame _ _ _ eF fun b hb o e=>oth b o (fun h=>hSf (h▸hb)) e) oth ⟨_,hS₃⟩
 refine wpAny_ite_split (fun _=>?_) (fun _=>wpAny_pure ⟨plainId_quiet F.plain_extend_loop _,key _ c₀ _ eF (fun b o _ e=>e) hS⟩)
 refine touch fun h' a b ⟨c₁,c⟩=>wpAny_pure ⟨plainId_quiet F.plain_extend_loop _,key _ c₁ _ a b c⟩
theorem EM {T:String}(W:Walks prog w A.in1 I fp wr n P St)(hn:n<=sizeLine)(hT:∀ h,St 0 h->∃ o,h.get? I=some o/\o.cls=.type T)(h2:(Value.type T==Value.type "list")=false)(h3:(Value.type T==Value.type "tuple")=false)(hint:wJ prog w I St)
 (S:Addr)(eF:St 0 s.heap)(hSf:S∉fp)(hI:I∈fp)(hS:s.heap.get? S=some { cls:=.type "list", data:=.seq #[] })
 (hR:∀ h' tk lQ c',(∀ b o,b∉S::wr->s.heap.get? b=some o->h'.get? b=some o)->h'.get? S=some { cls:=.type "list", dict:=none,data:=.seq lQ c',slots:=#[] }->ItemsOf P lQ n->R (.ok (.ret .none)) { s with heap:=h',toks:=tk }):
 wpAny (model prog w) A.in1 (Builtin.«list.__init__» ⟨[.ref S,.ref I],[]⟩)
  (fun fin s'=>match fin with|.done f=>R (.ok f) s'|.again c'=>c'.quiet=true/\codeAny (model prog w) A c' R s') (fun e s'=>R (.error e) s') s:=by
 show wpAny _ A.in1 (do let old <-Builtin.List.listItems (.ref S);Builtin.List.listUpdate (.ref S) (fun _=>#[]);letGo old.toList.reverse;Builtin.List.listExtendWith (.ref S) (.ref I) .none) _ _ s
 refine wpAny_bind ?_
 unfold Builtin.List.listItems
 refine wpAny_bind (wpAny_seqItems hS rfl (wpAny_pure ?_))
 show wpAny _ A.in1 (updateSeq S (fun _=>#[]) >>= fun _=>letGo (#[]:Array Value).toList.reverse >>= fun _=>Builtin.List.listExtendWith (.ref S) (.ref I) .none) _ _ s
 refine wpAny_bind (wpAny_updateSeq hS rfl ?_)
 have hS₂:=Heap.get?_update_self (Obj.mapSeq (fun _=>(#[]:Array Value))) hS rfl
 have oth:∀ b o,b≠S->s.heap.get? b=some o->(s.heap.update S (Obj.mapSeq (fun _=>(#[]:Array Value)))).get? b=some o :=
 fun b o hb e=>(Heap.get?_update_other _ _ (Ne.symm hb)).trans e
 refine wpAny_bind (wpAny_letGo ?_)
 refine K1 W hn hT h2 h3 hint S .none _ (W.frame _ _ _ eF fun b hb o e=>oth b o (fun h=>hSf (h▸hb)) e) hSf hI hS₂ fun h' tk lQ c' hm hS' hacc=>?_
 exact hR h' tk lQ c' (fun b o hb e=>hm b o hb (oth b o (fun z=>hb (by rw[z];exact List.mem_cons_self ..)) e)) hS' hacc
end
section
variable {prog:Program}{w:World}{A:Around}{E:Value->Shared->Prop}{s:Shared}{I:Addr}{fp wr:List Addr}{n:Nat}{P:Nat->Value->Prop}{St:Nat->Heap->Prop}
theorem vD {T:String}{Q:Value->Shared->Prop}(W:Walks prog w A.in1.in1 I fp wr n P St)(hn:n<=sizeLine)(hT:∀ h,St 0 h->∃ o,h.get? I=some o/\o.cls=.type T)(h2:(Value.type T==Value.type "list")=false)(h3:(Value.type T==Value.type "tuple")=false)(hint:wJ prog w I St)
  (eF:St 0 s.heap)(hfp:∀ b∈fp,b<s.heap.objs.size)(hI:I∈fp)
  (hQ:∀ h' tk lQ c',(∀ b o,b∉wr->s.heap.get? b=some o->h'.get? b=some o)->h'.get? s.heap.objs.size=some { cls:=.type "list", dict:=none,data:=.seq lQ c',slots:=#[] }->ItemsOf P lQ n->Q (.ref s.heap.objs.size) { s with heap:=h',toks:=tk }):
  wpAny (model prog w) A (call (.type "list") [.ref I]) Q E s:=by
 have hSf:s.heap.objs.size∉fp:=fun hm=>Nat.lt_irrefl _ (hfp _ hm)
 refine callType_codes (Q₁:=fun obj s₁=>obj=.ref s.heap.objs.size/\s₁ = { s with heap:=s.heap.push { cls:=.type "list", data:=.seq #[] } }) F.called_list (F.typeCall_list_1 _) F.entry_list_init
  (code_list_new _ ⟨rfl,rfl⟩) fun obj s₁ h₁=>?_
 obtain⟨rfl,rfl⟩:=h₁
 have hS:(s.heap.push { cls:=.type "list", data:=.seq #[] }).get? s.heap.objs.size=some { cls:=.type "list", data:=.seq #[] }:=Heap.get?_push_size _ rfl
 refine⟨⟨_,hS,rfl⟩,F.args_list_init_2 _ _,EM (A:=A.in1) W hn hT h2 h3 hint _ (W.frame _ _ _ eF fun b _ o e=>Heap.get?_push_of_some _ e) hSf hI hS fun h' tk lQ c' hk hS' hacc=>?_⟩
 refine⟨rfl,hQ h' tk lQ c' (fun b o hb e=>hk b o (fun z=>?_) (Heap.get?_push_of_some _ e)) hS' hacc⟩
 rcases List.mem_cons.mp z with z|z
 ·exact absurd (Heap.lt_size e) (by rw[z];exact Nat.lt_irrefl _)
 ·exact hb z
end
end PySem
end
section
namespace PySem
namespace F
theorem IG:typeLookup (.type "list_reverseiterator") "__len__" = pure none:=by rw[typeLookup_type,builtinLookup_eq_fast];kernel_rfl
theorem NI:typeLookup (.type "list_reverseiterator") "__length_hint__" = pure (some (.builtin "list_reverseiterator.__length_hint__")):=by rw[typeLookup_type,builtinLookup_eq_fast];kernel_rfl
end F
section
variable {prog:Program}{w:World}
theorem PC {I l:Addr}{items:Array Value}:wJ prog w I (fun i h=>i<=items.size/\h.IsRevIter I l ((items.size:Int)-1-(i:Int))/\h.IsList l items):=fun A s Q E eF hQ=>by
 have hT:=eF.2.1.typeIs
 unfold Builtin.List.listLengthHint
 refine wpAny_bind (wpAny_specialOf hT F.IG ?_)
 refine wpAny_ite_split (fun dC=>absurd dC (by decide)) (fun _=>?_)
 refine wpAny_ite_split (fun dC=>absurd dC (by decide)) (fun _=>?_)
 refine wpAny_bind (wpAny_specialOf hT F.NI ?_)
 generalize hid:("list_reverseiterator.__length_hint__" : String)=id0
 wp_delta
 rw[show splitId id0=some ("list_reverseiterator","__length_hint__")from by subst hid;decide +kernel]
 subst hid
 refine wpAny_bind (wpAny_isInstance (T :="list_reverseiterator") (b:=true) hT (by rw[isSubtype_type];kernel_rfl) ?_)
 refine wpAny_ite_split (fun dC=>absurd dC (by decide)) (fun _=>?_)
 refine wpAny_ite_split (fun _=>?_) (fun dC=>absurd (by decide +kernel) dC)
 refine wpAny_ite_split (fun dC=>absurd dC (by decide +kernel)) (fun _=>?_)
 exact wpAny_pure (hQ false s.toks)
end
end PySem
end
section
namespace PySem
open PyProof.Rows
namespace F
theorem JY:typeLookup (.type "tuple") "__reversed__" = pure none:=by rw[typeLookup_type,builtinLookup_eq_fast];kernel_rfl
theorem FV:typeLookup (.type "tuple") "__getitem__" = pure (some (.builtin "tuple.__getitem__")):=by rw[typeLookup_type,builtinLookup_eq_fast];kernel_rfl
theorem IW:typeLookup (.type "reversed") "__len__" = pure none:=by rw[typeLookup_type,builtinLookup_eq_fast];kernel_rfl
theorem uQ:Manifest.owners.lookup (String.ofList ['d','e','s','r','e','v','e','r'].reverse)=some Manifest.sig_reversed:=by kernel_rfl
theorem jB:Slot "reversed" "__next__" "reversed.__next__" :=
 .of (owner :="reversed") (n :="__next__") (by rw[typeLookup_type,builtinLookup_eq_fast];kernel_rfl) (by decide +kernel) (by decide +kernel) (by decide +kernel)
 (by first|exact .inl (by decide +kernel)|exact .inr (by decide +kernel)) (by rw[isSubtype_type];kernel_rfl)
theorem nJ:Slot "reversed" "__length_hint__" "reversed.__length_hint__" :=
 .of (owner :="reversed") (n :="__length_hint__") (by rw[typeLookup_type,builtinLookup_eq_fast];kernel_rfl) (by decide +kernel) (by decide +kernel) (by decide +kernel)
 (by first|exact .inl (by decide +kernel)|exact .inr (by decide +kernel)) (by rw[isSubtype_type];kernel_rfl)
theorem tY:Slot "reversed" "__iter__" "reversed.__iter__" :=
 .of (owner :="reversed") (n :="__iter__") (by rw[typeLookup_type,builtinLookup_eq_fast];kernel_rfl) (by decide +kernel) (by decide +kernel) (by decide +kernel)
 (by first|exact .inl (by decide +kernel)|exact .inr (by decide +kernel)) (by rw[isSubtype_type];kernel_rfl)
theorem rV:entryFor table "reversed.__next__" = some Builtin.«reversed.__next__»:=entryFor_of_tree (by kernel_rfl)
theorem BE:entryFor table "reversed.__length_hint__" = some Builtin.«reversed.__length_hint__»:=entryFor_of_tree (by kernel_rfl)
theorem qK (a:Value):argsOk "reversed.__next__" ⟨[a],[]⟩:=by
 unfold argsOk;rw[signature?_of (id :="reversed.__next__") (n:=['_','_','t','x','e','n','_','_']) (o:=['d','e','s','r','e','v','e','r']) (by kernel_rfl) uQ];kernel_rfl
theorem AM (a:Value):argsOk "reversed.__length_hint__" ⟨[a],[]⟩:=by
 unfold argsOk;rw[signature?_of (id :="reversed.__length_hint__") (n :="__length_hint__".toList.reverse) (o:=['d','e','s','r','e','v','e','r']) (by kernel_rfl) uQ];kernel_rfl
theorem zZ (a:Value):argsOk "reversed.__iter__" ⟨[a],[]⟩:=by
 unfold argsOk;rw[signature?_of (id :="reversed.__iter__") (n:=['_','_','r','e','t','i','_','_']) (o:=['d','e','s','r','e','v','e','r']) (by kernel_rfl) uQ];kernel_rfl
theorem BW:entryFor table "reversed.__iter__" = some Builtin.«dict_keyiterator.__iter__» :=
 entryFor_alias (id' :="dict_keyiterator.__iter__") (by kernel_rfl) (by first|rfl|decide +kernel|(unfold String.splitOn;simp +decide [String.splitOnAux])) (by decide +kernel) (by kernel_rfl)
end F
end PySem
end
section
namespace PySem
open PyProof.Rows
section
variable {prog:Program}{w:World}{A:Around}{E:Value->Shared->Prop}{s:Shared}
noncomputable def IU (t:Addr)(i:Int):Obj:={ cls:=.type "reversed", data:=.fields #[.ref t,rawInt i] }
noncomputable def Heap.jN (h:Heap)(a t:Addr)(i:Int):Prop:=∃ o,h.get? a=some o/\o.cls=.type "reversed" /\ o.data=.fields #[.ref t,rawInt i]
theorem Heap.jN.typeIs {a t:Addr}{i:Int}(x:s.heap.jN a t i):s.TypeIs (.ref a) "reversed":=let⟨o,ho,hc,_⟩:=x;⟨o,ho,hc⟩
theorem Heap.jN.at {h h':Heap}{a t:Addr}{i:Int}(x:h.jN a t i)(e:∀ o,h.get? a=some o->h'.get? a=some o):h'.jN a t i:=let⟨o,ho,r⟩:=x;⟨o,e _ ho,r⟩
theorem uO {t:Addr}{items:Array Value}{Q₁:Value->Shared->Prop}(ht:IsTup s.heap t items)(lP:(items.size:Int)<2 ^ 63)
 (h:Q₁ (.ref s.heap.objs.size) { s with heap:=s.heap.push (IU t ((items.size:Int)-1)),toks:=s.toks+1+1 }):
 codeAny (model prog w) A (.call (.builtin "reversed.__new__") ⟨[.type "reversed", .ref t],[]⟩) (wants Q₁ E) s:=by
 refine codeAny_of_tree ?_
 show wpAny _ A.in1 (do checkBuiltinCall "reversed.__new__" ⟨[.type "reversed", .ref t],[]⟩;again (.builtin "reversed.__new__" ⟨[.type "reversed", .ref t],[]⟩)) _ _ s
 refine wpAny_bind (wpAny_of_eq (F.newCall_reversed_1 _) (wpAny_pure ⟨plainId_quiet F.plain_reversed_new _,codeAny_builtin F.entry_reversed_new ?_⟩))
 rw[Around.under_plainId F.plain_reversed_new _]
 unfold Builtin.«reversed.__new__»
 refine wpAny_bind (wpAny_of_eq (newClass_reversed _) ?_)
 try dsimp only
 refine wpAny_bind (wpAny_of_eq (a:=()) (by first|rfl|kernel_rfl) ?_)
 refine wpAny_bind (wpAny_of_eq (a:=()) (by first|rfl|kernel_rfl) ?_)
 try dsimp only
 refine wpAny_bind (wpAny_specialOf ht.typeIs F.JY ?_)
 try dsimp only
 refine wpAny_bind ?_
 wp_delta
 refine wpAny_bind (wpAny_isInstance (T :="tuple") (b:=false) ht.typeIs (by rw[isSubtype_type];kernel_rfl) ?_)
 refine wpAny_ite_split (fun dC=>absurd dC (by decide)) (fun _=>?_)
 refine wpAny_bind (wpAny_specialOf ht.typeIs F.FV ?_)
 refine wpAny_ite_split (fun _=>?_) (fun dC=>absurd (by decide +kernel) dC)
 refine wpAny_pure ?_
 refine wpAny_ite_split (fun dC=>absurd dC (by decide)) (fun _=>?_)
 refine wpAny_bind (len_tuple ht lP ?_)
 refine wpAny_bind (m:=asInt? _) (wpAny_pure ?_)
 refine wpAny_bind (m:=Builtin.SmallTypes.newRecord (.type "reversed") [Value.ref t,rawInt ((items.size:Int)-1)]) ?_
 show wpAny _ _ (newObj (.type "reversed") (.fields #[Value.ref t,rawInt ((items.size:Int)-1)])) _ _ _
 exact wpAny_newObj_type (wpAny_pure h)
theorem xN {it t:Addr}{i:Int}{Q:Value->Shared->Prop}(hit:s.heap.jN it t i)(h:Q (.ref it) s):wpAny (model prog w) A (pyIter (.ref it)) Q E s:=by
 refine wpAny_pyIter_slot hit.typeIs F.tY (wpAny_call_entry F.tY hit.typeIs F.BW ?_ (F.zZ _))
 show wpAny _ _ (ret (.ref it)) _ _ s
 exact wpAny_pure ⟨_,rfl,"reversed", _,hit.typeIs,F.jB.lookup,h⟩
theorem qQ {it t:Addr}{i:Nat}{items:Array Value}{x:Value}{Q:Option Value->Shared->Prop}(hit:s.heap.jN it t (i:Int))(ht:IsTup s.heap t items)(lP:(items.size:Int)<2 ^ 63)(hx:items[i]? = some x)
  (hQ:∀ h',h'.jN it t ((i:Int)-1)->Heap.SameBut it s.heap h'->Q (some x) { s with heap:=h',toks:=s.toks+1 }):wpAny (model prog w) A (pyNext (.ref it)) Q E s:=by
 obtain⟨o,ho,hc,hd⟩:=id hit
 have hi:i<items.size:=by
  rcases Nat.lt_or_ge i items.size with z|z
  ·exact z
  ·rw[Array.getElem?_eq_none z]at hx;cases hx
 unfold pyNext
 refine wpAny_bind (wpAny_attempt (wpAny_callSpecial?_slot (name:=Str.ofString "__next__") hit.typeIs F.jB
  (wpAny_call_entry F.jB hit.typeIs F.rV ?_ (F.qK _))))
 unfold Builtin.«reversed.__next__»
 refine wpAny_bind (wpAny_of_eq (a:=(Value.ref it,[])) rfl ?_)
 try dsimp only
 refine wpAny_bind (wpAny_field ho hd (x:=.ref t) rfl ?_)
 refine wpAny_bind (wpAny_field ho hd (x:=rawInt (i:Int)) rfl ?_)
 show wpAny _ _ (if(i:Int)<0 then _ else _) _ _ s
 rw[if_neg (by omega)]
 refine wpAny_bind (wpAny_specialOf ht.typeIs F.FV ?_)
 refine wpAny_ite_split (fun dC=>absurd dC (by decide)) (fun _=>?_)
 refine wpAny_bind (wpAny_mkInt ?_)
 refine wpAny_bind (wpAny_attempt (PyProof.Rows.getItem_tuple (j:=i) ht (by omega) (by omega) (seqIndex_of (by omega) (by omega)) hx ?_))
 refine wpAny_bind (wpAny_field ho hd (x:=rawInt (i:Int)) rfl ?_)
 refine wpAny_bind (wpAny_setField ho hd (by simp) ?_)
 first
 |refine wpAny_pure ⟨x,rfl,wpAny_pure (hQ _ ?_ (Heap.SameBut.update ..))⟩
 |refine wpAny_bind (wpAny_pure (wpAny_pure ⟨x,rfl,wpAny_pure (hQ _ ?_ (Heap.SameBut.update ..))⟩))
 exact⟨_,Heap.get?_update_self _ ho (Obj.isFreed_of_fields (Obj.data_mapFields hd _)),(Obj.cls_mapFields ..).trans hc,by
  rw[Obj.data_mapFields hd];simp⟩
end
end PySem
end
section
namespace PySem
open PyProof.Rows
section
variable {prog:Program}{w:World}{A:Around}{E:Value->Shared->Prop}{s:Shared}
theorem rB {it t:Addr}{Q:Option Value->Shared->Prop}(hh:A.handled=none)(hit:s.heap.jN it t (-1))
 (hQ:∀ h',Heap.ExtBut it s.heap h'->Q none { s with heap:=h' }):wpAny (model prog w) A (pyNext (.ref it)) Q E s:=by
 obtain⟨o,ho,hc,hd⟩:=id hit
 unfold pyNext
 refine wpAny_bind (wpAny_attempt (wpAny_callSpecial?_slot (name:=Str.ofString "__next__") hit.typeIs F.jB
 (wpAny_call_entry F.jB hit.typeIs F.rV ?_ (F.qK _))))
 unfold Builtin.«reversed.__next__»
 refine wpAny_bind (wpAny_of_eq (a:=(Value.ref it,[])) rfl ?_)
 try dsimp only
 refine wpAny_bind (wpAny_field ho hd (x:=.ref t) rfl ?_)
 refine wpAny_bind (wpAny_field ho hd (x:=rawInt (-1)) rfl ?_)
 show wpAny _ _ (if(-1:Int)<0 then _ else _) _ _ s
 rw[if_pos (by decide)]
 refine wpAny_bind (wpAny_rule ?_)
 refine wpAny_bind ?_
 wp_delta
 have ho2:=Heap.get?_update_self (Obj.mapFields (·.setIfInBounds 1 (rawInt (-1)))) ho (Obj.isFreed_of_fields (Obj.data_mapFields hd _))
 refine wpAny_bind (wpAny_setField ho hd (by simp) ?_)
 refine wpAny_setField ho2 (Obj.data_mapFields hd _) (by simp) ?_
 first
 |show wpAny _ _ (newExc (.type "StopIteration") [] >>= _) _ _ _
 |(refine wpAny_bind ?_;show wpAny _ _ (newExc (.type "StopIteration") [] >>= _) _ _ _)
 refine wpAny_bind ?_
 simp only[newExc,newTuple]
 refine wpAny_bind (wpAny_newObj_type ?_ (by size_fits))
 refine wpAny_bind (m:=firstArgMember _ _) (wpAny_of_eq (a:=Value.none) (by first|rfl|(simp only[firstArgMember];rfl)) ?_)
 refine wpAny_newObj_type ?_ (by size_fits)
 simp only[raiseNew]
 refine wpAny_bind (wpAny_handled ?_)
 first|rw[show A.in1.handled=none from hh]|rw[hh]
 refine wpAny_bind (wpAny_pure (wpAny_throw ?_))
 refine wpAny_bind (wpAny_isInstance (T :="StopIteration") (b:=true) ⟨_,Heap.get?_push_size _ rfl,rfl⟩ isSubtype_stop ?_)
 refine wpAny_pure (hQ _ ?_)
 have e1:Heap.ExtBut it s.heap ((s.heap.update it (Obj.mapFields (·.setIfInBounds 1 (rawInt (-1))))).update it (Obj.mapFields (·.setIfInBounds 0 Value.none))):=fun b u hb e =>
 (Heap.get?_update_other _ _ (Ne.symm hb)).trans ((Heap.get?_update_other _ _ (Ne.symm hb)).trans e)
 exact(e1.push _).push _
end
theorem Walks.W5 {prog:Program}{w:World}{A:Around}(hh:A.handled=none)(I l:Addr)(hne:l≠I)(items:Array Value)(lP:(items.size:Int)<2 ^ 63):
  Walks prog w A I [I,l] [I] items.size (fun i v=>items[items.size-1-i]? = some v) (fun i h=>i<=items.size/\h.jN I l ((items.size:Int)-1-(i:Int))/\IsTup h l items) where
 sub:=fun b hb=>by simp at hb;simp [hb]
 frame:=fun _ _ _ x hk=>⟨x.1,x.2.1.at fun o e=>hk I (by simp) o e,let⟨o,ho,r⟩:=x.2.2;⟨o,hk l (by simp) o ho,r⟩⟩
 item:=fun i s Q E hi x hQ=>by
  have e:(items.size:Int)-1-(i:Int)=((items.size-1-i:Nat):Int):=by omega
  have hit:=x.2.1
  rw[e]at hit
  have hx:items[items.size-1-i]? = some (items[items.size-1-i]'(by omega)):=Array.getElem?_eq_getElem (by omega)
  refine qQ hit x.2.2 lP hx fun h' hit' gG=>?_
  have e2:((items.size-1-i:Nat):Int)-1=(items.size:Int)-1-((i+1:Nat):Int):=by omega
  rw[e2]at hit'
  exact hQ _ h' _ hx ⟨hi,hit',let⟨o,ho,r⟩:=x.2.2;⟨o,(gG.2 l hne).trans ho,r⟩⟩ fun b o hb eo=>gG.extBut b o (fun h=>hb (by simp [h])) eo
 done:=fun s Q E x hQ=>by
  have e:(items.size:Int)-1-(items.size:Int) = -1:=by omega
  have hit:=x.2.1
  rw[e]at hit
  exact rB hh hit fun h' he'=>hQ h' s.toks fun b o hb eo=>he' b o (fun h=>hb (by simp [h])) eo
 self:=fun _ _ _ _ x hQ=>xN x.2.1 hQ
section
variable {prog:Program}{w:World}{A:Around}{E:Value->Shared->Prop}{s:Shared}
theorem F.vL:Slot "reversed" "__init__" "object.__init__" :=
 .of (owner :="object") (n :="__init__") (by rw[typeLookup_type,builtinLookup_eq_fast];kernel_rfl) (by decide +kernel) (by decide +kernel) (by decide +kernel)
 (by first|exact .inl (by decide +kernel)|exact .inr (by decide +kernel)) (by rw[isSubtype_type];kernel_rfl)
theorem F.lE:TypeCalled "reversed" "reversed.__new__" "object.__init__" :=
 ⟨by decide +kernel,by decide +kernel,⟨_,_,F.mro_reversed⟩,F.made_reversed,by decide +kernel,by rw[isSubtype_type];kernel_rfl,F.vL⟩
theorem xO {t:Addr}{items:Array Value}{Q:Value->Shared->Prop}(ht:IsTup s.heap t items)(lP:(items.size:Int)<2 ^ 63)
  (h:Q (.ref s.heap.objs.size) { s with heap:=s.heap.push (IU t ((items.size:Int)-1)),toks:=s.toks+1+1 }):wpAny (model prog w) A (call (.type "reversed") [.ref t]) Q E s:=by
 refine callType_codes (Q₁:=fun obj s₁=>s₁.TypeIs obj "reversed" /\ Q obj s₁) F.lE (F.typeCall_reversed_1 _) F.entry_object_init
  (uO ht lP ⟨⟨_,Heap.get?_push_size _ rfl,rfl⟩,h⟩) fun obj s₁ hq=>⟨hq.1,F.args_object_init_2 obj _,?_⟩
 exact object_init_meets F.lE.init.lookup F.lE.made (by decide) prog w A.in1 _ s₁ ⟨hq.1,rfl,hq.2⟩
theorem OG {I l:Addr}{items:Array Value}(lP:items.size<=sizeLine):wJ prog w I (fun i h=>i<=items.size/\h.jN I l ((items.size:Int)-1-(i:Int))/\IsTup h l items):=fun A s Q E eF hQ=>by
 have hit:=eF.2.1
 have hT:=hit.typeIs
 obtain⟨o,ho,hc,hd⟩:=id hit
 have hf:(items.size:Int)<2 ^ 63:=by have:=lP;rw[sizeLine_eq]at this;omega
 unfold Builtin.List.listLengthHint
 refine wpAny_bind (wpAny_specialOf hT F.IW ?_)
 refine wpAny_ite_split (fun dC=>absurd dC (by decide)) (fun _=>?_)
 refine wpAny_ite_split (fun dC=>absurd dC (by decide)) (fun _=>?_)
 refine wpAny_bind (wpAny_specialOf hT F.nJ.lookup ?_)
 generalize hid:("reversed.__length_hint__" : String)=id0
 wp_delta
 rw[show splitId id0=some ("reversed","__length_hint__")from by subst hid;decide +kernel]
 subst hid
 refine wpAny_bind (wpAny_isInstance (T :="reversed") (b:=true) hT (by rw[isSubtype_type];kernel_rfl) ?_)
 refine wpAny_ite_split (fun dC=>absurd dC (by decide)) (fun _=>?_)
 refine wpAny_ite_split (fun dC=>absurd dC (by decide +kernel)) (fun _=>?_)
 refine wpAny_bind (wpAny_rule ?_)
 refine wpAny_bind (wpAny_of_eq (F.nJ.bind _) ?_)
 refine wpAny_bind (wpAny_attempt (wpAny_call_entry F.nJ hT F.BE ?_ (F.AM _)))
 unfold Builtin.«reversed.__length_hint__»
 refine wpAny_bind (wpAny_of_eq (a:=Value.ref I) rfl ?_)
 refine wpAny_bind (wpAny_field ho hd (x:=.ref l) rfl ?_)
 refine wpAny_ite_split (fun dC=>absurd dC (by simp)) (fun _=>?_)
 refine wpAny_bind (len_tuple eF.2.2 hf ?_)
 refine wpAny_bind (m:=asInt? _) (wpAny_pure ?_)
 refine wpAny_bind (m:=field (.ref I) 1) (wpAny_field ho hd (x:=rawInt ((items.size:Int)-1-((0:Nat):Int))) rfl ?_)
 show wpAny _ _ (if(items.size:Int)<((items.size:Int)-1-((0:Nat):Int))+1 then _ else _) _ _ _
 rw[if_neg (by omega)]
 refine wpAny_bind (wpAny_mkInt (wpAny_pure ⟨_,rfl,?_⟩))
 refine wpAny_bind (m:=asInt? _) (wpAny_pure ?_)
 dsimp only
 have e0:(items.size:Int)-1-((0:Nat):Int)+1=items.size:=by omega
 rw[e0]
 have hfi:Builtin.List.listFitsIndex (items.size:Int)=true:=fitsIndex_both (by omega) hf
 have htl:Builtin.List.listTooLong ((items.size:Int).toNat)=false:=by simp [Builtin.List.listTooLong];exact lP
 rw[hfi,htl]
 refine wpAny_ite_split (fun dC=>absurd dC (by decide)) (fun _=>?_)
 refine wpAny_ite_split (fun dC=>absurd dC (by omega)) (fun _=>?_)
 refine wpAny_ite_split (fun dC=>absurd dC (by decide)) (fun _=>wpAny_pure (hQ _ _))
end
end PySem
end
section
namespace L3
open PySem PySem.Spec PyProof.Rows L2
theorem NM {X:Cx}{pins:List (Addr×Obj)}{σ:L2.St}{H:Hp}{s:Shared}{h':Heap}{t':Nat}{it:Addr}{ys:List V}{aD:List Value}{n:Nat}(I:Inv X pins σ H s)(f:lI X pins H it)(k:∀ b o,b≠it->s.heap.get? b=some o->h'.get? b=some o)
  (new:h'.get? s.heap.objs.size=some { cls:=.type "list", data:=.seq aD.toArray n })(hv:aL ys aD)(hz:ys.length<=sizeLine):Inv X pins σ (upd H s.heap.objs.size (.lst ys)) { s with heap:=h',toks:=t' }:=by
 have hS:=I.fresh
 have neS:∀ b o,s.heap.get? b=some o->b≠s.heap.objs.size:=fun b o e=>Nat.ne_of_lt (Heap.lt_size e)
 have tr:∀ b u,H b=some u->b≠s.heap.objs.size:=fun b u e=>gU e hS
 obtain⟨f0,f1,f2,f3,f4,f5⟩:=f
 refine I.step (g':=s.gens) (d':=s.drawn) (ch:=[it]) (fun b hb=>?_) (fun b o _ _ hc e _=>k b o (fun z=>hc (by simp [z])) e) (fun b o _ _ hc e _=>⟨o.slots,k b o (fun z=>hc (by simp [z])) e⟩) (fun b o _ e n=>by rw[bR (neS b o e)];exact n)
  (fun b o hc e=>⟨o,k b o (fun z=>hc (by simp [z])) e⟩) (fun b xs e=>by rw[bR (tr b _ e)];exact e) (fun b o u e=>by rw[bR (tr b _ e)];exact e) (fun b ps e=>⟨#[],by rw[bR (tr b _ e),e];simp⟩) (fun m hm=>?_) (fun b u e=>?_) I.bare
 ·have e:b=it:=by simpa using hb
  subst e
  exact⟨f3,f1,f4,f5⟩
 ·obtain⟨o,es,ep,ho,r⟩:=hm
  exact⟨o,es,ep,k _ o (Ne.symm f1) ho,r⟩
 ·by_cases hb:b=s.heap.objs.size
  ·subst hb
   rw[eT]at e;cases e
   exact⟨hz,aD,n,hv,new⟩
  ·rw[bR hb]at e
   refine(I.bY b u e).zJ (fun c v hc q=>k c v ?_ q) (fun c q=>by rw[bR (tr c _ q)];exact q) fun c xs q=>by rw[bR (tr c _ q)];exact q
   rcases hc with z|z
   ·rw[z];exact fun y=>by rw[y,f0]at e;cases e
   ·exact fun y=>by rw[y,f0]at z;cases z
theorem LA {aD:List Value}{acc:Array Value}(h:ItemsOf (fun i v=>aD.toArray[aD.toArray.size-1-i]? = some v) acc aD.toArray.size):acc=aD.reverse.toArray:=by
 obtain⟨h1,h2⟩:=h
 apply Array.ext
 ·rw[h1];simp
 ·intro i hi hi'
  have:aD.toArray[aD.toArray.size-1-i]? = some acc[i]:=h2 i acc[i] (Array.getElem?_eq_getElem hi)
  have hl:i<aD.length:=by rw[h1]at hi;simpa using hi
  have e:aD.toArray[aD.toArray.size-1-i]? = some (aD.reverse.toArray[i]):=by
   simp
  rw[e]at this
  exact(Option.some.inj this).symm
theorem aL.reverse:∀{vs:List V}{us:List Value},aL vs us->aL vs.reverse us.reverse
 |_,_,.nil=>.nil
 |_,_,.cons h t=>by simp only[List.reverse_cons];exact(aL.reverse t).append (.cons h .nil)
section
variable {X:Cx}{C:bC}{sub:Nat->Nat->Bool}{E:XK}{a b c e o tg:Expr}{es:List Expr}{x y z:Ex}{xs:List Ex}{p p2 pos pos2:Pos}{kk:IK}
theorem Ap (hm:X.mg "list" = none)(hm2:X.mg "reversed" = none)(hc:X.calm=true)(ha:PA X [a] (jW X.K (bN C sub E [x])))(hg:X.env.kindOf "list" = some .globalImplicit:=by kernel_rfl)(hg2:X.env.kindOf "reversed" = some .globalImplicit:=by kernel_rfl)
  (he:starEach [.Call (.Name "reversed" p2) [a] [] pos2] X.env=(false,eval (.Call (.Name "reversed" p2) [a] [] pos2) X.env)::starEach [] X.env:=by kernel_rfl)(cS:(backTo pos (starEach [] X.env)).any (·.1)=false:=by kernel_rfl)
  (he2:starEach [a] X.env=(false,eval a X.env)::starEach [] X.env:=by kernel_rfl)(hpl2:(backTo pos2 (starEach [] X.env)).any (·.1)=false:=by kernel_rfl):
  PE X (.Call (.Name "list" p) [.Call (.Name "reversed" p2) [a] [] pos2] [] pos) (bS X.K (aH C sub E (.bit .list .rev [x]))):=by
 intro pins s σ H Q I ⟨σd,st,R,r,ok,q,hq⟩
 refine wpAny_Call_Name_kw (lD I hg hm xE ?_ (by decide) (by decide))
 refine PyProof.Rows.callWith_type1 ?_ he cS
 rw[he]
 show wpAny _ _ (spliced ((false,eval (.Call (.Name "reversed" p2) [a] [] pos2) X.env)::backTo pos (starEach [] X.env))) _ _ s
 refine Calls.spliced_cons ?_
 refine wpAny_Call_Name_kw (lD I hg2 hm2 GV ?_ (by decide) (by decide))
 refine PyProof.Rows.callWith_type1 (aW (ha pos2 pins s σ H _ I ⟨σd,st,_,r,ok,q,fun vs H' z=>z⟩) fun us s1 ⟨vs,H1,I1,rv,ds,aC,cV,aM,rs,q1⟩=>?_) he2 hpl2
 match ds,rs,q1 with
 |[d],rs,q1 =>
  obtain⟨v,rfl,rd⟩:=rs.one
  obtain⟨u,rfl,ru⟩:=vals1 rv
  have q1:dH d aC fun as xs=>gB xs.reverse aC R:=q1
  obtain⟨l,ws,as,ys,rfl,sa,g,q1⟩:=mM aM rd q1
  cases ru
  have hh:X.A.handled=none:=I1.ok.hd hc
  have nil:∀{Q':List Value->Shared->Prop}{s':Shared},Q' [] s'->wpAny (model X.prog X.w) X.A (spliced (backTo pos (starEach [] X.env))) Q' X.xe s':=fun h=>Calls.spliced_nil h
  have fin:∀(aD:List Value)(s2:Shared)(h':Heap)(tk:Nat)(acc:Array Value)(cc:Nat),aL ws aD->ws.length<=sizeLine->Inv X pins σ H1 s2->lI X pins H1 s1.heap.objs.size->(∀ b o,b∉[s1.heap.objs.size]->s2.heap.get? b=some o->h'.get? b=some o) ->
    h'.get? s2.heap.objs.size=some { cls:=.type "list", dict:=none,data:=.seq acc cc,slots:=#[] }->ItemsOf (fun i v=>aD.toArray[aD.toArray.size-1-i]? = some v) acc aD.toArray.size->EP X pins σ Q (.ref s2.heap.objs.size) { s2 with heap:=h',toks:=tk }:=by
   intro aD s2 h' tk acc cc hv hz I2 f2 k2 hS hacc
   have ea:=LA hacc
   subst ea
   refine⟨.ref s2.heap.objs.size,_,NM I2 f2 (fun b o hb e=>k2 b o (by simpa using hb) e) hS (aL.reverse hv) (by simpa using hz),rfl,hq _ _ (.after cV ?_)⟩
   exact .gB aM g.reverse I2.fresh q1.2
  rcases sa with sa|sa
  ·obtain⟨aD,r1,pl,hz⟩:=I1.list sa
   have hl:=pl.isList
   have eY:l<s1.heap.objs.size:=by obtain⟨_,e,_⟩:=hl;exact Heap.lt_size e
   have hzz:aD.toArray.size<=sizeLine:=by simp;rw[<-r1.length];exact hz
   refine call_reversed_list hl (nil ?_)
   have I2:Inv X pins σ H1 { s1 with heap:=s1.heap.push (revObj l ((aD.toArray.size:Int)-1)) }:=I1.kept (t':=s1.toks) fun b o e=>Heap.get?_push_of_some _ e
   have W:=fun A hA=>Walks.listRev (prog:=X.prog) (w:=X.w) (A:=A) hA s1.heap.objs.size l (Nat.ne_of_lt eY) aD.toArray
   refine vD (W _ hh) hzz (fun h st=>let⟨o,ho,hcl,_⟩:=st.2.1;⟨o,ho,hcl⟩) (by decide) (by decide) PC ⟨Nat.zero_le _,⟨_,Heap.get?_push_size _ rfl,rfl,by simp [revObj]⟩,hl.push _⟩ (fun b hb=>?_) (by simp) fun h' tk acc cc k hS hacc=>?_
   ·show b<(s1.heap.push _).objs.size
    rw[Heap.size_push]
    rcases List.mem_cons.mp hb with rfl|hb
    ·exact Nat.lt_succ_self _
    ·rcases List.mem_cons.mp hb with rfl|hb
     ·exact Nat.lt_succ_of_lt eY
     ·cases hb
   ·exact fin aD _ h' tk acc cc r1 hz I2 (I1.DZ (Nat.le_refl _) I1.fresh) k hS hacc
  ·obtain⟨aD,r1,pl,hz⟩:=I1.tuple sa
   have eY:l<s1.heap.objs.size:=by obtain⟨_,e,_⟩:=pl;exact Heap.lt_size e
   have hzz:aD.toArray.size<=sizeLine:=by simp;rw[<-r1.length];exact hz
   have lP:(aD.toArray.size:Int)<2 ^ 63:=by have:=hzz;rw[sizeLine_eq]at this;omega
   refine xO pl lP (nil ?_)
   have I2:Inv X pins σ H1 { s1 with heap:=s1.heap.push (IU l ((aD.toArray.size:Int)-1)),toks:=s1.toks+1+1 }:=I1.kept (t':=s1.toks+1+1) fun b o e=>Heap.get?_push_of_some _ e
   have W:=fun A hA=>Walks.W5 (prog:=X.prog) (w:=X.w) (A:=A) hA s1.heap.objs.size l (Nat.ne_of_lt eY) aD.toArray lP
   refine vD (W _ hh) hzz (fun h st=>let⟨o,ho,hcl,_⟩:=st.2.1;⟨o,ho,hcl⟩) (by decide) (by decide) (OG hzz) ⟨Nat.zero_le _,⟨_,Heap.get?_push_size _ rfl,rfl,by simp [IU]⟩,let⟨o,ho,r⟩:=pl;⟨o,Heap.get?_push_of_some _ ho,r⟩⟩ (fun b hb=>?_) (by simp) fun h' tk acc cc k hS hacc=>?_
   ·show b<(s1.heap.push _).objs.size
    rw[Heap.size_push]
    rcases List.mem_cons.mp hb with rfl|hb
    ·exact Nat.lt_succ_self _
    ·rcases List.mem_cons.mp hb with rfl|hb
     ·exact Nat.lt_succ_of_lt eY
     ·cases hb
   ·exact fin aD _ h' tk acc cc r1 hz I2 (I1.DZ (Nat.le_refl _) I1.fresh) k hS hacc
theorem Dw (hm:X.mg "list" = none)(hm2:X.mg "reversed" = none)(ha:JA X C sub E [a] [x])(hc:X.calm=true:=by kernel_rfl)(hg:X.env.kindOf "list" = some .globalImplicit:=by kernel_rfl)(hg2:X.env.kindOf "reversed" = some .globalImplicit:=by kernel_rfl)
 (he:starEach [.Call (.Name "reversed" p2) [a] [] pos2] X.env=(false,eval (.Call (.Name "reversed" p2) [a] [] pos2) X.env)::starEach [] X.env:=by kernel_rfl)(cS:(backTo pos (starEach [] X.env)).any (·.1)=false:=by kernel_rfl)
 (he2:starEach [a] X.env=(false,eval a X.env)::starEach [] X.env:=by kernel_rfl)(hpl2:(backTo pos2 (starEach [] X.env)).any (·.1)=false:=by kernel_rfl):
 JE X C sub E (.Call (.Name "list" p) [.Call (.Name "reversed" p2) [a] [] pos2] [] pos) (.bit .list .rev [x]):=⟨Ap hm hm2 hc ha.h hg hg2 he cS he2 hpl2⟩
end
end L3
end
section
namespace L3
open PySem PySem.Spec PyProof.Rows L2
theorem UW {K:PySem.W.Frag}{h:Heap}{mg:Str->Option Value}(X:K.In h)(G:h.Ns mainGlobals mg){n:Str}{i:Int}{t:Tok}(a:PySem.W.nsIn K mainGlobals n=some (some (.int i t))):GC K mg n (.int i):=⟨_,.int i,PySem.W.mg_of X G a,⟨t,rfl⟩,fun _=>.int i⟩
theorem VS {K:PySem.W.Frag}{h:Heap}{mg:Str->Option Value}(X:K.In h)(G:h.Ns mainGlobals mg){n:Str}{x:Str}{w:List Nat}{t:Tok}(a:PySem.W.nsIn K mainGlobals n=some (some (.str x t)))(e:x=⟨w.toArray⟩):GC K mg n (.str w):=⟨_,.str x,PySem.W.mg_of X G a,⟨t,rfl⟩,fun _=>by rw[e];exact .str w⟩
noncomputable def IP:D->Value->Bool
 |.non,.none=>true
 |.bl b,.bool c=>b==c
 |.int i,.int j _=>i==j
 |.str w,.str x _=>w==x.cps.toList
 |_,_=>false
noncomputable def DV:List D->List Value->Bool
 |[],[]=>true
 |d::ds,u::us=>IP d u&&DV ds us
 |_,_=>false
noncomputable def PU:D->V
 |.bl b=>.bl b
 |.int i=>.int i
 |.str w=>.str ⟨w.toArray⟩
 |_=>.non
theorem OE {K:PySem.W.Frag}{H:Hp}{d:D}{u:Value}(h:IP d u=true):L2.RelV (PU d) u/\Rep K H d (PU d):=by
 unfold IP at h
 split at h
 ·exact⟨rfl,.non⟩
 ·exact⟨by rw[eq_of_beq h];rfl,.bl _⟩
 ·exact⟨⟨_,by rw[eq_of_beq h]⟩,.int _⟩
 ·rename_i w x t
  exact⟨⟨t,by rw[eq_of_beq h]⟩,.str w⟩
 ·cases h
theorem EI {K:PySem.W.Frag}{H:Hp}:∀{ds:List D}{us:List Value},DV ds us=true->aL (ds.map PU) us/\aK K H ds (ds.map PU)
 |[],[],_=>⟨.nil,.nil⟩
 |d::ds,u::us,h=>by
  simp only[DV,Bool.and_eq_true]at h
  have r:=OE (K:=K) (H:=H) h.1
  have s:=EI (K:=K) (H:=H) h.2
  exact⟨.cons r.1 s.1,.cons r.2 s.2⟩
 |[],_::_,h=>by cases h
 |_::_,[],h=>by cases h
theorem MA {K:PySem.W.Frag}{h:Heap}{mg:Str->Option Value}(X:K.In h)(G:h.Ns mainGlobals mg){n:Str}{ds:List D}{p:Addr}{aD:Array Value}{k:Nat}{sl:Array (Option Value)}(a:PySem.W.nsIn K mainGlobals n=some (some (.ref p)))
 (l:K.lookup p=some ⟨.type "tuple", none,.seq aD k,sl⟩)(f:DV ds aD.toList=true)(z:Nat.ble aD.size 1000=true):GC K mg n (.tup ds):=by
 refine⟨_,.ref p,PySem.W.mg_of X G a,rfl,fun H=>?_⟩
 have s:=EI (K:=K) (H:=H) f
 exact .tup (.inr ⟨_,aD,k,l,rfl,rfl,rfl,Nat.le_of_lt (KU (Nat.le_of_ble_eq_true z)),s.1⟩) s.2
end L3
end
section
namespace L3
open PySem PySem.Spec PyProof.Rows L2
noncomputable def U6 (hi:Int)(n:Nat):It:=⟨fun i _=>i<n,fun i H x H'=>H'=H/\x=.int (hi-i),fun i _=>n<=i⟩
theorem LJ {P:Program}{w:World}{K:PySem.W.Frag}{tg:Expr}(it:Addr)(lo:Int)(n:Nat):Turn P w K tg (U6 lo n) [it] it (fun i h=>IsRangeIter h it (lo+(i:Nat)*(-1)) ((n:Int)-(i:Nat)) (-1)) where
 mem:=by simp
 obj:=fun i h st b hb=>by
  have e:b=it:=by simpa using hb
  subst e
  exact⟨_,st,fun v z=>by
   have z':Data.fields _=Data.cell v:=z
   cases z'⟩
 keep:=fun i h h' st k=>k it (by simp) _ st
 item:=by
  intro X hP hw hK hc i pins s σ H E I hf st hg
  subst hP hw hK
  obtain⟨f0,f1,f2,f3,f4,f5⟩:=hf it (by simp)
  have W:=Walks.range (prog:=X.prog) (w:=X.w) (I.ok.hd hc) it lo (-1) n
  refine W.item i s _ _ hg st fun v h' tk hv aA kk=>?_
  obtain⟨t,rfl⟩:=hv
  have I1:Inv X pins σ H { s with heap:=h',toks:=tk }:=I.turned (fun b o hb e=>kk b o (by simpa using hb) e) f0 f1 f3 f4 f5
  refine⟨_,rfl,AY (s:={ s with heap:=h',toks:=tk }) (n :="range_iterator") aA rfl rfl (by decide) ⟨.int (lo-i),H,I1,⟨t,?_⟩,⟨rfl,rfl⟩,aA,fun b hb=>(hf b hb).1⟩⟩
  congr 1;omega
 done:=by
  intro X hP hw hK hc i pins s σ H E I hf st hg
  subst hP hw hK
  obtain⟨f0,f1,f2,f3,f4,f5⟩:=hf it (by simp)
  exact wpAny_pyNext_range_end (I.ok.hd hc) st (by have:n<=i:=hg;omega) fun h' eb=>⟨rfl,I.turned (t':=s.toks) (fun b o hb e=>eb b o hb e) f0 f1 f3 f4 f5⟩
 self:=fun _ _ _ _ _ st h=>wpAny_pyIter_rangeiter st h
theorem OP {K:PySem.W.Frag}{H1:Hp}{aC:aB}(lo:Int)(n:Nat):yD K (U6 lo n) [] (mC lo n) H1 aC where
 go:=fun i H st d s ok _ e=>by
  have:=(List.getElem?_eq_some_iff.mp e).1
  show i<n
  simpa [mC]using this
 yld:=fun i H st d x H' s ok _ e ⟨e',h⟩=>by
  subst e' h
  simp only[mC,List.getElem?_map,Option.map_eq_some_iff]at e
  obtain⟨k,e1,rfl⟩:=e
  have:k=i:=by
   rw[List.getElem?_eq_some_iff]at e1
   obtain⟨_,e2⟩:=e1
   simp at e2
   exact e2.symm
  subst this
  exact⟨.refl,ok,.int _⟩
 stop:=fun i H st s ok _ l=>by show n<=i;simpa [mC]using l
section
variable {X:Cx}{tg:Expr}
theorem MN {pins:List (Addr×Obj)}{σ:L2.St}{H:Hp}{s:Shared}{R:It->Hp->Prop}{E:Value->Shared->Prop}{lo hi:Int}{t u v:Tok}{tk:Nat}(I:Inv X pins σ H s) (h1 : -(2 ^ 62)<=lo)(h2:lo<2 ^ 62) (h3 : -(2 ^ 62)<=hi)(h4:hi<2 ^ 62)
  (q:R (U6 lo (lo-hi).toNat) H):wpAny (model X.prog X.w) X.A (pyIter (.ref s.heap.objs.size)) (M6 X pins σ tg R) E { s with heap:=s.heap.push { cls:=.type "range", data:=.fields #[.int lo t,.int hi u,.int (-1) v] },toks:=tk }:=by
 refine wpAny_pyIter_range (IsRange.new ..) (PySem.W.small_down h1 h2 h3 h4) ?_
 have I1:Inv X pins σ H { s with heap:=s.heap.push { cls:=.type "range", data:=.fields #[.int lo t,.int hi u,.int (-1) v] },toks:=tk }:=I.kept fun b o e=>Heap.get?_push_of_some _ e
 refine⟨(s.heap.push { cls:=.type "range", data:=.fields #[.int lo t,.int hi u,.int (-1) v] }).objs.size,[(s.heap.push { cls:=.type "range", data:=.fields #[.int lo t,.int hi u,.int (-1) v] }).objs.size],_,_,H,rfl,
  I1.kept (t':=tk) fun b o e=>Heap.get?_push_of_some _ e,LJ _ lo (lo-hi).toNat,?_,fun b hb=>?_,q⟩
 ·have e1:lo+((0:Nat):Int)*(-1)=lo:=by simp
  have e2:(((lo-hi).toNat:Nat):Int)-((0:Nat):Int)=Builtin.Range.rangeSize lo hi (-1):=by rw[PySem.W.rangeSize_downNat];omega
  show IsRangeIter _ _ (lo+((0:Nat):Int)*(-1)) ((((lo-hi).toNat:Nat):Int)-((0:Nat):Int)) (-1)
  rw[e1,e2]
  exact Heap.get?_push_size _ rfl
 ·have e:b=(s.heap.push { cls:=.type "range", data:=.fields #[.int lo t,.int hi u,.int (-1) v] }).objs.size:=by simpa using hb
  subst e
  exact I1.DZ (Nat.le_refl _) (I1.bY.fresh (Nat.le_refl _))
variable {C:bC}{sub:Nat->Nat->Bool}{E:XK}{a b c:Expr}{x y z:Ex}{p pos:Pos}
theorem O9 {d d' d'':L3.D}{st:aB}{R:List Nat->List L3.D->Prop}(h:fT (some .range) [d,d',d''] st R):∃ i j c,d=.int i/\d'=.int j/\d''=.int c:=by
 unfold fT at h
 split at h
 all_goals first|(rename_i h1 h2;cases h2;exact⟨_,_,_,rfl,rfl,rfl⟩)|(rename_i h1 h2;cases h2)|(rename_i h1 h2;cases h1)|exact h.elim
theorem Ha (m:bP C C)(hm:X.mg "range" = none)(ha:JA X C sub E [a,b,c] [x,y,z])(hg:X.env.kindOf "range" = some .globalImplicit:=by kernel_rfl)
  (hs:starEach [a,b,c] X.env=[(false,eval a X.env),(false,eval b X.env),(false,eval c X.env)]:=by kernel_rfl)(hs2:starEach [b,c] X.env=[(false,eval b X.env),(false,eval c X.env)]:=by kernel_rfl):
  JI X C sub E tg (.Call (.Name "range" p) [a,b,c] [] pos) (some .range) [x,y,z]:=⟨by
 intro pins s σ H R I ⟨σd,st,M,r,ok,q,hq⟩
 refine Call_ (lD I hg hm NY (PyProof.Rows.callWith_type1 (aW (ha.h pos pins s σ H _ I ⟨σd,st,_,r,ok,pQ [x,y,z] m q,fun vs H' z=>z⟩) fun us s1 ⟨vs,H1,I1,rv,ds,aC,cV,aM,rs,l1,q1⟩=>?_) (by rw[hs,hs2]) (by rw[hs2];rfl)))
 obtain⟨d,d',d'',rfl⟩:∃ d d' d'',ds=[d,d',d'']:=by
  match ds,l1 with
  |[d,d',d''],_=>exact⟨d,d',d'',rfl⟩
 have q1:fT (some .range) [d,d',d''] aC fun as xs=>M as xs aC:=q1
 obtain⟨i,j,c,rfl,rfl,rfl⟩:=O9 q1
 cases rs with|cons r1 rs=>cases rs with|cons r2 rs=>cases rs with|cons r3 rs =>
  cases rs
  cases r1.int_inv;cases r2.int_inv;cases r3.int_inv
  rw[AI]at q1
  obtain⟨rfl,⟨a1,a2⟩,⟨b1,b2⟩,q1⟩:=q1
  cases rv with|cons v1 rv=>cases rv with|cons v2 rv=>cases rv with|cons v3 rv =>
   cases rv
   obtain⟨t1,rfl⟩:=v1
   obtain⟨t2,rfl⟩:=v2
   obtain⟨t3,rfl⟩:=v3
   exact call_range_3 (by decide) (MN I1 a1 a2 b1 b2 (hq _ _ ⟨_,_,aC,cV,aM,OP _ _,q1⟩))⟩
end
end L3
end
section
namespace L3
open PySem PySem.Spec PyProof.Rows L2
noncomputable def YE:D->PyData
 |.bl b=>.bool b
 |.int i=>.int i
 |.str w=>.str ⟨w.toArray⟩
 |_=>.none
noncomputable def Dv:D->Bool
 |.non=>true
 |.bl _=>true
 |.int _=>true
 |.str _=>true
 |_=>false
noncomputable def sU:List D->List D->List (Str×PyData)
 |.str w::ks,v::vs=>(⟨w.toArray⟩,YE v)::sU ks vs
 |_,_=>[]
noncomputable def QI:List D->List D->Bool
 |[],[]=>true
 |.str _::ks,v::vs=>Dv v&&QI ks vs
 |_,_=>false
theorem X5 {v:D}(h:Dv v=true):pZ (YE v)=v/\mE (YE v)=true:=by
 cases v<;>first|exact⟨rfl,rfl⟩|cases h
theorem K9:∀{ks vs:List D},QI ks vs=true->((sU ks vs).all fun p=>mE p.2)=true/\ks=(sU ks vs).map (fun p=>.str p.1.cps.toList)/\vs=(sU ks vs).map (fun p=>pZ p.2)
 |[],[],_=>⟨rfl,rfl,rfl⟩
 |.str w::ks,v::vs,h=>by
  simp only[QI,Bool.and_eq_true]at h
  obtain⟨a,b,c⟩:=K9 h.2
  obtain⟨d,e⟩:=X5 h.1
  refine⟨?_,?_,?_⟩
  ·simp only[sU,List.all_cons,e,a,Bool.and_self]
  ·simp only[sU,List.map_cons];rw[<-b]
  ·simp only[sU,List.map_cons,d];rw[<-c]
 |[],_::_,h=>by cases h
 |.str _::_,[],h=>by cases h
 |.non::_,_,h=>by cases h
 |.bl _::_,_,h=>by cases h
 |.int _::_,_,h=>by cases h
 |.tup _::_,_,h=>by cases h
 |.ref _::_,_,h=>by cases h
 |.cM _ _::_,_,h=>by cases h
 |.bB _::_,_,h=>by cases h
 |.exc _::_,_,h=>by cases h
theorem UD {K:PySem.W.Frag}{h:Heap}{mg:Str->Option Value}(X:K.In h)(G:h.Ns mainGlobals mg){n:Str}{ks vs:List D}{p:Addr}{es:Array DictEntry}{ep:Nat}(a:PySem.W.nsIn K mainGlobals n=some (some (.ref p)))
 (l:K.lookup p=some ⟨.type "dict", none,.dict es ep,#[]⟩)(f:(KTD.rowsLook KTD.flatLooks es.toList (sU ks vs)&&QI ks vs && !(p==sysModules))=true):GC K mg n (.cM ks vs):=by
 simp only[Bool.and_eq_true]at f
 obtain⟨⟨f1,f2⟩,f3⟩:=f
 obtain⟨a1,a2,a3⟩:=K9 f2
 refine⟨_,.ref p,PySem.W.mg_of X G a,rfl,fun H=>.cM ⟨sU ks vs,?_,a1,a2,a3⟩⟩
 simp only[KTD.tabLook,l,f1,f3]
 rfl
end L3
end
section
namespace L3
open PySem PySem.Spec PyProof.Rows L2 PySem.SeqAt
theorem G0 {β:Type}(n:Nat)(b:β)(f:Nat->β->Sem (ForInStep β)):forIn [0:n] b f=forIn (List.range' 0 n 1) b f:=by
 rw[Std.Legacy.Range.forIn_eq_forIn_range']
 have lU:([0:n]:Std.Legacy.Range).size=n:=by simp [Std.Legacy.Range.size]
 show forIn (List.range' 0 ([0:n]:Std.Legacy.Range).size 1) b f=_
 rw[lU]
theorem zC {prog:Program}{w:World}{A:Around}{E:Value->Shared->Prop}{s:Shared}{t:Addr}{items:Array Value}{x:Value}{e:Value->Bool}{j:Nat}{P:Fin->Shared->Prop}(ht:IsTup s.heap t items)
  (he:∀ y,y∈items->EqAt A s y x (e y))(hj:j<items.size)(hit:e items[j]=true)(hno:∀ m (hm:m<items.size),m<j->e items[m]=false)
  (h:P (.done (.ret (.int j s.toks))) { s with toks:=s.toks+1 }):wpAny (model prog w) A (Builtin.«tuple.index» ⟨[.ref t,x],[]⟩) P E s:=by
 show wpAny _ _ (Builtin.Tuple.tupleItemsOf (.ref t) >>= _) _ _ s
 refine wpAny_bind (tupleItemsOf_ ht ?_)
 show wpAny _ _ (forIn [0:min items.size items.size] _ _ >>= _) _ _ s
 rw[Nat.min_self,G0]
 refine wpAny_bind (wpAny_mono (Q:=fun(b:Option PySem.Fin×Unit) s'=>b.1=some (.done (.ret (.int j s.toks)))/\s' = { s with toks:=s.toks+1 }) (wpAny_forIn_list (β:=Option PySem.Fin×Unit) _ (fun rest b s'=>s'=s/\b.1=none/\∃ i,rest=List.range' i (items.size-i) 1/\i<=j) _ ?_ ?_ _ _ ⟨rfl,rfl,0,rfl,Nat.zero_le _⟩) ?_ fun _ _ z=>z)
 ·rintro i rest b s' ⟨rfl,hb,k,hk,hkj⟩
  have eY:k<items.size:=by omega
  have e1:items.size-k=(items.size-(k+1))+1:=by omega
  rw[e1,List.range'_succ]at hk
  injection hk with h1 h2
  subst h1
  have hg:items[i]? = some items[i]:=by simp [eY]
  rw[hg]
  show wpAny _ _ (eqBool items[i] x >>= _) _ _ _
  refine wpAny_bind (he _ (Array.getElem_mem eY) prog w _ _ ?_)
  by_cases hij:i=j
  ·subst hij
   rw[hit]
   exact wpAny_bind (wpAny_bind (wpAny_mkInt (wpAny_pure (wpAny_pure ⟨rfl,rfl⟩))))
  ·rw[hno i eY (by omega)]
   exact wpAny_pure ⟨rfl,rfl,i+1,h2,by omega⟩
 ·rintro b s' ⟨_,_,i,hi,hij⟩
  have:(List.range' i (items.size-i) 1).length=0:=by rw[<-hi];rfl
  simp at this
  omega
 ·rintro⟨b1,b2⟩ s' ⟨hb,rfl⟩
  simp only at hb
  subst hb
  exact wpAny_pure h
end L3
end
section
namespace L3
open PySem PySem.Spec PyProof.Rows L2 PySem.SeqAt
section
variable {X:Cx}
theorem E6 {pins:List (Addr×Obj)}{s:Shared}{σ:L2.St}{H:Hp}{st:aB}(I:Inv X pins σ H s)(ok:aO X.K st H){ds:List D}{vs:List V}{aD:List Value}{d:D}{v:V}{u:Value}{A:Around}
  (g:aK X.K H ds vs)(r:aL vs aD)(p:dG st ds)(pd:plainS st d)(rd:Rep X.K H d v)(rv:RelV v u)(hu:A.units+178<cLine):
  ∃ e:Value->Bool,(∀ y,y∈aD.toArray->EqAt A.in1 s y u (e y))/\∀ j (hj:j<aD.length)(hj':j<ds.length),e aD[j]=bK st ds[j] d:=by
 classical
 have hD:kM=80:=rfl
 have item:∀(d':D)(v':V)(y:Value),d'∈ds->Rep X.K H d' v'->RelV v' y->EqAt A.in1 s y u (bK st d' d):=fun d' v' y m r' aZ=>by
  have h1:=iH m
  have h2:=p.2
  exact(J6 I ok 80 (by omega) (fU p.1 m) pd.1 r' aZ rd rv (by simp only[Around.in1_units];omega)).2.1
 let e:Value->Bool:=fun y=>decide (∃ d' v',d'∈ds/\Rep X.K H d' v'/\RelV v' y/\bK st d' d=true)
 have he:∀(d':D)(v':V)(y:Value),d'∈ds->Rep X.K H d' v'->RelV v' y->e y=bK st d' d:=fun d' v' y m r' aZ=>by
  show decide _=_
  cases q:bK st d' d with
  |true=>exact decide_eq_true ⟨d',v',m,r',aZ,q⟩
  |false =>
   refine decide_eq_false fun⟨d2,v2,m2,r2,rv2,q2⟩=>?_
   cases RelV.inj aZ rv2
   have:=GF I ok _ (Nat.le_refl _) (fU p.1 m) (fU p.1 m2) r' r2
   subst this
   rw[q]at q2;cases q2
 refine⟨e,fun y hy=>?_,fun j hj hj'=>?_⟩
 ·obtain⟨j,hj,rfl⟩:=Array.mem_iff_getElem.mp hy
  obtain⟨v',e1,e2⟩:=aL.at r hj
  obtain⟨d',e3,e4⟩:=aK.get' g e1
  rw[he d' v' _ (List.mem_of_getElem? e3) e4 e2]
  exact item d' v' _ (List.mem_of_getElem? e3) e4 e2
 ·obtain⟨v',e1,e2⟩:=aL.at r (by simpa using hj)
  obtain⟨d',e3,e4⟩:=aK.get' g e1
  have e5:ds[j]=d':=(List.getElem?_eq_some_iff.mp e3).2
  rw[e5]
  exact he d' v' _ (List.mem_of_getElem? e3) e4 (by simpa using e2)
theorem tB {st:aB}{d:D}:∀{ds:List D}{j:Nat},findD st d ds=some j->∃ hj:j<ds.length,bK st ds[j] d=true/\∀ m (hm:m<ds.length),m<j->bK st ds[m] d=false
 |[],_,h=>by cases h
 |x::r,j,h=>by
  have h:(if bK st x d=true then some 0 else(findD st d r).map (·+ 1))=some j:=h
  by_cases c:bK st x d=true
  ·rw[if_pos c]at h;cases h
   exact⟨by simp,c,fun m _ hm=>by omega⟩
  ·rw[if_neg c]at h
   obtain⟨k,e,rfl⟩:=Option.map_eq_some_iff.mp h
   obtain⟨h1,h2,h3⟩:=tB e
   refine⟨by simpa using h1,by simpa using h2,fun m hm hl=>?_⟩
   cases m with
   |zero=>simpa using c
   |succ m=>simpa using h3 m (by simpa using hm) (by omega)
theorem index_list {pins:List (Addr×Obj)}{s:Shared}{σ:L2.St}{H:Hp}{st:aB}{R:VK}{ds:List D}{vs:List V}{d:D}{v:V}{u:Value}{a:Addr}{j:Nat}(hu:X.A.units+180<cLine)(I:Inv X pins σ H s)(ok:aO X.K st H)(f:cZ X.K H a vs)(g:aK X.K H ds vs)
  (rd:Rep X.K H d v)(rv:RelV v u)(pd:plainS st d)(ps:dG st ds)(hj:findD st d ds=some j)(q:R (.int (j:Nat)) st):wpAny (model X.prog X.w) X.A (call (.builtin "list.index") [.ref a,u]) (EP X pins σ (QD X.K H st R)) X.xe s:=by
 obtain⟨aD,r1,p1,hz⟩:=I.list f
 obtain⟨e,he,ha⟩:=E6 I ok g r1 ps pd rd rv (A:=X.A) (by omega)
 obtain⟨h1,h2,h3⟩:=tB hj
 have l1:=g.length
 have l2:=r1.length
 have hn:=pH
 obtain⟨⟨cls,dd,data,sl⟩,ho,hc,n,hd⟩:=id p1.isList
 simp only at hc hd
 subst hc hd
 refine call_meets PySem.F.slot_list_index ⟨_,ho,rfl⟩ PySem.F.entry_list_index (PySem.F.args_list_index_2 _ _)
  (list_indexAt a aD.toArray n dd sl u e j (by simp;omega) (by omega) ?_ ?_) ⟨ho,he,?_⟩
 ·show e aD[j]=true
  rw[ha j (by omega) h1];exact h2
 ·intro m hm hl
  have hm:m<aD.length:=by simpa using hm
  show e aD[m]=false
  rw[ha m hm (by omega)];exact h3 m (by omega) hl
 ·exact⟨.int j,H,I.tok _,⟨_,rfl⟩,.here ok (.int _) q⟩
theorem MX {pins:List (Addr×Obj)}{s:Shared}{σ:L2.St}{H:Hp}{st:aB}{R:VK}{ds:List D}{vs:List V}{d:D}{v:V}{u:Value}{a:Addr}{j:Nat}(hu:X.A.units+180<cLine)(I:Inv X pins σ H s)(ok:aO X.K st H)(f:dP X.K H a vs)(g:aK X.K H ds vs)
  (rd:Rep X.K H d v)(rv:RelV v u)(pd:plainS st d)(ps:dG st ds)(hj:findD st d ds=some j)(q:R (.int (j:Nat)) st):wpAny (model X.prog X.w) X.A (call (.builtin "tuple.index") [.ref a,u]) (EP X pins σ (QD X.K H st R)) X.xe s:=by
 obtain⟨aD,r1,p1,hz⟩:=I.tuple f
 obtain⟨e,he,ha⟩:=E6 I ok g r1 ps pd rd rv (A:=X.A) (by omega)
 obtain⟨h1,h2,h3⟩:=tB hj
 have l1:=g.length
 have l2:=r1.length
 refine wpAny_call_entry PySem.F.slot_tuple_index p1.typeIs PySem.F.entry_tuple_index (zC p1 he (j:=j) (by simp;omega) ?_ ?_ ⟨_,rfl,?_⟩) (PySem.F.args_tuple_index_2 _ _)
 ·show e aD[j]=true
  rw[ha j (by omega) h1];exact h2
 ·intro m hm hl
  have hm:m<aD.length:=by simpa using hm
  show e aD[m]=false
  rw[ha m hm (by omega)];exact h3 m (by omega) hl
 ·exact⟨.int j,H,I.tok _,⟨_,rfl⟩,.here ok (.int _) q⟩
end
section
variable {X:Cx}{C:bC}{sub:Nat->Nat->Bool}{E:XK}{e o:Expr}{x y:Ex}{pos apos jF:Pos}
noncomputable def X4:D->Bool
 |.tup _=>true
 |_=>false
theorem E7 {K:PySem.W.Frag}{H:Hp}{st:aB}{d:D}{v:V}{Kk:List Nat->List D->Prop}(ok:aO K st H)(r:Rep K H d v)(h:dH d st Kk):∃ a vs as ds,v=.ref a/\aK K H ds vs/\((X4 d=false/\cZ K H a vs)∨(X4 d=true/\dP K H a vs))/\Kk as ds:=by
 unfold dH at h
 split at h
 ·obtain⟨a,vs,rfl,f,g⟩:=r.bM
  exact⟨a,vs,_,_,rfl,g,.inr ⟨rfl,f⟩,h⟩
 ·cases r.cE
  obtain⟨ds,e,h⟩:=dD h
  obtain⟨vs,g1,g2⟩:=ok.lst e
  exact⟨_,vs,_,_,rfl,g2,.inl ⟨rfl,cZ.of g1⟩,h⟩
 ·obtain⟨a,vs,rfl,f,g⟩:=r.jL
  exact⟨a,vs,_,_,rfl,g,.inl ⟨rfl,f.sq⟩,h⟩
 ·exact h.elim
theorem OS (m:bP C C)(hu:X.A.units+180<cLine)(ho:JE X C sub E o x)(ha:JA X C sub E [e] [y])(iV:attributeBase o "index" X.env (eval o X.env)=eval o X.env:=by kernel_rfl)
  (tV:((backTo pos (starEach [e] X.env)).all (fun x=>!x.1)&&(backToKw pos (keywordEach [] X.env)).all (fun x=>x.1.isSome)&&decide ([e].length+([]:List Keyword).length+(if([]:List Keyword).isEmpty then 0 else 1)<30))=true:=by kernel_rfl)(iW:(apos.endLine==pos.line)=true:=by kernel_rfl)
  (hs:starEach [e] X.env=[(false,eval e X.env)]:=by kernel_rfl):
  JE X C sub E (.Call (.Attribute o "index" apos) [e] [] pos) (.cK .index x [y]):=⟨by
 intro pins s σ H Q I ⟨σd,st,R,r,ok,q,hq⟩
 refine wpAny_Call_method_late iV tV iW rfl (aW (ho.h pins s σ H _ I ⟨σd,st,_,r,ok,q,fun v H' z=>z⟩) fun v s1 ⟨x1,H1,I1,r1,d1,aC,cV,aM,rd1,q1⟩=>?_)
 obtain⟨rc,q1⟩:=q1
 obtain⟨a,vs,as,ds,rfl,g,ty,-⟩:=E7 aM rd1 rc
 cases r1
 have rest:∀ id:String,(∀(s2:Shared)(H2:Hp)(aG:aB)(d2:D)(v2:V)(u2:Value),Inv X pins σ H2 s2->Step H1 aC H2 aG->aO X.K aG H2->Rep X.K H2 d2 v2->RelV v2 u2->iS .index d1 [d2] aG R->wpAny (model X.prog X.w) X.A (call (.builtin id) [.ref a,u2]) (EP X pins σ (QD X.K H2 aG R)) X.xe s2) ->
   wpAny (model X.prog X.w) X.A (callWith pos (.builtin id) [.ref a] (backTo pos (starEach [e] X.env)) []) (EP X pins σ Q) X.xe s1:=by
  intro id hc
  have hA:=ha.h pos pins s1 σ H1 _ I1 ⟨σd,aC,_,r.step ok cV,aM,pQ [y] m q1,fun vs H' z=>z⟩
  rw[hs]at hA ⊢
  refine Calls.callWith_builtin (by rfl) (Calls.evalArgs_plain ?_)
  refine aW hA fun us s2 ⟨ws,H2,I2,r2,es,aG,gZ,bZ,rs2,l2,q2⟩=>?_
  match es,l2,ws,rs2,us,r2 with
  |[d2],_,_,.cons rd2 .nil,_,.cons rv2 .nil =>
   exact aW (hc s2 H2 aG d2 _ _ I2 gZ bZ rd2 rv2 q2) fun w s3 ⟨v3,H3,I3,r3,z⟩=>⟨v3,H3,I3,r3,hq _ _ (.after (cV.trans gZ) z)⟩
 rcases ty with⟨tk,ty⟩|⟨tk,ty⟩
 ·obtain⟨aD,_,p1,_⟩:=I1.list ty
  refine⟨"list","list.index", PySem.F.plainAttrs_list,PySem.F.slot_list_index,PySem.F.type_list_index,p1.isList.typeIs,fun b e=>?_,rest _ fun s2 H2 aG d2 v2 u2 I2 gZ bZ rd2 rv2 q2=>?_⟩
  ·cases e
   obtain⟨o,n,e,c,hd,_⟩:=p1
   exact⟨o,e,hd⟩
  ·obtain⟨a',vs2,as2,ds2,e2,g2,ty2,pd,ps,q2⟩:=E7 bZ (rd1.step aM gZ) q2
   cases e2
   obtain⟨j,hj,q2⟩:=dU q2
   rcases ty2 with⟨tk2,ty2⟩|⟨tk2,ty2⟩
   ·exact index_list hu I2 bZ ty2 g2 rd2 rv2 pd ps hj q2
   ·rw[tk]at tk2;cases tk2
 ·obtain⟨aD,_,p1,_⟩:=I1.tuple ty
  refine⟨"tuple","tuple.index", PySem.F.plainAttrs_tuple,PySem.F.slot_tuple_index,PySem.F.type_tuple_index,p1.typeIs,fun b e=>?_,rest _ fun s2 H2 aG d2 v2 u2 I2 gZ bZ rd2 rv2 q2=>?_⟩
  ·cases e
   exact I1.Cf ty
  ·obtain⟨a',vs2,as2,ds2,e2,g2,ty2,pd,ps,q2⟩:=E7 bZ (rd1.step aM gZ) q2
   cases e2
   obtain⟨j,hj,q2⟩:=dU q2
   rcases ty2 with⟨tk2,ty2⟩|⟨tk2,ty2⟩
   ·rw[tk]at tk2;cases tk2
   ·exact MX hu I2 bZ ty2 g2 rd2 rv2 pd ps hj q2⟩
end
end L3
end
section
namespace L3
open PySem PySem.Spec PyProof.Rows L2 PySem.SeqAt
noncomputable def qB (val:Nat->Str):Nat->Nat
 |0=>0
 |i+1=>if((List.range i).map val).any (·== val i)then qB val i else qB val i+1
theorem MS (val:Nat->Str):∀ i,qB val i<=i
 |0=>Nat.le_refl _
 |i+1=>by
  have:=MS val i
  unfold qB
  split<;>omega
section
variable {prog:Program}{w:World}{A:Around}{R:Result->Shared->Prop}{I:Addr}{fp wr:List Addr}{G:Array GenState->Array GenState->Prop}{n:Nat}{P:Nat->Value->Prop}{St:Nat->Shared->Prop}
noncomputable abbrev nV (prog:Program)(w:World)(val:Nat->Str)(S:Addr)(i:Nat)(h:Heap):Prop:=h.SetOf (strKind prog w) S (fun k=>((List.range i).map val).any (·== k)) (qB val i)
theorem GR {val:Nat->Str}{S:Addr}{i:Nat}{h:Heap}(x:h.SetOf (strKind prog w) S (fun k'=>((List.range i).map val).any (·== k')||decide (k'=val i)) (if((List.range i).map val).any (·== val i)then qB val i else qB val i+1)):nV prog w val S (i+1) h:=by
 refine SetOf_congr x (fun k=>?_) rfl
 rw[List.range_succ,List.map_append,List.any_append]
 congr 1
 simp only[List.map_cons,List.map_nil,List.any_cons,List.any_nil,Bool.or_false]
 by_cases e:k=val i
 ·subst e;simp
 ·rw[decide_eq_false e];symm;exact beq_eq_false_iff_ne.mpr fun z=>e z.symm
theorem PH (W:WalksS prog w A.in1 I fp wr G n P St)(S:Addr)(hSf:S∉fp)(val:Nat->Str)(hval:∀ i v,P i v->∃ t,v=.str (val i) t)(hb:n+1<scanBound):
 ∀(k i:Nat)(s:Shared),n-i=k->i<=n->St i s->nV prog w val S i s.heap->(∀ s',Moved (S::wr) G s s'->nV prog w val S n s'.heap->R (.ok (.ret .none)) s') ->
  codeAny (model prog w) A (.builtin "set.update.loop" ⟨[.ref S,.ref I],[]⟩) R s:=by
 have hSw:S∉wr:=fun h=>hSf (W.sub _ h)
 have hsub:∀ b∈wr,b∈S::wr:=fun b hb=>List.mem_cons_of_mem _ hb
 have keep:∀{i:Nat}{s s':Shared},nV prog w val S i s.heap->Moved wr G s s'->nV prog w val S i s'.heap:=fun⟨o,es,ep,t,ho,rest⟩ hm=>⟨o,es,ep,t,hm.heap S _ hSw ho,rest⟩
 intro k
 induction k with
 |zero =>
 intro i s hk hi eF hS hR
 obtain rfl:i=n:=by omega
 refine codeAny_builtin PyProof.Rows.F.entry_set_update_loop ?_
 rw[Around.under_plainId PyProof.Rows.F.plain_set_update_loop _]
 show wpAny _ A.in1 (pyNext (.ref I) >>= _) _ _ s
 refine wpAny_bind (W.done s _ _ eF fun s' hm=>?_)
 show wpAny _ A.in1 (ret Value.none) _ _ s'
 exact wpAny_pure (hR s' (hm.mono hsub) (keep hS hm))
 |succ k ih =>
 intro i s hk hi eF hS hR
 have eY:i<n:=by omega
 refine codeAny_builtin PyProof.Rows.F.entry_set_update_loop ?_
 rw[Around.under_plainId PyProof.Rows.F.plain_set_update_loop _]
 show wpAny _ A.in1 (pyNext (.ref I) >>= _) _ _ s
 refine wpAny_bind (W.item i s _ _ eY eF fun v s' hP hst' hm=>?_)
 obtain⟨t,rfl⟩:=hval i v hP
 show wpAny _ A.in1 (holding [Value.str (val i) t] (setAdd S (.str (val i) t)) >>= _) _ _ s'
 refine wpAny_bind (wpAny_holding ?_)
 unfold setAdd
 refine wpAny_holding (wpAny_bind ((strKind prog w).pyHash (k:=val i) (strKind_is _ _ _ _) ?_))
 refine wpAny_setAddHashed_of (knd:=strKind prog w) (s:={ s' with toks:=s'.toks+1 }) (strKind_is _ _ _ _) rfl (show nV prog w val S i s'.heap from keep hS hm) (by have:=MS val i;omega) fun h' hsb hS2=>?_
 refine wpAny_pure ⟨plainId_quiet PyProof.Rows.F.plain_set_update_loop _,ih (i+1) _ (by omega) eY (W.frame _ s' _ _ hst' (Nat.le_succ _) fun b hb o e=>?_) (GR hS2) fun s'' hm'' hS''=>?_⟩
 ·rw[hsb.2 b (fun h:b=S=>hSf (by rw[<-h];exact hb))];exact e
 ·refine hR s'' (Moved.trans W.gtrans ((hm.mono hsub).then_heap (Nat.le_succ _) fun b o hb e=>?_) hm'') hS''
  rw[hsb.2 b (fun h:b=S=>hb (by rw[h];exact List.mem_cons_self))];exact e
end
section
variable {prog:Program}{w:World}{A:Around}{E:Value->Shared->Prop}{s:Shared}
noncomputable abbrev gF (led:Bool):Obj:={ cls:=.type "set", dict:=none,data:=.set #[] 0 (.fresh 0 0 led) }
theorem BS {l:Addr}{items:Array Value}{val:Nat->Str}{led:Bool}{Q:PySem.Fin->Shared->Prop}(hh:A.handled=none)(hl:s.heap.IsTuple l items)(hv:∀(i:Nat)(v:Value),items[i]? = some v->∃ t,v=.str (val i) t)(hb:items.size+1<scanBound)
  (h:∀(h':Heap)(tk:Nat),nV prog w val s.heap.objs.size items.size h'->(∀ b o,s.heap.get? b=some o->h'.get? b=some o)->Q (.done (.ret .none)) { s with heap:=h',toks:=tk }):
  wpAny (model prog w) A (Builtin.«set.__init__» ⟨[.ref s.heap.objs.size,.ref l],[]⟩) Q E { s with heap:=s.heap.push (gF led) }:=by
 obtain⟨ol,hol,hcl,nl,hdl⟩:=hl
 obtain⟨ocls,odict,odata,oslots⟩:=ol
 simp only at hcl hdl
 subst hcl;subst hdl
 have hS:(s.heap.push (gF led)).get? s.heap.objs.size=some (gF led):=Heap.get?_push_size _ rfl
 have hT:Shared.TypeIs { s with heap:=s.heap.push (gF led) } (.ref s.heap.objs.size) "set":=⟨_,hS,rfl⟩
 have hol':(s.heap.push (gF led)).get? l=some { cls:=.type "tuple", dict:=odict,data:=.seq items nl,slots:=oslots }:=Heap.get?_push_of_some _ hol
 have hsls:=PySem.F.sub_tuple_set
 have hslf:=PySem.F.sub_tuple_frozenset
 have hne:(Value.type "tuple" == Value.type "dict")=false:=by decide
 have hl1:(s.heap.push (gF led)).IsTuple l items:=⟨_,hol',rfl,nl,rfl⟩
 unfold Builtin.«set.__init__» noKeywords Builtin.Frozenset.updateFrom
 generalize hPI:pyIter=PI
 wp_walk
 subst hPI
 refine wpAny_pyIter_tuple hl1 ?_
 refine wpAny_bind (wpAny_runValue ?_)
 have hlS:l<s.heap.objs.size:=Heap.lt_size hol
 have hh3:A.in1.handled=none:=by simp [hh]
 have lU:(s.heap.push (gF led)).objs.size=s.heap.objs.size+1:=Heap.size_push ..
 have hneI:l≠(s.heap.push (gF led)).objs.size:=by rw[lU];exact Nat.ne_of_lt (Nat.lt_succ_of_lt hlS)
 have hSf:s.heap.objs.size∉[(s.heap.push (gF led)).objs.size,l]:=by
  simp only[List.mem_cons,List.not_mem_nil,or_false,not_or]
  exact⟨by rw[lU];exact Nat.ne_of_lt (Nat.lt_succ_self _),Nat.ne_of_gt hlS⟩
 refine PH ((Walks.tuple hh3 _ l hneI items).toS) s.heap.objs.size hSf val hv hb (items.size-0) 0 _ (by omega) (Nat.zero_le _) ⟨?hT1,?hT0⟩ ?hS0 ?hR
 case hT1=>exact⟨_,Heap.get?_push_size _ rfl,rfl,rfl⟩
 case hT0=>exact⟨_,Heap.get?_push_of_some _ hol',rfl,nl,rfl⟩
 case hS0=>exact SetOf_congr ((setObjOf_fresh (knd:=strKind prog w) led).setOf (Heap.get?_push_of_some _ hS) (by unfold scanBound;omega)) (fun _=>rfl) rfl
 case hR =>
  intro s' hm hS'
  obtain⟨h',g',d',tk',os'⟩:=s'
  have eg:g'=s.gens:=hm.gens
  have ed:d'=s.drawn:=hm.drawn
  have eo:os'=s.os:=hm.os
  subst eg;subst ed;subst eo
  show wpAny _ _ _ _ _ _
  refine wpAny_pure ?_
  show wpAny _ _ (ret Value.none) _ _ _
  refine wpAny_pure (h h' tk' hS' fun b o e=>?_)
  have hb1:b<s.heap.objs.size:=Heap.lt_size e
  exact hm.heap b o (by simp only[List.mem_cons,List.not_mem_nil,or_false,not_or];exact⟨Nat.ne_of_lt hb1,by rw[lU];exact Nat.ne_of_lt (Nat.lt_succ_of_lt hb1)⟩) (Heap.get?_push_of_some _ (Heap.get?_push_of_some _ e))
set_option maxHeartbeats 6400000 in
theorem FL {l:Addr}{items:Array Value}{val:Nat->Str}{Q:Value->Shared->Prop}(hh:A.handled=none)(hl:s.heap.IsTuple l items)(hv:∀(i:Nat)(v:Value),items[i]? = some v->∃ t,v=.str (val i) t)(hb:items.size+1<scanBound)
 (h:∀(h':Heap)(tk:Nat),nV prog w val s.heap.objs.size items.size h'->(∀ b o,s.heap.get? b=some o->h'.get? b=some o)->Q (.ref s.heap.objs.size) { s with heap:=h',toks:=tk }):
 wpAny (model prog w) A (call (.type "set") [.ref l]) Q E s:=by
 obtain⟨c,tl,hmro⟩:=PySem.F.called_set.mro
 have hmade:=PySem.F.called_set.made
 have hsub:=PySem.F.called_set.sub
 refine wpAny_call (codeAny_of_tree ?_)
 show wpAny _ _ (callAny (.type "set") _) _ _ _
 refine wpAny_pure ⟨Code.quiet_builtin _ (by decide +kernel),codeAny_builtin PySem.F.entry_type_call ?_⟩
 rw[Around.under_plain (weight_type_call_type "set" [.ref l] []) rfl]
 have h1:=PySem.F.called_set.notType
 have h2:=PySem.F.called_set.canCreate
 have hct:=PySem.F.typeCall_set_1 (.ref l)
 repeat (any_goals (first|assumption|wp_step))
 refine codeAny_mono (code_set_new_1 (.ref l) (E:=E) (Q₁:=fun obj s₁=>∃ led:Bool,obj=.ref s.heap.objs.size/\s₁ = { s with heap:=s.heap.push (gF led) }) fun led=>⟨led,rfl,rfl⟩) fun r s₁ hr=>?_
 cases r with
 |error e=>exact hr
 |ok fl =>
 cases fl with
 |ret obj =>
  obtain⟨led,rfl,rfl⟩:=hr
  have hT:Shared.TypeIs { s with heap:=s.heap.push (gF led) } (.ref s.heap.objs.size) "set":=⟨_,Heap.get?_push_size _ rfl,rfl⟩
  have hli:=PySem.F.called_set.init.lookup
  have hbi:=PySem.F.called_set.init.bind (.ref s.heap.objs.size)
  repeat (any_goals (first|assumption|wp_step))
  refine codeAny_mono (codeAny_call_builtin (R:=wants (fun r s₂=>r=.none/\∃ h' tk,s₂ = { s with heap:=h',toks:=tk }/\nV prog w val s.heap.objs.size items.size h'/\(∀ b o,s.heap.get? b=some o->h'.get? b=some o)) E) PySem.F.called_set.init.plain PySem.F.entry_set_init (check_set_init_1 hT ?_)) fun r₂ s₂ hr₂=>?_
  ·exact BS (by simp [hh]) hl hv hb fun h' tk hS hk=>⟨rfl,h',tk,rfl,hS,hk⟩
  ·cases r₂ with
  |error e=>exact hr₂
  |ok fl₂ =>
   cases fl₂ with
   |ret r =>
   obtain⟨rfl,h',tk,rfl,hS',hk'⟩:=hr₂
   repeat (any_goals (first|assumption|wp_step))
   exact h _ _ hS' hk'
   |_=>exact hr₂.elim
 |_=>exact hr.elim
end
end L3
end
section
namespace L3
open PySem PySem.Spec PyProof.Rows L2 PySem.SeqAt
noncomputable abbrev lM (ws:List (List Nat))(i:Nat):Str:=⟨(ws.getD i []).toArray⟩
theorem str_beq (a b:List Nat):((⟨a.toArray⟩:Str)==⟨b.toArray⟩)=(a==b):=by
 by_cases h:a=b
 ·subst h;simp
 ·rw[beq_eq_false_iff_ne.mpr h]
  refine beq_eq_false_iff_ne.mpr fun e=>h ?_
  have e1:a.toArray=b.toArray:=congrArg Str.cps e
  simpa using e1
theorem LU (ws:List (List Nat)):∀(rest seen:List (List Nat)),ws=seen++rest->qB (lM ws) seen.length+wK seen rest=qB (lM ws) ws.length
 |[],seen,h=>by simp [h,wK]
 |w::r,seen,h=>by
  have ih:=LU ws r (seen++[w]) (by simp [h])
  rw[<-ih]
  have e1:lM ws seen.length=⟨w.toArray⟩:=by simp [lM,h]
  have e2:((List.range seen.length).map (lM ws)).any (·== lM ws seen.length)=seen.any (·== w):=by
   have e3:(List.range seen.length).map (lM ws)=seen.map fun x=>(⟨x.toArray⟩:Str):=by
    refine List.ext_getElem (by simp) fun i h1 h2=>?_
    have hi:i<seen.length:=by simpa using h1
    simp [lM,h,List.getElem?_append_left hi,List.getElem?_eq_getElem hi]
   rw[e3,e1,List.any_map]
   congr 1
   funext x
   exact str_beq x w
  simp only[List.length_append,List.length_cons,List.length_nil,wK]
  have e5:qB (lM ws) (seen.length+1)=if seen.any (·== w)=true then qB (lM ws) seen.length else qB (lM ws) seen.length+1:=by rw[<-e2];rfl
  show _=qB (lM ws) (seen.length+1)+_
  rw[e5]
  by_cases c:seen.any (·== w)=true
  ·rw[if_pos c,if_pos c];omega
  ·rw[if_neg c,if_neg c];omega
theorem CM {K:PySem.W.Frag}{H:Hp}:∀{ds:List D}{ws:List (List Nat)}{vs:List V}{us:List Value},strsOf ds=some ws->aK K H ds vs->aL vs us->us.length=ws.length/\∀(i:Nat)(v:Value),us[i]? = some v->∃ t,v=.str (lM ws i) t
 |[],ws,_,_,h,.nil,.nil=>by cases h;exact⟨rfl,fun i v e=>by simp at e⟩
 |.str w::r,ws,_,_,h,.cons rd rs,.cons rv rvs=>by
  have h:(strsOf r).map (w :: ·)=some ws:=h
  obtain⟨ws',e,rfl⟩:=Option.map_eq_some_iff.mp h
  obtain⟨l,ih⟩:=CM e rs rvs
  refine⟨by simpa using l,fun i v e=>?_⟩
  cases i with
  |zero =>
   cases rd.str_inv
   obtain⟨t,rfl⟩:=rv
   simp at e
   exact⟨t,e.symm⟩
  |succ i=>exact ih i v (by simpa using e)
 |.non::_,_,_,_,h,_,_=>by cases h
 |.bl _::_,_,_,_,h,_,_=>by cases h
 |.int _::_,_,_,_,h,_,_=>by cases h
 |.tup _::_,_,_,_,h,_,_=>by cases h
 |.ref _::_,_,_,_,h,_,_=>by cases h
 |.cM _ _::_,_,_,_,h,_,_=>by cases h
 |.bB _::_,_,_,_,h,_,_=>by cases h
 |.exc _::_,_,_,_,h,_,_=>by cases h
theorem He {a b:D}{r:List D}{st:aB}{Q:VK}(h:gJ .pS (a::b::r) st Q):False:=by
 unfold gJ at h
 split at h<;>simp_all
section
variable {X:Cx}{C:bC}{sub:Nat->Nat->Bool}{E:XK}{a:Expr}{x:Ex}{p p2 pos pos2:Pos}
theorem Hh (hm:X.mg "len" = none)(hm2:X.mg "set" = none)(ha:JA X C sub E [a] [x])(hc:X.calm=true:=by kernel_rfl)(hg:X.env.kindOf "len" = some .globalImplicit:=by kernel_rfl)(hg2:X.env.kindOf "set" = some .globalImplicit:=by kernel_rfl)
  (he:starEach [.Call (.Name "set" p2) [a] [] pos2] X.env=(false,eval (.Call (.Name "set" p2) [a] [] pos2) X.env)::starEach [] X.env:=by kernel_rfl)(cS:(backTo pos (starEach [] X.env)).any (·.1)=false:=by kernel_rfl)
  (he2:starEach [a] X.env=(false,eval a X.env)::starEach [] X.env:=by kernel_rfl)(hpl2:(backTo pos2 (starEach [] X.env)).any (·.1)=false:=by kernel_rfl):
  JE X C sub E (.Call (.Name "len" p) [.Call (.Name "set" p2) [a] [] pos2] [] pos) (.bi .pS [x]):=⟨by
 intro pins s σ H Q I ⟨σd,st,R,r,ok,q,hq⟩
 refine wpAny_Call_Name_kw (lD I hg hm dW ?_ (by decide) (by decide))
 rw[he]
 refine Calls.callWith_builtin (by show(false||(backTo pos (starEach [] X.env)).any (·.1))=false;rw[cS];rfl) (Calls.evalArgs_plain ?_)
 show wpAny _ _ (spliced ((false,eval (.Call (.Name "set" p2) [a] [] pos2) X.env)::backTo pos (starEach [] X.env))) _ _ s
 refine Calls.spliced_cons ?_
 refine wpAny_Call_Name_kw (lD I hg2 hm2 Y7 ?_ (by decide) (by decide))
 refine PyProof.Rows.callWith_type1 (aW (ha.h pos2 pins s σ H _ I ⟨σd,st,_,r,ok,q,fun vs H' z=>z⟩) fun us s1 ⟨vs,H1,I1,rv,ds,aC,cV,aM,rs,q1⟩=>?_) he2 hpl2
 match ds,rs,q1 with
 |[d],rs,q1 =>
  obtain⟨v,rfl,rd⟩:=rs.one
  obtain⟨u,rfl,ru⟩:=vals1 rv
  cases d with
  |tup es =>
   rw[B9]at q1
   obtain⟨ws,e1,hl,q1⟩:=dU q1
   obtain⟨l,vs,rfl,f,g⟩:=rd.bM
   cases ru
   obtain⟨aD,r1,pl,hz⟩:=I1.tuple f
   obtain⟨hlen,hat⟩:=CM e1 g r1
   have hh:X.A.handled=none:=I1.ok.hd hc
   refine FL (val:=lM ws) hh (show s1.heap.IsTuple l aD.toArray from pl) (fun i v e=>hat i v (by simpa using e)) (by simp;unfold scanBound;omega) fun h' tk hS hk=>?_
   refine Calls.spliced_nil ?_
   have I2:Inv X pins σ H1 { s1 with heap:=h',toks:=tk }:=I1.kept hk
   obtain⟨o,es',ep,t,ho,hex,hd,hel,hmem,hb,hf,hn⟩:=hS
   refine call_len_set (s:={ s1 with heap:=h',toks:=tk }) ho hex hd hf (by unfold scanBound at hb;omega) ?_
   have hn2:es'.size=wK [] ws:=by
    rw[hn]
    have:=LU ws ws [] rfl
    simp only[List.length_nil,qB,Nat.zero_add]at this
    rw[this]
    simp [hlen]
   rw[hn2]
   exact⟨.int (wK [] ws:Nat),H1,I2.tok _,⟨_,rfl⟩,hq _ _ (.after cV (.here aM (.int _) q1))⟩
  |ref b =>
   obtain⟨_,_,z⟩:=dD (show cA aC b fun xs=>eB .pS xs aC R from q1)
   exact(show False from z).elim
  |_=>exact(show False from q1).elim
 |[],rs,q1=>exact(show False from q1).elim
 |_::_::_,rs,q1=>exact(He q1).elim⟩
end
end L3
end
section
namespace L3
open PySem PySem.Spec PyProof.Rows L2
theorem rJ.rE {X:Cx}{C:bC}{n:Str}{i:Nat}{scope:Scope}{own cn:List Str}{fp:List Addr}{s:Shared}{H:Hp}{Ca:Addr}(h:rJ X C n i):rJ (kX X scope own cn fp s H Ca) C n i:=let⟨a,b⟩:=h;⟨a,b⟩
end L3
end
section
namespace L3
open PySem PySem.Spec PyProof.Rows L2
section
variable {K:PySem.W.Frag}{H:Hp}
theorem str_inj {a b:List Nat}(h:(⟨a.toArray⟩:Str)=⟨b.toArray⟩):a=b:=by
 have:a.toArray=b.toArray:=congrArg Str.cps h
 simpa using this
theorem gT.get {f:List Nat}{d:D}:∀{fs:List (List Nat×D)}{ws:List (Str×V)},gT K H fs ws->cC fs f=some d->∃ v,ws.lookup (⟨f.toArray⟩:Str)=some v/\Rep K H d v
 |[],_,_,h=>by cases h
 |(g,e)::fs,[],r,_=>by cases r.1
 |(g,e)::fs,(g',v)::ws,r,h=>by
  obtain⟨r1,r2⟩:=r
  simp only[List.map_cons,List.cons.injEq]at r1
  cases r2 with
  |cons rd rs =>
   simp only[cC]at h
   by_cases q:g=f
   ·rw[if_pos q]at h;cases h
    refine⟨v,?_,rd⟩
    simp [List.lookup,r1.1,q]
   ·rw[if_neg q]at h
    obtain⟨v',e1,e2⟩:=gT.get (fs:=fs) (ws:=ws) ⟨r1.2,rs⟩ h
    refine⟨v',?_,e2⟩
    have:((⟨f.toArray⟩:Str)==g')=false:=beq_eq_false_iff_ne.mpr fun z=>q (str_inj (by rw[z];exact r1.1.symm))
    simp only[List.lookup,this]
    exact e1
theorem gT.no {f:List Nat}:∀{fs:List (List Nat×D)}{ws:List (Str×V)},gT K H fs ws->cC fs f=none->ws.lookup (⟨f.toArray⟩:Str)=none
 |[],[],_,_=>rfl
 |[],_::_,r,_=>by cases r.1
 |(g,e)::fs,[],r,_=>by cases r.1
 |(g,e)::fs,(g',v)::ws,r,h=>by
  obtain⟨r1,r2⟩:=r
  simp only[List.map_cons,List.cons.injEq]at r1
  cases r2 with
  |cons rd rs =>
   simp only[cC]at h
   by_cases q:g=f
   ·rw[if_pos q]at h;cases h
   ·rw[if_neg q]at h
    have:((⟨f.toArray⟩:Str)==g')=false:=beq_eq_false_iff_ne.mpr fun z=>q (str_inj (by rw[z];exact r1.1.symm))
    simp only[List.lookup,this]
    exact gT.no (fs:=fs) (ws:=ws) ⟨r1.2,rs⟩ h
theorem gT.put {f:List Nat}{d:D}{v:V}(rd:Rep K H d v):∀{fs:List (List Nat×D)}{ws:List (Str×V)},gT K H fs ws->gT K H (pJ f d fs) (hX ⟨f.toArray⟩ v ws)
 |[],[],_=>⟨rfl,.cons rd .nil⟩
 |[],_::_,r=>by cases r.1
 |(g,e)::fs,[],r=>by cases r.1
 |(g,e)::fs,(g',v')::ws,r=>by
  obtain⟨r1,r2⟩:=r
  simp only[List.map_cons,List.cons.injEq]at r1
  cases r2 with
  |cons rd' rs =>
   by_cases q:g=f
   ·have q':g'=(⟨f.toArray⟩:Str):=by rw[r1.1,q]
    simp only[pJ,hX,if_pos q,if_pos q']
    exact⟨by simp [r1.1,r1.2],.cons rd rs⟩
   ·have q':¬g'=(⟨f.toArray⟩:Str):=fun z=>q (str_inj (r1.1.symm.trans z))
    simp only[pJ,hX,if_neg q,if_neg q']
    have ih:=gT.put (f:=f) rd (fs:=fs) (ws:=ws) ⟨r1.2,rs⟩
    exact⟨by simp [r1.1,ih.1],.cons rd' ih.2⟩
theorem gT.length {fs:List (List Nat×D)}{ws:List (Str×V)}(r:gT K H fs ws):ws.length=fs.length:=by
 have:=congrArg List.length r.1
 simpa using this
end
theorem vY {st:aB}{a:Nat}{P:List Nat->List (List Nat×D)->Prop}(h:lB st a P):∃ c fs,st a=some (.ins c fs)/\P c fs:=by
 unfold lB at h
 split at h
 ·exact⟨_,_,by assumption,h⟩
 ·exact h.elim
theorem vO {st:aB}{a:Nat}{P:List D->List D->Prop}(h:tabAt st a P):∃ c fs,st a=some (.tab c fs)/\P c fs:=by
 unfold tabAt at h
 split at h
 ·exact⟨_,_,by assumption,h⟩
 ·exact h.elim
theorem ON {c f:List Nat}{x:D}{st:aB}{Q:VK}(h:nN c f x st Q):∃ a fs d,x=.ref a/\st a=some (.ins c fs)/\cC fs f=some d/\Q d st:=by
 unfold nN at h
 split at h
 ·obtain⟨c',fs,e,rfl,q⟩:=vY h
  obtain⟨d,e1,q⟩:=dU q
  exact⟨_,fs,d,rfl,e,e1,q⟩
 ·exact h.elim
theorem TR {c f:List Nat}{v x:D}{st:aB}{Q:aB->Prop}(h:zX c f v x st Q):∃ a fs,x=.ref a/\st a=some (.ins c fs)/\fs.length<900/\Q (put st a (.ins c (pJ f v fs))):=by
 unfold zX at h
 split at h
 ·obtain⟨c',fs,e,rfl,l,q⟩:=vY h
  exact⟨_,fs,rfl,e,l,q⟩
 ·exact h.elim
theorem OB {c m:List Nat}{x:D}{st:aB}(h:BK c m x st):∃ a fs,x=.ref a/\st a=some (.ins c fs)/\cC fs m=none:=by
 unfold BK at h
 split at h
 ·obtain⟨c',fs,e,rfl,q⟩:=vY h
  exact⟨_,fs,rfl,e,q⟩
 ·exact h.elim
structure tL (K:PySem.W.Frag)(c:List Nat):Prop where
 h:∃ C,clsAt K c C/\rA K C
structure oQ (K:PySem.W.Frag)(c f:List Nat):Prop where
 h:∀ C,clsAt K c C->oN K C ⟨f.toArray⟩
structure rX (X:Cx)(C:bC)(c:List Nat)(n:Str)(fid:Nat):Prop where
 h:∃ k f fd ps C0,dX X.prog X.w X.K X.mg X.base gA k f fd ps (eU X.K C fid)/\dA k X.A/\Binds X.K fd ps []/\clsAt X.K c C0/\rA X.K C0/\BZ X.K C0 n f
structure GD (X:Cx)(C:bC)(c:List Nat)(n:Str)(fid:Nat):Prop where
 h:∃ k f fd ps C0,dX X.prog X.w X.K X.mg X.base gA k f fd ps (eU X.K C fid)/\dA (k+1) X.A/\Binds X.K fd ps []/\clsAt X.K c C0/\X.mg n=some (.ref C0)/\Mk X.K C0 f
theorem rX.rE {X:Cx}{C:bC}{c:List Nat}{n:Str}{i:Nat}{scope:Scope}{own cn:List Str}{fp:List Addr}{s:Shared}{H:Hp}{Ca:Addr}(h:rX X C c n i):rX (kX X scope own cn fp s H Ca) C c n i:=let⟨a,b⟩:=h;⟨a,b⟩
section
variable {X:Cx}{C:bC}{sub:Nat->Nat->Bool}{E:XK}{a b e o value:Expr}{es:List Expr}{x y:Ex}{xs:List Ex}{p pos apos pos':Pos}{n:Str}{c f:List Nat}{fid:Nat}
theorem Bc (hn:n=⟨f.toArray⟩)(hc:tL X.K c)(hna:oQ X.K c f)(ho:PE X o (bS X.K (aH C sub E x)))(hb:attributeBase o n X.env (eval o X.env)=eval o X.env):PE X (.Attribute o n pos) (bS X.K (aH C sub E (.fld c f x))) :=
 (WD ho hb).imp fun σ H Q ⟨σd,st,R,r,ok,q,hq⟩=>by
 refine⟨σd,st,_,r,ok,q,fun v H1 ⟨d,aC,s1,aM,r1,q1⟩=>?_⟩
 obtain⟨a,fs,d',rfl,e,ed,q1⟩:=ON q1
 cases r1.cE
 obtain⟨C0,dx,ws,h1,h2,h3⟩:=aM a _ e
 obtain⟨v,l,rv⟩:=gT.get h3 ed
 obtain⟨C',c1,c2⟩:=hc.h
 have eC:=c1.inj h1
 subst eC
 exact⟨a,C',dx,ws,v,rfl,h2,c2,by rw[hn];exact hna.h C' c1,by rw[hn];exact l,hq _ _ (.after s1 (.here aM rv q1))⟩
theorem An (hC:bP C C)(hn:n=⟨f.toArray⟩)(hc:tL X.K c)(hna:oQ X.K c f)(ho:PE X o (bS X.K (aH C sub EF y)))(hv:PE X value (bS X.K (aH C sub EF x)))(hs:swapsWith value (some (.Attribute o n pos')) pos.line X.env=pure false):
 PS X (.Assign [.Attribute o n pos'] value pos) (gN X.K (wpS C sub (.asg (.fl c f y) x))) :=
 (X7 ho hv hs).imp fun D σ H ⟨σd,st,P,r,ok,q,h⟩=>by
 refine⟨σd,st,_,r,ok,oO hC h.ex q,fun v H1 ⟨d,aC,s1,aM,rd,q1⟩=>?_⟩
 refine⟨σd,aC,_,r.step ok s1,aM,oO hC h.ex q1,fun u H2 ⟨d2,aG,s2,bZ,r2,q2⟩=>?_⟩
 obtain⟨a,fs,rfl,e,l,q2⟩:=TR q2
 cases r2.cE
 obtain⟨C0,dx,ws,h1,h2,h3⟩:=bZ a _ e
 obtain⟨C',c1,c2⟩:=hc.h
 have eC:=c1.inj h1
 subst eC
 have s3:Step H2 aG (upd H2 a (.ins C' dx (hX n v ws))) (put aG a (.ins c (pJ f d fs))):=kL e
 have rd2:=(rd.step aM s2).step bZ s3
 have h3':gT X.K (upd H2 a (.ins C' dx (hX n v ws))) fs ws:=⟨h3.1,h3.2.step bZ s3⟩
 refine⟨a,C',dx,ws,rfl,h2,c2,by rw[hn];exact hna.h C' c1,by rw[h3.length];omega,h.nx _ _ _ _ (((r.step ok s1).step aM s2).step bZ s3) ((s1.trans s2).trans s3) (bZ.ES e ?_) q2⟩
 exact⟨C',dx,_,c1,eT,by rw[hn]at *;exact gT.put rd2 h3'⟩
theorem Cp {k:Nat}{fa:Addr}{fd:FuncData}{ps:List Str}{C0:Addr}{pl:Sem Bool}{m:List Nat}(hn:n=⟨m.toArray⟩)(hcl:clsAt X.K c C0)(hC0:rA X.K C0)(hm:BZ X.K C0 n fa)(F:dX X.prog X.w X.K X.mg X.base gA k fa fd ps (eU X.K C fid))(hr:dA k X.A)(hb:Binds X.K fd ps [])
 (ho:PE X o (bS X.K (aH C sub EF x)))(ha:PA X (e::es) (jW X.K (bN C sub EF xs)))
 (eF:starEach (e::es) X.env=(false,eval e X.env)::starEach es X.env)(cS:(backTo pos (starEach es X.env)).any (·.1)=false)
 (ht:eval (.Call (.Attribute o n apos) (e::es) [] pos) X.env=(do
  let ov <-eval o X.env
  standAt apos.atName
  let(f,first) <-holding [ov] (getMethod ov n pl)
  callWith pos f first (backTo pos (starEach (e::es) X.env)) (backToKw pos (keywordEach [] X.env)))):
 PE X (.Call (.Attribute o n apos) (e::es) [] pos) (bS X.K (aH C sub EF (.mcl c m fid x xs))) :=
 (S4 (pl:=pl) ho hC0 hm F hr hb .nil J5 ha eF cS ht).imp fun σ H Q ⟨σd,st,R,r,ok,q,hq⟩=>by
 refine⟨σd,st,_,r,ok,q,fun v H1 ⟨d,aC,s1,aM,r1,q1,q2⟩=>?_⟩
 obtain⟨a,fs,rfl,e0,l⟩:=OB q1
 cases r1.cE
 obtain⟨C1,dx,ws,h1,h2,h3⟩:=aM a _ e0
 cases hcl.inj h1
 refine⟨a,dx,ws,rfl,h2,by rw[hn];exact gT.no h3 l,?_⟩
 refine⟨σd,aC,_,r.step ok s1,aM,q2,fun vs H2 ⟨ds,aG,s2,bZ,r2,q3⟩=>?_⟩
 show eU X.K C fid (.ref a::(vs++[])) H2 Q E0
 rw[List.append_nil]
 exact⟨.ref a::ds,aG,R,.cons (.ref a) r2,bZ,q3,fun v H' z=>hq _ _ (.after (s1.trans s2) z)⟩
theorem Ek {k:Nat}{fa:Addr}{fd:FuncData}{ps:List Str}{C0:Addr}(hcl:clsAt X.K c C0)(hM:Mk X.K C0 fa)(F:dX X.prog X.w X.K X.mg X.base gA k fa fd ps (eU X.K C fid))(hr:dA (k+1) X.A)(hg:Gl X n)(hmg:X.mg n=some (.ref C0))(hb:Binds X.K fd ps [])
 (ha:PA X (e::es) (jW X.K (bN C sub EF xs)))(hdb:(n==("__debug__" : Str))=false)(he:starEach (e::es) X.env=(false,eval e X.env)::starEach es X.env)(cS:(backTo pos (starEach es X.env)).any (·.1)=false):
 PE X (.Call (.Name n p) (e::es) [] pos) (bS X.K (aH C sub EF (.mk c fid xs))) :=
 (S9 hM F hr hg hmg hb .nil J5 ha hdb he cS).imp fun σ H Q ⟨σd,st,R,r,ok,q,hq⟩=>by
 refine⟨σd,st,_,r,ok,q,fun vs H1 ⟨ds,aC,s1,aM,r1,q1⟩=>?_⟩
 intro x dx hx hdx hne
 show eU X.K C fid (.ref x::(vs++[])) _ _ E0
 rw[List.append_nil]
 have bZ:aO X.K aC (upd H1 dx (.own x)):=aM.new hdx
 have s2:Step H1 aC (upd H1 dx (.own x)) aC:=oG hdx
 have hx2:upd H1 dx (.own x) x=none:=by rw[bR (Ne.symm hne)];exact hx
 have s3:Step (upd H1 dx (.own x)) aC (upd (upd H1 dx (.own x)) x (.ins C0 dx [])) (put aC x (.ins c [])):=mY hx2
 have sE:aO X.K (put aC x (.ins c [])) (upd (upd H1 dx (.own x)) x (.ins C0 dx [])):=bZ.XJ hx2 ⟨C0,dx,[],hcl,eT,rfl,.nil⟩
 refine⟨.ref x::ds,put aC x (.ins c []),_,.cons (.ref x) ((r1.step aM s2).step bZ s3),sE,q1 x (aM.fresh hx),fun v H' ⟨d,aA,s',fJ,rd,ed,q'⟩=>?_⟩
 subst ed
 exact⟨rd.eO,hq _ _ (.after ((s1.trans s2).trans (s3.trans s')) (.here fJ (.ref x) q'))⟩
theorem kE (c:List Nat)(hc:tL X.K c)(hna:oQ X.K c f)(ho:JE X C sub E o x)(hn:n=⟨f.toArray⟩:=by kernel_rfl)(hb:attributeBase o n X.env (eval o X.env)=eval o X.env:=by kernel_rfl):JE X C sub E (.Attribute o n pos) (.fld c f x):=⟨Bc hn hc hna ho.h hb⟩
theorem yF (m:bP C C)(c:List Nat)(hc:tL X.K c)(hna:oQ X.K c f)(ho:JE X C sub EF o y)(hv:JE X C sub EF value x)(hn:n=⟨f.toArray⟩:=by kernel_rfl)(hs:swapsWith value (some (.Attribute o n pos')) pos.line X.env=pure false:=by kernel_rfl):
 JS X C sub (.Assign [.Attribute o n pos'] value pos) (.asg (.fl c f y) x):=⟨An m hn hc hna ho.h hv.h hs⟩
theorem HH {pl:Sem Bool}{mm:List Nat}(h:rX X C c n fid)(ho:JE X C sub EF o x)(ha:JA X C sub EF (e::es) xs)(hn:n=⟨mm.toArray⟩:=by kernel_rfl)
 (eF:starEach (e::es) X.env=(false,eval e X.env)::starEach es X.env:=by kernel_rfl)(cS:(backTo pos (starEach es X.env)).any (·.1)=false:=by kernel_rfl)
 (ht:eval (.Call (.Attribute o n apos) (e::es) [] pos) X.env=(do
  let ov <-eval o X.env
  standAt apos.atName
  let(f,first) <-holding [ov] (getMethod ov n pl)
  callWith pos f first (backTo pos (starEach (e::es) X.env)) (backToKw pos (keywordEach [] X.env))):=by rfl):
 JE X C sub EF (.Call (.Attribute o n apos) (e::es) [] pos) (.mcl c mm fid x xs):=⟨let⟨k,f,fd,ps,C0,h1,h2,h3,h4,h5,h6⟩:=h.h;Cp hn h4 h5 h6 h1 h2 h3 ho.h ha.h eF cS ht⟩
theorem Dm (h:GD X C c n fid)(ha:JA X C sub EF (e::es) xs)(hg:X.env.kindOf n=some .globalImplicit:=by kernel_rfl)(hdb:(n==("__debug__" : Str))=false:=by kernel_rfl)(he:starEach (e::es) X.env=(false,eval e X.env)::starEach es X.env:=by kernel_rfl)(cS:(backTo pos (starEach es X.env)).any (·.1)=false:=by kernel_rfl):
 JE X C sub EF (.Call (.Name n p) (e::es) [] pos) (.mk c fid xs):=⟨let⟨k,f,fd,ps,C0,h1,h2,h3,h4,h5,h6⟩:=h.h;Ek h4 h6 h1 h2 hg h5 h3 ha.h hdb he cS⟩
end
end L3
end
section
namespace L3
open PySem PySem.Spec PyProof.Rows L2
section
variable {X:Cx}{pins:List (Addr×Obj)}{σ:L2.St}{H:Hp}{s:Shared}{st:aB}
mutual
theorem GI (I:Inv X pins σ H s):∀{d:D}{v:V}{u:Value},iD d=true->Rep X.K H d v->RelV v u->iI s.heap d u
 |_,_,u,_,.str x,rv=>by obtain⟨tk,rfl⟩:=rv;exact .str x tk
 |_,_,u,t,.tup h r,rv=>by
  cases rv
  obtain⟨aD,r1,⟨o,e,c,n,d⟩,_⟩:=I.tuple h
  exact .tup e c d (by simpa using G5 I (by simpa [iD]using t) r r1)
 |_,_,_,t,.non,_=>by cases t
 |_,_,u,_,.bl b,rv=>by cases rv;exact .bl b
 |_,_,_,t,.int _,_=>by cases t
 |_,_,_,t,.ref _,_=>by cases t
 |_,_,_,t,.bB _ _,_=>by cases t
 |_,_,_,t,.cM _,_=>by cases t
theorem G5 (I:Inv X pins σ H s):∀{ds:List D}{vs:List V}{us:List Value},iL ds=true->aK X.K H ds vs->aL vs us->fG s.heap ds us
 |_,_,_,_,.nil,rv=>by cases rv;exact .nil
 |_,_,_,t,.cons h r,rv=>by
  simp only[iL,Bool.and_eq_true]at t
  cases rv with
  |cons r1 r2=>exact .cons (GI I t.1 h r1) (G5 I t.2 r r2)
end
theorem key_is (I:Inv X pins σ H s){d:D}{v:V}{u:Value}(k:keyed d)(r:Rep X.K H d v)(rv:RelV v u):∃ a,u=.ref a/\v=.ref a/\(wN X.prog X.w).is s.heap d a:=by
 have h:=GI I k.txt r rv
 cases d with
 |tup ds =>
 obtain⟨a,vs,rfl,_,_⟩:=r.bM
 cases rv
 exact⟨a,rfl,rfl,k,h⟩
 |_=>exact k.elim
theorem FO (I:Inv X pins σ H s)(ok:aO X.K st H){a:Addr}{ks vs:List D}(e:st a=some (.tab ks vs)):∃(xs:List (D×Addr×Value))(ws:List V),H a=some (FR a xs)/\(a==sysModules)=false/\xs.map (·.1)=ks/\(∀ x∈xs,keyed x.1)/\aL ws (xs.map (·.2.2))/\aK X.K H vs ws/\aK X.K H ks (xs.map fun x=>.ref x.2.1) /\
  s.heap.DictOfH (wN X.prog X.w) a xs:=by
 obtain⟨xs,ws,q,q0,q1,q2,q3,q4,q5,r⟩:=ok a _ e
 refine⟨xs,ws,q,q0,q1,q4,q5,r,q3,?_⟩
 obtain⟨⟨o,es,ep,h1,h2,h3,h4⟩,_⟩:=I.bY a _ q
 refine⟨o,es,ep,h1,h2,h3,h4,fun x hx=>?_,q2⟩
 obtain⟨j,hj⟩:=List.mem_iff_getElem?.mp hx
 have e1:ks[j]? = some x.1:=by rw[<-q1,List.getElem?_map,hj];rfl
 obtain⟨v,e2,rv⟩:=q3.get e1
 have e3:v=.ref x.2.1:=by
  rw[List.getElem?_map,hj]at e2
  exact(Option.some.inj e2).symm
 subst e3
 exact⟨q4 x hx,GI I (q4 x hx).txt rv rfl⟩
theorem K2 {xs:List (D×Addr×Value)}{k:D}(kk:keyed k)(h:∀ x∈xs,keyed x.1):(atKey xs k).isSome=(xs.map (·.1)).any fun y=>bG y k:=by
 induction xs with
 |nil=>rfl
 |cons x xs ih =>
 have ih:=ih fun y hy=>h y (by simp [hy])
 simp only[List.map_cons,List.any_cons,<-ih,BA (h x (by simp)).txt kk.txt]
 by_cases q:x.1=k
 ·simp [atKey,q]
 ·simp [atKey,q]
theorem H0 {K:PySem.W.Frag}{k:D}(kk:keyed k){d:D}:∀{xs:List (D×Addr×Value)}{vs:List D}{ws:List V},(∀ x∈xs,keyed x.1)->aL ws (xs.map (·.2.2))->aK K H vs ws->kH (xs.map (·.1)) vs k=some d->∃ p v,atKey xs k=some p/\RelV v p.2/\Rep K H d v
 |[],_,_,_,_,_,h=>by simp [kH]at h
 |x::xs,[],_,_,rv,r,h=>by simp [kH]at h
 |x::xs,d0::vs,ws,hk,rv,r,h=>by
  cases r with
  |cons r1 r2 =>
   cases rv with
   |cons v1 v2 =>
    simp only[List.map_cons,kH]at h
    rw[BA (hk x (by simp)).txt kk.txt]at h
    by_cases q:x.1=k
    ·rw[if_pos (by simpa using q)]at h;cases h
     exact⟨x.2,_,by simp [atKey,q],v1,r1⟩
    ·rw[if_neg (by simpa using q)]at h
     obtain⟨p,v,e1,e2,e3⟩:=H0 kk (fun y hy=>hk y (by simp [hy])) v2 r2 h
     exact⟨p,v,by simpa [atKey,q]using e1,e2,e3⟩
end
section
variable {X:Cx}{C:bC}{sub:Nat->Nat->Bool}{E:XK}{a b e o i value:Expr}{x y z:Ex}{p pos apos pos':Pos}
theorem Ba (hu:X.A.units+180<cLine)(neg:Bool):lV X (if neg=true then .NotIn else .In) (fun d d' st P=>tJ d d' st fun b=>P (if neg=true then !b else b)):=by
 intro pins s σ H st d d' v v' u u' P I ok r rv r' aZ q
 unfold tJ at q
 split at q
 ·obtain⟨ks,vs,e,hk,q⟩:=vO q
  cases r'.cE
  cases aZ
  obtain⟨xs,ws,t1,t2,t3,t4,t5,t6,t8,t7⟩:=FO I ok e
  obtain⟨ka,rfl,rfl,hka⟩:=key_is I hk r rv
  have hroom:(wN X.prog X.w).room X.A.in1:=by show X.A.in1.units+12<cLine;simp only[Around.in1_units];omega
  rw[<-t3,<-K2 hk t4]at q
  cases neg with
  |true=>exact wpAny_notIn_heap hroom hka t2 t7 ⟨_,rfl,q,I.tok _⟩
  |false=>exact wpAny_in_heap hroom hka t2 t7 ⟨_,rfl,q,I.tok _⟩
 ·exact q.elim
theorem WN {neg:Bool}(hu:X.A.units+180<cLine)(ha:PE X a (bS X.K (aH C sub E x)))(hb:PE X b (bS X.K (aH C sub E y)))(hm:behindInMarks (if neg=true then .NotIn else .In) b=false):PT X (.Compare a [if neg=true then .NotIn else .In] [b] pos) (iU X.K (aH C sub E (.din neg x y))):=by
 intro pins s σ H Q I ⟨σd,st,R,r,ok,q,hq⟩
 refine wpAny_isTrue_Compare1 (aW (ha pins s σ H _ I ⟨σd,st,_,r,ok,q,fun v H' z=>z⟩) fun u s1 ⟨v,H1,I1,rv,d,aC,cV,aM,r1,q1⟩ =>
 aW (hb pins s1 σ H1 _ I1 ⟨σd,aC,_,r.step ok cV,aM,q1,fun v H' z=>z⟩) fun u' s2 ⟨v',H2,I2,aZ,d',aG,gZ,bZ,r2,q2⟩ =>
 aW (Ba hu neg pins s2 σ H2 aG d d' v v' u u' (fun k=>R k aG) I2 bZ (r1.step aM gZ) rv r2 aZ q2) fun w s3 ⟨k,e,q3,I3⟩=>?_) hm
 subst e
 exact wpAny_truthy_bool ⟨H2,I3,hq _ _ ⟨aG,cV.trans gZ,bZ,q3⟩⟩
noncomputable def Em (K:PySem.W.Frag):R2:=fun v v' H Q=>∃ d d' st R,Rep K H d v/\Rep K H d' v'/\aO K st H/\oS d' d st R/\∀ v H',QD K H st R v H'->Q v H'
theorem YL (hu:X.A.units+180<cLine):tX X (Em X.K):=by
 intro value slice pins s σ H x y v u Q I rx ry h hs
 obtain⟨d,d',st,R,r1,r2,ok,q,hq⟩:=h
 unfold oS at q
 split at q
 ·obtain⟨ks,vs,e,hk,q⟩:=vO q
  obtain⟨d0,e0,q⟩:=dU q
  cases r1.cE
  cases rx
  obtain⟨xs,ws,t1,t2,t3,t4,t5,t6,t8,t7⟩:=FO I ok e
  obtain⟨ka,rfl,rfl,hka⟩:=key_is I hk r2 ry
  have hroom:(wN X.prog X.w).room X.A.in1:=by show X.A.in1.units+12<cLine;simp only[Around.in1_units];omega
  rw[<-t3]at e0
  obtain⟨pp,v0,e1,e2,e3⟩:=H0 hk t4 t5 t6 e0
  refine subscriptTail_builtinR (x:=pp.2) t7.typeIs slot_dict_getitem.lookup ?_ hs
  exact wpAny_getItem_heap hroom hka t7 e1 ⟨rfl,v0,H,I.tok _,e2,hq _ _ (.here ok e3 q)⟩
 ·exact q.elim
theorem Az (hu:X.A.units+180<cLine)(ha:PE X a (bS X.K (aH C sub E x)))(hb:PE X b (bS X.K (aH C sub E y)))(hp:rD b):PE X (.Subscript a b pos) (bS X.K (aH C sub E (.dix x y))) :=
 (P2 (YL hu) ha hb hp).imp fun σ H Q ⟨σd,st,R,r,ok,q,hq⟩=>by
 refine⟨σd,st,_,r,ok,q,fun v H1 ⟨d,aC,s1,aM,r1,q1⟩=>?_⟩
 refine⟨σd,aC,_,r.step ok s1,aM,q1,fun v' H2 ⟨d',aG,s2,bZ,r2,q2⟩=>?_⟩
 exact⟨d,d',aG,R,r1.step aM s2,r2,bZ,q2,fun v H' z=>hq _ _ (.after (s1.trans s2) z)⟩
theorem Hd {pins:List (Addr×Obj)}{σ:L2.St}{H:Hp}{s:Shared}(I:Inv X pins σ H s):sysModules<s.heap.objs.size:=by
 have h:mainGlobals<s.heap.objs.size:=(I.mod.glob.keeps I.bk).lt
 exact Nat.lt_trans (by decide) h
theorem CZ {a:Addr}{xs:List (D×Addr×Value)}{w:World}:∀ h1 h2:Heap,IX a xs w h1->(∀ o,h1.get? a=some o->h2.get? a=some o)->IX a xs w h2:=fun h1 h2 ⟨o,es,ep,e,r⟩ k=>⟨o,es,ep,k o e,r⟩
theorem XZ:PE X (.Dict [] [] pos) (bS X.K (aH C sub E .dnew)):=fun pins s σ H Q I ⟨σd,st,R,r,ok,q,hq⟩=>by
 have hf:H s.heap.objs.size=none:=I.bY.fresh (Nat.le_refl _)
 refine wpAny_Dict_empty ⟨.ref s.heap.objs.size,_,I.laid (a:=s.heap.objs.size) (o:=FR s.heap.objs.size []) (t':=s.toks) (fun _ _ q=>Heap.get?_push_of_some _ q) (Nat.le_refl _) ?_,rfl,hq _ _ ⟨.ref s.heap.objs.size,put st s.heap.objs.size (.tab [] []),mY hf,ok.XJ hf ?_,.ref _,q _ (ok.fresh hf)⟩⟩
 ·exact⟨⟨_,#[],0,Heap.get?_push_size _ rfl,⟨rfl,rfl,rfl⟩,rfl,rfl⟩,⟨_,Heap.get?_push_size _ rfl⟩,CZ⟩
 ·exact⟨[],[],eT,beq_eq_false_iff_ne.mpr (Nat.ne_of_gt (Hd I)),rfl,List.nodup_nil,.nil,fun x hx=>(by cases hx),.nil,.nil⟩
theorem RG {x v y:D}{st:aB}{Q:aB->Prop}(h:xX x v y st Q):∃ a ks vs,y=.ref a/\st a=some (.tab ks vs)/\keyed x/\(ks.any fun k=>bG k x)=false/\ks.length<10000/\Q (put st a (.tab (ks++[x]) (vs++[v]))):=by
 unfold xX at h
 split at h
 ·obtain⟨ks,vs,e,h1,h2,h3,q⟩:=vO h
  exact⟨_,ks,vs,rfl,e,h1,h2,h3,q⟩
 ·exact h.elim
theorem El (hC:bP C C)(hu:X.A.units+180<cLine)(ho:PE X o (bS X.K (aH C sub EF y)))(hi:PE X i (bS X.K (aH C sub EF z)))(hv:PE X value (bS X.K (aH C sub EF x)))(hs:swapsWith value (some (.Subscript o i pos')) pos.line X.env=pure false):
  PS X (.Assign [.Subscript o i pos'] value pos) (gN X.K (wpS C sub (.asg (.dk y z) x))):=by
 intro pins s σ H D I ⟨σd,st,P,r,ok,q,h⟩
 refine wpAny_Assign_Subscript (aW (hv pins s σ H _ I ⟨σd,st,_,r,ok,oO hC h.ex q,fun v H' z=>z⟩) fun uv s1 ⟨v,H1,I1,rv,d,aC,cV,aM,rd,q1⟩ =>
  aW (ho pins s1 σ H1 _ I1 ⟨σd,aC,_,r.step ok cV,aM,oO hC h.ex q1,fun v H' z=>z⟩) fun uo s2 ⟨vo,H2,I2,rvo,d2,aG,gZ,bZ,rd2,q2⟩ =>
  aW (hi pins s2 σ H2 _ I2 ⟨σd,aG,_,(r.step ok cV).step aM gZ,bZ,oO hC h.ex q2,fun v H' z=>z⟩) fun ui s3 ⟨vi,H3,I3,rvi,d3,aR,s3s,sE,rd3,q3⟩=>?_) hs
 obtain⟨da,ks,vs,ed2,e,hk,hnew,hlen,q4⟩:=RG q3
 ·subst ed2
  cases rd2.cE
  cases rvo
  obtain⟨xs,ws,t1,t2,t3,t4,t5,t6,t8,t7⟩:=FO I3 sE e
  obtain⟨ka,rfl,rfl,hka⟩:=key_is I3 hk rd3 rvi
  have hroom:(wN X.prog X.w).room X.A.in1:=by show X.A.in1.units+12<cLine;simp only[Around.in1_units];omega
  have hno:atKey xs d3=none:=by
   have:=K2 (k:=d3) hk t4
   rw[t3,hnew]at this
   cases q:atKey xs d3 with
   |none=>rfl
   |some p=>rw[q]at this;cases this
  have hxl:xs.length=ks.length:=by rw[<-t3];simp
  refine wpAny_setItem_heap hroom hka t7 (fun h' hm hsb=>?_) (by rw[fL,hxl];have h10:(10000:Nat)<=bE:=(by decide);omega)
  rw[storedH_new hno]at hm
  obtain⟨o',es,ep,m1,m2,m3,m4,m5,m6⟩:=id hm
  have hS:Step H3 aR (upd H3 da (FR da (xs++[(d3,ka,uv)]))) (put aR da (.tab (ks++[d3]) (vs++[d]))):=kL e
  have I4:Inv X pins σ (upd H3 da (FR da (xs++[(d3,ka,uv)]))) { s3 with heap:=h',toks:=s3.toks+(wN X.prog X.w).draws d3 }:=by
   refine I3.write (x:=da) (e:=da) (by rw[t1];exact True.intro) (.inl rfl) (fun b u hb z=>(hsb.2 b hb).trans z) ⟨o',m1⟩ ?_
   exact⟨⟨o',es,ep,m1,m2,m3,m4⟩,⟨o',m1⟩,CZ⟩
  refine⟨σ,_,I4,h.nx _ _ _ _ ((((r.step ok cV).step aM gZ).step bZ s3s).step sE hS) (((cV.trans gZ).trans s3s).trans hS) (sE.ES e ?_) q4⟩
  refine⟨xs++[(d3,ka,uv)],ws++[v],eT,t2,by simp [t3],m6,?_,?_,?_,?_⟩
  ·rw[List.map_append]
   exact(t8.step sE hS).append (.cons (rd3.step sE hS) .nil)
  ·intro x hx
   rcases List.mem_append.mp hx with hx|hx
   ·exact t4 x hx
   ·simp only[List.mem_singleton]at hx;subst hx;exact hk
  ·rw[List.map_append];exact t5.append (.cons rv .nil)
  ·exact(t6.step sE hS).append (.cons ((((rd.step aM gZ).step bZ s3s)).step sE hS) .nil)
theorem Hs (hu:X.A.units+180<cLine)(ha:JE X C sub E a x)(hb:JE X C sub E b y)(hm:behindInMarks .In b=false:=by kernel_rfl):JT X C sub E (.Compare a [.In] [b] pos) (.din false x y):=⟨WN (neg:=false) hu ha.h hb.h hm⟩
theorem HE (hu:X.A.units+180<cLine)(ha:JE X C sub E a x)(hb:JE X C sub E b y)(hp:rD b:=by intro _ _;rfl):JE X C sub E (.Subscript a b pos) (.dix x y):=⟨Az hu ha.h hb.h hp⟩
theorem Hr:JE X C sub E (.Dict [] [] pos) .dnew:=⟨XZ⟩
theorem Hi (m:bP C C)(hu:X.A.units+180<cLine)(ho:JE X C sub EF o y)(hi:JE X C sub EF i z)(hv:JE X C sub EF value x)(hs:swapsWith value (some (.Subscript o i pos')) pos.line X.env=pure false:=by kernel_rfl):
 JS X C sub (.Assign [.Subscript o i pos'] value pos) (.asg (.dk y z) x):=⟨El m hu ho.h hi.h hv.h hs⟩
end
end L3
end
section
namespace L3
open PySem PySem.Spec PyProof.Rows L2
theorem VP {P:Program}{w:World}{K:PySem.W.Frag}{mg:Str->Option Value}{base:Heap}{G:Prog}{r k f:Nat}{fn:Fn}{x qual:Str}{st:Stmt}{a:Addr}{fd:FuncData}{N ps:List Str}(F:AV K x qual st a fd)(S:sA N ps (aP st))
  (hG:G.fns f=some fn)(hp:fn.np=ps.length)(hl:fn.nl=N.length)
  (hb:∀(bO:Value)(A:Around)(outer:List Env)(s:Shared)(H:Hp)(E:L2.XK),dA r (A.deeper (envOfC qual (aP st) s.heap.objs.size a bO)) ->
   yB (lL gA P w K mg base N qual (aP st) a bO A outer s H E).uG (aN G k) G.sub (iC st) fn.body):
  dX P w K mg base gA (r+1) a fd ps (eU K (aN G (k+1)) f):=by
 refine F.ok S (fun vs H Q E h=>?_) (fun bO A outer s H vs Q E hr h=>?_)
 ·obtain⟨ds,aA,R,r,_,h,_⟩:=h
  simp only[aN,hG]at h
  rw[<-r.length,h.1,hp]
 ·obtain⟨ds,aA,R,r,ok,h,hq⟩:=h
  simp only[aN,hG]at h
  refine⟨_,(hb bO A outer s H E hr).h,?_⟩
  refine⟨start fn.np fn.nl ds,aA,_,?_,ok,h.2,⟨fun σ' H' dF aT sr s' fJ q=>?_,fun v H' z=>hq v H' z,fun _ _ _ _ _ _ _ q=>q,fun _ _ _ _ _ _ _ q=>q,fun _ _ _ q=>q⟩⟩
  ·rw[hl];exact MH r h.1
  ·exact hq _ _ ⟨.non,aT,s',fJ,.non,q⟩
noncomputable def pB (s:Stmt)(j:Nat):Stmt:=match s with
 |.ClassDef _ _ _ body ..=>body.getD j (.Pass ⟨0,0,0,0⟩)
 |_=>.Pass ⟨0,0,0,0⟩
inductive At where
 |top
 |cK (c:List Nat)
 |init (c:List Nat)
noncomputable def YA (K:PySem.W.Frag)(mg:Str->Option Value)(n:Str)(a:Addr):At->Prop
 |.top=>mg n=some (.ref a)
 |.cK c=>∃ C0,clsAt K c C0/\rA K C0/\BZ K C0 n a
 |.init c=>∃ C0,clsAt K c C0/\mg ⟨c.toArray⟩=some (.ref C0)/\Mk K C0 a
structure zI (K:PySem.W.Frag)(mg:Str->Option Value)(nf:Nat)(nm qn:Nat->Str)(ps:Nat->List Str)(st:Nat->Stmt)(at_:Nat->At) where
 a:Nat->Addr
 fd:Nat->FuncData
 fn:∀ i,i<nf->AV K (nm i) (qn i) (st i) (a i) (fd i)
 bi:∀ i,i<nf->Binds K (fd i) (ps i) []
 mg:∀ i,i<nf->YA K mg (nm i) (a i) (at_ i)
theorem G7 {P:Program}{w:World}{K:PySem.W.Frag}{mg:Str->Option Value}{base:Heap}{G:Prog}{nf:Nat}{nm qn:Nat->Str}{ps:Nat->List Str}{st:Nat->Stmt}{at_:Nat->At}(T:zI K mg nf nm qn ps st at_)
 (step:∀ k,(∀ i,i<nf->dX P w K mg base gA (2*k) (T.a i) (T.fd i) (ps i) (eU K (aN G k) i))->∀ i,i<nf->dX P w K mg base gA (2*k+1+1) (T.a i) (T.fd i) (ps i) (eU K (aN G (k+1)) i)):
 ∀ k i,i<nf->dX P w K mg base gA (2*k) (T.a i) (T.fd i) (ps i) (eU K (aN G k) i)
 |0,i,_=>SG
 |k+1,i,h=>step k (G7 T step k) i h
noncomputable def BV (n q:Str)(ps:List Str)(st:Stmt):Prop:=∀(kV doc pm:Value)(an:Option Addr)(bO ct:Value)(us:List Value),us.length=ps.length->bindArgs (PySem.W.fnOf n q (kT st) (iC st) (aP st) .none kV doc pm an bO ct) ⟨us,[]⟩=pure (ps.zip us)
noncomputable def sJ (K:PySem.W.Frag)(mg:Str->Option Value)(n q:Str)(st:Stmt)(at_:At):Prop:=∃ a fd,AV K n q st a fd/\YA K mg n a at_
theorem Z2 {K:PySem.W.Frag}{h:Heap}{mg:Str->Option Value}(X:K.In h)(G:h.Ns mainGlobals mg){n:Str}{st:Stmt}{f:Addr}{oc:Value}{od an:Option Addr}{sl:Array (Option Value)}{kV dc pm cd ct:Value}
 (a:PySem.W.nsIn K mainGlobals n=some (some (.ref f)))(l:K.lookup f=some ⟨oc,od,.func (PySem.W.fnOf n n (kT st) (iC st) (aP st) .none kV dc pm an cd ct),sl⟩)(c:PySem.W.codeIn K cd n=true)(k:PySem.W.keepIn K (.ref f)=true):sJ K mg n n st .top :=
 ⟨f,_,EO l c k,PySem.W.mg_of X G a⟩
theorem Dd {K:PySem.W.Frag}{h:Heap}{mg:Str->Option Value}(X:K.In h)(G:h.Ns mainGlobals mg){n q:Str}{c:List Nat}{C:Addr}{st:Stmt}{f:Addr}{oc:Value}{od an:Option Addr}{sl:Array (Option Value)}{kV dc pm cd ct:Value}
 (cl:PySem.W.nsIn K mainGlobals ⟨c.toArray⟩=some (some (.ref C)))(pg:PySem.W.plainGet K C Str.empty=true)(hd:PySem.W.hasDictIn K C=true)(po:PySem.W.plainOver K C=true)(sa:PySem.W.findIn K (.ref C) "__setattr__" = some (some (.builtin "object.__setattr__")))
 (a:PySem.W.findIn K (.ref C) n=some (some (.ref f)))(fn:PySem.W.isFn K (.ref f)=true)
 (l:K.lookup f=some ⟨oc,od,.func (PySem.W.fnOf n q (kT st) (iC st) (aP st) .none kV dc pm an cd ct),sl⟩)(cc:PySem.W.codeIn K cd q=true)(k:PySem.W.keepIn K (.ref f)=true):sJ K mg n q st (.cK c) :=
 ⟨f,_,EO l cc k,C,cl,⟨pg,hd,po,sa⟩,⟨a,fn,k⟩⟩
theorem Z8 {K:PySem.W.Frag}{h:Heap}{mg:Str->Option Value}(X:K.In h)(G:h.Ns mainGlobals mg){q:Str}{c:List Nat}{C:Addr}{st:Stmt}{f:Addr}{oc:Value}{od an:Option Addr}{sl:Array (Option Value)}{kV dc pm cd ct:Value}
 (cl:PySem.W.nsIn K mainGlobals ⟨c.toArray⟩=some (some (.ref C)))(mk:PySem.W.makesIn K C=true)(kp:PySem.W.keepIn K (.ref C)=true)
 (a:PySem.W.findIn K (.ref C) "__init__" = some (some (.ref f)))(fn:PySem.W.isFn K (.ref f)=true)
 (l:K.lookup f=some ⟨oc,od,.func (PySem.W.fnOf "__init__" q (kT st) (iC st) (aP st) .none kV dc pm an cd ct),sl⟩)(cc:PySem.W.codeIn K cd q=true)(k:PySem.W.keepIn K (.ref f)=true):sJ K mg "__init__" q st (.init c) :=
 ⟨f,_,EO l cc k,C,cl,PySem.W.mg_of X G cl,⟨mk,a,fn,kp⟩⟩
theorem YR {K:PySem.W.Frag}{c:List Nat}{C:Addr}(cl:PySem.W.nsIn K mainGlobals ⟨c.toArray⟩=some (some (.ref C)))(pg:PySem.W.plainGet K C Str.empty=true)(hd:PySem.W.hasDictIn K C=true)(po:PySem.W.plainOver K C=true)(sa:PySem.W.findIn K (.ref C) "__setattr__" = some (some (.builtin "object.__setattr__"))):tL K c:=⟨C,cl,pg,hd,po,sa⟩
theorem WC {K:PySem.W.Frag}{c f:List Nat}{C:Addr}(cl:PySem.W.nsIn K mainGlobals ⟨c.toArray⟩=some (some (.ref C)))(na:PySem.W.findIn K (.ref C) ⟨f.toArray⟩=some none):oQ K c f:=⟨fun C' h=>by cases clsAt.inj h cl;exact na⟩
theorem HR {K:PySem.W.Frag}{mg:Str->Option Value}{nm qn:Nat->Str}{ps:Nat->List Str}{st:Nat->Stmt}{at_:Nat->At}:∀(nf:Nat),(∀ i,i<nf->BV (nm i) (qn i) (ps i) (st i))->(∀ i,i<nf->sJ K mg (nm i) (qn i) (st i) (at_ i))->FuncData->Nonempty (zI K mg nf nm qn ps st at_)
 |0,_,_,d=>⟨⟨fun _=>0,fun _=>d,fun i h=>absurd h (by omega),fun i h=>absurd h (by omega),fun i h=>absurd h (by omega)⟩⟩
 |nf+1,B,H,d=>by
  obtain⟨T⟩:=HR nf (fun i h=>B i (by omega)) (fun i h=>H i (by omega)) d
  obtain⟨a,fd,hF,hm⟩:=H nf (by omega)
  refine⟨⟨fun i=>if i=nf then a else T.a i,fun i=>if i=nf then fd else T.fd i,fun i h=>?_,fun i h=>?_,fun i h=>?_⟩⟩
  ·by_cases e:i=nf
   ·subst e;simpa using hF
   ·simpa only[if_neg e]using T.fn i (by omega)
  ·by_cases e:i=nf
   ·subst e;simpa using hF.binds (B i (by omega))
   ·simpa only[if_neg e]using T.bi i (by omega)
  ·by_cases e:i=nf
   ·subst e;simpa using hm
   ·simpa only[if_neg e]using T.mg i (by omega)
theorem KE {K:PySem.W.Frag}{n q x:Str}{st:Stmt}{a:Addr}{fd:FuncData}(F:AV K n q st a fd)(h:BV n q [x] st)(s:Shared)(u:Value):BindsTo s fd ⟨[u],[]⟩ [(x,u)]:=by
 obtain⟨oc,od,kV,doc,pm,an,bO,ct,osl,rfl,lk,hcd⟩:=F.ex
 exact .of_eq (h kV doc pm an bO ct [u] rfl)
theorem YI {l:PySem.W.OpenLaw}{q:Program}{loose:List Str}{XP:(Str->Option Value)->Heap->Prop}{YP:World->Heap->Prop}{d:DefRec}{K:Params->PySem.W.Frag}{G:Prog}{r k f:Nat}{x:Str}(hr:dA r callerA)(NL:∀ ns:List Int,ns.length<=63->aN G k f [.bB (ns.map .int)] (fun _=>none) (fun d _=>d=.bl true) fun _ _=>False)(hn:l.most=some 63)(hdf:d.params.defaults=[])
 (hY:∀(w:World)(h:Heap),YP w h->(K w.params).In h)
 (F:∀(w:World)(mg:Str->Option Value)(fa:Addr)(h:Heap),(K w.params).In h->h.Ns mainGlobals mg->mg d.name=some (.ref fa) ->
  ∃ fd:FuncData,(∀(s:Shared)(u:Value),BindsTo s fd ⟨[u],[]⟩ [(x,u)])/\∀ base:Heap,(K w.params).In base->base.Ns mainGlobals mg->dX l.prog w (K w.params) mg base gA r fa fd [x] (eU (K w.params) (aN G k) f)):
 PySem.W.WalkO q loose XP YP l.row.toRowW d [] (fun f vs=>PySem.call f vs) :=
 L2.TX (n:=63) (k:=r) (x:=x) (CX:=fun _=>gA) (sp:=fun w=>eU (K w.params) (aN G k) f) hn (by decide) hdf hr hY F (fun _ H a ns hl hO hS=>UU NL H a ns hl hO hS) fun _ _ _ _ _ z=>z
end L3
end
section
namespace L3
section
variable {C:bC}{sub:Nat->Nat->Bool}{E:XK}{σ:St}{st:aB}{Q:VK}{QQ:List D->aB->Prop}{QB:Bool->aB->Prop}{P:fR}{e a b c:Ex}{es:List Ex}{i:Nat}{d:D}{M:St->aB->Prop}
theorem EX:aH C sub E (.c d) σ st Q=Q d st:=rfl
theorem B7:aH C sub E (.v i) σ st Q=fE σ i fun d=>Q d st:=rfl
theorem By:aH C sub E (.tup es) σ st Q=bN C sub E es σ st fun ds aA=>Q (.tup ds) aA:=rfl
theorem Ad:aH C sub E (.lst es) σ st Q=bN C sub E es σ st fun ds aA=>gB ds aA Q:=rfl
theorem JL {op:sC}:aH C sub E (.bin op a b) σ st Q=aH C sub E a σ st fun x aC=>aH C sub E b σ aC fun y aG=>hZ op x y aG Q:=rfl
theorem ZM:aH C sub E (.neg a) σ st Q=aH C sub E a σ st fun x aC=>vQ x aC Q:=rfl
theorem Ag {op:pE}:aH C sub E (.cmp op a b) σ st Q=aH C sub E a σ st fun x aC=>aH C sub E b σ aC fun y aG=>cR op x y aG fun k=>Q (.bl k) aG:=rfl
theorem SO {op op':pE}:aH C sub E (.chain op op' a b c) σ st Q=aH C sub E a σ st fun x aC=>aH C sub E b σ aC fun y aG=>cR op x y aG fun k =>
 if k=true then aH C sub E c σ aG fun z aR=>cR op' y z aR fun k=>Q (.bl k) aR else Q (.bl false) aG:=rfl
theorem Ar:aH C sub E (.and_ a b) σ st Q=aH C sub E a σ st fun x aC=>dI x aC fun k=>if k=true then aH C sub E b σ aC Q else Q x aC:=rfl
theorem Er:aH C sub E (.or_ a b) σ st Q=aH C sub E a σ st fun x aC=>dI x aC fun k=>if k=true then Q x aC else aH C sub E b σ aC Q:=rfl
theorem Bo:aH C sub E (.not_ a) σ st Q=aH C sub E a σ st fun x aC=>dI x aC fun k=>Q (.bl (!k)) aC:=rfl
theorem Ck:aH C sub E (.ite c a b) σ st Q=aH C sub E c σ st fun x aC=>dI x aC fun k=>if k=true then aH C sub E a σ aC Q else aH C sub E b σ aC Q:=rfl
theorem Y6 {f:Nat}:aH C sub E (.call f es) σ st Q=bN C sub E es σ st fun ds aA=>C f ds aA Q E:=rfl
theorem VM {f:BI}:aH C sub E (.bi f es) σ st Q=bN C sub E es σ st fun ds aA=>gJ f ds aA Q:=rfl
theorem Ci {ts:List Ty}:aH C sub E (.isi a ts) σ st Q=aH C sub E a σ st fun x aC=>tI sub x aC ts fun k=>Q (.bl k) aC:=rfl
theorem VD {m:MT}:aH C sub E (.cK m a es) σ st Q=aH C sub E a σ st fun x aC=>uY m x aC/\bN C sub E es σ aC fun ds aG=>iS m x ds aG Q:=rfl
theorem zK:aH C sub E (.ix a b) σ st Q=aH C sub E a σ st fun x aC=>aH C sub E b σ aC fun y aG=>nQ x y aG Q:=rfl
theorem En {lo hi:List Ex}:aH C sub E (.sl a lo hi) σ st Q=aH C sub E a σ st fun x aC=>bN C sub E lo σ aC fun ls aG=>mK ls fun l=>bN C sub E hi σ aG fun hs aR=>mK hs fun h=>A1 x l h aR Q:=rfl
theorem ZY {f:BI}{k:IK}:aH C sub E (.bit f k es) σ st Q=bN C sub E es σ st fun ds aC=>fT (some k) ds aC fun _ xs=>eB f xs aC Q:=rfl
theorem V6 {n:Nat}{aY tg:List Nat}{one:Bool}{k:Option IK}{aD ifs:List Ex}:aH C sub E (.comp n aY tg one k aD ifs e) σ st Q=bN C sub E aD σ st fun ds aC=>fT k ds aC fun as xs =>
 iR (same as aC) (fun x aG K=>jG one tg x (List.replicate n none++aY.map fun i=>(σ[i]?).getD none) fun σ' =>
 gO C sub E ifs σ' aG fun b aR=>if b=true then aH C sub E e σ' aR fun d cP=>K (some d) cP else K none aR) xs [] aC fun ds dE=>gB ds dE Q:=rfl
theorem LM:bN C sub E [] σ st QQ=QQ [] st:=rfl
theorem HX:bN C sub E (e::es) σ st QQ=aH C sub E e σ st fun d aA=>bN C sub E es σ aA fun ds aT=>QQ (d::ds) aT:=rfl
theorem Z3:gO C sub E [] σ st QB=QB true st:=rfl
theorem W0:gO C sub E (e::es) σ st QB=aH C sub E e σ st fun d aA=>dI d aA fun k=>if k=true then gO C sub E es σ aA QB else QB false aA:=rfl
theorem ZQ:wpS C sub (.ex e) P σ st=aH C sub (fun c aA=>P.ex c σ aA) e σ st fun _ aA=>P.nx σ aA:=rfl
theorem rY {t:Tg}:wpS C sub (.asg t e) P σ st=aH C sub (fun c aA=>P.ex c σ aA) e σ st fun d aA=>lH C sub (fun c aA=>P.ex c σ aA) t d σ aA P.nx:=rfl
theorem WO {op:sC}:wpS C sub (.aug i op e) P σ st=fE σ i fun x=>aH C sub (fun c aA=>P.ex c σ aA) e σ st fun y aA=>notRef x/\hZ op x y aA fun d aT=>P.nx (σ.set i (some d)) aT:=rfl
theorem XT {x y:List Sx}:wpS C sub (.iff e x y) P σ st=aH C sub (fun c aA=>P.ex c σ aA) e σ st fun d aA=>dI d aA fun k=>if k=true then cH C sub x P σ aA else cH C sub y P σ aA:=rfl
theorem W3 {t:Tg}{k:Option IK}{b:List Sx}:wpS C sub (.iX t k es b) P σ st=bN C sub (fun c aA=>P.ex c σ aA) es σ st fun ds aC=>fT k ds aC fun as xs=>oT (same as aC) (fun x next σ st=>lH C sub (fun c aA=>P.ex c σ aA) t x σ st fun σ' aA=>cH C sub b { P with nx:=next,ct:=next,bk:=P.nx } σ' aA) P.nx xs σ aC:=rfl
theorem LD:wpS C sub (.ret e) P σ st=aH C sub (fun c aA=>P.ex c σ aA) e σ st P.rt:=rfl
theorem WY:wpS C sub .brk P σ st=P.bk σ st:=rfl
theorem VR:wpS C sub .cnt P σ st=P.ct σ st:=rfl
theorem RX:wpS C sub .pass P σ st=P.nx σ st:=rfl
theorem wU:lH C sub E (.nm i) d σ st M=M (σ.set i (some d)) st:=rfl
theorem ZZ {is:List Nat}:lH C sub E (.tp is) d σ st M=jG false is d σ fun σ'=>M σ' st:=rfl
theorem Ao:lH C sub E (.ix a b) d σ st M=aH C sub E a σ st fun x aC=>aH C sub E b σ aC fun y aG=>zB x y d aG fun aR=>M σ aR:=rfl
theorem Z9 {c f:List Nat}:lH C sub E (.fl c f a) d σ st M=aH C sub E a σ st fun x aC=>zX c f d x aC fun aG=>M σ aG:=rfl
theorem Cy:lH C sub E (.dk a b) d σ st M=aH C sub E a σ st fun x aC=>aH C sub E b σ aC fun y aG=>xX y d x aG fun aR=>M σ aR:=rfl
theorem Cm {c f:List Nat}:aH C sub E (.fld c f a) σ st Q=aH C sub E a σ st fun x aC=>nN c f x aC Q:=rfl
theorem Fy {c:List Nat}{f:Nat}:aH C sub E (.mk c f es) σ st Q=bN C sub E es σ st fun ds aC=>∀ p,aC p=none->C f (.ref p::ds) (put aC p (.ins c [])) (fun d aG=>d=.non/\Q (.ref p) aG) E:=rfl
theorem Cz {c m:List Nat}{f:Nat}:aH C sub E (.mcl c m f a es) σ st Q=aH C sub E a σ st fun x aC=>BK c m x aC/\bN C sub E es σ aC fun ds aG=>C f (x::ds) aG Q E:=rfl
theorem XH:aH C sub E .dnew σ st Q = ∀ p,st p=none->Q (.ref p) (put st p (.tab [] [])):=rfl
theorem Cj {neg:Bool}:aH C sub E (.din neg a b) σ st Q=aH C sub E a σ st fun x aC=>aH C sub E b σ aC fun y aG=>tJ x y aG fun k=>Q (.bl (if neg=true then !k else k)) aG:=rfl
theorem ZF:aH C sub E (.dix a b) σ st Q=aH C sub E a σ st fun y aC=>aH C sub E b σ aC fun x aG=>oS x y aG Q:=rfl
theorem fF {c f:List Nat}{p:Nat}{fs:List (List Nat×D)}(h:st p=some (.ins c fs)){x:D}(hx:cC fs f=some x):nN c f (.ref p) st Q=Q x st:=by
 simp only[nN,lB,h,hx,cQ,true_and]
theorem mI {c f:List Nat}{p:Nat}{fs:List (List Nat×D)}{R:aB->Prop}(h:st p=some (.ins c fs))(hl:fs.length<900):zX c f d (.ref p) st R=R (put st p (.ins c (pJ f d fs))):=by
 simp only[zX,lB,h,hl,true_and]
theorem rZ {c m:List Nat}{p:Nat}{fs:List (List Nat×D)}(h:st p=some (.ins c fs))(hm:cC fs m=none):BK c m (.ref p) st=True:=by
 simp only[BK,lB,h,hm,and_self]
theorem UC {x:D}{p:Nat}{ks vs:List D}{R:Bool->Prop}(h:st p=some (.tab ks vs))(hx:keyed x):tJ x (.ref p) st R=R (ks.any fun k=>bG k x):=by
 simp only[tJ,tabAt,h,hx,true_and]
theorem zS {x v:D}{p:Nat}{ks vs:List D}(h:st p=some (.tab ks vs))(hx:keyed x)(hv:kH ks vs x=some v):oS x (.ref p) st Q=Q v st:=by
 simp only[oS,tabAt,h,hx,hv,cQ,true_and]
theorem Z4 {x v:D}{p:Nat}{ks vs:List D}{R:aB->Prop}(h:st p=some (.tab ks vs))(hx:keyed x)(hn:(ks.any fun k=>bG k x)=false)(hl:ks.length<10000):xX x v (.ref p) st R=R (put st p (.tab (ks++[x]) (vs++[v]))):=by
 simp only[xX,tabAt,h,hx,hn,hl,true_and]
end
section
variable {d:D}{r:St}{R:D->Prop}{o0 o1 o2 o3 o4 o5 o6 o7 o8 o9 qO sF QV:Option D}
theorem BO:fE (some d::r) 0 R=R d:=rfl
theorem X3:fE (o0::some d::r) 1 R=R d:=rfl
theorem Dz:fE (o0::o1::some d::r) 2 R=R d:=rfl
theorem Fg:fE (o0::o1::o2::some d::r) 3 R=R d:=rfl
theorem Fu:fE (o0::o1::o2::o3::some d::r) 4 R=R d:=rfl
theorem Eh:fE (o0::o1::o2::o3::o4::some d::r) 5 R=R d:=rfl
theorem Gs:fE (o0::o1::o2::o3::o4::o5::some d::r) 6 R=R d:=rfl
theorem Fo:fE (o0::o1::o2::o3::o4::o5::o6::some d::r) 7 R=R d:=rfl
theorem Eg:fE (o0::o1::o2::o3::o4::o5::o6::o7::some d::r) 8 R=R d:=rfl
theorem Gh:fE (o0::o1::o2::o3::o4::o5::o6::o7::o8::some d::r) 9 R=R d:=rfl
theorem Bh:fE (o0::o1::o2::o3::o4::o5::o6::o7::o8::o9::some d::r) 10 R=R d:=rfl
theorem Z5:fE (o0::o1::o2::o3::o4::o5::o6::o7::o8::o9::qO::some d::r) 11 R=R d:=rfl
theorem Co:fE (o0::o1::o2::o3::o4::o5::o6::o7::o8::o9::qO::sF::some d::r) 12 R=R d:=rfl
theorem Aj:fE (o0::o1::o2::o3::o4::o5::o6::o7::o8::o9::qO::sF::QV::some d::r) 13 R=R d:=rfl
end
end L3
end
section
open L3 PySem
local macro_rules|`(tactic| walk_at"wpe")=>`(tactic| simp only[↓EX,↓B7,↓By,↓Ad,↓JL,↓ZM,↓Ag,↓SO,↓Ar,↓Er,↓Bo,↓Ck,↓Y6,↓VM,↓Ci,↓VD,↓zK,↓En,↓ZY,↓V6,↓Cm,↓Fy,↓Cz,↓XH,↓Cj,↓ZF,↓Z9,↓Cy,↓LM,↓HX,↓Z3,↓W0,↓ZQ,↓rY,↓WO,↓XT,↓W3,↓LD,↓WY,↓VR,↓RX,↓wU,↓ZZ,↓Ao,↓BO,↓X3,↓Dz,↓Fg,↓Fu,↓Eh,↓Gs,↓Fo,↓Eg,↓Gh,↓Bh,↓Z5,↓Co,↓Aj,↓Y3,↓SI,↓SX,↓R9,↓O7,↓U4,↓XS,↓YK,↓YF,↓cmp_gt,↓YX,↓SD,↓RJ,↓OV,↓OH,↓JV,↓GU,↓KJ,↓GZ,↓D1,↓GS,↓add_int,↓add_str,↓TM,↓SJ,↓sub_int,↓mul_int,↓Q2,↓NX,↓mod_int,↓pow_int,↓neg_int,↓RN,↓S0,iM,↓jO,↓HQ,↓FH,↓QY,DY,NR,PB,Gf,Fx,↓bA,↓NC,↓UZ,↓W9,↓GO,↓UL,Z6,↓SQ,↓OM,↓N1,↓MG,↓pG,↓rW,↓BU,↓N5,↓KN,↓JP,↓TQ,↓LV,↓Q3,↓GK,↓len_str,↓IA,↓MB,↓L8,↓S5,↓U7,↓XM,↓UI,↓G8,↓FP,↓XX,↓TV,↓B9,↓U5,↓YC,↓Q6,↓NN,↓WZ,↓SA,↓TJ,↓zO,↓J7,↓SE,↓qL,↓vG,↓FA,↓G9,↓YN,↓MD,List.map_cons,List.map_nil,List.cons_append,List.nil_append,List.replicate,List.append_nil,if_true,if_false,Bool.not_true,Bool.not_false,Bool.false_eq_true,reduceIte,List.set_cons_zero,List.set_cons_succ,true_and,and_true,tQ,IM,LR,IF,CJ,CS,D3,CP,gQ,SF,XA,SS,Option.getD_some,List.getElem?_cons_zero,List.getElem?_cons_succ,decide_eq_true_eq,Bool.and_eq_true,List.zip_cons_cons,List.zip_nil_left,List.zip_nil_right,List.foldl_cons,List.foldl_nil,List.length_cons,List.length_nil])
local macro_rules|`(tactic| walk_at"st")=>`(tactic| ((try dsimp only);(first|refine fQ ?_|rw[MQ]);(try walk_at"wpe")))
local macro_rules|`(tactic| walk_at"ex")=>`(tactic| ((try dsimp only);(try walk_at"wpe")))
section
namespace L3
open PySem
theorem aS {G:Prog}{f k:Nat}{fn:Fn}{ds:List D}{st:aB}{Q:VK}{E:XK}(h:G.fns f=some fn):aN G (k+1) f ds st Q E=(ds.length=fn.np/\cH (aN G k) G.sub fn.body ⟨fun _ aA=>Q .non aA,Q,fun _ _=>False,fun _ _=>False,fun c _ aA=>E c aA⟩ (start fn.np fn.nl ds) st):=by
 simp only[aN,h]
noncomputable def bI (as:List Nat)(st aA:aB):Prop:=∀ a o,a∉as->st a=some o->aA a=some o
theorem bI.refl {as:List Nat}{st:aB}:bI as st st:=fun _ _ _ h=>h
theorem bI.trans {as:List Nat}{a b c:aB}(h:bI as a b)(h':bI as b c):bI as a c:=fun x o n e=>h' x o n (h x o n e)
theorem bI.mono {as bs:List Nat}{st aA:aB}(h:bI as st aA)(s:∀ a∈as,a∈bs):bI bs st aA:=fun x o n e=>h x o (fun z=>n (s x z)) e
theorem Ext.keep {as:List Nat}{st aA:aB}(h:Ext st aA):bI as st aA:=fun x o _ e=>h x o e
theorem bI.put {as:List Nat}{st:aB}{a:Nat}{o:MO}(h:a∈as):bI as st (put st a o):=fun x u n e=>by rw[bH (fun z=>n (by rw[z];exact h))];exact e
noncomputable def tH (ns:List Int)(k:Int):Int:=if k<ns.length then(ns[k.toNat]?).getD 0 else if ns=[]then 0 else(ns[(k % ns.length).toNat]?).getD 0*31+k
noncomputable def iT (ns:List Int)(k many:Int):Int :=
 let d:=(tH ns k+7919*k+1)*48271 % 2147483647
 (d*d+7*d+k) % 2147483629 % many
theorem fM {ns:List Int}{k many:Int}(h:0<many):0<=iT ns k many:=Int.emod_nonneg _ (by omega)
theorem fN {ns:List Int}{k many:Int}(h:0<many):iT ns k many<many:=Int.emod_lt_of_pos _ h
noncomputable def lJ:Fn:=⟨2,2,[.iff (.cmp .lt (.v 1) (.bi .len [(.v 0)])) [.ret (.ix (.v 0) (.v 1))] [],.iff (.cmp .eq (.v 0) (.lst [])) [.ret (.c (.int 0))] [],
 .ret (.bin .add (.bin .mul (.ix (.v 0) (.bin .mod (.v 1) (.bi .len [(.v 0)]))) (.c (.int 31))) (.v 1))]⟩
noncomputable def kC (ic:Nat):Fn:=⟨3,4,[.asg (.nm 3) (.bin .mod (.bin .mul (.bin .add (.bin .add (.call ic [(.v 0),(.v 1)]) (.bin .mul (.c (.int 7919)) (.v 1))) (.c (.int 1))) (.c (.int 48271))) (.c (.int 2147483647))),
 .ret (.bin .mod (.bin .mod (.bin .add (.bin .add (.bin .mul (.v 3) (.v 3)) (.bin .mul (.c (.int 7)) (.v 3))) (.v 1)) (.c (.int 2147483629))) (.v 2))]⟩
noncomputable def qD (im:Nat):Fn:=⟨3,3,[.asg (.ix (.v 1) (.c (.int 0))) (.bin .add (.ix (.v 1) (.c (.int 0))) (.c (.int 1))),.ret (.call im [(.v 0),(.ix (.v 1) (.c (.int 0))),(.v 2)])]⟩
theorem zP (ns:List Int):bL (ns.map .int)=true/\cG (ns.map .int)=0:=by
 induction ns with
 |nil=>exact⟨rfl,rfl⟩
 |cons n r ih=>exact⟨by simp only[List.map_cons,bL,aX,ih.1,Bool.and_self],by simp only[List.map_cons,cG,cI,ih.2,Nat.max_self]⟩
theorem HK {ns:List Int}{k:Int}(h0:0<=k)(h1:k<ns.length):eV (ns.map D.int) k=some (.int ((ns[k.toNat]?).getD 0)):=by
 obtain⟨n,rfl⟩:∃ n:Nat,k=n:=⟨k.toNat,by omega⟩
 rw[eD (by simp;omega)]
 simp only[List.getElem?_map,Int.toNat_natCast]
 rw[List.getElem?_eq_getElem (by omega)]
 rfl
section
variable {G:Prog}{k ic im cX:Nat}{st:aB}{Q:VK}{E:XK}{ns:List Int}
theorem RM (hc:G.fns ic=some lJ){i:Int}(hi:0<=i)(hQ:∀ aA,Ext st aA->Q (.int (tH ns i)) aA):aN G (k+1) ic [.bB (ns.map .int),.int i] st Q E:=by
 rw[aS hc]
 simp only[lJ,start]
 refine⟨rfl,?_⟩
 refine fQ ?_
 walk_at"wpe"
 simp only[List.length_map]
 by_cases h:i<ns.length
 ·simp only[h,decide_true,if_true]
  refine fQ ?_
  walk_at"wpe"
  rw[HK hi h]
  walk_at"wpe"
  have:=hQ st .refl
  simp only[tH,h,if_true]at this
  exact this
 ·simp only[h,decide_false,Bool.false_eq_true,if_false,aE]
  refine fQ ?_
  walk_at"wpe"
  refine⟨Nat.zero_le _,fun p hp=>?_⟩
  have hx:Ext st (put st p (.lst [])):=Ext.new hp
  dsimp only
  have e1:bK (put st p (.lst [])) (.bB (ns.map .int)) (.ref p)=ns.isEmpty:=by
   simp only[bK,aV,DI]
   cases ns with
   |nil=>rfl
   |cons n r=>rfl
  rw[e1]
  refine⟨⟨?_,Nat.zero_le _⟩,⟨?_,Nat.zero_le _⟩,?_⟩
  ·simp only[fK,(zP ns).1,(zP ns).2,Bool.true_and];rfl
  ·simp only[fK,aV,LL];rfl
  cases ns with
  |nil =>
   simp only[List.isEmpty_nil,if_true]
   refine fQ ?_
   walk_at"wpe"
   have:=hQ _ hx
   simp only[tH,h,if_false,if_true]at this
   exact this
  |cons n r =>
   simp only[List.isEmpty_cons,Bool.false_eq_true,if_false,aE]
   refine fQ ?_
   have hl:(0:Int)<((n::r).length:Int):=by simp only[List.length_cons];omega
   simp only[LD,JL,zK,B7,EX,VM,HX,LM,UN,X9,LV,GK,mod_int,HQ,List.length_map,List.map_cons,List.cons_append,List.nil_append,List.map_nil]
   refine⟨by simpa using hl,?_⟩
   have hm0:0<=i % ((n::r).length:Int):=Int.emod_nonneg _ (by omega)
   have hm1:i % ((n::r).length:Int)<(n::r).length:=Int.emod_lt_of_pos _ hl
   have:=HK (ns:=n::r) hm0 hm1
   simp only[List.map_cons,List.length_cons]at this
   simp only[List.length_cons,List.length_map]
   rw[this]
   walk_at"wpe"
   refine⟨.inr ⟨by omega,by omega⟩,?_⟩
   have:=hQ _ hx
   simp only[tH,h,if_false]at this
   simpa using this
theorem yX (hm:G.fns im=some (kC ic))(hc:G.fns ic=some lJ){i many:Int}(hi:0<=i)(hmany:0<many)(hQ:∀ aA,Ext st aA->Q (.int (iT ns i many)) aA):aN G (k+2) im [.bB (ns.map .int),.int i,.int many] st Q E:=by
 rw[aS hm]
 simp only[kC,start]
 refine⟨rfl,?_⟩
 refine fQ ?_
 walk_at"wpe"
 refine RM hc hi fun aA e=>?_
 walk_at"wpe"
 refine⟨.inl ⟨by omega,by omega⟩,.inr ⟨by omega,by omega⟩,by omega,?_⟩
 refine fQ ?_
 walk_at"wpe"
 have d0:0<=(tH ns i+7919*i+1)*48271 % 2147483647:=Int.emod_nonneg _ (by omega)
 have d1:(tH ns i+7919*i+1)*48271 % 2147483647<2147483647:=Int.emod_lt_of_pos _ (by omega)
 refine⟨.inl ⟨by omega,by omega⟩,.inl ⟨by omega,by omega⟩,by omega,hmany,?_⟩
 exact hQ aA e
theorem eR (hn:G.fns cX=some (qD im))(hm:G.fns im=some (kC ic))(hc:G.fns ic=some lJ){a:Nat}{i many:Int}(ha:st a=some (.lst [.int i]))(hi:0<=i)(hmany:0<many)
 (hQ:∀ aA,bI [a] st aA->aA a=some (.lst [.int (i+1)])->Q (.int (iT ns (i+1) many)) aA):aN G (k+3) cX [.bB (ns.map .int),.ref a,.int many] st Q E:=by
 rw[aS hn]
 simp only[qD,start]
 refine⟨rfl,?_⟩
 refine fQ ?_
 walk_at"wpe"
 rw[eI ha]
 walk_at"wpe"
 rw[aF ha]
 have e0:lS [D.int i].length 0=some 0:=rfl
 simp only[e0,bA,List.set_cons_zero]
 refine fQ ?_
 walk_at"wpe"
 rw[eI aV]
 walk_at"wpe"
 refine yX hm hc (by omega) hmany fun aA e=>?_
 refine hQ aA (fun x o n h=>e x o (by rw[bH (by simpa using n)];exact h)) (e a _ aV)
end
end L3
end
section
namespace L3
open PySem
inductive W1 where
 |not|before|once|sofar
 deriving DecidableEq
inductive W2 where
 |and|or|aW|same|since
 deriving DecidableEq
inductive Sy where
 |yes|no|cB (n:List Nat)|one (w:W1)(s:Sy)|two (w:W2)(s t:Sy)
 deriving DecidableEq
noncomputable def c1:W1->List Nat
 |.not=>W "not"
 |.before=>W "before"
 |.once=>W "once"
 |.sofar=>W "sofar"
noncomputable def c2:W2->List Nat
 |.and=>W "and"
 |.or=>W "or"
 |.aW=>W "then"
 |.same=>W "same"
 |.since=>W "since"
noncomputable def toD:Sy->D
 |.yes=>.tup [.str (W "yes")]
 |.no=>.tup [.str (W "no")]
 |.cB n=>.tup [.str (W "lamp"),.str n]
 |.one w s=>.tup [.str (c1 w),toD s]
 |.two w s t=>.tup [.str (c2 w),toD s,toD t]
noncomputable def aJ:Sy->Nat
 |.one _ s=>aJ s+1
 |.two _ s t=>max (aJ s) (aJ t)+1
 |_=>1
noncomputable def p1:W1->Bool
 |.not=>false
 |_=>true
noncomputable def p2:W2->Bool
 |.since=>true
 |_=>false
noncomputable def cnt:Sy->Nat
 |.one w s=>(if p1 w then 1 else 0)+cnt s
 |.two w s t=>(if p2 w then 1 else 0)+(cnt s+cnt t)
 |_=>0
noncomputable def over (names:List (List Nat)):Sy->Prop
 |.cB n=>n∈names
 |.one _ s=>over names s
 |.two _ s t=>over names s/\over names t
 |_=>True
theorem kN:∀ s:Sy,aX (toD s)=true
 |.yes=>rfl
 |.no=>rfl
 |.cB n=>rfl
 |.one w s=>by simp only[toD,aX,bL,kN s,Bool.and_self]
 |.two w s t=>by simp only[toD,aX,bL,kN s,kN t,Bool.and_self]
theorem nW:∀ s:Sy,cI (toD s)=aJ s
 |.yes=>rfl
 |.no=>rfl
 |.cB n=>rfl
 |.one w s=>by simp only[toD,cI,cG,nW s,aJ];omega
 |.two w s t=>by simp only[toD,cI,cG,nW s,nW t,aJ];omega
noncomputable def lY (cX is:Nat):Fn:=⟨5,7,[.asg (.nm 5) (.call cX [(.v 0),(.v 1),(.c (.int 13))]),.iff (.or_ (.cmp .eq (.v 3) (.c (.int 0))) (.cmp .lt (.v 5) (.c (.int 3)))) [.ret (.tup [(.c (.str (W "lamp"))),(.ix (.v 2) (.call cX [(.v 0),(.v 1),(.bi .len [(.v 2)])]))])] [],.iff (.cmp .eq (.v 5) (.c (.int 3))) [.ret (.tup [(.ix (.lst [(.c (.str (W "yes"))),(.c (.str (W "no")))]) (.call cX [(.v 0),(.v 1),(.c (.int 2))]))])] [],.iff (.and_ (.cmp .gt (.v 5) (.c (.int 8))) (.cmp .gt (.ix (.v 4) (.c (.int 0))) (.c (.int 0)))) [.asg (.ix (.v 4) (.c (.int 0))) (.bin .sub (.ix (.v 4) (.c (.int 0))) (.c (.int 1))),.asg (.nm 6) (.call is [(.v 0),(.v 1),(.v 2),(.bin .sub (.v 3) (.c (.int 1))),(.v 4)]),.iff (.cmp .eq (.v 5) (.c (.int 12))) [.ret (.tup [(.c (.str (W "since"))),(.v 6),(.call is [(.v 0),(.v 1),(.v 2),(.bin .sub (.v 3) (.c (.int 1))),(.v 4)])])] [],.ret (.tup [(.ix (.lst [(.c (.str (W "before"))),(.c (.str (W "once"))),(.c (.str (W "sofar")))]) (.bin .sub (.v 5) (.c (.int 9)))),(.v 6)])] [],.asg (.nm 6) (.call is [(.v 0),(.v 1),(.v 2),(.bin .sub (.v 3) (.c (.int 1))),(.v 4)]),.iff (.or_ (.cmp .eq (.v 5) (.c (.int 4))) (.cmp .gt (.v 5) (.c (.int 8)))) [.ret (.tup [(.c (.str (W "not"))),(.v 6)])] [],.ret (.tup [(.ix (.lst [(.c (.str (W "and"))),(.c (.str (W "or"))),(.c (.str (W "then"))),(.c (.str (W "same")))]) (.bin .sub (.v 5) (.c (.int 5)))),(.v 6),(.call is [(.v 0),(.v 1),(.v 2),(.bin .sub (.v 3) (.c (.int 1))),(.v 4)])])]⟩
noncomputable def Drawn (a b:Nat)(i l:Int)(st aA:aB)(i' l':Int):Prop:=bI [a,b] st aA/\0<=i'/\aA a=some (.lst [.int i'])/\aA b=some (.lst [.int l'])
section
variable {G:Prog}{k ic im cX is:Nat}{st:aB}{Q:VK}{E:XK}{ns:List Int}
theorem TK {xs:List (List Nat)}{v:Int}(h0:0<=v)(h1:v<xs.length):∃ x∈xs,eV (xs.map D.str) v=some (.str x):=by
 obtain⟨n,rfl⟩:∃ n:Nat,v=n:=⟨v.toNat,by omega⟩
 have h:n<xs.length:=by omega
 refine⟨xs[n],List.getElem_mem h,?_⟩
 rw[eD (by simpa using h)]
 simp only[List.getElem?_map]
 rw[List.getElem?_eq_getElem h]
 rfl
theorem QT {d:D}{r:List D}:lS (d::r).length 0=some 0:=by
 unfold lS
 rw[if_pos (by omega),if_pos (by simp only[List.length_cons];omega)]
 rfl
theorem bW {ds:List D}{Q:VK}(hl:ds.length<=bE)(h:∀ p aA,Ext st aA->st p=none->aA p=some (.lst ds)->Q (.ref p) aA):gB ds st Q:=⟨hl,fun p hp=>h p _ (Ext.new hp) hp aV⟩
theorem qJ (hs:G.fns is=some (lY cX is))(hn:G.fns cX=some (qD im))(hm:G.fns im=some (kC ic))(hc:G.fns ic=some lJ){names:List (List Nat)}(jH:0<names.length){a b:Nat}(dC:a≠b):
  ∀(n:Nat){st:aB}{Q:VK}{E:XK}{i l:Int},st a=some (.lst [.int i])->st b=some (.lst [.int l])->0<=i->0<=l ->
   (∀ s aA i',over names s->aJ s<=n+1->(cnt s:Int)<=l->bI [a,b] st aA->0<=i'->aA a=some (.lst [.int i'])->aA b=some (.lst [.int (l-cnt s)])->Q (toD s) aA) ->
   aN G (k+n+4) is [.bB (ns.map .int),.ref a,.tup (names.map .str),.int n,.ref b] st Q E:=by
 intro n
 have cB:∀{n:Nat}{st:aB}{Q:VK}{E:XK}{i l:Int}{K:Nat}{P:fR}{r:St},st a=some (.lst [.int i])->st b=some (.lst [.int l])->0<=i->0<=l ->
   (∀ s aA i',over names s->aJ s<=n+1->(cnt s:Int)<=l->bI [a,b] st aA->0<=i'->aA a=some (.lst [.int i'])->aA b=some (.lst [.int (l-cnt s)])->P.rt (toD s) aA) ->
   cH (aN G (K+3)) G.sub [.ret (.tup [(.c (.str (W "lamp"))),(.ix (.v 2) (.call cX [(.v 0),(.v 1),(.bi .len [(.v 2)])]))])] P (some (.bB (ns.map .int))::some (.ref a)::some (.tup (names.map .str))::r) st:=by
  intro n st Q E i l K P r ha hb hi hl hQ
  walk_at"st"
  simp only[List.length_map]
  refine eR hn hm hc ha hi (by omega) fun aC k1 a1=>?_
  walk_at"ex"
  obtain⟨x,hx,e⟩:=TK (xs:=names) (fM (ns:=ns) (k:=i+1) (many:=names.length) (by omega)) (fN (by omega))
  rw[e]
  walk_at"ex"
  have b1:aC b=some (.lst [.int l]):=k1 b _ (by simpa using dC.symm) hb
  exact hQ (.cB x) aC (i+1) hx (by simp [aJ]) (by simp [cnt];omega) (k1.mono (by simp)) (by omega) a1 (by simpa [cnt]using b1)
 induction n with
 |zero =>
  intro st Q E i l ha hb hi hl hQ
  rw[aS hs]
  simp only[lY,start]
  refine⟨rfl,?_⟩
  walk_at"st"
  refine eR hn hm hc ha hi (by omega) fun aC k1 a1=>?_
  walk_at"st"
  simp only[Int.natCast_zero,beq_self_eq_true,if_true]
  have b1:aC b=some (.lst [.int l]):=k1 b _ (by simpa using dC.symm) hb
  have kk:bI [a,b] st aC:=k1.mono (by simp)
  exact cB (n:=0) (Q:=Q) (E:=E) a1 b1 (by omega) hl fun s aA i' h1 h2 h3 h4 h5 h6 h7=>hQ s aA i' h1 h2 h3 (kk.trans h4) h5 h6 h7
 |succ n ih =>
  intro st Q E i l ha hb hi hl hQ
  rw[aS hs]
  simp only[lY,start]
  refine⟨rfl,?_⟩
  walk_at"st"
  refine eR hn hm hc ha hi (by omega) fun aC k1 a1=>?_
  have v0:=fM (ns:=ns) (k:=i+1) (many:=13) (by omega)
  have v1:=fN (ns:=ns) (k:=i+1) (many:=13) (by omega)
  generalize iT ns (i+1) 13=v at v0 v1
  have b1:aC b=some (.lst [.int l]):=k1 b _ (by simpa using dC.symm) hb
  have kk:bI [a,b] st aC:=k1.mono (by simp)
  have hn0:(((n+1:Nat):Int)==0)=false:=by rw[beq_eq_false_iff_ne];omega
  have hn1:((n+1:Nat):Int)-1=(n:Int):=by omega
  walk_at"st"
  simp only[hn0,Bool.false_eq_true,if_false]
  by_cases h3:v<3
  ·simp only[h3,decide_true,if_true]
   exact cB (n:=n+1) (Q:=Q) (E:=E) a1 b1 (by omega) hl fun s aA i' h1 h2 h3 h4 h5 h6 h7=>hQ s aA i' h1 h2 h3 (kk.trans h4) h5 h6 h7
  simp only[h3,decide_false,Bool.false_eq_true,if_false,aE]
  walk_at"st"
  by_cases e3:v=3
  ·subst e3
   simp only[beq_self_eq_true,if_true]
   walk_at"st"
   refine bW (by decide) fun p aG x2 hp iG=>?_
   walk_at"ex"
   have pa:p≠a:=fun z=>by rw[z,a1]at hp;cases hp
   have pb:p≠b:=fun z=>by rw[z,b1]at hp;cases hp
   refine eR hn hm hc (x2 a _ a1) (by omega) (by omega) fun aR k3 a3=>?_
   walk_at"ex"
   have w0:=fM (ns:=ns) (k:=i+1+1) (many:=2) (by omega)
   have w1:=fN (ns:=ns) (k:=i+1+1) (many:=2) (by omega)
   generalize iT ns (i+1+1) 2=w at w0 w1
   rw[eI (k3 p _ (by simpa using pa) iG)]
   have b3:aR b=some (.lst [.int l]):=k3 b _ (by simpa using dC.symm) (x2 b _ b1)
   have kk3:bI [a,b] st aR:=(kk.trans x2.keep).trans (k3.mono (by simp))
   obtain rfl|rfl:w=0∨w=1:=by omega
   ·walk_at"ex"
    exact hQ .yes aR _ trivial (by simp [aJ]) (by simp [cnt];omega) kk3 (by omega) a3 (by simpa [cnt]using b3)
   ·walk_at"ex"
    exact hQ .no aR _ trivial (by simp [aJ]) (by simp [cnt];omega) kk3 (by omega) a3 (by simpa [cnt]using b3)
  have e3':(v==3)=false:=by rw[beq_eq_false_iff_ne];exact e3
  simp only[e3',Bool.false_eq_true,if_false,aE]
  walk_at"st"
  have plain:∀{P:fR},(∀ s aA i',over names s->aJ s<=n+1+1->(cnt s:Int)<=l->bI [a,b] st aA->0<=i'->aA a=some (.lst [.int i'])->aA b=some (.lst [.int (l-cnt s)])->P.rt (toD s) aA) ->
    cH (aN G (k+n+4)) G.sub [.asg (.nm 6) (.call is [(.v 0),(.v 1),(.v 2),(.bin .sub (.v 3) (.c (.int 1))),(.v 4)]),.iff (.or_ (.cmp .eq (.v 5) (.c (.int 4))) (.cmp .gt (.v 5) (.c (.int 8)))) [.ret (.tup [(.c (.str (W "not"))),(.v 6)])] [],.ret (.tup [(.ix (.lst [(.c (.str (W "and"))),(.c (.str (W "or"))),(.c (.str (W "then"))),(.c (.str (W "same")))]) (.bin .sub (.v 5) (.c (.int 5)))),(.v 6),(.call is [(.v 0),(.v 1),(.v 2),(.bin .sub (.v 3) (.c (.int 1))),(.v 4)])])] P [some (.bB (ns.map .int)),some (.ref a),some (.tup (names.map .str)),some (.int ((n+1:Nat):Int)),some (.ref b),some (.int v),none] aC:=by
   intro P hQ
   walk_at"st"
   rw[hn1]
   refine ih a1 b1 (by omega) hl fun s1 aG i2 o1 d1 cc1 k2 hi2 a2 b2=>?_
   walk_at"st"
   have hor:((v==4)||decide (8<v))=true∨(v=5∨v=6∨v=7∨v=8):=by
    by_cases q:v=4
    ·left;simp [q]
    ·by_cases q':8<v
     ·left;simp [q']
     ·right;omega
   rcases hor with hor|hor
   ·have go:cH (aN G (k+n+4)) G.sub [.ret (.tup [.c (.str (W "not")),.v 6])] { P with nx:=cH (aN G (k+n+4)) G.sub [.ret (.tup [(.ix (.lst [(.c (.str (W "and"))),(.c (.str (W "or"))),(.c (.str (W "then"))),(.c (.str (W "same")))]) (.bin .sub (.v 5) (.c (.int 5)))),(.v 6),(.call is [(.v 0),(.v 1),(.v 2),(.bin .sub (.v 3) (.c (.int 1))),(.v 4)])])] P } [some (.bB (ns.map .int)),some (.ref a),some (.tup (names.map .str)),some (.int ((n+1:Nat):Int)),some (.ref b),some (.int v),some (toD s1)] aG:=by
     walk_at"st"
     exact hQ (.one .not s1) aG i2 o1 (by simp only[aJ];omega) (by simp [cnt,p1];omega) (kk.trans k2) hi2 a2 (by simpa [cnt,p1]using b2)
    by_cases q:v=4
    ·simp only[q,beq_self_eq_true,if_true]
     rw[q]at go;exact go
    ·have q1:(v==4)=false:=by rw[beq_eq_false_iff_ne];exact q
     have q2:8<v:=by simpa [q1]using hor
     simp only[q1,q2,Bool.false_eq_true,if_false,if_true]
     exact go
   ·have q1:(v==4)=false:=by rw[beq_eq_false_iff_ne];omega
    have q2:¬8<v:=by omega
    simp only[q1,q2,Bool.false_eq_true,if_false,aE]
    walk_at"st"
    refine bW (by decide) fun p aR x3 hp hp3=>?_
    walk_at"ex"
    rw[eI hp3]
    have pa:p≠a:=fun z=>by rw[z,a2]at hp;cases hp
    have pb:p≠b:=fun z=>by rw[z,b2]at hp;cases hp
    have step:∀ w:W2,p2 w=false->∀{Q:VK},(∀ s aA i',over names s->aJ s<=n+1+1->(cnt s:Int)<=l->bI [a,b] st aA->0<=i'->aA a=some (.lst [.int i'])->aA b=some (.lst [.int (l-cnt s)])->Q (toD s) aA) ->
      aN G (k+n+4) is [.bB (ns.map .int),.ref a,.tup (names.map .str),.int (((n+1:Nat):Int)-1),.ref b] aR (fun d aA=>Q (.tup [.str (c2 w),toD s1,d]) aA) fun c aA=>P.ex c [some (.bB (ns.map .int)),some (.ref a),some (.tup (names.map .str)),some (.int ((n+1:Nat):Int)),some (.ref b),some (.int v),some (toD s1)] aA:=by
     intro w hw Q hQ
     rw[hn1]
     refine ih (x3 a _ a2) (x3 b _ b2) hi2 (by omega) fun s2 cP i4 o2 d2 c2' k4 hi4 a4 b4=>?_
     refine hQ (.two w s1 s2) cP i4 ⟨o1,o2⟩ (by simp only[aJ];omega) (by simp only[cnt,hw];simp;omega) ((kk.trans k2).trans (x3.keep.trans k4)) hi4 a4 ?_
     rw[b4];simp only[cnt,hw];simp;omega
    rcases hor with rfl|rfl|rfl|rfl
    ·walk_at"ex"; exact step .and rfl hQ
    ·walk_at"ex"; exact step .or rfl hQ
    ·walk_at"ex"; exact step .aW rfl hQ
    ·walk_at"ex"; exact step .same rfl hQ
  by_cases h8:8<v
  ·simp only[h8,if_true]
   rw[eI b1]
   walk_at"ex"
   by_cases hl0:0<l
   ·simp only[hl0,if_true]
    walk_at"st"
    rw[eI b1]
    walk_at"ex"
    rw[aF b1]
    simp only[QT,bA,List.set_cons_zero]
    have a2:(put aC b (.lst [.int (l-1)])) a=some (.lst [.int (i+1)]):=by rw[bH dC];exact a1
    have kp:bI [a,b] st (put aC b (.lst [.int (l-1)])):=kk.trans (bI.put (by simp))
    walk_at"st"
    rw[hn1]
    refine ih a2 aV (by omega) (by omega) fun s1 aG i2 o1 d1 cc1 k2 hi2 a3 b3=>?_
    walk_at"st"
    by_cases e12:v=12
    ·simp only[e12,beq_self_eq_true,if_true]
     walk_at"st"
     rw[hn1]
     refine ih a3 b3 hi2 (by omega) fun s2 cP i4 o2 d2 c2' k4 hi4 a4 b4=>?_
     refine hQ (.two .since s1 s2) cP i4 ⟨o1,o2⟩ (by simp only[aJ];omega) (by simp [cnt,p2];omega) ((kp.trans k2).trans k4) hi4 a4 ?_
     rw[b4];simp [cnt,p2];omega
    ·have e12':(v==12)=false:=by rw[beq_eq_false_iff_ne];exact e12
     simp only[e12',Bool.false_eq_true,if_false,aE]
     walk_at"st"
     refine bW (by decide) fun p aR x3 hp hp3=>?_
     walk_at"ex"
     rw[eI hp3]
     have fin:∀ w:W1,p1 w=true->Q (.tup [.str (c1 w),toD s1]) aR:=fun w hw=>by
      refine hQ (.one w s1) aR i2 o1 (by simp only[aJ];omega) (by simp [cnt,hw];omega) ((kp.trans k2).trans x3.keep) hi2 (x3 _ _ a3) ?_
      rw[x3 _ _ b3];simp [cnt,hw];omega
     obtain rfl|rfl|rfl:v=9∨v=10∨v=11:=by omega
     ·walk_at"ex"; exact fin .before rfl
     ·walk_at"ex"; exact fin .once rfl
     ·walk_at"ex"; exact fin .sofar rfl
   ·simp only[hl0,if_false,aE]
    exact plain hQ
  ·simp only[h8,if_false,aE]
   exact plain hQ
end
end L3
end
section
namespace L3
open PySem
noncomputable def mH:List (List Nat):=[W "a", W "b", W "x", W "y", W "lamp", W "far", W "yesno", W "abcdefgh"]
noncomputable def rM (fs gs:List (List Nat)):Bool:=decide (1<=fs.length)&&decide (fs.length<=2)&&decide (1<=gs.length)&&decide (gs.length<=2)&&decide ((fs++gs).Nodup)&&(fs++gs).all fun n=>mH.contains n
noncomputable def nL (t:Int):List (List Nat):=cut mH (some t) none++cut mH none (some t)
theorem L5:∀(t:Fin 8)(f g:Fin 2),rM (cut (nL (t.val:Nat)) none (some (1+(f.val:Nat)))) (cut (nL (t.val:Nat)) (some (1+(f.val:Nat))) (some (1+(f.val:Nat)+(1+(g.val:Nat)))))=true:=by decide +kernel
theorem L9 {t f g:Int}(h0:0<=t)(h1:t<8)(h2:0<=f)(h3:f<2)(h4:0<=g)(h5:g<2):rM (cut (nL t) none (some (1+f))) (cut (nL t) (some (1+f)) (some (1+f+(1+g))))=true:=by
 have:=L5 ⟨t.toNat,by omega⟩ ⟨f.toNat,by omega⟩ ⟨g.toNat,by omega⟩
 simp only[Int.toNat_of_nonneg h0,Int.toNat_of_nonneg h2,Int.toNat_of_nonneg h4]at this
 exact this
theorem xA {α β:Type}(f:α->β)(xs:List α)(lo hi:Option Int):cut (xs.map f) lo hi=(cut xs lo hi).map f:=by
 simp only[cut,List.length_map,List.map_take,List.map_drop]
noncomputable def zU (cX:Nat):Fn:=⟨2,7,[.asg (.nm 2) (.lst [(.c (.str (W "a"))),(.c (.str (W "b"))),(.c (.str (W "x"))),(.c (.str (W "y"))),(.c (.str (W "lamp"))),(.c (.str (W "far"))),(.c (.str (W "yesno"))),(.c (.str (W "abcdefgh")))]),.asg (.nm 3) (.call cX [(.v 0),(.v 1),(.c (.int 8))]),.asg (.nm 4) (.bin .add (.sl (.v 2) [(.v 3)] []) (.sl (.v 2) [] [(.v 3)])),.asg (.nm 5) (.bin .add (.c (.int 1)) (.call cX [(.v 0),(.v 1),(.c (.int 2))])),.asg (.nm 6) (.bin .add (.c (.int 1)) (.call cX [(.v 0),(.v 1),(.c (.int 2))])),.ret (.tup [(.bi .tuple [(.sl (.v 4) [] [(.v 5)])]),(.bi .tuple [(.sl (.v 4) [(.v 5)] [(.bin .add (.v 5) (.v 6))])])])]⟩
section
variable {G:Prog}{k ic im cX is:Nat}{st:aB}{Q:VK}{E:XK}{ns:List Int}
theorem NT {inm:Nat}(hm':G.fns inm=some (zU cX))(hn:G.fns cX=some (qD im))(hm:G.fns im=some (kC ic))(hc:G.fns ic=some lJ){a:Nat}{i:Int}(ha:st a=some (.lst [.int i]))(hi:0<=i)
  (hQ:∀ fs gs aA i',rM fs gs=true->bI [a] st aA->0<=i'->aA a=some (.lst [.int i'])->Q (.tup [.tup (fs.map .str),.tup (gs.map .str)]) aA):
  aN G (k+4) inm [.bB (ns.map .int),.ref a] st Q E:=by
 have hL:bE=16777216:=rfl
 rw[aS hm']
 simp only[zU,start]
 refine⟨rfl,?_⟩
 walk_at"st"
 refine bW (by decide) fun p aC x1 hp hp1=>?_
 have pa:p≠a:=fun z=>by rw[z,ha]at hp;cases hp
 walk_at"st"
 refine eR hn hm hc (x1 a _ ha) hi (by omega) fun aG k2 a2=>?_
 have t0:=fM (ns:=ns) (k:=i+1) (many:=8) (by omega)
 have t1:=fN (ns:=ns) (k:=i+1) (many:=8) (by omega)
 generalize iT ns (i+1) 8=t at t0 t1
 have p2:=k2 p _ (by simpa using pa) hp1
 walk_at"st"
 rw[aF p2]
 intro q hq
 have x3:Ext aG (put aG q (.lst (cut [.str (W "a"),.str (W "b"),.str (W "x"),.str (W "y"),.str (W "lamp"),.str (W "far"),.str (W "yesno"),.str (W "abcdefgh")] (some t) none))):=Ext.new hq
 walk_at"ex"
 rw[aF (x3 p _ p2)]
 intro q' hq'
 have x4:=Ext.new (o:=.lst (cut [.str (W "a"),.str (W "b"),.str (W "x"),.str (W "y"),.str (W "lamp"),.str (W "far"),.str (W "yesno"),.str (W "abcdefgh")] none (some t))) hq'
 walk_at"ex"
 rw[aF (x4 q _ aV),aF aV]
 have eL:([.str (W "a"),.str (W "b"),.str (W "x"),.str (W "y"),.str (W "lamp"),.str (W "far"),.str (W "yesno"),.str (W "abcdefgh")]:List D)=mH.map .str:=rfl
 have er:cut ([.str (W "a"),.str (W "b"),.str (W "x"),.str (W "y"),.str (W "lamp"),.str (W "far"),.str (W "yesno"),.str (W "abcdefgh")]:List D) (some t) none++cut [.str (W "a"),.str (W "b"),.str (W "x"),.str (W "y"),.str (W "lamp"),.str (W "far"),.str (W "yesno"),.str (W "abcdefgh")] none (some t)=(nL t).map .str:=by
  rw[eL,xA,xA,<-List.map_append];rfl
 have lr:(nL t).length<=16:=by
  have l1:=xK (xs:=mH) (lo:=some t) (hi:=none)
  have l2:=xK (xs:=mH) (lo:=none) (hi:=some t)
  have l3:mH.length=8:=rfl
  simp only[nL,List.length_append];omega
 rw[er]
 refine bW (by simp only[List.length_map];omega) fun r dE x5 hr hr5=>?_
 have k5:bI [a] st dE:=((x1.keep.trans k2).trans x3.keep).trans (x4.keep.trans x5.keep)
 have a5:dE a=some (.lst [.int (i+1)]):=x5 _ _ (x4 _ _ (x3 _ _ a2))
 have ra:r≠a:=fun z=>by rw[z,x4 _ _ (x3 _ _ a2)]at hr;cases hr
 walk_at"st"
 refine eR hn hm hc a5 (by omega) (by omega) fun fW k6 a6=>?_
 have f0:=fM (ns:=ns) (k:=i+1+1) (many:=2) (by omega)
 have f1:=fN (ns:=ns) (k:=i+1+1) (many:=2) (by omega)
 generalize iT ns (i+1+1) 2=f at f0 f1
 walk_at"ex"
 walk_at"st"
 refine eR hn hm hc a6 (by omega) (by omega) fun sG k7 a7=>?_
 have g0:=fM (ns:=ns) (k:=i+1+1+1) (many:=2) (by omega)
 have g1:=fN (ns:=ns) (k:=i+1+1+1) (many:=2) (by omega)
 generalize iT ns (i+1+1+1) 2=g at g0 g1
 have r7:sG r=some (.lst ((nL t).map .str)):=k7 r _ (by simpa using ra) (k6 r _ (by simpa using ra) hr5)
 walk_at"ex"
 walk_at"st"
 rw[aF r7]
 intro u hu
 walk_at"ex"
 rw[aF aV]
 have xu:=Ext.new (o:=.lst (cut ((nL t).map D.str) none (some (1+f)))) hu
 have c1:=xK (xs:=(nL t).map D.str) (lo:=none) (hi:=some (1+f))
 have c2:=xK (xs:=(nL t).map D.str) (lo:=some (1+f)) (hi:=some (1+f+(1+g)))
 simp only[List.length_map]at c1 c2
 refine⟨by omega,?_⟩
 rw[aF (xu r _ r7)]
 intro u' hu'
 walk_at"ex"
 rw[aF aV]
 refine⟨by omega,?_⟩
 have xu':=Ext.new (o:=.lst (cut ((nL t).map D.str) (some (1+f)) (some (1+f+(1+g))))) hu'
 rw[xA,xA]at *
 exact hQ _ _ _ (i+1+1+1) (L9 t0 t1 f0 f1 g0 g1) ((k5.trans (k6.trans k7)).trans (xu.keep.trans xu'.keep)) (by omega) (xu' _ _ (xu _ _ a7))
end
end L3
end
section
namespace L3
open PySem
mutual
theorem TC:∀ d:D,aX d=true->bG d d=true
 |.non,_=>rfl
 |.bl b,_=>by simp [bG]
 |.int i,_=>by simp [bG]
 |.str x,_=>by simp [bG]
 |.tup ds,h=>by simp only[aX]at h;simp only[bG];exact FX ds h
 |.ref _,h=>by simp [aX]at h
 |.cM _ _,h=>by simp [aX]at h
 |.bB _,h=>by simp [aX]at h
 |.exc _,h=>by simp [aX]at h
theorem FX:∀ ds:List D,bL ds=true->fS ds ds=true
 |[],_=>rfl
 |d::ds,h=>by
  simp only[bL,Bool.and_eq_true]at h
  simp only[fS,TC d h.1,FX ds h.2,Bool.and_self]
end
mutual
theorem HW {st:aB}:∀ d:D,aX d=true->bK st d d=true
 |.non,_=>rfl
 |.bl b,_=>by simp [bK]
 |.int i,_=>by simp [bK]
 |.str x,_=>by simp [bK]
 |.tup ds,h=>by simp only[aX]at h;simp only[bK];exact EG ds h
 |.ref _,h=>by simp [aX]at h
 |.cM _ _,h=>by simp [aX]at h
 |.bB _,h=>by simp [aX]at h
 |.exc _,h=>by simp [aX]at h
theorem EG {st:aB}:∀ ds:List D,bL ds=true->hU st ds ds=true
 |[],_=>rfl
 |d::ds,h=>by
  simp only[bL,Bool.and_eq_true]at h
  simp only[hU,HW d h.1,EG ds h.2,Bool.and_self]
end
theorem VN (w w':W1):(c1 w==c1 w')=decide (w=w'):=by cases w<;>cases w'<;>decide +kernel
theorem WM (w w':W2):(c2 w==c2 w')=decide (w=w'):=by cases w<;>cases w'<;>decide +kernel
theorem A9 (w:W1):(W "lamp" == c1 w)=false/\(c1 w==W "lamp")=false:=by cases w<;>decide +kernel
theorem cF {st:aB}{as bs:List D}:bK st (.tup as) (.tup bs)=hU st as bs:=by simp only[bK]
theorem bV {st:aB}{a b:D}{as bs:List D}:hU st (a::as) (b::bs)=(bK st a b&&hU st as bs):=by simp only[hU]
theorem pM {st:aB}:hU st [] []=true:=rfl
theorem kU {st:aB}{b:D}{bs:List D}:hU st [] (b::bs)=false:=rfl
theorem kW {st:aB}{b:D}{bs:List D}:hU st (b::bs) []=false:=rfl
theorem LN:(W "yes" == W "no")=false/\(W "no" == W "yes")=false:=by decide +kernel
theorem nY {st:aB}:∀ s t:Sy,bK st (toD s) (toD t)=decide (s=t)
 |.yes,.yes=>by simp only[toD,cF,bV,gQ,pM,beq_self_eq_true,Bool.and_self,decide_true]
 |.yes,.no=>by simp only[toD,cF,bV,gQ,LN.1,Bool.false_and];rfl
 |.yes,.cB _=>by simp only[toD,cF,bV,kU,Bool.and_false];rfl
 |.yes,.one _ _=>by simp only[toD,cF,bV,kU,Bool.and_false];rfl
 |.yes,.two _ _ _=>by simp only[toD,cF,bV,kU,Bool.and_false];rfl
 |.no,.yes=>by simp only[toD,cF,bV,gQ,LN.2,Bool.false_and];rfl
 |.no,.no=>by simp only[toD,cF,bV,gQ,pM,beq_self_eq_true,Bool.and_self,decide_true]
 |.no,.cB _=>by simp only[toD,cF,bV,kU,Bool.and_false];rfl
 |.no,.one _ _=>by simp only[toD,cF,bV,kU,Bool.and_false];rfl
 |.no,.two _ _ _=>by simp only[toD,cF,bV,kU,Bool.and_false];rfl
 |.cB _,.yes=>by simp only[toD,cF,bV,kW,Bool.and_false];rfl
 |.cB _,.no=>by simp only[toD,cF,bV,kW,Bool.and_false];rfl
 |.cB m,.cB n=>by
  simp only[toD,cF,bV,pM,gQ,beq_self_eq_true,Bool.and_true,Bool.true_and,Sy.cB.injEq]
  rw[Bool.beq_eq_decide_eq]
 |.cB m,.one w s=>by simp only[toD,cF,bV,gQ,(A9 w).1,Bool.false_and];rfl
 |.cB _,.two _ _ _=>by simp only[toD,cF,bV,kU,Bool.and_false];rfl
 |.one _ _,.yes=>by simp only[toD,cF,bV,kW,Bool.and_false];rfl
 |.one _ _,.no=>by simp only[toD,cF,bV,kW,Bool.and_false];rfl
 |.one w s,.cB m=>by simp only[toD,cF,bV,gQ,(A9 w).2,Bool.false_and];rfl
 |.one w s,.one w' s'=>by
  simp only[toD,cF,bV,pM,gQ,VN,nY s s',Bool.and_true,Sy.one.injEq]
  by_cases h:w=w'<;>by_cases h':s=s'<;>simp [h,h']
 |.one _ _,.two _ _ _=>by simp only[toD,cF,bV,kU,Bool.and_false];rfl
 |.two _ _ _,.yes=>by simp only[toD,cF,bV,kW,Bool.and_false];rfl
 |.two _ _ _,.no=>by simp only[toD,cF,bV,kW,Bool.and_false];rfl
 |.two _ _ _,.cB _=>by simp only[toD,cF,bV,kW,Bool.and_false];rfl
 |.two _ _ _,.one _ _=>by simp only[toD,cF,bV,kW,Bool.and_false];rfl
 |.two w s t,.two w' s' t'=>by
  simp only[toD,cF,bV,pM,gQ,WM,nY s s',nY t t',Bool.and_true,Sy.two.injEq]
  by_cases h:w=w'<;>by_cases h':s=s'<;>by_cases h'':t=t'<;>simp [h,h',h'']
theorem BP {st:aB}(x:Sy)(f:List Sy):((f.map toD).any fun d=>bK st d (toD x))=f.contains x:=by
 induction f with
 |nil=>rfl
 |cons y r ih =>
 simp only[List.map_cons,List.any_cons,ih,nY,List.contains_cons]
 congr 1
 by_cases h:y=x
 ·simp [h]
 ·simp [h,Ne.symm h]
theorem KZ (f:List Sy):bL (f.map toD)=true:=by
 induction f with
 |nil=>rfl
 |cons x r ih=>simp only[List.map_cons,bL,kN,ih,Bool.and_self]
theorem NG {n:Nat}(f:List Sy)(h:∀ s∈f,aJ s<=n):cG (f.map toD)<=n:=by
 induction f with
 |nil=>exact Nat.zero_le _
 |cons x r ih =>
 simp only[List.map_cons,cG,nW]
 have:=h x (by simp)
 have:=ih fun s hs=>h s (by simp [hs])
 omega
theorem wG {st:aB}{s:Sy}(h:aJ s<=60):plainS st (toD s):=⟨sI _ (kN s),Nat.le_trans (by rw[nW];exact h) (by decide)⟩
theorem sR {st:aB}{f:List Sy}(h:∀ s∈f,aJ s<=60):dG st (f.map toD):=⟨pU _ (KZ f),Nat.le_trans (NG f h) (by decide)⟩
noncomputable def wd:Sy->List Nat
 |.yes=>W "yes"
 |.no=>W "no"
 |.cB _=>W "lamp"
 |.one w _=>c1 w
 |.two w _ _=>c2 w
noncomputable def subs:Sy->List Sy
 |.one _ s=>[s]
 |.two _ s t=>[s,t]
 |_=>[]
noncomputable def bU:Sy->Bool
 |.one w _=>p1 w
 |.two w _ _=>p2 w
 |_=>false
noncomputable def fP:Sy->Bool
 |.cB _=>true
 |_=>false
theorem jI (s:Sy):∃ r,toD s=.tup (.str (wd s)::r):=by cases s<;>exact⟨_,rfl⟩
theorem O6 {s:Sy}(h:fP s=false):toD s=.tup (.str (wd s)::(subs s).map toD):=by cases s<;>first|rfl|cases h
noncomputable def jT:List (List Nat):=[W "before", W "once", W "sofar", W "since"]
theorem xD (s:Sy):jT.contains (wd s)=bU s:=by
 cases s with
 |one w s=>cases w<;>(simp only[wd,bU];decide +kernel)
 |two w s t=>cases w<;>(simp only[wd,bU];decide +kernel)
 |_=>(simp only[wd,bU];decide +kernel)
theorem BM (s:Sy):(wd s==W "lamp")=fP s:=by
 cases s with
 |one w s=>cases w<;>(simp only[wd,fP];decide +kernel)
 |two w s t=>cases w<;>(simp only[wd,fP];decide +kernel)
 |_=>(simp only[wd,fP];decide +kernel)
noncomputable def cT (f:List Sy)(s:Sy):List Sy:=if bU s && !f.contains s then f++[s]else f
noncomputable def aU:Sy->List Sy->List Sy
 |.one w s,f=>aU s (cT f (.one w s))
 |.two w s t,f=>aU t (aU s (cT f (.two w s t)))
 |_,f=>f
noncomputable def bJ:List Sy->List Sy->List Sy
 |[],f=>f
 |s::r,f=>bJ r (aU s f)
theorem VB (s:Sy)(f:List Sy):aU s f=bJ (subs s) (cT f s):=by
 cases s<;>simp [aU,subs,bJ,cT,bU]
theorem yS (a b:List Sy)(f:List Sy):bJ (a++b) f=bJ b (bJ a f):=by
 induction a generalizing f with
 |nil=>rfl
 |cons x r ih=>simp only[List.cons_append,bJ,ih]
theorem MC (s:Sy)(r f:List Sy):bJ (s::r) f=bJ (subs s++r) (cT f s):=by rw[yS,<-VB];rfl
noncomputable def sz:Sy->Nat
 |.one _ s=>sz s+1
 |.two _ s t=>sz s+sz t+1
 |_=>1
noncomputable def dN (l:List Sy):Nat:=(l.map sz).sum
theorem DS:∀ s:Sy,sz s+1<=2 ^ aJ s
 |.yes=>by decide
 |.no=>by decide
 |.cB _=>by simp only[sz,aJ];decide
 |.one w s=>by have:=DS s;simp only[sz,aJ,Nat.pow_succ];omega
 |.two w s t=>by
  have h1:=DS s
  have h2:=DS t
  have a:=Nat.pow_le_pow_right (n:=2) (by omega) (Nat.le_max_left (aJ s) (aJ t))
  have b:=Nat.pow_le_pow_right (n:=2) (by omega) (Nat.le_max_right (aJ s) (aJ t))
  simp only[sz,aJ,Nat.pow_succ];omega
theorem G6 (s:Sy):dN (subs s)+1=sz s:=by cases s<;>simp [subs,dN,sz]
theorem yV {s t:Sy}(h:t∈subs s):aJ t<aJ s:=by cases s<;>simp [subs]at h<;>simp only[aJ]<;>(try rcases h with rfl|rfl)<;>(try subst h)<;>omega
theorem pL {f:List Sy}{s:Sy}{n:Nat}(h:∀ x∈f,aJ x<=n)(hs:aJ s<=n):∀ x∈cT f s,aJ x<=n:=by
 unfold cT
 split
 ·intro x hx
  rcases List.mem_append.mp hx with hx|hx
  ·exact h x hx
  ·simp at hx;subst hx;exact hs
 ·exact h
theorem pP (f:List Sy)(s:Sy):(cT f s).length<=f.length+1:=by unfold cT;split<;>simp
theorem nX:∀(s:Sy){f:List Sy}{n:Nat},(∀ x∈f,aJ x<=n)->aJ s<=n->∀ x∈aU s f,aJ x<=n
 |.yes,_,_,h,_=>h
 |.no,_,_,h,_=>h
 |.cB _,_,_,h,_=>h
 |.one w s,f,n,h,hs=>nX s (pL h hs) (by simp only[aJ]at hs;omega)
 |.two w s t,f,n,h,hs=>nX t (nX s (pL h hs) (by simp only[aJ]at hs;omega)) (by simp only[aJ]at hs;omega)
theorem rH:∀(s:Sy)(f:List Sy),(aU s f).length<=f.length+sz s
 |.yes,f=>by simp [aU,sz]
 |.no,f=>by simp [aU,sz]
 |.cB _,f=>by simp [aU,sz]
 |.one w s,f=>by have:=rH s (cT f (.one w s));have:=pP f (.one w s);simp only[aU,sz];omega
 |.two w s t,f=>by
  have h1:=rH s (cT f (.two w s t))
  have h2:=rH t (aU s (cT f (.two w s t)))
  have:=pP f (.two w s t)
  simp only[aU,sz];omega
end L3
end
section
namespace L3
open PySem
noncomputable def jS (ip:Nat):Fn:=⟨2,3,[.iff (.and_ (.cmp .in_ (.ix (.v 0) (.c (.int 0))) (.tup [(.c (.str (W "before"))),(.c (.str (W "once"))),(.c (.str (W "sofar"))),(.c (.str (W "since")))])) (.cmp .fV (.v 0) (.v 1))) [.ex (.cK .append (.v 1) [(.v 0)])] [],.iff (.cmp .ne (.ix (.v 0) (.c (.int 0))) (.c (.str (W "lamp")))) [.iX (.nm 2) none [(.sl (.v 0) [(.c (.int 1))] [])] [.ex (.call ip [(.v 2),(.v 1)])]] [],.ret (.v 1)]⟩
noncomputable def gP:Fn:=⟨1,1,[.iff (.cmp .eq (.ix (.v 0) (.c (.int 0))) (.c (.str (W "lamp")))) [.ret (.tup [])] [],.ret (.sl (.v 0) [(.c (.int 1))] [])]⟩
noncomputable def sY:D:=.tup (jT.map .str)
noncomputable def jP (iw:Nat):Fn:=⟨1,4,[.asg (.nm 1) (.lst []),.asg (.nm 2) (.bit .list .rev [(.v 0)]),.whl (.v 2) [.asg (.nm 3) (.cK .pop (.v 2) []),.iff (.and_ (.cmp .in_ (.ix (.v 3) (.c (.int 0))) (.c sY)) (.cmp .fV (.v 3) (.v 1))) [.ex (.cK .append (.v 1) [(.v 3)])] [],.ex (.cK .extend (.v 2) [(.bit .list .rev [(.call iw [(.v 3)])])])],.ret (.v 1)]⟩
theorem vV {g:aB->Prop}{t:D->(St->aB->Prop)->St->aB->Prop}{N:St->aB->Prop}{x:D}{xs:List D}{σ:St}{st:aB}:oT g t N (x::xs) σ st=(g st/\t x (oT g t N xs) σ st):=rfl
theorem sS {g:aB->Prop}{t:D->(St->aB->Prop)->St->aB->Prop}{N:St->aB->Prop}{σ:St}{st:aB}:oT g t N [] σ st=(g st/\N σ st):=rfl
section
variable {G:Prog}{k ip iw:Nat}{st:aB}{Q:VK}{E:XK}
theorem K4 (hp:G.fns ip=some (jS ip)){b:Nat}:∀(s:Sy)(n:Nat){st:aB}{Q:VK}{E:XK}{f:List Sy},aJ s<=n->aJ s<=60->(∀ x∈f,aJ x<=60)->f.length+sz s<bE->st b=some (.lst (f.map toD)) ->
  (∀ aA,bI [b] st aA->aA b=some (.lst ((aU s f).map toD))->Q (.ref b) aA)->aN G (k+n) ip [toD s,.ref b] st Q E:=by
 intro s
 have head:∀{s:Sy}{K:Nat}{st:aB}{f:List Sy}{P:fR}{rest:List Sx},aJ s<=60->(∀ x∈f,aJ x<=60)->f.length<bE->st b=some (.lst (f.map toD)) ->
   (∀ aA,bI [b] st aA->aA b=some (.lst ((cT f s).map toD))->cH (aN G K) G.sub rest P [some (toD s),some (.ref b),none] aA) ->
   cH (aN G K) G.sub ((.iff (.and_ (.cmp .in_ (.ix (.v 0) (.c (.int 0))) (.tup [(.c (.str (W "before"))),(.c (.str (W "once"))),(.c (.str (W "sofar"))),(.c (.str (W "since")))])) (.cmp .fV (.v 0) (.v 1))) [.ex (.cK .append (.v 1) [(.v 0)])] [])::rest) P [some (toD s),some (.ref b),none] st:=by
  intro s K st f P rest hs hf hlen hb hN
  obtain⟨r,er⟩:=jI s
  walk_at"st"
  rw[er]
  walk_at"ex"
  rw[<-er]
  refine⟨(kA jT).s,?_⟩
  have e1:(List.any [D.str (W "before"),D.str (W "once"),D.str (W "sofar"),D.str (W "since")] fun d=>bK st d (.str (wd s)))=bU s:=(oR (wd s) jT).trans (xD s)
  rw[e1]
  cases hp:bU s with
  |false =>
   simp only[Bool.false_eq_true,if_false,aE]
   refine hN st .refl ?_
   simp only[cT,hp,Bool.false_and,Bool.false_eq_true,if_false]
   exact hb
  |true =>
   simp only[if_true]
   rw[yP,fI hb,BP]
   refine⟨wG hs,sR hf,?_⟩
   cases hc:f.contains s with
   |true =>
    simp only[Bool.not_true,Bool.false_eq_true,if_false,aE]
    refine hN st .refl ?_
    simp only[cT,hp,hc,Bool.not_true,Bool.and_false,Bool.false_eq_true,if_false]
    exact hb
   |false =>
    simp only[Bool.not_false,if_true]
    walk_at"st"
    rw[aF hb]
    refine⟨trivial,?_⟩
    rw[aF hb]
    refine⟨by simpa using hlen,?_⟩
    rw[aE]
    refine hN _ (bI.put (by simp)) ?_
    rw[aV]
    simp only[cT,hp,hc,Bool.not_false,Bool.and_self,if_true,List.map_append,List.map_cons,List.map_nil]
 induction s with
 |yes =>
  intro n st Q E f hn hd hf hl hb hQ
  obtain⟨n,rfl⟩:∃ m,n=m+1:=⟨n-1,by simp only[aJ]at hn;omega⟩
  rw[show k+(n+1)=(k+n)+1 from rfl,aS hp]
  simp only[jS,start]
  refine⟨rfl,head (s:=.yes) hd hf (by simp only[sz]at hl;omega) hb fun aC k1 b1=>?_⟩
  walk_at"st"
  simp only[toD]
  walk_at"ex"
  rw[show(W "yes" == W "lamp")=false from by decide +kernel]
  simp only[Bool.not_false,if_true]
  walk_at"st"
  rw[sS]
  refine⟨iN,?_⟩
  rw[aE]
  walk_at"st"
  exact hQ aC k1 b1
 |no =>
  intro n st Q E f hn hd hf hl hb hQ
  obtain⟨n,rfl⟩:∃ m,n=m+1:=⟨n-1,by simp only[aJ]at hn;omega⟩
  rw[show k+(n+1)=(k+n)+1 from rfl,aS hp]
  simp only[jS,start]
  refine⟨rfl,head (s:=.no) hd hf (by simp only[sz]at hl;omega) hb fun aC k1 b1=>?_⟩
  walk_at"st"
  simp only[toD]
  walk_at"ex"
  rw[show(W "no" == W "lamp")=false from by decide +kernel]
  simp only[Bool.not_false,if_true]
  walk_at"st"
  rw[sS]
  refine⟨iN,?_⟩
  rw[aE]
  walk_at"st"
  exact hQ aC k1 b1
 |cB m =>
  intro n st Q E f hn hd hf hl hb hQ
  obtain⟨n,rfl⟩:∃ m,n=m+1:=⟨n-1,by simp only[aJ]at hn;omega⟩
  rw[show k+(n+1)=(k+n)+1 from rfl,aS hp]
  simp only[jS,start]
  refine⟨rfl,head (s:=.cB m) hd hf (by simp only[sz]at hl;omega) hb fun aC k1 b1=>?_⟩
  walk_at"st"
  simp only[toD]
  walk_at"ex"
  simp only[beq_self_eq_true,Bool.not_true,Bool.false_eq_true,if_false,aE]
  walk_at"st"
  exact hQ aC k1 b1
 |one w s ih =>
  intro n st Q E f hn hd hf hl hb hQ
  obtain⟨n,rfl⟩:∃ m,n=m+1:=⟨n-1,by simp only[aJ]at hn;omega⟩
  rw[show k+(n+1)=(k+n)+1 from rfl,aS hp]
  simp only[jS,start]
  refine⟨rfl,head (s:=.one w s) hd hf (by simp only[sz]at hl;omega) hb fun aC k1 b1=>?_⟩
  have hf1:=pL hf hd
  have hl1:=pP f (.one w s)
  simp only[aJ]at hn hd
  simp only[sz]at hl
  walk_at"st"
  simp only[toD]
  walk_at"ex"
  rw[(A9 w).2]
  simp only[Bool.not_false,if_true]
  walk_at"st"
  rw[vV]
  refine⟨iN,?_⟩
  walk_at"st"
  refine ih n (by omega) (by omega) hf1 (by omega) b1 fun aG k2 b2=>?_
  try dsimp only
  rw[aE]
  dsimp only
  rw[sS]
  refine⟨iN,?_⟩
  rw[aE]
  walk_at"st"
  exact hQ aG (k1.trans k2) b2
 |two w s t ih1 ih2 =>
  intro n st Q E f hn hd hf hl hb hQ
  obtain⟨n,rfl⟩:∃ m,n=m+1:=⟨n-1,by simp only[aJ]at hn;omega⟩
  rw[show k+(n+1)=(k+n)+1 from rfl,aS hp]
  simp only[jS,start]
  refine⟨rfl,head (s:=.two w s t) hd hf (by simp only[sz]at hl;omega) hb fun aC k1 b1=>?_⟩
  have hf1:=pL hf hd
  have hl1:=pP f (.two w s t)
  simp only[aJ]at hn hd
  simp only[sz]at hl
  have hf2:=nX s hf1 (by omega)
  have hl2:=rH s (cT f (.two w s t))
  walk_at"st"
  simp only[toD]
  walk_at"ex"
  rw[show(c2 w==W "lamp")=false from by cases w<;>decide +kernel]
  simp only[Bool.not_false,if_true]
  walk_at"st"
  rw[vV]
  refine⟨iN,?_⟩
  walk_at"st"
  refine ih1 n (by omega) (by omega) hf1 (by omega) b1 fun aG k2 b2=>?_
  try dsimp only
  rw[aE]
  dsimp only
  rw[vV]
  refine⟨iN,?_⟩
  walk_at"st"
  refine ih2 n (by omega) (by omega) hf2 (by omega) b2 fun aR k3 b3=>?_
  try dsimp only
  rw[aE]
  dsimp only
  rw[sS]
  refine⟨iN,?_⟩
  rw[aE]
  walk_at"st"
  exact hQ aR (k1.trans (k2.trans k3)) b3
theorem qC (hw:G.fns iw=some gP){s:Sy}(hQ:Q (.tup ((subs s).map toD)) st):aN G (k+1) iw [toD s] st Q E:=by
 rw[aS hw]
 simp only[gP,start]
 refine⟨rfl,?_⟩
 obtain⟨r,er⟩:=jI s
 walk_at"st"
 rw[er]
 walk_at"ex"
 rw[BM,<-er]
 cases h:fP s with
 |true =>
 simp only[if_true]
 walk_at"st"
 cases s<;>first|exact hQ|cases h
 |false =>
 simp only[Bool.false_eq_true,if_false,aE]
 walk_at"st"
 rw[O6 h]
 walk_at"ex"
 exact hQ
end
end L3
end
section
namespace L3
open PySem
theorem IZ {C:bC}{sub:Nat->Nat->Bool}(hC:bP C C){c:Ex}{b:List Sx}{P:fR}(I:Nat->St->aB->Prop)
  (step:∀ m σ st,I m σ st->aH C sub (fun c aA=>P.ex c σ aA) c σ st fun d aA=>dI d aA fun k =>
   if k=true then cH C sub b { P with nx:=fun σ st=>∃ m',m'<m/\I m' σ st,ct:=fun σ st=>∃ m',m'<m/\I m' σ st,bk:=P.nx } σ aA else P.nx σ aA){m:Nat}{σ:St}{st:aB}(h:I m σ st):wpS C sub (.whl c b) P σ st:=by
 refine⟨m+1,?_⟩
 have key:∀(n m:Nat)(σ:St)(st:aB),m<n->I m σ st->mZ (fun next σ st=>aH C sub (fun c aA=>P.ex c σ aA) c σ st fun d aA=>dI d aA fun k =>
   if k=true then cH C sub b { P with nx:=next,ct:=next,bk:=P.nx } σ aA else P.nx σ aA) n σ st:=by
  intro n
  induction n with
  |zero=>intro m σ st h;omega
  |succ n ih =>
   intro m σ st hm hI
   refine aQ hC (fun _ _ z=>z) c (fun d aA=>iJ fun k=>?_) (step m σ st hI)
   split
   ·exact gX hC b ⟨fun σ st ⟨m',h1,h2⟩=>ih m' σ st (by omega) h2,fun _ _ z=>z,fun _ _ z=>z,fun σ st ⟨m',h1,h2⟩=>ih m' σ st (by omega) h2,fun _ _ _ z=>z⟩
   ·exact id
 exact key (m+1) m σ st (by omega) h
section
variable {G:Prog}{k ip iw iz:Nat}{st:aB}{Q:VK}{E:XK}
theorem fZ (s:Sy)(r:List Sy):dN (s::r)=sz s+dN r:=by simp [dN]
theorem gY (a b:List Sy):dN (a++b)=dN a+dN b:=by simp [dN]
theorem MK (s:Sy):0<sz s:=by cases s<;>simp [sz]
theorem BH (r:List Sy):r.length<=dN r:=by
 induction r with
 |nil=>simp
 |cons s r ih=>have:=MK s;simp only[fZ,List.length_cons];omega
theorem vS (hz:G.fns iz=some (jP iw))(hw:G.fns iw=some gP){l:Nat}{ss:List Sy}(hl:st l=some (.lst (ss.map toD)))(hd:∀ x∈ss,aJ x<=60)(hs:dN ss<bE)
  (hQ:∀ p aA,Ext st aA->aA p=some (.lst ((bJ ss []).map toD))->Q (.ref p) aA):aN G (k+2) iz [.ref l] st Q E:=by
 rw[aS hz]
 simp only[jP,start]
 refine⟨rfl,?_⟩
 walk_at"st"
 refine bW (by decide) fun p aC x1 hp hp1=>?_
 walk_at"st"
 rw[aF (x1 l _ hl)]
 refine bW (by have:=BH ss;simp only[List.length_reverse,List.length_map];omega) fun q aG x2 hq hq2=>?_
 have hpq:p≠q:=fun z=>by rw[z]at hp1;rw[hq]at hp1;cases hp1
 have p2:=x2 p _ hp1
 try dsimp only
 refine fQ ?_
 refine IZ (vR G (Nat.le_refl _)) (fun m σ aA=>∃(stack f:List Sy)(o:Option D),σ=[some (.ref l),some (.ref p),some (.ref q),o]/\aA p=some (.lst (f.map toD))/\aA q=some (.lst (stack.map toD).reverse)/\dN stack=m /\
  (∀ x∈stack,aJ x<=60)/\(∀ x∈f,aJ x<=60)/\f.length+dN stack<bE/\bJ stack f=bJ ss []/\Ext st aA) ?_ (m:=dN ss) ⟨ss,[],none,rfl,p2,hq2,rfl,hd,by simp,by simpa using hs,rfl,fun a o e=>x2 a o (x1 a o e)⟩
 rintro m σ aR ⟨stack,f,o,rfl,hp3,hq3,hm,hds,hdf,hlen,wL,x3⟩
 walk_at"ex"
 rw[S8,fI hq3]
 cases stack with
 |nil =>
  simp only[List.map_nil,List.reverse_nil,List.isEmpty_nil,Bool.not_true,Bool.false_eq_true,if_false]
  walk_at"st"
  refine hQ p aR x3 ?_
  rw[<-wL];exact hp3
 |cons s r =>
  have hne:(!((List.map toD (s::r)).reverse).isEmpty)=true:=by simp
  rw[hne]
  simp only[if_true]
  have hds':=hds s (by simp)
  rw[fZ]at hm hlen
  have hsp:=MK s
  have hss:=G6 s
  walk_at"st"
  rw[aF hq3]
  refine⟨trivial,?_⟩
  rw[aF hq3]
  have elast:((List.map toD (s::r)).reverse)[((List.map toD (s::r)).reverse).length-1]? = some (toD s):=by
   simp only[List.map_cons,List.reverse_cons,List.length_append,List.length_cons,List.length_nil]
   rw[List.getElem?_append_right (by simp)]
   simp
  have edrop:((List.map toD (s::r)).reverse).dropLast=(r.map toD).reverse:=by simp
  rw[elast,edrop,bA]
  try dsimp only
  have hp4:(put aR q (.lst (r.map toD).reverse)) p=some (.lst (f.map toD)):=by rw[bH hpq];exact hp3
  have hx4:Ext st (put aR q (.lst (r.map toD).reverse)):=fun a u e=>by
   by_cases ha:a=q
   ·exfalso
    rw[ha]at e
    rw[x1 q _ e]at hq;cases hq
   ·rw[bH ha];exact x3 a u e
  have head:∀{P:fR}{cP:aB}{rest:List Sx},cP p=some (.lst (f.map toD)) ->
    (∀ aA,bI [p] cP aA->aA p=some (.lst ((cT f s).map toD))->cH (aN G (k+1)) G.sub rest P [some (.ref l),some (.ref p),some (.ref q),some (toD s)] aA) ->
    cH (aN G (k+1)) G.sub ((.iff (.and_ (.cmp .in_ (.ix (.v 3) (.c (.int 0))) (.c sY)) (.cmp .fV (.v 3) (.v 1))) [.ex (.cK .append (.v 1) [(.v 3)])] [])::rest) P [some (.ref l),some (.ref p),some (.ref q),some (toD s)] cP:=by
   intro P cP rest hb hN
   obtain⟨rr,er⟩:=jI s
   walk_at"st"
   rw[er]
   simp only[sY]
   walk_at"ex"
   rw[<-er]
   refine⟨(kA jT).s,?_⟩
   have e1:(List.any (jT.map .str) fun d=>bK cP d (.str (wd s)))=bU s:=(oR (wd s) jT).trans (xD s)
   rw[e1]
   cases hpp:bU s with
   |false =>
    simp only[Bool.false_eq_true,if_false,aE]
    refine hN cP .refl ?_
    simp only[cT,hpp,Bool.false_and,Bool.false_eq_true,if_false]
    exact hb
   |true =>
    simp only[if_true]
    rw[yP,fI hb,BP]
    refine⟨wG hds',sR hdf,?_⟩
    cases hc:f.contains s with
    |true =>
     simp only[Bool.not_true,Bool.false_eq_true,if_false,aE]
     refine hN cP .refl ?_
     simp only[cT,hpp,hc,Bool.not_true,Bool.and_false,Bool.false_eq_true,if_false]
     exact hb
    |false =>
     simp only[Bool.not_false,if_true]
     walk_at"st"
     rw[aF hb]
     refine⟨trivial,?_⟩
     rw[aF hb]
     refine⟨by simp only[List.length_map];omega,?_⟩
     rw[aE]
     refine hN _ (bI.put (by simp)) ?_
     rw[aV]
     simp only[cT,hpp,hc,Bool.not_false,Bool.and_self,if_true,List.map_append,List.map_cons,List.map_nil]
  refine head hp4 fun dE k5 hp5=>?_
  have hq5:dE q=some (.lst (r.map toD).reverse):=k5 q _ (by simpa using Ne.symm hpq) aV
  have hx5:Ext st dE:=fun a u e=>by
   by_cases ha:a=p
   ·exfalso
    rw[ha]at e;rw[hp]at e;cases e
   ·exact k5 a u (by simpa using ha) (hx4 a u e)
  walk_at"st"
  rw[aF hq5]
  refine⟨trivial,qC hw ?_⟩
  walk_at"ex"
  have hsl:=BH (subs s)
  have hrl:=BH r
  refine bW (by simp only[List.length_reverse,List.length_map];omega) fun u fW x6 hu hu6=>?_
  walk_at"ex"
  rw[aF (x6 q _ hq5),aF hu6]
  refine⟨by simp only[List.length_reverse,List.length_map];omega,?_⟩
  rw[aE]
  dsimp only
  refine⟨dN (subs s++r),by rw[gY];omega,subs s++r,cT f s,_,rfl,?_,?_,rfl,fun x hx=>?_,pL hdf hds',?_,?_,fun a v e=>?_⟩
  ·rw[bH hpq];exact x6 p _ hp5
  ·rw[aV];simp
  ·rcases List.mem_append.mp hx with hx|hx
   ·have:=yV hx;omega
   ·exact hds x (by simp [hx])
  ·have:=pP f s;rw[gY];omega
  ·rw[<-MC];exact wL
  ·by_cases ha:a=q
   ·exfalso
    rw[ha]at e
    rw[x1 q _ e]at hq;cases hq
   ·rw[bH ha];exact x6 a v (hx5 a v e)
end
end L3
end
section
namespace L3
open PySem
noncomputable def eS:List (List Nat):=[W "yes", W "no", W "not", W "and", W "or", W "then", W "same", W "before", W "once", W "sofar", W "since", W "foe", W "friend", W "promise", W "must", W "wish"]
noncomputable def dR:List Nat:=W "abcdefghijklmnopqrstuvwxyz"
noncomputable def iE (nn lt lg:D):Fn:=⟨1,1,[.iff (.or_ (.not_ (.isi (.v 0) [.str])) (.cmp .in_ (.v 0) (.c nn))) [.ret (.c (.bl false))] [],.ret (.and_ (.chain .le .le (.c (.int 1)) (.bi .len [(.v 0)]) (.c lg)) (.bi .all [(.comp 1 [] [0] true none [(.v 0)] [] (.cmp .in_ (.v 0) (.c lt)))]))]⟩
noncomputable def eH (w:List Nat):Bool:=!(eS.any (·== w))&&decide (1<=w.length)&&decide (w.length<=8)&&w.all fun c=>occurs [c] dR
section
variable {G:Prog}{k i:Nat}{st:aB}{Q:VK}{E:XK}
theorem TB (st:aB)(w:List Nat):((eS.map D.str).any fun d=>bK st d (.str w))=eS.any (·== w):=by
 rw[List.any_map];rfl
theorem MR (st:aB):dG st (eS.map D.str):=⟨rfl,by decide⟩
noncomputable def OF:D->Bool
 |.str x=>occurs x dR
 |_=>false
theorem DH:∀(w:List Nat),boolsOf ((w.map fun c=>D.str [c]).map fun d=>.bl (OF d))=some (w.map fun c=>occurs [c] dR)
 |[]=>rfl
 |c::r=>by
  show(boolsOf ((r.map fun c=>D.str [c]).map fun d=>.bl (OF d))).map (_ :: ·)=_
  rw[DH r];rfl
theorem zW (h:G.fns i=some (iE (.tup (eS.map .str)) (.str dR) (.int 8))){w:List Nat}(hw:w.length<=bE)(hQ:∀ aA,Ext st aA->Q (.bl (eH w)) aA):aN G (k+1) i [.str w] st Q E:=by
 have hL:bE=16777216:=rfl
 rw[aS h]
 simp only[iE,start]
 refine⟨rfl,?_⟩
 walk_at"st"
 refine⟨MR st,?_⟩
 rw[TB]
 cases c1:eS.any (·== w)with
 |true =>
  simp only[if_true]
  walk_at"st"
  have e:eH w=false:=by simp [eH,c1]
  rw[<-e];exact hQ _ (fun _ _ z=>z)
 |false =>
  simp only[Bool.false_eq_true,if_false]
  rw[aE]
  walk_at"st"
  refine⟨hw,?_⟩
  split
  ·rename_i g1
   split
   ·rename_i g2
    refine⟨hw,?_⟩
    refine comp_map (fun d=>.bl (OF d)) _ [] st (fun aA x a ha=>by cases ha) ?_ (by simp only[List.length_map,List.length_nil];omega) fun aA x=>?_
    ·intro x hx aA K x1 hK
     obtain⟨c,hc,rfl⟩:=List.mem_map.mp hx
     exact hK aA .refl
    ·rw[List.nil_append]
     refine bW (by simp only[List.length_map];omega) fun p aG x2 hp iG=>?_
     simp only[dH]
     rw[aF iG,DH]
     have e:eH w=(w.map fun c=>occurs [c] dR).all id:=by
      simp only[eH,c1,List.all_map]
      have h1:decide (1<=w.length)=true:=decide_eq_true (by omega)
      have h2:decide (w.length<=8)=true:=decide_eq_true (by omega)
      rw[h1,h2]
      rfl
     show Q _ _
     rw[<-e]
     exact hQ _ (x.trans x2)
   ·rename_i g2
    have e:eH w=decide ((w.length:Int)<=8):=by
     have h2:decide (w.length<=8)=false:=decide_eq_false (by omega)
     have h3:decide ((w.length:Int)<=8)=false:=decide_eq_false g2
     simp only[eH,h2,h3,Bool.and_false,Bool.false_and]
    rw[<-e];exact hQ _ .refl
  ·rename_i g1
   have e:eH w=false:=by
    have h1:decide (1<=w.length)=false:=decide_eq_false (by omega)
    simp only[eH,h1,Bool.and_false,Bool.false_and]
   rw[<-e];exact hQ _ .refl
end
end L3
end
section
namespace L3
open PySem
noncomputable def kZ (gH eG:Nat)(sw:D):Fn:=⟨3,3,[.iff (.or_ (.cmp .lt (.v 2) (.c (.int 1))) (.or_ (.not_ (.isi (.v 1) [.tuple])) (.or_ (.cmp .lt (.bi .len [(.v 1)]) (.c (.int 1))) (.not_ (.isi (.ix (.v 1) (.c (.int 0))) [.str]))))) [.ret (.c (.bl false))] [],.iff (.cmp .eq (.ix (.v 1) (.c (.int 0))) (.c (.str (W "lamp")))) [.ret (.and_ (.cmp .eq (.bi .len [(.v 1)]) (.c (.int 2))) (.and_ (.call gH [(.ix (.v 1) (.c (.int 1)))]) (.cmp .in_ (.ix (.v 1) (.c (.int 1))) (.v 0))))] [],.iff (.or_ (.cmp .fV (.ix (.v 1) (.c (.int 0))) (.c sw)) (.cmp .ne (.bi .len [(.v 1)]) (.bin .add (.c (.int 1)) (.ix (.c sw) (.ix (.v 1) (.c (.int 0))))))) [.ret (.c (.bl false))] [],.ret (.bi .all [(.comp 1 [0,2] [0] true none [(.sl (.v 1) [(.c (.int 1))] [])] [] (.call eG [(.v 1),(.v 0),(.bin .sub (.v 2) (.c (.int 1)))]))])]⟩
section
variable {G:Prog}{k gH eG:Nat}{Q:VK}{E:XK}
noncomputable def uW:List D:=[(.str (W "yes")),(.str (W "no")),(.str (W "not")),(.str (W "before")),(.str (W "once")),(.str (W "sofar")),(.str (W "and")),(.str (W "or")),(.str (W "then")),(.str (W "same")),(.str (W "since"))]
noncomputable def yA:List D:=[(.int 0),(.int 0),(.int 1),(.int 1),(.int 1),(.int 1),(.int 2),(.int 2),(.int 2),(.int 2),(.int 2)]
theorem iQ {α:Type}:∀(ps:List α),boolsOf (ps.map fun _=>.bl true)=some (ps.map fun _=>true)
 |[]=>rfl
 |_::r=>by
  show(boolsOf (r.map fun _=>.bl true)).map (true :: ·)=_
  rw[iQ r];rfl
theorem sO (h:G.fns eG=some (kZ gH eG (.cM uW yA))){nm:D}{w:List Nat}{ps:List D}{st:aB}{d:Int}(hd:1<=d)(hl:¬(w==W "lamp")=true)(hin:(uW.any fun x=>bG x (.str w))=true)(har:tS uW yA (.str w)=some (.int ps.length))(hps:ps.length<=2)
  (hp:∀ x∈ps,∀(aA:aB)(Q':VK)(E':XK),Ext st aA->(∀ aT,Ext aA aT->Q' (.bl true) aT)->aN G k eG [nm,x,.int (d-1)] aA Q' E')(hQ:∀ aA,Ext st aA->Q (.bl true) aA):aN G (k+1) eG [nm,.tup (.str w::ps),.int d] st Q E:=by
 have hL:bE=16777216:=rfl
 rw[aS h]
 simp only[kZ,start]
 refine⟨rfl,?_⟩
 walk_at"st"
 have n1:¬d<1:=by omega
 simp only[if_neg n1]
 have n2:¬((ps.length+1:Nat):Int)<1:=by omega
 simp only[List.length_cons,if_neg n2]
 walk_at"ex"
 rw[aE]
 walk_at"st"
 rw[if_neg hl]
 rw[aE]
 walk_at"st"
 rw[hin]
 simp only[Bool.not_true,Bool.false_eq_true,if_false]
 rw[har]
 show plainS st (.int (1+(ps.length:Int)))/\_
 refine⟨⟨rfl,Nat.zero_le _⟩,?_⟩
 have n3:¬(!bK st (.int ((ps.length+1:Nat):Int)) (.int (1+(ps.length:Int))))=true:=by
  have e:(((ps.length+1:Nat):Int)==1+(ps.length:Int))=true:=beq_iff_eq.mpr (by omega)
  simp only[bK,e,Bool.not_true,Bool.false_eq_true,not_false_iff]
 rw[if_neg n3,aE]
 walk_at"st"
 refine comp_map (fun _=>.bl true) ps [] st (fun aA x a ha=>by cases ha) (fun x hx aA K x1 hK=>hp x hx aA _ _ x1 fun aT x2=>hK aT x2) (by simp only[List.length_nil];omega) fun aA x1=>?_
 rw[List.nil_append]
 refine bW (by simp only[List.length_map];omega) fun p aG x2 hp' iG=>?_
 simp only[dH]
 rw[aF iG,iQ]
 show Q (.bl (((ps.map fun _=>true).all id))) _
 have e:(ps.map fun _=>true).all id=true:=by simp
 rw[e]
 exact hQ _ (x1.trans x2)
theorem B4 {n:List Nat}(h:eH n=true):n.length<=8:=by
 simp only[eH,Bool.and_eq_true,decide_eq_true_eq]at h
 exact h.1.2
theorem jE (st:aB):∀(names:List (List Nat)),dG st (names.map D.str)
 |[]=>⟨rfl,Nat.zero_le _⟩
 |n::r=>⟨by simp only[List.map_cons,gC,fK,Bool.true_and];exact(jE st r).1,by simp only[List.map_cons,cG,cI];have:=(jE st r).2;omega⟩
theorem K8 (st:aB)(names:List (List Nat))(n:List Nat)(h:n∈names):((names.map D.str).any fun d=>bK st d (.str n))=true:=by
 rw[List.any_map]
 exact List.any_eq_true.mpr ⟨n,h,by show(n==n)=true;simp⟩
theorem LI (h:G.fns eG=some (kZ gH eG (.cM uW yA)))(hn:G.fns gH=some (iE (.tup (eS.map .str)) (.str dR) (.int 8))){names:List (List Nat)}(jH:∀ n∈names,eH n=true){n:List Nat}(ho:n∈names){st:aB}{d:Int}(hd:1<=d)
 (hQ:∀ aA,Ext st aA->Q (.bl true) aA):aN G (k+1+1) eG [.tup (names.map .str),.tup [.str (W "lamp"),.str n],.int d] st Q E:=by
 have hL:bE=16777216:=rfl
 rw[aS h]
 simp only[kZ,start]
 refine⟨rfl,?_⟩
 walk_at"st"
 have n1:¬d<1:=by omega
 simp only[if_neg n1]
 walk_at"ex"
 have n2:¬((0+1+1:Nat):Int)<1:=by decide
 simp only[if_neg n2]
 walk_at"ex"
 rw[aE]
 walk_at"st"
 have n3:(W "lamp" == W "lamp")=true:=by simp
 simp only[n3,if_true]
 walk_at"st"
 rw[if_pos (by decide)]
 refine zW (w:=n) hn (by have:=B4 (jH n ho);omega) fun aA x1=>?_
 rw[jH n ho]
 show dG aA (names.map .str)/\Q (.bl ((names.map D.str).any fun d=>bK aA d (.str n))) aA
 refine⟨jE aA names,?_⟩
 rw[K8 aA names n ho]
 exact hQ _ x1
theorem xH (h:G.fns eG=some (kZ gH eG (.cM uW yA)))(hn:G.fns gH=some (iE (.tup (eS.map .str)) (.str dR) (.int 8))){names:List (List Nat)}(jH:∀ n∈names,eH n=true):
  ∀(s:Sy){k:Nat}{st:aB}{Q:VK}{E:XK}{d:Int},over names s->(aJ s:Int)<=d->(∀ aA,Ext st aA->Q (.bl true) aA)->aN G (k+aJ s+1) eG [.tup (names.map .str),toD s,.int d] st Q E
 |.yes,k,st,Q,E,d,ho,hd,hQ=>by
  simp only[aJ]at hd
  exact sO h (by omega) (by decide) (by decide) rfl (by decide) (fun x hx=>by cases hx) hQ
 |.no,k,st,Q,E,d,ho,hd,hQ=>by
  simp only[aJ]at hd
  exact sO h (by omega) (by decide) (by decide) rfl (by decide) (fun x hx=>by cases hx) hQ
 |.cB n,k,st,Q,E,d,ho,hd,hQ=>by
  simp only[aJ]at hd ⊢
  exact LI h hn jH ho (by omega) hQ
 |.one w s,k,st,Q,E,d,ho,hd,hQ=>by
  simp only[aJ]at hd ⊢
  refine sO (ps:=[toD s]) h (by omega) (by cases w<;>decide) (by cases w<;>decide) (by cases w<;>rfl) (by simp) (fun x hx aA Q' E' x1 hQ'=>?_) hQ
  simp only[List.mem_singleton]at hx
  subst hx
  have:=xH h hn jH s (k:=k) (st:=aA) (Q:=Q') (E:=E') (d:=d-1) ho (by omega) hQ'
  exact this
 |.two w s t,k,st,Q,E,d,ho,hd,hQ=>by
  simp only[aJ]at hd ⊢
  refine sO (ps:=[toD s,toD t]) h (by omega) (by cases w<;>decide) (by cases w<;>decide) (by cases w<;>rfl) (by simp) (fun x hx aA Q' E' x1 hQ'=>?_) hQ
  have l1:=Nat.le_max_left (aJ s) (aJ t)
  have l2:=Nat.le_max_right (aJ s) (aJ t)
  simp only[List.mem_cons,List.not_mem_nil,or_false]at hx
  rcases hx with rfl|rfl
  ·have:=xH h hn jH s (k:=k+(max (aJ s) (aJ t)-aJ s)) (st:=aA) (Q:=Q') (E:=E') (d:=d-1) ho.1 (by omega) hQ'
   have e:k+(max (aJ s) (aJ t)-aJ s)+aJ s+1=k+(max (aJ s) (aJ t)+1):=by omega
   rw[e]at this;exact this
  ·have:=xH h hn jH t (k:=k+(max (aJ s) (aJ t)-aJ t)) (st:=aA) (Q:=Q') (E:=E') (d:=d-1) ho.2 (by omega) hQ'
   have e:k+(max (aJ s) (aJ t)-aJ t)+aJ t+1=k+(max (aJ s) (aJ t)+1):=by omega
   rw[e]at this;exact this
end
end L3
end
section
namespace L3
open PySem
noncomputable def kB:Fn:=⟨3,3,[.ret (.and_ (.isi (.v 0) [.tuple]) (.chain .le .le (.v 1) (.bi .len [(.v 0)]) (.v 2)))]⟩
noncomputable def FU (ir gH:Nat)(ml:D):Fn:=⟨2,3,[.iff (.or_ (.not_ (.call ir [(.v 0),(.c (.int 1)),(.c ml)])) (.not_ (.call ir [(.v 1),(.c (.int 1)),(.c ml)]))) [.ret (.c (.bl false))] [],.asg (.nm 2) (.bin .add (.v 0) (.v 1)),.ret (.and_ (.bi .all [(.comp 1 [] [0] true none [(.v 2)] [] (.call gH [(.v 0)]))]) (.cmp .eq (.bi .pS [(.v 2)]) (.bi .len [(.v 2)])))]⟩
section
variable {G:Prog}{k ir gH il:Nat}{st:aB}{Q:VK}{E:XK}
theorem kQ (h:G.fns ir=some kB){ds:List D}{lo hi:Int}(hQ:Q (.bl (decide (lo<=(ds.length:Int))&&decide ((ds.length:Int)<=hi))) st):aN G (k+1) ir [.tup ds,.int lo,.int hi] st Q E:=by
 rw[aS h]
 simp only[kB,start]
 refine⟨rfl,?_⟩
 walk_at"st"
 by_cases c:lo<=(ds.length:Int)
 ·rw[if_pos c]
  rw[decide_eq_true c,Bool.true_and]at hQ
  exact hQ
 ·rw[if_neg c]
  rw[decide_eq_false c,Bool.false_and]at hQ
  exact hQ
theorem DA:∀(ws seen:List (List Nat)),(seen++ws).Nodup->wK seen ws=ws.length
 |[],_,_=>rfl
 |w::r,seen,h=>by
  have e:seen.any (·== w)=false:=by
   rw[List.any_eq_false]
   intro x hx z
   have:x=w:=by simpa using z
   subst this
   rw[List.nodup_append]at h
   exact h.2.2 x hx x (by simp) rfl
  show(if seen.any (·== w)=true then 0 else 1)+wK (seen++[w]) r=_
  rw[e,DA r (seen++[w]) (by simpa using h)]
  simp only[Bool.false_eq_true,if_false,List.length_cons]
  omega
theorem zT:∀(ws:List (List Nat)),strsOf (ws.map .str)=some ws
 |[]=>rfl
 |w::r=>by
  show(strsOf (r.map .str)).map (w :: ·)=_
  rw[zT r];rfl
theorem O2 (h:G.fns il=some (FU ir gH (.int 2)))(hr:G.fns ir=some kB)(hn:G.fns gH=some (iE (.tup (eS.map .str)) (.str dR) (.int 8))){fs gs:List (List Nat)}(h1:1<=fs.length)(h2:fs.length<=2)(h3:1<=gs.length)(h4:gs.length<=2)(h5:(fs++gs).Nodup)(h6:∀ n∈fs++gs,eH n=true)
  (hQ:∀ aA,Ext st aA->Q (.bl true) aA):aN G (k+2) il [.tup (fs.map .str),.tup (gs.map .str)] st Q E:=by
 have hL:bE=16777216:=rfl
 rw[aS h]
 simp only[FU,start]
 refine⟨rfl,?_⟩
 walk_at"st"
 refine kQ hr ?_
 have e1:(decide ((1:Int)<=((fs.map D.str).length:Int))&&decide (((fs.map D.str).length:Int)<=2))=true:=by simp only[List.length_map,Bool.and_eq_true,decide_eq_true_eq];omega
 rw[e1]
 walk_at"ex"
 refine kQ hr ?_
 have e2:(decide ((1:Int)<=((gs.map D.str).length:Int))&&decide (((gs.map D.str).length:Int)<=2))=true:=by simp only[List.length_map,Bool.and_eq_true,decide_eq_true_eq];omega
 rw[e2]
 walk_at"ex"
 rw[aE]
 walk_at"st"
 refine⟨by simp only[List.length_map];omega,?_⟩
 rw[<-List.map_append]
 walk_at"st"
 refine comp_map (fun _=>.bl true) _ [] st (fun aA x a ha=>by cases ha) (fun x hx aA K x1 hK=>?_) (by simp only[List.length_map,List.length_append,List.length_nil];omega) fun aA x1=>?_
 ·obtain⟨n,hn',rfl⟩:=List.mem_map.mp hx
  refine zW (w:=n) hn (by have:=B4 (h6 n hn');omega) fun aT x2=>?_
  rw[h6 n hn']
  exact hK aT x2
 ·rw[List.nil_append]
  refine bW (by simp only[List.length_map,List.length_append];omega) fun p aG x2 hp' iG=>?_
  simp only[dH]
  rw[aF iG,iQ]
  rw[bA,zT,bA]
  have e3:(List.map (fun _=>true) ((fs++gs).map D.str)).all id=true:=by simp
  rw[if_pos e3]
  refine⟨by simp only[List.length_append];omega,?_⟩
  have e4:(((wK [] (fs++gs):Nat):Int)==((((fs++gs).map D.str).length:Nat):Int))=true:=by
   rw[DA (fs++gs) [] (by simpa using h5),List.length_map];simp
  rw[e4]
  exact hQ _ (x1.trans x2)
end
end L3
end
section
namespace L3
open PySem
noncomputable def oF (eG:Nat)(dp:D):Fn:=⟨2,2,[.ret (.call eG [(.v 0),(.v 1),(.c dp)])]⟩
noncomputable def wW (ir iy:Nat):Fn:=⟨3,3,[.ret (.and_ (.call ir [(.v 1),(.c (.int 0)),(.v 2)]) (.bi .all [(.comp 1 [0] [0] true none [(.v 1)] [] (.call iy [(.v 1),(.v 0)]))]))]⟩
noncomputable def pK (hp:D):Fn:=⟨1,1,[.ret (.and_ (.isi (.v 0) [.int]) (.and_ (.not_ (.isi (.v 0) [.bool])) (.chain .le .le (.c (.int 1)) (.v 0) (.c hp))))]⟩
noncomputable def wR (ir ip iy:Nat):Fn:=⟨2,2,[.ret (.and_ (.call ir [(.v 1),(.c (.int 2)),(.c (.int 2))]) (.and_ (.call ip [(.ix (.v 1) (.c (.int 0)))]) (.call iy [(.v 0),(.ix (.v 1) (.c (.int 1)))])))]⟩
noncomputable def zG (ir iw:Nat)(mw:D):Fn:=⟨2,2,[.ret (.and_ (.call ir [(.v 1),(.c (.int 1)),(.c mw)]) (.bi .all [(.comp 1 [0] [0] true none [(.v 1)] [] (.call iw [(.v 1),(.v 0)]))]))]⟩
section
variable {G:Prog}{k ir gH eG iy ip iw ia:Nat}{st:aB}{Q:VK}{E:XK}{names:List (List Nat)}
theorem CK (hy:G.fns iy=some (oF eG (.int 8)))(h:G.fns eG=some (kZ gH eG (.cM uW yA)))(hn:G.fns gH=some (iE (.tup (eS.map .str)) (.str dR) (.int 8)))(jH:∀ n∈names,eH n=true){s:Sy}(ho:over names s)(hd:aJ s<=8)
 (hQ:∀ aA,Ext st aA->Q (.bl true) aA):aN G (k+10) iy [.tup (names.map .str),toD s] st Q E:=by
 rw[aS hy]
 simp only[oF,start]
 refine⟨rfl,?_⟩
 walk_at"st"
 have:=xH h hn jH s (k:=k+(8-aJ s)) (st:=st) (Q:=Q) (E:=E) (d:=8) ho (by omega) hQ
 have e:k+(8-aJ s)+aJ s+1=k+9:=by omega
 rw[e]at this;exact this
theorem AN (ha:G.fns ia=some (wW ir iy))(hr:G.fns ir=some kB)(hy:G.fns iy=some (oF eG (.int 8)))(h:G.fns eG=some (kZ gH eG (.cM uW yA)))(hn:G.fns gH=some (iE (.tup (eS.map .str)) (.str dR) (.int 8)))(jH:∀ n∈names,eH n=true){ss:List Sy}{m:Int}
  (ho:∀ s∈ss,over names s/\aJ s<=8)(hl:(ss.length:Int)<=m)(hl2:ss.length<=1000)(hQ:∀ aA,Ext st aA->Q (.bl true) aA):aN G (k+11) ia [.tup (names.map .str),.tup (ss.map toD),.int m] st Q E:=by
 have hL:bE=16777216:=rfl
 rw[aS ha]
 simp only[wW,start]
 refine⟨rfl,?_⟩
 walk_at"st"
 refine kQ hr ?_
 have e1:(decide ((0:Int)<=((ss.map toD).length:Int))&&decide (((ss.map toD).length:Int)<=m))=true:=by simp only[List.length_map,Bool.and_eq_true,decide_eq_true_eq];omega
 rw[e1]
 walk_at"ex"
 refine comp_map (fun _=>.bl true) _ [] st (fun aA x a ha=>by cases ha) (fun x hx aA K x1 hK=>?_) (by simp only[List.length_map,List.length_nil];omega) fun aA x1=>?_
 ·obtain⟨s,hs,rfl⟩:=List.mem_map.mp hx
  exact CK hy h hn jH (ho s hs).1 (ho s hs).2 fun aT x2=>hK aT x2
 ·rw[List.nil_append]
  refine bW (by simp only[List.length_map];omega) fun p aG x2 hp' iG=>?_
  simp only[dH]
  rw[aF iG,iQ,bA]
  have e3:(List.map (fun _=>true) (ss.map toD)).all id=true:=by simp
  rw[e3]
  exact hQ _ (x1.trans x2)
theorem GY (h:G.fns ip=some (pK (.int 99))){p:Int}(h1:1<=p)(h2:p<=99)(hQ:Q (.bl true) st):aN G (k+1) ip [.int p] st Q E:=by
 rw[aS h]
 simp only[pK,start]
 refine⟨rfl,?_⟩
 walk_at"st"
 rw[if_pos h1,decide_eq_true h2]
 exact hQ
theorem J1 (hw:G.fns iw=some (wR ir ip iy))(hr:G.fns ir=some kB)(hp:G.fns ip=some (pK (.int 99)))(hy:G.fns iy=some (oF eG (.int 8)))(h:G.fns eG=some (kZ gH eG (.cM uW yA)))(hn:G.fns gH=some (iE (.tup (eS.map .str)) (.str dR) (.int 8)))(jH:∀ n∈names,eH n=true){s:Sy}{p:Int}
 (h1:1<=p)(h2:p<=99)(ho:over names s)(hd:aJ s<=8)(hQ:∀ aA,Ext st aA->Q (.bl true) aA):aN G (k+11) iw [.tup (names.map .str),.tup [.int p,toD s]] st Q E:=by
 rw[aS hw]
 simp only[wR,start]
 refine⟨rfl,?_⟩
 walk_at"st"
 refine kQ hr ?_
 have e1:(decide ((2:Int)<=(([.int p,toD s]:List D).length:Int))&&decide ((([.int p,toD s]:List D).length:Int)<=2))=true:=rfl
 rw[e1]
 walk_at"ex"
 refine GY hp h1 h2 ?_
 walk_at"ex"
 exact CK hy h hn jH ho hd fun aT x2=>hQ aT x2
end
end L3
end
section
namespace L3
open PySem
noncomputable def tO (ih ib:Nat):Fn:=⟨2,2,[.iff (.cmp .eq (.ix (.v 1) (.c (.int 0))) (.c (.str (W "before")))) [.ret (.c (.bl false))] [],.iff (.cmp .eq (.ix (.v 1) (.c (.int 0))) (.c (.str (W "lamp")))) [.ret (.cmp .in_ (.ix (.v 1) (.c (.int 1))) (.v 0))] [],.ret (.bi .any [(.comp 1 [0] [0] true none [(.call ih [(.v 1)])] [] (.call ib [(.v 1),(.v 0)]))])]⟩
noncomputable def eZ (gs:List (List Nat)):Sy->Bool
 |.cB n=>gs.any (·== n)
 |.one .before _=>false
 |.one _ s=>eZ gs s
 |.two _ s t=>eZ gs s||eZ gs t
 |_=>false
section
variable {G:Prog}{k ih ib ir gH eG iy ip iw ia:Nat}{st:aB}{Q:VK}{E:XK}{names:List (List Nat)}
theorem GQ (ha:G.fns ia=some (zG ir iw (.int 5)))(hw:G.fns iw=some (wR ir ip iy))(hr:G.fns ir=some kB)(hp:G.fns ip=some (pK (.int 99)))(hy:G.fns iy=some (oF eG (.int 8)))(h:G.fns eG=some (kZ gH eG (.cM uW yA)))(hn:G.fns gH=some (iE (.tup (eS.map .str)) (.str dR) (.int 8)))(jH:∀ n∈names,eH n=true){ws:List (Int×Sy)}
  (ho:∀ w∈ws,1<=w.1/\w.1<=99/\over names w.2/\aJ w.2<=8)(h1:1<=ws.length)(h2:ws.length<=5)(hQ:∀ aA,Ext st aA->Q (.bl true) aA):aN G (k+12) ia [.tup (names.map .str),.tup (ws.map fun w=>.tup [.int w.1,toD w.2])] st Q E:=by
 have hL:bE=16777216:=rfl
 rw[aS ha]
 simp only[zG,start]
 refine⟨rfl,?_⟩
 walk_at"st"
 refine kQ hr ?_
 have e1:(decide ((1:Int)<=((ws.map fun w=>D.tup [.int w.1,toD w.2]).length:Int))&&decide (((ws.map fun w=>D.tup [.int w.1,toD w.2]).length:Int)<=5))=true:=by simp only[List.length_map,Bool.and_eq_true,decide_eq_true_eq];omega
 rw[e1]
 walk_at"ex"
 refine comp_map (fun _=>.bl true) _ [] st (fun aA x a ha=>by cases ha) (fun x hx aA K x1 hK=>?_) (by simp only[List.length_map,List.length_nil];omega) fun aA x1=>?_
 ·obtain⟨s,hs,rfl⟩:=List.mem_map.mp hx
  obtain⟨o1,o2,o3,o4⟩:=ho s hs
  exact J1 hw hr hp hy h hn jH o1 o2 o3 o4 fun aT x2=>hK aT x2
 ·rw[List.nil_append]
  refine bW (by simp only[List.length_map];omega) fun p aG x2 hp' iG=>?_
  simp only[dH]
  rw[aF iG,iQ,bA]
  have e3:(List.map (fun _=>true) (ws.map fun w=>D.tup [.int w.1,toD w.2])).all id=true:=by simp
  rw[e3]
  exact hQ _ (x1.trans x2)
end
end L3
end
section
namespace L3
open PySem
theorem eE {α:Type}{g:aB->Prop}{turn:D->aB->(Option D->aB->Prop)->Prop}{R:List D->aB->Prop}(t f:α->D):∀(xs:List α)(acc:List D)(st:aB),
  (∀ aA,Ext st aA->g aA)->(∀ x∈xs,∀ aA (K:Option D->aB->Prop),Ext st aA->(∀ aT,Ext aA aT->K (some (f x)) aT)->turn (t x) aA K) ->
  acc.length+xs.length<=bE->(∀ aA,Ext st aA->R (acc++xs.map f) aA)->iR g turn (xs.map t) acc st R
 |[],acc,st,hg,_,_,hR=>⟨hg st .refl,by simpa using hR st .refl⟩
 |x::xs,acc,st,hg,ht,hl,hR=>by
  simp only[List.length_cons]at hl
  refine⟨hg st .refl,by omega,ht x (by simp) st _ .refl fun aT h''=>?_⟩
  exact eE t f xs (acc++[f x]) aT (fun aA h=>hg aA (h''.trans h)) (fun y hy aA K h=>ht y (by simp [hy]) aA K (h''.trans h)) (by simp only[List.length_append,List.length_cons,List.length_nil];omega) fun aA h=>by simpa using hR aA (h''.trans h)
theorem yY {α:Type}(b:α->Bool):∀(ps:List α),boolsOf (ps.map fun x=>.bl (b x))=some (ps.map b)
 |[]=>rfl
 |x::r=>by
  show(boolsOf (r.map fun x=>.bl (b x))).map (b x :: ·)=_
  rw[yY b r];rfl
section
variable {G:Prog}{k ih ib:Nat}{Q:VK}{E:XK}{gs:List (List Nat)}
theorem tD (h:G.fns ib=some (tO ih ib))(hh:G.fns ih=some gP){s:Sy}{st:aB}(h1:¬(wd s==W "before")=true)(h2:fP s=false)(h3:¬(wd s==W "lamp")=true)(h4:(subs s).length<=2)
 (hp:∀ x∈subs s,∀(aA:aB)(Q':VK)(E':XK),Ext st aA->(∀ aT,Ext aA aT->Q' (.bl (eZ gs x)) aT)->aN G (k+1) ib [.tup (gs.map .str),toD x] aA Q' E')(hQ:∀ aA,Ext st aA->Q (.bl ((subs s).any (eZ gs))) aA):aN G (k+2) ib [.tup (gs.map .str),toD s] st Q E:=by
 have hL:bE=16777216:=rfl
 rw[aS h]
 simp only[tO,start]
 refine⟨rfl,?_⟩
 obtain⟨r,er⟩:=jI s
 rw[er]
 walk_at"st"
 rw[if_neg h1,aE]
 walk_at"st"
 rw[if_neg h3,aE]
 walk_at"st"
 rw[<-er]
 refine qC hh ?_
 walk_at"ex"
 refine eE toD (fun x=>.bl (eZ gs x)) _ [] st (fun aA x a ha=>by cases ha) (fun x hx aA K x1 hK=>hp x hx aA _ _ x1 fun aT x2=>hK aT x2) (by simp only[List.length_nil];omega) fun aA x1=>?_
 rw[List.nil_append]
 refine bW (by simp only[List.length_map];omega) fun p aG x2 hp' iG=>?_
 simp only[dH]
 rw[aF iG,yY,bA,List.any_map]
 exact hQ _ (x1.trans x2)
theorem wX (h:G.fns ib=some (tO ih ib))(hh:G.fns ih=some gP):∀(s:Sy){k:Nat}{st:aB}{Q:VK}{E:XK},(∀ aA,Ext st aA->Q (.bl (eZ gs s)) aA)->aN G (k+aJ s+1) ib [.tup (gs.map .str),toD s] st Q E
 |.yes,k,st,Q,E,hQ=>tD (k:=k) h hh (by decide) rfl (by decide) (by decide) (fun x hx=>by cases hx) hQ
 |.no,k,st,Q,E,hQ=>tD (k:=k) h hh (by decide) rfl (by decide) (by decide) (fun x hx=>by cases hx) hQ
 |.cB n,k,st,Q,E,hQ=>by
  rw[aS h]
  simp only[tO,start,toD]
  refine⟨rfl,?_⟩
  walk_at"st"
  have n1:¬(W "lamp" == W "before")=true:=by decide
  rw[if_neg n1,aE]
  walk_at"st"
  have n3:(W "lamp" == W "lamp")=true:=by decide
  rw[if_pos n3]
  walk_at"st"
  refine⟨jE st gs,?_⟩
  have e:((gs.map D.str).any fun d=>bK st d (.str n))=eZ gs (.cB n):=by rw[List.any_map];rfl
  rw[e]
  exact hQ _ .refl
 |.one w s,k,st,Q,E,hQ=>by
  by_cases hw:w=.before
  ·subst hw
   rw[aS h]
   simp only[tO,start,toD,c1]
   refine⟨rfl,?_⟩
   walk_at"st"
   have n1:(W "before" == W "before")=true:=by decide
   rw[if_pos n1]
   walk_at"st"
   exact hQ _ .refl
  ·have e0:k+aJ (.one w s)+1=(k+aJ s)+2:=by simp only[aJ];omega
   rw[e0]
   refine tD h hh (show ¬(c1 w==W "before")=true by cases w<;>first|decide|exact absurd rfl hw) rfl (show ¬(c1 w==W "lamp")=true by cases w<;>decide) (by simp [subs]) (fun x hx aA Q' E' x1 hQ'=>?_) (fun aA x1=>?_)
   ·simp only[subs,List.mem_cons,List.not_mem_nil,or_false]at hx
    rw[hx]at hQ' ⊢
    exact wX h hh s (k:=k) (st:=aA) (Q:=Q') (E:=E') hQ'
   ·have e1:(subs (.one w s)).any (eZ gs)=eZ gs (.one w s):=by
     cases w<;>first|exact absurd rfl hw|simp [subs,eZ]
    rw[e1];exact hQ aA x1
 |.two w s t,k,st,Q,E,hQ=>by
  have l1:=Nat.le_max_left (aJ s) (aJ t)
  have l2:=Nat.le_max_right (aJ s) (aJ t)
  have e0:k+aJ (.two w s t)+1=(k+max (aJ s) (aJ t))+2:=by simp only[aJ];omega
  rw[e0]
  refine tD h hh (show ¬(c2 w==W "before")=true by cases w<;>decide) rfl (show ¬(c2 w==W "lamp")=true by cases w<;>decide) (by simp [subs]) (fun x hx aA Q' E' x1 hQ'=>?_) (fun aA x1=>by simpa [subs,eZ]using hQ aA x1)
  simp only[subs,List.mem_cons,List.not_mem_nil,or_false]at hx
  rcases hx with hx|hx
  ·rw[hx]at hQ' ⊢
   have:=wX h hh s (k:=k+(max (aJ s) (aJ t)-aJ s)) (st:=aA) (Q:=Q') (E:=E') hQ'
   have e:k+(max (aJ s) (aJ t)-aJ s)+aJ s+1=k+max (aJ s) (aJ t)+1:=by omega
   rw[e]at this;exact this
  ·rw[hx]at hQ' ⊢
   have:=wX h hh t (k:=k+(max (aJ s) (aJ t)-aJ t)) (st:=aA) (Q:=Q') (E:=E') hQ'
   have e:k+(max (aJ s) (aJ t)-aJ t)+aJ t+1=k+max (aJ s) (aJ t)+1:=by omega
   rw[e]at this;exact this
end
end L3
end
section
namespace L3
open PySem
noncomputable def A4 (ia ib:Nat)(mp:D):Fn:=⟨3,3,[.ret (.and_ (.call ia [(.v 0),(.v 2),(.c mp)]) (.not_ (.bi .any [(.comp 1 [1] [0] true none [(.v 2)] [] (.call ib [(.v 1),(.v 0)]))])))]⟩
noncomputable def qY:Fn:=⟨3,3,[.ret (.bin .add (.bin .add (.bi .list [(.v 0)]) (.bi .list [(.v 1)])) (.comp 1 [] [0] true none [(.v 2)] [] (.ix (.v 0) (.c (.int 1)))))]⟩
section
variable {G:Prog}{k ih ib ir gH eG iy ia iap io:Nat}{st:aB}{Q:VK}{E:XK}{names gs:List (List Nat)}
theorem J8 (hp:G.fns iap=some (A4 ia ib (.int 3)))(hb:G.fns ib=some (tO ih ib))(hh:G.fns ih=some gP)(ha:G.fns ia=some (wW ir iy))(hr:G.fns ir=some kB)(hy:G.fns iy=some (oF eG (.int 8)))(h:G.fns eG=some (kZ gH eG (.cM uW yA)))(hn:G.fns gH=some (iE (.tup (eS.map .str)) (.str dR) (.int 8)))(jH:∀ n∈names,eH n=true){ss:List Sy}
  (ho:∀ s∈ss,over names s/\aJ s<=8)(hl:ss.length<=3)(hbare:∀ s∈ss,eZ gs s=false)(hQ:∀ aA,Ext st aA->Q (.bl true) aA):aN G (k+12) iap [.tup (names.map .str),.tup (gs.map .str),.tup (ss.map toD)] st Q E:=by
 have hL:bE=16777216:=rfl
 rw[aS hp]
 simp only[A4,start]
 refine⟨rfl,?_⟩
 walk_at"st"
 refine AN ha hr hy h hn jH ho (by omega) (by omega) fun aC y1=>?_
 walk_at"ex"
 refine eE toD (fun _=>.bl false) _ [] aC (fun aA x a ha=>by cases ha) (fun x hx aA K x1 hK=>?_) (by simp only[List.length_nil];omega) fun aA x1=>?_
 ·have e:k+11=(k+10-aJ x)+aJ x+1:=by have:=(ho x hx).2;omega
  rw[e]
  refine wX hb hh x fun aT x2=>?_
  rw[hbare x hx]
  exact hK aT x2
 ·rw[List.nil_append]
  refine bW (by simp only[List.length_map];omega) fun p aG x2 hp' iG=>?_
  simp only[dH]
  rw[aF iG,yY (fun _=>false),bA]
  have e3:(ss.map fun _=>false).any id=false:=by simp
  rw[e3]
  exact hQ _ ((y1.trans x1).trans x2)
theorem C9 (h:G.fns io=some qY){ps ms:List Sy}{ws:List (Int×Sy)}(h1:ps.length<=1000)(h2:ms.length<=1000)(h3:ws.length<=1000)
 (hQ:∀ p aA,Ext st aA->aA p=some (.lst ((ps++ms++ws.map (·.2)).map toD))->Q (.ref p) aA):aN G (k+1) io [.tup (ps.map toD),.tup (ms.map toD),.tup (ws.map fun w=>.tup [.int w.1,toD w.2])] st Q E:=by
 have hL:bE=16777216:=rfl
 rw[aS h]
 simp only[qY,start]
 refine⟨rfl,?_⟩
 walk_at"st"
 refine bW (by simp only[List.length_map];omega) fun p aC x1 hp hp1=>?_
 walk_at"ex"
 refine bW (by simp only[List.length_map];omega) fun q aG x2 hq hq2=>?_
 walk_at"ex"
 rw[aF (x2 _ _ hp1),aF hq2]
 refine bW (by simp only[List.length_map,List.length_append];omega) fun r aR x3 hr hr3=>?_
 refine eE (fun w:Int×Sy=>D.tup [.int w.1,toD w.2]) (fun w=>toD w.2) _ [] aR (fun aA x a ha=>by cases ha) (fun x hx aA K y1 hK=>hK aA .refl) (by simp only[List.length_nil];omega) fun cP x4=>?_
 rw[List.nil_append]
 refine bW (by simp only[List.length_map];omega) fun u dE x5 hu hu5=>?_
 show cA dE r fun xs=>cA dE u fun ys=>gB (xs++ys) dE Q
 rw[aF (x5 _ _ (x4 _ _ hr3)),aF hu5]
 refine bW (by simp only[List.length_map,List.length_append];omega) fun v fW x6 hv hv6=>?_
 refine hQ v fW (((((x1.trans x2).trans x3).trans x4).trans x5).trans x6) ?_
 rw[hv6]
 simp only[List.map_append,List.map_map]
 rfl
end
end L3
end
section
namespace L3
open PySem
noncomputable def BY (ir il iap ia iaw ipi io:Nat)(mm mp:D):Fn:=⟨1,6,[.iff (.or_ (.not_ (.call ir [(.v 0),(.c (.int 5)),(.c (.int 5))])) (.not_ (.call il [(.ix (.v 0) (.c (.int 0))),(.ix (.v 0) (.c (.int 1)))]))) [.ret (.c (.bl false))] [],.asg (.nm 1) (.ix (.v 0) (.c (.int 1))),.asg (.nm 2) (.bin .add (.ix (.v 0) (.c (.int 0))) (.v 1)),.asg (.nm 3) (.ix (.v 0) (.c (.int 2))),.asg (.nm 4) (.ix (.v 0) (.c (.int 3))),.asg (.nm 5) (.ix (.v 0) (.c (.int 4))),.iff (.or_ (.not_ (.call iap [(.v 2),(.v 1),(.v 3)])) (.not_ (.call ia [(.v 2),(.v 4),(.c mm)]))) [.ret (.c (.bl false))] [],.ret (.and_ (.call iaw [(.v 2),(.v 5)]) (.cmp .le (.bi .len [(.call ipi [(.call io [(.v 3),(.v 4),(.v 5)])])]) (.c mp)))]⟩
structure Bk where
 fs:List (List Nat)
 gs:List (List Nat)
 ps:List Sy
 ms:List Sy
 ws:List (Int×Sy)
noncomputable def Bk.d (b:Bk):D:=.tup [.tup (b.fs.map .str),.tup (b.gs.map .str),.tup (b.ps.map toD),.tup (b.ms.map toD),.tup (b.ws.map fun w=>.tup [.int w.1,toD w.2])]
noncomputable def Bk.names (b:Bk):List (List Nat):=b.fs++b.gs
noncomputable def Bk.says (b:Bk):List Sy:=b.ps++b.ms++b.ws.map (·.2)
structure Bk.Ok (b:Bk):Prop where
 f1:1<=b.fs.length
 f2:b.fs.length<=2
 g1:1<=b.gs.length
 g2:b.gs.length<=2
 nd:b.names.Nodup
 nm:∀ n∈b.names,eH n=true
 p1:b.ps.length<=3
 p2:∀ s∈b.ps,over b.names s/\aJ s<=8
 p3:∀ s∈b.ps,eZ b.gs s=false
 m1:b.ms.length<=3
 m2:∀ s∈b.ms,over b.names s/\aJ s<=8
 w1:1<=b.ws.length
 w2:b.ws.length<=5
 w3:∀ w∈b.ws,1<=w.1/\w.1<=99/\over b.names w.2/\aJ w.2<=8
section
variable {G:Prog}{k ih ib ir gH eG iy ia iap io il iaw ipi ip iw ibk:Nat}{st:aB}{Q:VK}{E:XK}
theorem G4 (h:G.fns ir=some kB){ds:List D}{lo hi:Int}(h1:lo<=(ds.length:Int))(h2:(ds.length:Int)<=hi)(hQ:Q (.bl true) st):aN G (k+1) ir [.tup ds,.int lo,.int hi] st Q E :=
 kQ h (by rw[decide_eq_true h1,decide_eq_true h2];exact hQ)
end
end L3
end
section
namespace L3
open PySem
section
variable {G:Prog}{k ir il iap ia iaw ipi io ibk:Nat}{Q:VK}{E:XK}
theorem G3 (hbk:G.fns ibk=some (BY ir il iap ia iaw ipi io (.int 3) (.int 4)))(hr:G.fns ir=some kB){F J P M V N:D}{st:aB}{Φ:Nat->aB->Prop}
 (h1:∀(st:aB)(Q:VK)(E:XK),(∀ aA,Ext st aA->Q (.bl true) aA)->aN G (k+12) il [F,J] st Q E)(h2:∀(st:aB)(Q:VK),Q N st->hZ .add F J st Q)
 (h3:∀(st:aB)(Q:VK)(E:XK),(∀ aA,Ext st aA->Q (.bl true) aA)->aN G (k+12) iap [N,J,P] st Q E)(h4:∀(st:aB)(Q:VK)(E:XK),(∀ aA,Ext st aA->Q (.bl true) aA)->aN G (k+12) ia [N,M,.int 3] st Q E)
 (h5:∀(st:aB)(Q:VK)(E:XK),(∀ aA,Ext st aA->Q (.bl true) aA)->aN G (k+12) iaw [N,V] st Q E)(h6:∀(st:aB)(Q:VK)(E:XK),(∀ l aA,Ext st aA->Φ l aA->Q (.ref l) aA)->aN G (k+12) io [P,M,V] st Q E)
 (h7:∀(l:Nat)(st:aB)(Q:VK)(E:XK),Φ l st->(∀ p aA (xs:List D),Ext st aA->xs.length<=4->aA p=some (.lst xs)->Q (.ref p) aA)->aN G (k+12) ipi [.ref l] st Q E)
 (hQ:∀ aA,Ext st aA->Q (.bl true) aA):aN G (k+13) ibk [.tup [F,J,P,M,V]] st Q E:=by
 rw[aS hbk]
 simp only[BY,start]
 refine⟨rfl,?_⟩
 walk_at"st"
 refine G4 hr (Int.le_refl 5) (Int.le_refl 5) ?_
 walk_at"ex"
 refine h1 _ _ _ fun aC x1=>?_
 walk_at"ex"
 rw[aE]
 try dsimp only
 refine fQ ?_
 rw[rY,zK,B7]
 simp only[↓BO,↓EX]
 rw[jO,show eV [F,J,P,M,V] 1=some J from rfl,bA,wU]
 simp only[List.set_cons_succ,List.set_cons_zero]
 refine fQ ?_
 rw[rY,JL,zK,B7]
 simp only[↓BO,↓EX]
 rw[jO,show eV [F,J,P,M,V] 0=some F from rfl,bA,B7]
 simp only[List.set_cons_succ,List.set_cons_zero,↓X3]
 refine h2 _ _ ?_
 rw[wU]
 simp only[List.set_cons_succ,List.set_cons_zero]
 refine fQ ?_
 rw[rY,zK,B7]
 simp only[List.set_cons_succ,List.set_cons_zero,↓BO,↓EX]
 rw[jO,show eV [F,J,P,M,V] 2=some P from rfl,bA,wU]
 simp only[List.set_cons_succ,List.set_cons_zero]
 refine fQ ?_
 rw[rY,zK,B7]
 simp only[List.set_cons_succ,List.set_cons_zero,↓BO,↓EX]
 rw[jO,show eV [F,J,P,M,V] 3=some M from rfl,bA,wU]
 simp only[List.set_cons_succ,List.set_cons_zero]
 refine fQ ?_
 rw[rY,zK,B7]
 simp only[List.set_cons_succ,List.set_cons_zero,↓BO,↓EX]
 rw[jO,show eV [F,J,P,M,V] 4=some V from rfl,bA,wU]
 simp only[List.set_cons_succ,List.set_cons_zero]
 walk_at"st"
 refine h3 _ _ _ fun aG x2=>?_
 walk_at"ex"
 refine h4 _ _ _ fun aR x3=>?_
 walk_at"ex"
 rw[aE]
 walk_at"st"
 refine h5 _ _ _ fun cP x4=>?_
 walk_at"ex"
 refine h6 _ _ _ fun l dE x5 hl=>?_
 walk_at"ex"
 refine h7 _ _ _ _ hl fun p fW xs x6 hx hp=>?_
 walk_at"ex"
 unfold dO
 rw[hp]
 show Q (.bl (decide ((xs.length:Int)<=4))) fW
 rw[decide_eq_true (show(xs.length:Int)<=4 by omega)]
 exact hQ _ (((((x1.trans x2).trans x3).trans x4).trans x5).trans x6)
end
end L3
end
section
namespace L3
open PySem
section
variable {G:Prog}{k ih ib ir gH eG iy ia iap io il iaw ipi ip iw ibk:Nat}{st:aB}{Q:VK}{E:XK}
theorem JR (hbk:G.fns ibk=some (BY ir il iap ia iaw ipi io (.int 3) (.int 4)))(hla:G.fns il=some (FU ir gH (.int 2)))(hap:G.fns iap=some (A4 ia ib (.int 3)))(hb:G.fns ib=some (tO ih ib))(hh:G.fns ih=some gP)(ha:G.fns ia=some (wW ir iy))(hr:G.fns ir=some kB)(hy:G.fns iy=some (oF eG (.int 8)))(h:G.fns eG=some (kZ gH eG (.cM uW yA)))
  (hn:G.fns gH=some (iE (.tup (eS.map .str)) (.str dR) (.int 8)))(haw:G.fns iaw=some (zG ir iw (.int 5)))(hw:G.fns iw=some (wR ir ip iy))(hp:G.fns ip=some (pK (.int 99)))(ho:G.fns io=some qY)(hpi:G.fns ipi=some (jP ih)){b:Bk}(B:b.Ok)(hs:dN b.says<bE)(hd:∀ x∈b.says,aJ x<=60)(hc:(bJ b.says []).length<=4)
  (hQ:∀ aA,Ext st aA->Q (.bl true) aA):aN G (k+13) ibk [b.d] st Q E:=by
 have hL:bE=16777216:=rfl
 have f2:=B.f2
 have g2:=B.g2
 have p1:=B.p1
 have m1:=B.m1
 have w2:=B.w2
 refine G3 hbk hr (N:=.tup (b.names.map .str)) (Φ:=fun l st=>st l=some (.lst (b.says.map toD))) (fun st Q E q=>O2 (k:=k+10) hla hr hn B.f1 B.f2 B.g1 B.g2 B.nd B.nm q) (fun st Q q=>?_) (fun st Q E q=>J8 (k:=k) hap hb hh ha hr hy h hn B.nm B.p2 B.p1 B.p3 q)
  (fun st Q E q=>AN (k:=k+1) ha hr hy h hn B.nm B.m2 (by omega) (by omega) q) (fun st Q E q=>GQ (k:=k) haw hw hr hp hy h hn B.nm B.w3 B.w1 B.w2 q) (fun st Q E q=>C9 (k:=k+11) ho (by omega) (by omega) (by omega) fun p aA x e=>q p aA x e)
  (fun l st Q E e q=>vS (k:=k+10) hpi hh e hd hs fun p aA x e'=>q p aA _ x (by simpa using hc) e') hQ
 show _/\Q _ st
 refine⟨by simp only[List.length_map];omega,?_⟩
 rw[<-List.map_append]
 exact q
end
end L3
end
section
namespace L3
noncomputable def lC (f g:Nat->Bool):Nat->Bool
 |0=>g 0
 |t+1=>g (t+1)||(f (t+1)&&lC f g t)
noncomputable def J2 (names:List (List Nat))(aI:List (List Bool))(n:List Nat)(t:Nat):Bool:=(((aI[t]?).getD [])[names.idxOf n]?).getD false
noncomputable def hv (names:List (List Nat))(aI:List (List Bool)):Sy->Nat->Bool
 |.yes,_=>true
 |.no,_=>false
 |.cB n,t=>J2 names aI n t
 |.one .not s,t=>!hv names aI s t
 |.one .before s,t=>decide (0<t)&&hv names aI s (t-1)
 |.one .once s,t=>(List.range (t+1)).any (hv names aI s)
 |.one .sofar s,t=>(List.range (t+1)).all (hv names aI s)
 |.two .and s u,t=>hv names aI s t&&hv names aI u t
 |.two .or s u,t=>hv names aI s t||hv names aI u t
 |.two .aW s u,t=>hv names aI u t || !hv names aI s t
 |.two .same s u,t=>hv names aI s t==hv names aI u t
 |.two .since s u,t=>lC (hv names aI s) (hv names aI u) t
noncomputable def mV:Sy->Sy
 |.one .before s=>s
 |s=>s
noncomputable def fX:Sy->Bool
 |.one .sofar _=>true
 |_=>false
noncomputable def eM (names:List (List Nat))(aI:List (List Bool))(t:Nat)(p:Sy):Bool:=if t=0 then fX p else hv names aI (mV p) (t-1)
noncomputable def gI:Sy->Bool->List Bool->Bool
 |.one .before _,m,_=>m
 |.one .once _,m,a::_=>m||a
 |.one .sofar _,m,a::_=>m&&a
 |.two .since _ _,m,a::b::_=>b||(m&&a)
 |_,_,_=>false
noncomputable def tG:Sy->List Bool->Bool
 |.yes,_=>true
 |.one .not _,a::_=>!a
 |.two .and _ _,a::b::_=>a&&b
 |.two .or _ _,a::b::_=>a||b
 |.two .aW _ _,a::b::_=>b || !a
 |.two .same _ _,a::b::_=>a==b
 |_,_=>false
section
variable {names:List (List Nat)}{aI:List (List Bool)}
theorem Q7 (f:Nat->Bool)(t:Nat):(List.range (t+1)).any f=((List.range t).any f||f t):=by rw[List.range_succ];simp
theorem RQ (f:Nat->Bool)(t:Nat):(List.range (t+1)).all f=((List.range t).all f&&f t):=by rw[List.range_succ];simp
theorem SM {s:Sy}(h:bU s=true)(t:Nat):hv names aI s t=gI s (eM names aI t s) ((subs s).map fun u=>hv names aI u t):=by
 cases s with
 |one w a =>
  cases w with
  |not=>cases h
  |before =>
   cases t with
   |zero=>simp [hv,gI,eM,fX]
   |succ t=>simp [hv,gI,eM,mV]
  |once =>
   cases t with
   |zero=>simp [hv,gI,eM,fX,subs]
   |succ t=>simp only[hv,gI,eM,mV,subs,List.map_cons];rw[Q7];simp
  |sofar =>
   cases t with
   |zero=>simp [hv,gI,eM,fX,subs]
   |succ t=>simp only[hv,gI,eM,mV,subs,List.map_cons];rw[RQ];simp
 |two w a b =>
  cases w with
  |since =>
   cases t with
   |zero=>simp [hv,gI,eM,fX,subs,lC]
   |succ t =>
    simp only[hv,gI,eM,mV,subs,List.map_cons,lC]
    simp [Bool.and_comm]
  |_=>cases h
 |_=>cases h
theorem U9 {s:Sy}(h:bU s=false)(hl:fP s=false)(t:Nat):hv names aI s t=tG s ((subs s).map fun u=>hv names aI u t):=by
 cases s with
 |one w a=>cases w<;>first|rfl|cases h
 |two w a b=>cases w<;>first|rfl|cases h
 |cB n=>cases hl
 |_=>rfl
end
end L3
end
section
namespace L3
open PySem
local macro_rules|`(tactic| walk_at"wd")=>`(tactic| (first|rw[if_pos (by decide +kernel)]|rw[if_neg (by decide +kernel)]))
noncomputable def BJ:Fn:=⟨2,2,[.iff (.cmp .eq (.v 0) (.c (.str (W "not")))) [.ret (.not_ (.ix (.v 1) (.c (.int 0))))] [],.iff (.cmp .eq (.v 0) (.c (.str (W "and")))) [.ret (.and_ (.ix (.v 1) (.c (.int 0))) (.ix (.v 1) (.c (.int 1))))] [],.iff (.cmp .eq (.v 0) (.c (.str (W "or")))) [.ret (.or_ (.ix (.v 1) (.c (.int 0))) (.ix (.v 1) (.c (.int 1))))] [],.iff (.cmp .eq (.v 0) (.c (.str (W "then")))) [.ret (.or_ (.ix (.v 1) (.c (.int 1))) (.not_ (.ix (.v 1) (.c (.int 0)))))] [],.iff (.cmp .eq (.v 0) (.c (.str (W "same")))) [.ret (.cmp .eq (.ix (.v 1) (.c (.int 0))) (.ix (.v 1) (.c (.int 1))))] [],.ret (.cmp .eq (.v 0) (.c (.str (W "yes"))))]⟩
noncomputable def wZ:Fn:=⟨3,3,[.iff (.cmp .eq (.v 0) (.c (.str (W "before")))) [.ret (.v 1)] [],.iff (.cmp .eq (.v 0) (.c (.str (W "once")))) [.ret (.or_ (.v 1) (.ix (.v 2) (.c (.int 0))))] [],.iff (.cmp .eq (.v 0) (.c (.str (W "sofar")))) [.ret (.and_ (.v 1) (.ix (.v 2) (.c (.int 0))))] [],.ret (.or_ (.ix (.v 2) (.c (.int 1))) (.and_ (.v 1) (.ix (.v 2) (.c (.int 0)))))]⟩
section
variable {G:Prog}{k i:Nat}{st:aB}{Q:VK}{E:XK}
theorem xG {q:Nat}{bs:List Bool}{j:Nat}{b:Bool}(hq:st q=some (.lst (bs.map .bl)))(hb:bs[j]? = some b):nQ (.ref q) (.int (j:Nat)) st Q=Q (.bl b) st:=by
 have hj:j<bs.length:=by
  by_cases h:j<bs.length
  ·exact h
  ·rw[List.getElem?_eq_none (by omega)]at hb;cases hb
 rw[eI hq,eD (by simpa using hj),List.getElem?_map,hb]
 rfl
theorem VU (h:G.fns i=some BJ){s:Sy}(hp:bU s=false)(hl:fP s=false){q:Nat}{bs:List Bool}(hb:bs.length=(subs s).length)(hq:st q=some (.lst (bs.map .bl)))(hQ:Q (.bl (tG s bs)) st):aN G (k+1) i [.str (wd s),.ref q] st Q E:=by
 rw[aS h]
 simp only[BJ,start]
 refine⟨rfl,?_⟩
 cases s with
 |yes =>
  simp only[wd]
  iterate 5 (walk_at"st"; walk_at"wd"; rw[aE])
  walk_at"st"
  have e:(W "yes" == W "yes")=true:=by decide +kernel
  rw[e]
  exact hQ
 |no =>
  simp only[wd]
  iterate 5 (walk_at"st"; walk_at"wd"; rw[aE])
  walk_at"st"
  have e:(W "no" == W "yes")=false:=by decide +kernel
  rw[e]
  exact hQ
 |cB n=>cases hl
 |one w a =>
  cases w with
  |not =>
   simp only[wd,c1]
   match bs,hb,hq,hQ with
   |[b],_,hq,hQ =>
    have i0:=fun(Q:VK)=>xG (st:=st) (Q:=Q) (j:=0) hq rfl
    simp only[Int.natCast_zero]at i0
    walk_at"st"; walk_at"wd"
    walk_at"st"
    rw[i0]
    walk_at"ex"
    exact hQ
  |_=>cases hp
 |two w a c =>
  match bs,hb,hq,hQ with
  |[b,b'],_,hq,hQ =>
   have i0:=fun(Q:VK)=>xG (st:=st) (Q:=Q) (j:=0) hq rfl
   have i1:=fun(Q:VK)=>xG (st:=st) (Q:=Q) (j:=1) hq rfl
   simp only[Int.natCast_zero]at i0
   have e1:((1:Nat):Int)=1:=rfl
   rw[e1]at i1
   cases w with
   |and =>
    simp only[wd,c2]
    iterate 1 (walk_at"st"; walk_at"wd"; rw[aE])
    walk_at"st"; walk_at"wd"
    walk_at"st"
    rw[i0]
    walk_at"ex"
    cases b with
    |false=>simpa [tG]using hQ
    |true=>simp only[if_true];rw[i1];simpa [tG]using hQ
   |or =>
    simp only[wd,c2]
    iterate 2 (walk_at"st"; walk_at"wd"; rw[aE])
    walk_at"st"; walk_at"wd"
    walk_at"st"
    rw[i0]
    walk_at"ex"
    cases b with
    |true=>simpa [tG]using hQ
    |false=>simp only[Bool.false_eq_true,if_false];rw[i1];simpa [tG]using hQ
   |aW =>
    simp only[wd,c2]
    iterate 3 (walk_at"st"; walk_at"wd"; rw[aE])
    walk_at"st"; walk_at"wd"
    walk_at"st"
    rw[i1]
    walk_at"ex"
    cases b' with
    |true=>simpa [tG]using hQ
    |false=>simp only[Bool.false_eq_true,if_false];walk_at"ex"; rw[i0];walk_at"ex"; simpa [tG]using hQ
   |same =>
    simp only[wd,c2]
    iterate 4 (walk_at"st"; walk_at"wd"; rw[aE])
    walk_at"st"; walk_at"wd"
    walk_at"st"
    rw[i0]
    rw[i1]
    walk_at"ex"
    exact hQ
   |since=>cases hp
theorem RE (h:G.fns i=some wZ){s:Sy}(hp:bU s=true){q:Nat}{m:Bool}{bs:List Bool}(hb:bs.length=(subs s).length)(hq:st q=some (.lst (bs.map .bl)))(hQ:Q (.bl (gI s m bs)) st):aN G (k+1) i [.str (wd s),.bl m,.ref q] st Q E:=by
 rw[aS h]
 simp only[wZ,start]
 refine⟨rfl,?_⟩
 cases s with
 |one w a =>
  match bs,hb,hq,hQ with
  |[b],_,hq,hQ =>
   have i0:=fun(Q:VK)=>xG (st:=st) (Q:=Q) (j:=0) hq rfl
   simp only[Int.natCast_zero]at i0
   cases w with
   |not=>cases hp
   |before =>
    simp only[wd,c1]
    walk_at"st"; walk_at"wd"
    walk_at"st"
    exact hQ
   |once =>
    simp only[wd,c1]
    iterate 1 (walk_at"st"; walk_at"wd"; rw[aE])
    walk_at"st"; walk_at"wd"
    walk_at"st"
    cases m with
    |true=>simpa [gI]using hQ
    |false=>simp only[Bool.false_eq_true,if_false];rw[i0];simpa [gI]using hQ
   |sofar =>
    simp only[wd,c1]
    iterate 2 (walk_at"st"; walk_at"wd"; rw[aE])
    walk_at"st"; walk_at"wd"
    walk_at"st"
    cases m with
    |false=>simpa [gI]using hQ
    |true=>simp only[if_true];rw[i0];simpa [gI]using hQ
 |two w a c =>
  match bs,hb,hq,hQ with
  |[b,b'],_,hq,hQ =>
   have i0:=fun(Q:VK)=>xG (st:=st) (Q:=Q) (j:=0) hq rfl
   have i1:=fun(Q:VK)=>xG (st:=st) (Q:=Q) (j:=1) hq rfl
   simp only[Int.natCast_zero]at i0
   have e1:((1:Nat):Int)=1:=rfl
   rw[e1]at i1
   cases w with
   |since =>
    simp only[wd,c2]
    iterate 3 (walk_at"st"; walk_at"wd"; rw[aE])
    walk_at"st"
    rw[i1]
    walk_at"ex"
    cases b' with
    |true=>simpa [gI]using hQ
    |false =>
     simp only[Bool.false_eq_true,if_false]
     cases m with
     |false=>simpa [gI]using hQ
     |true=>simp only[if_true];rw[i0];simpa [gI]using hQ
   |_=>cases hp
 |_=>cases hp
end
end L3
end
section
namespace L3
open PySem
mutual
theorem PD {st:aB}:∀(a b:D),aX a=true->bK st a b=bG a b
 |.non,b,_=>by cases b<;>simp only[bK,bG]
 |.bl _,b,_=>by cases b<;>simp only[bK,bG]
 |.int _,b,_=>by cases b<;>simp only[bK,bG]
 |.str _,b,_=>by cases b<;>simp only[bK,bG]
 |.tup as,b,h=>by
  cases b with
  |tup bs=>simp only[bK,bG];exact P4 as bs (by simpa [aX]using h)
  |_=>simp only[bK,bG]
 |.ref _,_,h=>by simp [aX]at h
 |.cM _ _,_,h=>by simp [aX]at h
 |.bB _,_,h=>by simp [aX]at h
 |.exc _,_,h=>by simp [aX]at h
theorem P4 {st:aB}:∀(as bs:List D),bL as=true->hU st as bs=fS as bs
 |[],[],_=>rfl
 |[],_::_,_=>rfl
 |_::_,[],_=>rfl
 |a::as,b::bs,h=>by
  simp only[bL,Bool.and_eq_true]at h
  simp only[hU,fS]
  rw[PD a b h.1,P4 as bs h.2]
end
theorem HV (s t:Sy):bG (toD s) (toD t)=decide (s=t):=by rw[<-PD (st:=fun _=>none) _ _ (kN s)];exact nY s t
theorem FZ (x:Sy)(f:List Sy):((f.map toD).any fun d=>bG d (toD x))=f.contains x:=by
 rw[<-BP (st:=fun _=>none),List.any_map,List.any_map]
 congr 1
 funext y
 simp only[Function.comp]
 rw[PD _ _ (kN y)]
theorem wY:∀ s:Sy,iD (toD s)=true
 |.yes=>rfl
 |.no=>rfl
 |.cB n=>rfl
 |.one w s=>by simp only[toD,iD,iL,wY s,Bool.and_self]
 |.two w s t=>by simp only[toD,iD,iL,wY s,wY t,Bool.and_self]
theorem nB {s:Sy}(h:aJ s<=8):keyed (toD s):=by
 have h1:=wY s
 have h2:=nW s
 obtain⟨r,e⟩:=jI s
 rw[e]at h1 h2 ⊢
 simp only[iD]at h1
 simp only[cI]at h2
 exact⟨h1,by omega⟩
theorem vU {st:aB}{n:List Nat}:∀{names:List (List Nat)},n∈names->findD st (.str n) (names.map .str)=some (names.idxOf n)
 |[],h=>by cases h
 |m::r,h=>by
  simp only[List.map_cons,findD,gQ]
  by_cases e:m=n
  ·subst e;simp [List.idxOf_cons]
  ·rw[if_neg (by simpa using e),vU (by simpa [Ne.symm e]using h)]
   rw[List.idxOf_cons,beq_eq_false_iff_ne.mpr e];rfl
theorem CF {st:aB}{s:Sy}:∀{ps:List Sy},s∈ps->findD st (toD s) (ps.map toD)=some (ps.idxOf s)
 |[],h=>by cases h
 |m::r,h=>by
  simp only[List.map_cons,findD,nY]
  by_cases e:m=s
  ·subst e;simp [List.idxOf_cons]
  ·rw[if_neg (by simpa using e),CF (by simpa [Ne.symm e]using h)]
   rw[List.idxOf_cons,beq_eq_false_iff_ne.mpr e];rfl
noncomputable def iY (names:List (List Nat))(aU:List Sy):Sy->D
 |.cB n=>.int (names.idxOf n:Nat)
 |s=>if bU s then .int (aU.idxOf s:Nat)else .non
noncomputable def CY (aU:List Sy):Sy->Prop
 |.one w s=>(p1 w=true->Sy.one w s∈aU)/\CY aU s
 |.two w s t=>(p2 w=true->Sy.two w s t∈aU)/\CY aU s/\CY aU t
 |_=>True
structure Good (names:List (List Nat))(aU:List Sy)(s:Sy):Prop where
 ov:over names s
 dp:aJ s<=8
 pp:CY aU s
theorem Good.subs {names:List (List Nat)}{aU:List Sy}{s t:Sy}(h:Good names aU s)(ht:t∈subs s):Good names aU t:=by
 have hd:=yV ht
 have h0:=h.dp
 cases s with
 |one w a =>
 simp only[L3.subs,List.mem_singleton]at ht;subst ht
 exact⟨h.ov,by omega,h.pp.2⟩
 |two w a b =>
 simp only[L3.subs,List.mem_cons,List.not_mem_nil,or_false]at ht
 rcases ht with rfl|rfl
 ·exact⟨h.ov.1,by omega,h.pp.2.1⟩
 ·exact⟨h.ov.2,by omega,h.pp.2.2⟩
 |_=>cases ht
theorem Good.mem {names:List (List Nat)}{aU:List Sy}{s:Sy}(h:Good names aU s)(hp:bU s=true):s∈aU:=by
 cases s with
 |one w a=>exact h.pp.1 hp
 |two w a b=>exact h.pp.1 hp
 |_=>cases hp
noncomputable def Bg (st:aB)(lr:Nat)(names:List (List Nat))(aU R:List Sy)(j:Nat)(s:Sy)(d:D):Prop:=∃(q:Nat)(is:List Nat),d=.tup [.str (wd s),iY names aU s,.ref q]/\q≠lr/\st q=some (.lst (is.map fun i=>.int (i:Nat)))/\is.length=(subs s).length /\
 ∀(m i:Nat)(t:Sy),is[m]? = some i->(subs s)[m]? = some t->i<j/\R[i]? = some t
noncomputable def X2 (st:aB)(lr:Nat)(names:List (List Nat))(aU R:List Sy)(rows:List D):Prop:=rows.length=R.length/\∀ j s d,R[j]? = some s->rows[j]? = some d->Bg st lr names aU R j s d
noncomputable def vT (n:Nat):List D:=(List.range n).map fun i=>.int (i:Nat)
noncomputable def nR (names:List (List Nat))(lp lr ld:Nat):List (List Nat×D):=[(W "names", .tup (names.map .str)),(W "pieces", .ref lp),(W "rows", .ref lr),(W "row_of", .ref ld)]
structure gS (st:aB)(p lp lr ld:Nat)(names:List (List Nat))(aU R:List Sy)(xs:List (List Nat×D)):Prop where
 ins:st p=some (.ins (W "Table") (nR names lp lr ld++xs))
 pc:st lp=some (.lst (aU.map toD))
 rows:∃ rows,st lr=some (.lst rows)/\X2 st lr names aU R rows
 tab:st ld=some (.tab (R.map toD) (vT R.length))
 ne:lp≠lr
 nd:R.Nodup
 gd:∀ s∈R,Good names aU s
 len:R.length<=5000
 pd:∀ s∈aU,aJ s<=60
theorem NQ {names:List (List Nat)}{lp lr ld:Nat}{xs:List (List Nat×D)}:cC (nR names lp lr ld++xs) (W "names")=some (.tup (names.map .str)):=by
 simp only[nR,List.cons_append,cC];rw[if_pos True.intro]
theorem uU {names:List (List Nat)}{lp lr ld:Nat}{xs:List (List Nat×D)}:cC (nR names lp lr ld++xs) (W "pieces")=some (.ref lp):=by
 simp only[nR,List.cons_append,cC];rw[if_neg (by decide +kernel),if_pos True.intro]
theorem BC {names:List (List Nat)}{lp lr ld:Nat}{xs:List (List Nat×D)}:cC (nR names lp lr ld++xs) (W "rows")=some (.ref lr):=by
 simp only[nR,List.cons_append,cC];rw[if_neg (by decide +kernel),if_neg (by decide +kernel),if_pos True.intro]
theorem lX {names:List (List Nat)}{lp lr ld:Nat}{xs:List (List Nat×D)}:cC (nR names lp lr ld++xs) (W "row_of")=some (.ref ld):=by
 simp only[nR,List.cons_append,cC];rw[if_neg (by decide +kernel),if_neg (by decide +kernel),if_neg (by decide +kernel),if_pos True.intro]
theorem jD {names:List (List Nat)}{lp lr ld:Nat}{xs:List (List Nat×D)}{f:List Nat}(h1:W "names" ≠ f)(h2:W "pieces" ≠ f)(h3:W "rows" ≠ f)(h4:W "row_of" ≠ f):cC (nR names lp lr ld++xs) f=cC xs f:=by
 simp only[nR,List.cons_append,List.nil_append,cC];rw[if_neg h1,if_neg h2,if_neg h3,if_neg h4]
theorem gS.keep {st aA:aB}{p lp lr ld:Nat}{names:List (List Nat)}{aU R:List Sy}{xs:List (List Nat×D)}(T:gS st p lp lr ld names aU R xs)(h:Ext st aA):gS aA p lp lr ld names aU R xs:=by
 obtain⟨rows,r1,r2,r3⟩:=T.rows
 refine⟨h _ _ T.ins,h _ _ T.pc,⟨rows,h _ _ r1,r2,fun j s d e1 e2=>?_⟩,h _ _ T.tab,T.ne,T.nd,T.gd,T.len,T.pd⟩
 obtain⟨q,is,a1,a2,a3,a4⟩:=r3 j s d e1 e2
 exact⟨q,is,a1,a2,h _ _ a3,a4⟩
theorem FD {s:Sy}:∀{R:List Sy}{vs:List D}{j:Nat}{d:D},R.Nodup->R[j]? = some s->vs[j]? = some d->vs.length=R.length->kH (R.map toD) vs (toD s)=some d
 |[],_,_,_,_,h,_,_=>by simp at h
 |x::R,[],_,_,_,_,_,h=>by simp at h
 |x::R,v::vs,0,d,nd,h,hv,hl=>by
  simp at h hv
  subst h hv
  simp only[List.map_cons,kH,HV,decide_true,if_true]
 |x::R,v::vs,j+1,d,nd,h,hv,hl=>by
  simp at h hv hl
  have hx:x≠s:=fun e=>by subst e;exact(List.nodup_cons.mp nd).1 (List.mem_of_getElem? h)
  simp only[List.map_cons,kH,HV]
  rw[if_neg (by simpa using hx)]
  exact FD (List.nodup_cons.mp nd).2 h hv hl
theorem S1 (n:Nat):(vT n).length=n:=by simp [vT]
theorem VA {n j:Nat}(h:j<n):(vT n)[j]? = some (.int (j:Nat)):=by simp [vT,h]
theorem gS.look {st:aB}{p lp lr ld:Nat}{names:List (List Nat)}{aU R:List Sy}{xs:List (List Nat×D)}(T:gS st p lp lr ld names aU R xs){s:Sy}{j:Nat}(h:R[j]? = some s):kH (R.map toD) (vT R.length) (toD s)=some (.int (j:Nat)):=by
 have hj:j<R.length:=by
  by_cases q:j<R.length
  ·exact q
  ·rw[List.getElem?_eq_none (by omega)]at h;cases h
 exact FD T.nd h (VA hj) (S1 _)
end L3
end
section
namespace L3
open PySem
noncomputable def mQ:Fn:=⟨2,2,[.iff (.cmp .eq (.ix (.v 1) (.c (.int 0))) (.c (.str (W "lamp")))) [.ret (.cK .index (.fld (W "Table") (W "names") (.v 0)) [(.ix (.v 1) (.c (.int 1)))])] [],.iff (.cmp .in_ (.ix (.v 1) (.c (.int 0))) (.c sY)) [.ret (.cK .index (.fld (W "Table") (W "pieces") (.v 0)) [(.v 1)])] [],.ret (.c .non)]⟩
noncomputable def zD:Fn:=⟨2,2,[.iff (.cmp .eq (.ix (.v 1) (.c (.int 0))) (.c (.str (W "before")))) [.ret (.dix (.fld (W "Table") (W "row_of") (.v 0)) (.ix (.v 1) (.c (.int 1))))] [],.ret (.dix (.fld (W "Table") (W "row_of") (.v 0)) (.v 1))]⟩
noncomputable def zV (iph inh:Nat):Fn:=⟨3,8,[.asg (.nm 3) (.lst []),.iX (.tp [4,5,6]) none [(.fld (W "Table") (W "rows") (.v 0))] [.asg (.nm 7) (.comp 1 [3] [0] true none [(.v 6)] [] (.ix (.v 1) (.v 0))),.iff (.cmp .eq (.v 4) (.c (.str (W "lamp")))) [.ex (.cK .append (.v 3) [(.ix (.v 2) (.v 5))])] [.iff (.cmp .in_ (.v 4) (.c sY)) [.ex (.cK .append (.v 3) [(.call iph [(.v 4),(.ix (.v 1) (.v 5)),(.v 7)])])] [.ex (.cK .append (.v 3) [(.call inh [(.v 4),(.v 7)])])]]],.ret (.v 3)]⟩
noncomputable def GL:Fn:=⟨2,2,[.ret (.bi .tuple [(.comp 1 [1] [0] true none [(.fld (W "Table") (W "remembered_rows") (.v 0))] [] (.ix (.v 1) (.v 0)))])]⟩
theorem jR {α:Type}(t:α->D){g:aB->Prop}{turn:D->(St->aB->Prop)->St->aB->Prop}{N:St->aB->Prop}(I:List α->St->aB->Prop)(hg:∀ xs σ st,I xs σ st->g st)
 (ht:∀ x r σ st (M:St->aB->Prop),I (x::r) σ st->(∀ σ' aA,I r σ' aA->M σ' aA)->turn (t x) M σ st)(hN:∀ σ st,I [] σ st->N σ st):∀(xs:List α)(σ:St)(st:aB),I xs σ st->oT g turn N (xs.map t) σ st
 |[],σ,st,h=>⟨hg _ _ _ h,hN _ _ h⟩
 |x::xs,σ,st,h=>⟨hg _ _ _ h,ht x xs σ st _ h fun σ' aA h'=>jR t I hg ht hN xs σ' aA h'⟩
theorem xW {names:List (List Nat)}{aU:List Sy}{s:Sy}(hl:fP s=false)(hp:bU s=true):iY names aU s=.int (aU.idxOf s:Nat):=by
 unfold iY
 split
 ·simp [fP]at hl
 ·rw[if_pos hp]
theorem JZ {names:List (List Nat)}{aU:List Sy}{s:Sy}(hl:fP s=false)(hp:bU s=false):iY names aU s=.non:=by
 unfold iY
 split
 ·simp [fP]at hl
 ·rw[hp];rfl
section
variable {G:Prog}{k i iph inh:Nat}{st:aB}{Q:VK}{E:XK}{p lp lr ld:Nat}{names:List (List Nat)}{aU R:List Sy}{xs:List (List Nat×D)}
theorem M5 (h:G.fns i=some mQ)(tins:st p=some (.ins (W "Table") (nR names lp lr ld++xs)))(tpc:st lp=some (.lst (aU.map toD)))(tpd:∀ s∈aU,aJ s<=60){s:Sy}(g:Good names aU s)(hQ:Q (iY names aU s) st):aN G (k+1) i [.ref p,toD s] st Q E:=by
 rw[aS h]
 simp only[mQ,start]
 refine⟨rfl,?_⟩
 obtain⟨r,er⟩:=jI s
 cases hl:fP s with
 |true =>
  cases s with
  |cB n =>
   simp only[toD]
   walk_at"st"
   rw[if_pos (by decide +kernel)]
   walk_at"st"
   rw[fF tins NQ]
   walk_at"ex"
   rw[wA,rW,zA,rW]
   refine⟨True.intro,tQ,jE st names,?_⟩
   rw[vU g.ov,bA]
   exact hQ
  |_=>cases hl
 |false =>
  have h1:(wd s==W "lamp")=false:=by rw[BM];exact hl
  have eP:∀ st:aB,(List.any (jT.map .str) fun d=>bK st d (.str (wd s)))=bU s:=fun st=>(oR (wd s) jT).trans (xD s)
  rw[er]
  walk_at"st"
  rw[if_neg (by rw[h1];exact Bool.false_ne_true),aE]
  walk_at"st"
  simp only[sY]
  walk_at"ex"
  refine⟨(kA jT).s,?_⟩
  rw[eP st]
  cases hp:bU s with
  |true =>
   simp only[if_true]
   walk_at"st"
   rw[fF tins uU]
   walk_at"ex"
   rw[wA,BU,aF tpc,zA,BU,aF tpc,<-er]
   refine⟨True.intro,wG (by have:=g.dp;omega),sR tpd,?_⟩
   rw[CF (g.mem hp),bA]
   have e:iY names aU s=.int (aU.idxOf s:Nat):=xW hl hp
   rw[e]at hQ
   exact hQ
  |false =>
   simp only[Bool.false_eq_true,if_false,aE]
   walk_at"st"
   have e:iY names aU s=.non:=JZ hl hp
   rw[e]at hQ
   exact hQ
theorem CN (s:Sy)(hp:bU s=true):(wd s==W "before")=true/\(∃ a,s=.one .before a)∨(wd s==W "before")=false/\mV s=s:=by
 cases s with
 |one w a=>cases w<;>first|exact .inl ⟨by simp only[wd,c1];decide +kernel,a,rfl⟩|exact .inr ⟨by simp only[wd,c1];decide +kernel,rfl⟩|cases hp
 |two w a b=>cases w<;>first|exact .inr ⟨by simp only[wd,c2];decide +kernel,rfl⟩|cases hp
 |_=>cases hp
theorem US (h:G.fns i=some zD)(T:gS st p lp lr ld names aU R xs){s:Sy}(hp:bU s=true)(hd:aJ s<=8){j:Nat}(hj:R[j]? = some (mV s))(hQ:Q (.int (j:Nat)) st):aN G (k+1) i [.ref p,toD s] st Q E:=by
 rw[aS h]
 simp only[zD,start]
 refine⟨rfl,?_⟩
 rcases CN s hp with⟨e1,a,rfl⟩|⟨e1,e2⟩
 ·simp only[toD,c1]
  walk_at"st"
  rw[if_pos (by decide +kernel)]
  walk_at"st"
  rw[fF T.ins lX]
  walk_at"ex"
  simp only[mV]at hj
  simp only[aJ]at hd
  rw[zS T.tab (nB (by omega)) (T.look hj)]
  exact hQ
 ·obtain⟨r,er⟩:=jI s
  rw[er]
  walk_at"st"
  rw[if_neg (by rw[e1];exact Bool.false_ne_true),aE]
  walk_at"st"
  rw[fF T.ins lX]
  walk_at"ex"
  rw[e2]at hj
  rw[<-er,zS T.tab (nB hd) (T.look hj)]
  exact hQ
theorem Q8 (h:G.fns i=some (zV iph inh))(hn:G.fns inh=some BJ)(hpa:G.fns iph=some wZ)(T:gS st p lp lr ld names aU R xs){mem set:List Bool}(V:Sy->Bool)
  (v1:∀ n∈names,set[names.idxOf n]? = some (V (.cB n)))(v2:∀ s∈aU,bU s=true->∃ m,mem[aU.idxOf s]? = some m/\V s=gI s m ((subs s).map V))(v3:∀ s,bU s=false->fP s=false->V s=tG s ((subs s).map V))
  (hQ:∀ aA q,st q=none->Ext st aA->aA q=some (.lst (R.map fun s=>.bl (V s)))->Q (.ref q) aA):aN G (k+2) i [.ref p,.tup (mem.map .bl),.tup (set.map .bl)] st Q E:=by
 have hL:bE=16777216:=rfl
 rw[aS h]
 simp only[zV,start]
 refine⟨rfl,?_⟩
 walk_at"st"
 refine bW (by simp) fun q aC x1 hq hq1=>?_
 obtain⟨rows,r1,r2,r3⟩:=T.rows
 have T1:=T.keep x1
 walk_at"st"
 rw[fF T1.ins BC]
 rw[pG,aF (x1 _ _ r1)]
 have ez:rows=(R.zip rows).map Prod.snd:=by rw[List.map_snd_zip (by omega)]
 rw[ez]
 have qlr:q≠lr:=fun z=>by rw[z,r1]at hq;cases hq
 refine jR Prod.snd (I:=fun r σ aA=>∃ j o4 o5 o6 o7,r=(R.zip rows).drop j/\σ=[some (.ref p),some (.tup (mem.map .bl)),some (.tup (set.map .bl)),some (.ref q),o4,o5,o6,o7]/\bI [q] aC aA/\aA q=some (.lst ((R.take j).map fun s=>.bl (V s)))) (fun r σ aA ⟨j,_,_,_,_,_,_,k1,_⟩=>?_) (fun x r σ aA M ⟨j,o4,o5,o6,o7,e1,e2,k1,k2⟩ hM=>?_) (fun σ aA ⟨j,o4,o5,o6,o7,e1,e2,k1,k2⟩=>?_) _ _ _ ⟨0,none,none,none,none,rfl,rfl,.refl,by simpa using hq1⟩
 ·intro a ha
  simp only[List.mem_singleton]at ha
  subst ha
  rw[x1 _ _ r1]
  exact k1 _ _ (by simpa using qlr.symm) (x1 _ _ r1)
 ·-- a row
  have hz:j<(R.zip rows).length:=by
   by_cases z:j<(R.zip rows).length
   ·exact z
   ·rw[List.drop_eq_nil_of_le (by omega)]at e1;cases e1
  have hjR:j<R.length:=by rw[List.length_zip]at hz;omega
  have hjr:j<rows.length:=by rw[List.length_zip]at hz;omega
  rw[List.drop_eq_getElem_cons hz]at e1
  injection e1 with e3 e4
  have ex:x=(R[j],rows[j]):=by rw[e3];simp
  obtain⟨s,d⟩:=x
  injection ex with es ed
  have hs:R[j]? = some s:=by rw[List.getElem?_eq_getElem hjR,es]
  have hd:rows[j]? = some d:=by rw[List.getElem?_eq_getElem hjr,ed]
  obtain⟨qq,is,f1,f2,f3,f4,f5⟩:=r3 j s d hs hd
  have gs:=T.gd s (List.mem_of_getElem? hs)
  have hlR:=T.len
  subst e2
  have qqq:qq≠q:=fun z=>by rw[z,hq]at f3;cases f3
  have f3':aA qq=some (.lst (is.map fun i=>.int (i:Nat))):=k1 _ _ (by simpa using qqq) (x1 _ _ f3)
  have hsub:(subs s).length<=2:=by cases s<;>simp [subs]
  show jG false [4,5,6] d _ _
  rw[f1]
  walk_at"ex"
  walk_at"st"
  rw[aF f3']
  have hval:∀ i∈is,∃ t,R[i]? = some t/\i<j:=fun i hi=>by
   obtain⟨m,hm⟩:=List.mem_iff_getElem?.mp hi
   have hml:m<(subs s).length:=by
    have:m<is.length:=by
     by_cases z:m<is.length
     ·exact z
     ·rw[List.getElem?_eq_none (by omega)]at hm;cases hm
    omega
   obtain⟨a,b⟩:=f5 m i _ hm (List.getElem?_eq_getElem hml)
   exact⟨_,b,a⟩
  refine eE (fun i:Nat=>D.int (i:Nat)) (fun i=>.bl (V ((R[i]?).getD .yes))) is [] aA (fun aT y a ha=>?_) (fun i hi aT K y1 hK=>?_) (by simp only[List.length_nil];omega) fun aG y2=>?_
  ·simp only[List.mem_singleton]at ha
   subst ha
   rw[f3',y _ _ f3']
  ·obtain⟨t,ht,hij⟩:=hval i hi
   show nQ _ _ aT _
   have hlen:i<((R.take j).map fun s=>D.bl (V s)).length:=by simp;omega
   rw[eI (y1 _ _ k2),eD hlen,List.getElem?_map,List.getElem?_take,if_pos hij,ht]
   have:=hK aT .refl
   rw[ht]at this
   exact this
  rw[List.nil_append]
  have hparts:(is.map fun i=>D.bl (V ((R[i]?).getD .yes)))=((subs s).map V).map .bl:=by
   apply List.ext_getElem?
   intro m
   rw[List.getElem?_map,List.getElem?_map,List.getElem?_map]
   cases hm:is[m]? with
   |none =>
    have:is.length<=m:=by
     by_cases z:m<is.length
     ·rw[List.getElem?_eq_getElem z]at hm;cases hm
     ·omega
    rw[List.getElem?_eq_none (by omega)];rfl
   |some i =>
    have hml:m<(subs s).length:=by
     have:m<is.length:=by
      by_cases z:m<is.length
      ·exact z
      ·rw[List.getElem?_eq_none (by omega)]at hm;cases hm
     omega
    obtain⟨_,b⟩:=f5 m i _ hm (List.getElem?_eq_getElem hml)
    rw[List.getElem?_eq_getElem hml]
    simp only[Option.map_some]
    rw[b];rfl
  rw[hparts]
  refine bW (by simp only[List.length_map];omega) fun pp aR y3 hpp qV=>?_
  walk_at"ex"
  have k3:aR q=some (.lst ((R.take j).map fun s=>.bl (V s))):=y3 _ _ (y2 _ _ k2)
  have kk3:bI [q] aC aR:=fun a o na e=>y3 _ _ (y2 _ _ (k1 a o na e))
  have fin:∀(σ':St),(∃ o4 o5 o6 o7,σ'=[some (.ref p),some (.tup (mem.map .bl)),some (.tup (set.map .bl)),some (.ref q),o4,o5,o6,o7])->∀ b,b=V s->M σ' (put aR q (.lst (((R.take j).map fun s=>.bl (V s))++[.bl b]))):=fun σ' ⟨o4,o5,o6,o7,e⟩ b hb=>by
   refine hM σ' _ ⟨j+1,o4,o5,o6,o7,e4,e,fun a o na e=>by rw[bH (by simpa using na)];exact kk3 a o na e,?_⟩
   rw[aV,List.take_succ,hs,hb]
   simp
  have hlq:((R.take j).map fun s=>D.bl (V s)).length<bE:=by simp;omega
  cases hl:fP s with
  |true =>
   cases s with
   |cB n =>
    simp only[wd]
    walk_at"st"
    rw[if_pos (by decide +kernel)]
    walk_at"st"
    rw[aF k3]
    refine⟨True.intro,?_⟩
    simp only[iY]
    have hv:=v1 n gs.ov
    have hlen:names.idxOf n<(set.map D.bl).length:=by
     rw[List.length_map]
     by_cases z:names.idxOf n<set.length
     ·exact z
     ·rw[List.getElem?_eq_none (by omega)]at hv;cases hv
    rw[jO,eD hlen,List.getElem?_map,hv,Option.map_some,bA,aF k3]
    refine⟨hlq,?_⟩
    simp only[aE]
    exact fin _ ⟨_,_,_,_,rfl⟩ _ rfl
   |_=>cases hl
  |false =>
   have h1:(wd s==W "lamp")=false:=by rw[BM];exact hl
   have eP:∀ st:aB,(List.any (jT.map .str) fun d=>bK st d (.str (wd s)))=bU s:=fun st=>(oR (wd s) jT).trans (xD s)
   walk_at"st"
   rw[if_neg (by rw[h1];exact Bool.false_ne_true)]
   walk_at"st"
   simp only[sY]
   walk_at"ex"
   refine⟨(kA jT).s,?_⟩
   rw[eP aR]
   cases hp:bU s with
   |true =>
    simp only[if_true]
    walk_at"st"
    rw[aF k3]
    refine⟨True.intro,?_⟩
    obtain⟨m,hm,hV⟩:=v2 s (gs.mem hp) hp
    have e:iY names aU s=.int (aU.idxOf s:Nat):=xW hl hp
    rw[e]
    have hlen:aU.idxOf s<(mem.map D.bl).length:=by
     rw[List.length_map]
     by_cases z:aU.idxOf s<mem.length
     ·exact z
     ·rw[List.getElem?_eq_none (by omega)]at hm;cases hm
    walk_at"ex"
    (try rw[jO])
    rw[eD hlen,List.getElem?_map,hm,Option.map_some,bA]
    refine RE hpa hp (by simp) qV ?_
    rw[aF k3]
    refine⟨hlq,?_⟩
    simp only[aE]
    exact fin _ ⟨_,_,_,_,rfl⟩ _ hV.symm
   |false =>
    simp only[Bool.false_eq_true,if_false]
    walk_at"st"
    rw[aF k3]
    refine⟨True.intro,?_⟩
    refine VU hn hp hl (by simp) qV ?_
    rw[aF k3]
    refine⟨hlq,?_⟩
    simp only[aE]
    exact fin _ ⟨_,_,_,_,rfl⟩ _ (v3 s hp hl).symm
 ·-- the end
  subst e2
  have hj:R.length<=j:=by
   have:(R.zip rows).length<=j:=by
    by_cases z:j<(R.zip rows).length
    ·rw[List.drop_eq_getElem_cons z]at e1;cases e1
    ·omega
   rw[List.length_zip]at this;omega
  rw[List.take_of_length_le hj]at k2
  walk_at"st"
  exact hQ aA q hq (fun a o e=>k1 a o (by intro z;simp only[List.mem_singleton]at z;rw[z,hq]at e;cases e) (x1 a o e)) k2
end
end L3
end
section
namespace L3
open PySem
noncomputable def oM (ie iw ipo:Nat):Fn:=⟨2,4,[.iff (.din false (.v 1) (.fld (W "Table") (W "row_of") (.v 0))) [.ret (.c .non)] [],.iX (.nm 2) none [(.call iw [(.v 1)])] [.ex (.mcl (W "Table") (W "enter") ie (.v 0) [(.v 2)])],.asg (.nm 3) (.comp 1 [0] [0] true none [(.call iw [(.v 1)])] [] (.dix (.fld (W "Table") (W "row_of") (.v 1)) (.v 0))),.asg (.dk (.fld (W "Table") (W "row_of") (.v 0)) (.v 1)) (.bi .len [(.fld (W "Table") (W "rows") (.v 0))]),.ex (.cK .append (.fld (W "Table") (W "rows") (.v 0)) [(.tup [(.ix (.v 1) (.c (.int 0))),(.mcl (W "Table") (W "place_of") ipo (.v 0) [(.v 1)]),(.v 3)])])]⟩
theorem gW {α:Type}{xs:List α}{j:Nat}{x:α}(h:xs[j]? = some x):j<xs.length:=by
 by_cases q:j<xs.length
 ·exact q
 ·rw[List.getElem?_eq_none (by omega)]at h;cases h
section
variable {G:Prog}{k i ie iw ipo:Nat}{st:aB}{Q:VK}{E:XK}{p lp lr ld lm:Nat}{names:List (List Nat)}{aU R:List Sy}{xs fs:List (List Nat×D)}
theorem XQ (h:G.fns i=some GL)(ins:st p=some (.ins (W "Table") fs))(hf:cC fs (W "remembered_rows")=some (.ref lm)){js:List Nat}(hlm:st lm=some (.lst (js.map fun j=>.int (j:Nat)))){q:Nat}{V:Sy->Bool}(hq:st q=some (.lst (R.map fun s=>.bl (V s))))(hl:js.length=aU.length)(hl2:aU.length<=5000)
  (hj:∀(m j:Nat)(s:Sy),js[m]? = some j->aU[m]? = some s->R[j]? = some (mV s))(hQ:∀ aA,Ext st aA->Q (.tup (aU.map fun s=>.bl (V (mV s)))) aA):aN G (k+1) i [.ref p,.ref q] st Q E:=by
 have hL:bE=16777216:=rfl
 rw[aS h]
 simp only[GL,start]
 refine⟨rfl,?_⟩
 walk_at"st"
 rw[fF ins hf,pG,aF hlm]
 refine eE (fun j:Nat=>D.int (j:Nat)) (fun j=>.bl (V ((R[j]?).getD .yes))) js [] st (fun aT y a ha=>?_) (fun j hjs aT K y1 hK=>?_) (by simp only[List.length_nil];omega) fun aG y2=>?_
 ·simp only[List.mem_singleton]at ha
  subst ha
  rw[hlm,y _ _ hlm]
 ·obtain⟨m,hm⟩:=List.mem_iff_getElem?.mp hjs
  have hml:m<aU.length:=by have:=gW hm;omega
  have ht:=hj m j _ hm (List.getElem?_eq_getElem hml)
  show nQ _ _ aT _
  have hlen:j<(R.map fun s=>D.bl (V s)).length:=by simpa using gW ht
  rw[eI (y1 _ _ hq),eD hlen,List.getElem?_map,ht]
  have:=hK aT .refl
  rw[ht]at this
  exact this
 rw[List.nil_append]
 have e:(js.map fun j=>D.bl (V ((R[j]?).getD .yes)))=aU.map fun s=>.bl (V (mV s)):=by
  apply List.ext_getElem?
  intro m
  rw[List.getElem?_map,List.getElem?_map]
  cases hm:js[m]? with
  |none =>
   have:js.length<=m:=by
    by_cases z:m<js.length
    ·rw[List.getElem?_eq_getElem z]at hm;cases hm
    ·omega
   rw[List.getElem?_eq_none (by omega)];rfl
  |some j =>
   have hml:m<aU.length:=by have:=gW hm;omega
   have ht:=hj m j _ hm (List.getElem?_eq_getElem hml)
   rw[List.getElem?_eq_getElem hml]
   simp only[Option.map_some]
   rw[ht];rfl
 rw[e]
 refine bW (by simp only[List.length_map];omega) fun pp aR y3 hpp qV=>?_
 walk_at"ex"
 rw[aF qV]
 refine⟨by simp only[List.length_map];omega,hQ aR (y2.trans y3)⟩
theorem NW (h:G.fns ie=some (oM ie iw ipo))(hw:G.fns iw=some gP)(hpo:G.fns ipo=some mQ)(hxe:cC xs (W "enter")=none)(hxp:cC xs (W "place_of")=none):∀(n:Nat){s:Sy}{k:Nat}{st:aB}{Q:VK}{E:XK}{R:List Sy},aJ s<=n->gS st p lp lr ld names aU R xs->Good names aU s->R.length+sz s<=5000 ->
  (∀ aA R',bI [lr,ld] st aA->gS aA p lp lr ld names aU R' xs->(∀ x∈R,x∈R')->s∈R'->(∀ x∈R',x∈R∨sz x<=sz s)->R'.length<=R.length+sz s->Q .non aA) ->
  aN G (k+n+2) ie [.ref p,toD s] st Q E:=by
 have hL:bE=16777216:=rfl
 intro n
 induction n with
 |zero=>intro s k st Q E R hn;cases s<;>simp [aJ]at hn
 |succ n ih =>
  intro s k st Q E R hn T g hlen hQ
  rw[aS h]
  simp only[oM,start]
  refine⟨rfl,?_⟩
  have kd:=nB g.dp
  walk_at"st"
  rw[fF T.ins lX,UC T.tab kd,FZ]
  (try walk_at"ex")
  cases hc:R.contains s with
  |true =>
   simp only[if_true]
   walk_at"st"
   have hs:s∈R:=by simpa using hc
   exact hQ st R .refl T (fun x hx=>hx) hs (fun x hx=>.inl hx) (by omega)
  |false =>
   have hs:s∉R:=by simpa using hc
   simp only[Bool.false_eq_true,if_false,aE]
   walk_at"st"
   refine qC (k:=k+n+1) hw ?_
   walk_at"ex"
   have hss:=G6 s
   have hsub:(subs s).length<=2:=by cases s<;>simp [subs]
   have hszL:∀(l:List Sy)(t:Sy),t∈l->sz t<=dN l:=fun l=>by
    induction l with
    |nil=>intro t ht;cases ht
    |cons a l ihl =>
     intro t ht
     rw[fZ]
     rcases List.mem_cons.mp ht with rfl|ht
     ·omega
     ·have:=ihl t ht;omega
   refine jR toD (I:=fun r σ aA=>∃ R1 o2 dn,subs s=dn++r/\σ=[some (.ref p),some (toD s),o2,none]/\bI [lr,ld] st aA/\gS aA p lp lr ld names aU R1 xs/\(∀ x∈R,x∈R1)/\(∀ t∈dn,t∈R1)/\(∀ x∈R1,x∈R∨sz x<sz s)/\R1.length<=R.length+dN dn) (fun r σ aA hI a ha=>by cases ha) (fun x r σ aA M ⟨R1,o2,dn,e1,e2,k1,T1,a1,a2,a3,a4⟩ hM=>?_) (fun σ aA ⟨R1,o2,dn,e1,e2,k1,T1,a1,a2,a3,a4⟩=>?_) _ _ _ ⟨R,none,[],rfl,rfl,.refl,T,fun x hx=>hx,fun t ht=>(by cases ht),fun x hx=>.inl hx,by simp [dN]⟩
   ·-- a part
    subst e2
    have hx:x∈subs s:=by rw[e1];simp
    have hxd:=yV hx
    have hdn:dN dn+sz x<=dN (subs s):=by rw[e1,gY,fZ];omega
    walk_at"st"
    rw[rZ T1.ins (by rw[jD (by decide +kernel) (by decide +kernel) (by decide +kernel) (by decide +kernel)];exact hxe)]
    refine⟨True.intro,?_⟩
    refine ih (k:=k) (by omega) T1 (g.subs hx) (by omega) fun aG R2 b1 b2 b3 b4 b5 b6=>?_
    rw[aE]
    refine hM _ aG ⟨R2,_,dn++[x],by simp [e1],rfl,k1.trans b1,b2,fun y hy=>b3 y (a1 y hy),fun t ht=>?_,fun y hy=>?_,?_⟩
    ·rcases List.mem_append.mp ht with ht|ht
     ·exact b3 t (a2 t ht)
     ·simp only[List.mem_singleton]at ht;subst ht;exact b4
    ·rcases b5 y hy with hy|hy
     ·exact a3 y hy
     ·exact .inr (by omega)
    ·rw[gY];simp only[fZ];simp only[dN,List.map_nil,List.sum_nil]at *;omega
   ·-- the saying itself
    subst e2
    rw[List.append_nil]at e1
    subst e1
    have hs1:s∉R1:=fun z=>by
     rcases a3 s z with z|z
     ·exact hs z
     ·omega
    walk_at"st"
    refine qC (k:=k+n+1) hw ?_
    walk_at"ex"
    have hidx:∀ t∈subs s,R1[R1.idxOf t]? = some t:=fun t ht=>by
     have hm:=a2 t ht
     have:=List.idxOf_lt_length_iff.mpr hm
     rw[List.getElem?_eq_getElem this]
     simp
    refine eE toD (fun t=>.int (R1.idxOf t:Nat)) _ [] aA (fun aT y a ha=>by cases ha) (fun t ht aT K y1 hK=>?_) (by simp only[List.length_nil];omega) fun aG y2=>?_
    ·have T'':=T1.keep y1
     show nN _ _ _ aT _
     rw[fF T''.ins lX]
     have gt:=g.subs ht
     show oS _ _ aT _
     rw[zS T''.tab (nB gt.dp) (T''.look (hidx t ht))]
     exact hK aT .refl
    rw[List.nil_append]
    refine bW (by simp only[List.length_map];omega) fun q aR y3 hq hq3=>?_
    have T3:=T1.keep (y2.trans y3)
    have kk3:bI [lr,ld] st aR:=k1.trans (y2.trans y3).keep
    obtain⟨rows,r1,r2,r3⟩:=T3.rows
    walk_at"ex"
    walk_at"st"
    rw[fF T3.ins BC]
    rw[IA,fI r1]
    rw[fF T3.ins lX]
    have hnew:(((R1.map toD).any fun d=>bG d (toD s))=false):=by rw[FZ];simpa using hs1
    have hl1:R1.length<5000:=by omega
    rw[Z4 T3.tab kd hnew (by simp;omega)]
    generalize hst4:put aR ld (.tab (R1.map toD++[toD s]) (vT R1.length++[.int (rows.length:Nat)]))=cP
    have lrld:lr≠ld:=fun z=>by rw[z,T3.tab]at r1;cases r1
    have pld:p≠ld:=fun z=>by have:=T3.ins;rw[z,T3.tab]at this;cases this
    have plr:p≠lr:=fun z=>by have:=T3.ins;rw[z,r1]at this;cases this
    have lpld:lp≠ld:=fun z=>by have:=T3.pc;rw[z,T3.tab]at this;cases this
    have ins4:cP p=some (.ins (W "Table") (nR names lp lr ld++xs)):=by rw[<-hst4,bH pld];exact T3.ins
    have lr4:cP lr=some (.lst rows):=by rw[<-hst4,bH lrld];exact r1
    have q4:cP q=some (.lst ((subs s).map fun t=>.int (R1.idxOf t:Nat))):=by
     rw[<-hst4,bH (fun z=>by rw[z,T3.tab]at hq3;cases hq3)];exact hq3
    have tab4:cP ld=some (.tab ((R1++[s]).map toD) (vT (R1++[s]).length)):=by
     rw[<-hst4,aV,r2]
     simp [vT,List.range_succ]
    have qlr:q≠lr:=fun z=>by
     rw[z]at hq
     obtain⟨rows',r1',_⟩:=(T1.keep y2).rows
     rw[r1']at hq;cases hq
    walk_at"st"
    rw[fF ins4 BC,zO,aF lr4]
    refine⟨True.intro,?_⟩
    obtain⟨r,er⟩:=jI s
    rw[er]
    walk_at"ex"
    rw[<-er,rZ ins4 (by rw[jD (by decide +kernel) (by decide +kernel) (by decide +kernel) (by decide +kernel)];exact hxp)]
    refine⟨True.intro,?_⟩
    have T4:gS (put cP lr (.lst (rows++[.tup [.str (wd s),iY names aU s,.ref q]]))) p lp lr ld names aU (R1++[s]) xs:=by
     have keep4:∀ a o,a≠lr->a≠ld->aR a=some o->(put cP lr (.lst (rows++[.tup [.str (wd s),iY names aU s,.ref q]]))) a=some o:=fun a o n1 n2 e=>by
      rw[bH n1,<-hst4,bH n2];exact e
     refine⟨keep4 _ _ plr pld T3.ins,keep4 _ _ T3.ne lpld T3.pc,⟨_,aV,by simp [r2],fun j t d ht hd=>?_⟩,?_,T3.ne,?_,?_,by simp;omega,T3.pd⟩
     ·by_cases hj:j<R1.length
      ·rw[List.getElem?_append_left hj]at ht
       rw[List.getElem?_append_left (by omega)]at hd
       obtain⟨q',is,c1,c2,c3,c4,c5⟩:=r3 j t d ht hd
       refine⟨q',is,c1,c2,keep4 _ _ c2 (fun z=>by rw[z,T3.tab]at c3;cases c3) c3,c4,fun m i' t' h1 h2=>?_⟩
       obtain⟨d1,d2⟩:=c5 m i' t' h1 h2
       exact⟨d1,by rw[List.getElem?_append_left (gW d2)];exact d2⟩
      ·have hj2:j=R1.length:=by have:=gW ht;simp at this;omega
       subst hj2
       rw[List.getElem?_append_right (Nat.le_refl _)]at ht
       rw[List.getElem?_append_right (by omega)]at hd
       simp at ht
       simp [r2]at hd
       subst ht hd
       refine⟨q,(subs s).map fun t=>R1.idxOf t,rfl,qlr,?_,by simp,fun m i' t' h1 h2=>?_⟩
       ·rw[bH qlr,q4,List.map_map];rfl
       ·rw[List.getElem?_map,h2]at h1
        simp at h1
        subst h1
        have ht':=List.mem_of_getElem? h2
        have:=hidx t' ht'
        exact⟨gW this,by rw[List.getElem?_append_left (gW this)];exact this⟩
     ·rw[bH lrld.symm];exact tab4
     ·rw[List.nodup_append]
      exact⟨T3.nd,by simp,fun a ha b hb=>by simp only[List.mem_singleton]at hb;subst hb;exact fun z=>hs1 (z▸ha)⟩
     ·intro t ht
      rcases List.mem_append.mp ht with ht|ht
      ·exact T3.gd t ht
      ·simp only[List.mem_singleton]at ht;subst ht;exact g
    refine M5 (k:=k+n+1) hpo ins4 (by rw[<-hst4,bH lpld];exact T3.pc) T3.pd g ?_
    rw[aF lr4]
    refine⟨by omega,?_⟩
    simp only[aE]
    refine hQ _ (R1++[s]) (fun a o na e=>?_) T4 (fun x hx=>by simp [a1 x hx]) (by simp) (fun x hx=>?_) (by simp;omega)
    ·simp only[List.mem_cons,List.not_mem_nil,or_false,not_or]at na
     rw[bH na.1,<-hst4,bH na.2]
     exact kk3 a o (by simp [na]) e
    ·rcases List.mem_append.mp hx with hx|hx
     ·rcases a3 x hx with hx|hx
      ·exact .inl hx
      ·exact .inr (by omega)
     ·simp only[List.mem_singleton]at hx;subst hx;exact .inr (Nat.le_refl _)
end
end L3
end
section
namespace L3
open PySem
noncomputable def lW (iz ie irr:Nat):Fn:=⟨3,4,[.asg (.fl (W "Table") (W "names") (.v 0)) (.v 1),.asg (.fl (W "Table") (W "pieces") (.v 0)) (.call iz [(.v 2)]),.asg (.fl (W "Table") (W "rows") (.v 0)) (.lst []),.asg (.fl (W "Table") (W "row_of") (.v 0)) .dnew,.iX (.nm 3) none [(.v 2)] [.ex (.mcl (W "Table") (W "enter") ie (.v 0) [(.v 3)])],.asg (.fl (W "Table") (W "first_memory") (.v 0)) (.bi .tuple [(.comp 1 [] [0] true none [(.fld (W "Table") (W "pieces") (.v 0))] [] (.cmp .eq (.ix (.v 0) (.c (.int 0))) (.c (.str (W "sofar")))))]),.asg (.fl (W "Table") (W "remembered_rows") (.v 0)) (.comp 1 [0] [0] true none [(.fld (W "Table") (W "pieces") (.v 0))] [] (.mcl (W "Table") (W "remembered_row") irr (.v 1) [(.v 0)]))]⟩
theorem D0 {f:List Sy}{s x:Sy}(h:x∈f):x∈cT f s:=by
 unfold cT;split
 ·exact List.mem_append_left _ h
 ·exact h
theorem D5 {f:List Sy}{s:Sy}(h:bU s=true):s∈cT f s:=by
 unfold cT
 rw[h]
 cases hc:f.contains s with
 |true=>simpa using hc
 |false=>simp
theorem kS:∀(s:Sy){f:List Sy}{x:Sy},x∈f->x∈aU s f
 |.yes,_,_,h=>h
 |.no,_,_,h=>h
 |.cB _,_,_,h=>h
 |.one w s,_,_,h=>kS s (D0 h)
 |.two w s t,_,_,h=>kS t (kS s (D0 h))
theorem oU {f g:List Sy}(h:∀ x∈f,x∈g):∀ s:Sy,CY f s->CY g s
 |.yes,_=>trivial
 |.no,_=>trivial
 |.cB _,_=>trivial
 |.one w s,⟨a,b⟩=>⟨fun q=>h _ (a q),oU h s b⟩
 |.two w s t,⟨a,b,c⟩=>⟨fun q=>h _ (a q),oU h s b,oU h t c⟩
theorem A0:∀(s:Sy)(f:List Sy),CY (aU s f) s
 |.yes,_=>trivial
 |.no,_=>trivial
 |.cB _,_=>trivial
 |.one w s,f=>⟨fun q=>kS s (D5 q),A0 s _⟩
 |.two w s t,f=>⟨fun q=>kS t (kS s (D5 q)),oU (fun x hx=>kS t hx) s (A0 s _),A0 t _⟩
theorem E8:∀(l:List Sy){f:List Sy}{x:Sy},x∈f->x∈bJ l f
 |[],_,_,h=>h
 |s::l,_,_,h=>E8 l (kS s h)
theorem HD:∀(l:List Sy)(f:List Sy)(s:Sy),s∈l->CY (bJ l f) s
 |[],_,_,h=>by cases h
 |a::l,f,s,h=>by
  rcases List.mem_cons.mp h with rfl|h
  ·exact oU (fun x hx=>E8 l hx) s (A0 s f)
  ·exact HD l _ s h
theorem KQ {R f:List Sy}{s:Sy}(hf:∀ x∈f,x∈R)(hs:s∈R):∀ x∈cT f s,x∈R:=by
 unfold cT;split
 ·intro x hx
  rcases List.mem_append.mp hx with hx|hx
  ·exact hf x hx
  ·simp only[List.mem_singleton]at hx;subst hx;exact hs
 ·exact hf
theorem DW {R:List Sy}(cl:∀ s∈R,∀ t∈subs s,t∈R):∀(s:Sy){f:List Sy},s∈R->(∀ x∈f,x∈R)->∀ x∈aU s f,x∈R
 |.yes,_,hs,hf=>hf
 |.no,_,hs,hf=>hf
 |.cB _,_,hs,hf=>hf
 |.one w s,f,hs,hf=>DW cl s (cl _ hs s (by simp [subs])) (KQ hf hs)
 |.two w s t,f,hs,hf=>DW cl t (cl _ hs t (by simp [subs])) (DW cl s (cl _ hs s (by simp [subs])) (KQ hf hs))
theorem M8 {R:List Sy}(cl:∀ s∈R,∀ t∈subs s,t∈R):∀(l f:List Sy),(∀ s∈l,s∈R)->(∀ x∈f,x∈R)->∀ x∈bJ l f,x∈R
 |[],_,_,hf=>hf
 |s::l,f,hl,hf=>M8 cl l _ (fun t ht=>hl t (by simp [ht])) (DW cl s (hl s (by simp)) hf)
theorem DB {f:List Sy}{s:Sy}(hf:∀ x∈f,bU x=true):∀ x∈cT f s,bU x=true:=by
 unfold cT
 by_cases h:(bU s && !f.contains s)=true
 ·rw[if_pos h]
  simp only[Bool.and_eq_true]at h
  intro x hx
  rcases List.mem_append.mp hx with hx|hx
  ·exact hf x hx
  ·simp only[List.mem_singleton]at hx;subst hx;exact h.1
 ·rw[if_neg h];exact hf
theorem sZ:∀(s:Sy){f:List Sy},(∀ x∈f,bU x=true)->∀ x∈aU s f,bU x=true
 |.yes,_,hf=>hf
 |.no,_,hf=>hf
 |.cB _,_,hf=>hf
 |.one w s,f,hf=>sZ s (DB hf)
 |.two w s t,f,hf=>sZ t (sZ s (DB hf))
theorem vP:∀(l f:List Sy),(∀ x∈f,bU x=true)->∀ x∈bJ l f,bU x=true
 |[],_,hf=>hf
 |s::l,f,hf=>vP l _ (sZ s hf)
theorem sX:∀(l:List Sy){f:List Sy}{n:Nat},(∀ x∈f,aJ x<=n)->(∀ x∈l,aJ x<=n)->∀ x∈bJ l f,aJ x<=n
 |[],_,_,hf,_=>hf
 |s::l,f,n,hf,hl=>sX l (nX s hf (hl s (by simp))) fun x hx=>hl x (by simp [hx])
theorem FY (s:Sy):(wd s==W "sofar")=fX s:=by
 cases s with
 |one w s=>cases w<;>(simp only[wd,fX,c1];decide +kernel)
 |two w s t=>cases w<;>(simp only[wd,fX,c2];decide +kernel)
 |_=>(simp only[wd,fX];decide +kernel)
theorem hJ {f:List Nat}{d:D}:∀{fs:List (List Nat×D)},cC fs f=none->pJ f d fs=fs++[(f,d)]
 |[],_=>rfl
 |(g,x)::r,h=>by
  simp only[cC]at h
  by_cases q:g=f
  ·rw[if_pos q]at h;cases h
  ·rw[if_neg q]at h
   simp only[pJ,if_neg q,hJ h,List.cons_append]
theorem gS.closed {st:aB}{p lp lr ld:Nat}{names:List (List Nat)}{aU R:List Sy}{xs:List (List Nat×D)}(T:gS st p lp lr ld names aU R xs):∀ s∈R,∀ t∈subs s,t∈R:=by
 intro s hs t ht
 obtain⟨rows,_,r2,r3⟩:=T.rows
 obtain⟨j,hj⟩:=List.mem_iff_getElem?.mp hs
 have hjr:j<rows.length:=by have:=gW hj;omega
 obtain⟨q,is,_,_,_,c4,c5⟩:=r3 j s _ hj (List.getElem?_eq_getElem hjr)
 obtain⟨m,hm⟩:=List.mem_iff_getElem?.mp ht
 have hmi:m<is.length:=by have:=gW hm;omega
 exact List.mem_of_getElem? (c5 m _ t (List.getElem?_eq_getElem hmi) hm).2
noncomputable def KR (aU:List Sy)(lm:Nat):List (List Nat×D):=[(W "first_memory", .tup (aU.map fun s=>.bl (fX s))),(W "remembered_rows", .ref lm)]
section
variable {G:Prog}{k i ie iw ipo iz irr iti:Nat}{st:aB}{Q:VK}{E:XK}{p l:Nat}{names:List (List Nat)}{ss:List Sy}
structure Table (st:aB)(p:Nat)(names:List (List Nat))(aU R:List Sy):Prop where
 h:∃(lp lr ld lm:Nat)(js:List Nat),gS st p lp lr ld names aU R (KR aU lm)/\st lm=some (.lst (js.map fun(j:Nat)=>.int (j:Nat)))/\js.length=aU.length/\(∀(m j:Nat)(s:Sy),js[m]? = some j->aU[m]? = some s->R[j]? = some (mV s))/\(∀ s∈aU,bU s=true)
theorem G1 (h:G.fns iti=some (lW iz ie irr))(hz:G.fns iz=some (jP iw))(he:G.fns ie=some (oM ie iw ipo))(hw:G.fns iw=some gP)(hpo:G.fns ipo=some mQ)(hrr:G.fns irr=some zD)(hp:st p=some (.ins (W "Table") []))(hl:st l=some (.lst (ss.map toD)))
  (ho:∀ s∈ss,over names s/\aJ s<=8)(hs:dN ss<=5000)(wL:(bJ ss []).length<=5000)(hQ:∀ aA R,bI [p] st aA->Table aA p names (bJ ss []) R->(∀ s∈ss,s∈R)->Q .non aA):aN G (k+12) iti [.ref p,.tup (names.map .str),.ref l] st Q E:=by
 have hL:bE=16777216:=rfl
 rw[aS h]
 simp only[lW,start]
 refine⟨rfl,?_⟩
 have pl:p≠l:=fun z=>by rw[z,hl]at hp;cases hp
 walk_at"st"
 rw[mI hp (by simp)]
 have e1:pJ (W "names") (.tup (names.map .str)) []=[(W "names", .tup (names.map .str))]:=rfl
 rw[e1]
 generalize hst1:put st p (.ins (W "Table") [(W "names", .tup (names.map .str))])=aC
 have p1:aC p=some (.ins (W "Table") [(W "names", .tup (names.map .str))]):=by rw[<-hst1,aV]
 have k1:bI [p] st aC:=by rw[<-hst1];exact bI.put (by simp)
 have l1:aC l=some (.lst (ss.map toD)):=k1 _ _ (by simpa using pl.symm) hl
 walk_at"st"
 refine vS (k:=k+9) hz hw l1 (fun x hx=>by have:=(ho x hx).2;omega) (by omega) fun lp aG x2 lp2=>?_
 walk_at"ex"
 rw[mI (x2 _ _ p1) (by simp),hJ (by simp only[cC];rw[if_neg (by decide +kernel)])]
 generalize hst3:put aG p _=aR
 have p3:aR p=some (.ins (W "Table") ([(W "names", .tup (names.map .str))]++[(W "pieces", .ref lp)])):=by rw[<-hst3,aV]
 have k3:bI [p] st aR:=k1.trans (x2.keep.trans (by rw[<-hst3];exact bI.put (by simp)))
 have plp:p≠lp:=fun z=>by rw[<-z,x2 _ _ p1]at lp2;cases lp2
 have lp3:aR lp=some (.lst ((bJ ss []).map toD)):=by rw[<-hst3,bH plp.symm];exact lp2
 walk_at"st"
 refine bW (by decide) fun lr cP x4 hlr lr4=>?_
 walk_at"ex"
 rw[mI (x4 _ _ p3) (by simp),hJ (by simp only[List.cons_append,List.nil_append,cC];rw[if_neg (by decide +kernel),if_neg (by decide +kernel)])]
 generalize hst5:put cP p _=dE
 have plr:p≠lr:=fun z=>by rw[<-z,p3]at hlr;cases hlr
 have lplr:lp≠lr:=fun z=>by rw[<-z,lp3]at hlr;cases hlr
 have llr:l≠lr:=fun z=>by rw[<-z,k3 _ _ (by simpa using pl.symm) hl]at hlr;cases hlr
 have p5:dE p=some (.ins (W "Table") ([(W "names", .tup (names.map .str))]++[(W "pieces", .ref lp)]++[(W "rows", .ref lr)])):=by rw[<-hst5,aV]
 have k5:bI [p] st dE:=k3.trans (x4.keep.trans (by rw[<-hst5];exact bI.put (by simp)))
 have lp5:dE lp=some (.lst ((bJ ss []).map toD)):=by rw[<-hst5,bH plp.symm];exact x4 _ _ lp3
 have lr5:dE lr=some (.lst []):=by rw[<-hst5,bH plr.symm];exact lr4
 walk_at"st"
 intro ld hld
 generalize hst6:put dE ld (.tab [] [])=fW
 have x6:Ext dE fW:=by rw[<-hst6];exact Ext.new hld
 have ld6:fW ld=some (.tab [] []):=by rw[<-hst6,aV]
 rw[mI (x6 _ _ p5) (by simp),hJ (by simp only[List.cons_append,List.nil_append,cC];rw[if_neg (by decide +kernel),if_neg (by decide +kernel),if_neg (by decide +kernel)])]
 generalize hst7:put fW p _=sG
 have pld:p≠ld:=fun z=>by rw[<-z,p5]at hld;cases hld
 have lld:l≠ld:=fun z=>by rw[<-z,k5 _ _ (by simpa using pl.symm) hl]at hld;cases hld
 have p7:sG p=some (.ins (W "Table") (nR names lp lr ld++[])):=by rw[<-hst7,aV];rfl
 have k7:bI [p] st sG:=k5.trans (x6.keep.trans (by rw[<-hst7];exact bI.put (by simp)))
 have o7:∀ a o,a≠p->dE a=some o->sG a=some o:=fun a o na e=>by rw[<-hst7,bH na];exact x6 _ _ e
 have pd:∀ s∈bJ ss [],aJ s<=60:=fun s gG=>sX ss (n:=60) (by simp) (fun x hx=>by have:=(ho x hx).2;omega) s gG
 have T7:gS sG p lp lr ld names (bJ ss []) [] []:=⟨p7,o7 _ _ plp.symm lp5,⟨[],o7 _ _ plr.symm lr5,rfl,fun j s d e=>by simp at e⟩,by rw[<-hst7,bH pld.symm];exact ld6,lplr,List.nodup_nil,fun s gG=>(by cases gG),by simp,pd⟩
 have l7:sG l=some (.lst (ss.map toD)):=k7 _ _ (by simpa using pl.symm) hl
 have hszL:∀(l:List Sy)(t:Sy),t∈l->sz t<=dN l:=fun l=>by
  induction l with
  |nil=>intro t ht;cases ht
  |cons a l ihl =>
   intro t ht
   rw[fZ]
   rcases List.mem_cons.mp ht with rfl|ht
   ·omega
   ·have:=ihl t ht;omega
 walk_at"st"
 rw[aF l7]
 refine jR toD (I:=fun r σ aA=>∃ R1 o3 dn,ss=dn++r/\σ=[some (.ref p),some (.tup (names.map .str)),some (.ref l),o3]/\bI [lr,ld] sG aA/\gS aA p lp lr ld names (bJ ss []) R1 []/\(∀ t∈dn,t∈R1)/\R1.length<=dN dn) (fun r σ aA ⟨R1,o3,dn,e1,e2,k1,T1,a2,a4⟩=>?_) (fun x r σ aA M ⟨R1,o3,dn,e1,e2,k1,T1,a2,a4⟩ hM=>?_) (fun σ aA ⟨R1,o3,dn,e1,e2,k1,T1,a2,a4⟩=>?_) _ _ _ ⟨[],none,[],rfl,rfl,.refl,T7,fun t ht=>(by cases ht),by simp [dN]⟩
 ·intro a ha
  simp only[List.mem_singleton]at ha
  subst ha
  rw[l7,k1 _ _ (by simp [llr,lld]) l7]
 ·-- a saying
  subst e2
  have hx:x∈ss:=by rw[e1];simp
  have hdn:dN dn+sz x<=dN ss:=by rw[e1,gY,fZ];omega
  walk_at"st"
  rw[rZ T1.ins (by rw[jD (by decide +kernel) (by decide +kernel) (by decide +kernel) (by decide +kernel)];rfl)]
  refine⟨True.intro,?_⟩
  refine NW (k:=k+1) he hw hpo rfl rfl 8 (ho x hx).2 T1 ⟨(ho x hx).1,(ho x hx).2,HD ss [] x hx⟩ (by omega) fun aG R2 b1 b2 b3 b4 b5 b6=>?_
  rw[aE]
  refine hM _ aG ⟨R2,_,dn++[x],by simp [e1],rfl,k1.trans b1,b2,fun t ht=>?_,?_⟩
  ·rcases List.mem_append.mp ht with ht|ht
   ·exact b3 t (a2 t ht)
   ·simp only[List.mem_singleton]at ht;subst ht;exact b4
  ·rw[gY];simp only[fZ];simp only[dN,List.map_nil,List.sum_nil]at *;omega
 ·-- behind them
  subst e2
  rw[List.append_nil]at e1
  have nO:∀ s∈ss,s∈R1:=fun s gG=>a2 s (by rw[<-e1];exact gG)
  have kk:bI [p,lr,ld] st aA:=(k7.mono (by simp)).trans (k1.mono (by simp))
  walk_at"st"
  rw[fF T1.ins uU,pG,aF T1.pc]
  refine eE toD (fun s=>.bl (fX s)) (bJ ss []) [] aA (fun aT y a ha=>?_) (fun t ht aT K y1 hK=>?_) (by simp only[List.length_nil];omega) fun aG y2=>?_
  ·simp only[List.mem_singleton]at ha
   subst ha
   rw[T1.pc,y _ _ T1.pc]
  ·obtain⟨r,er⟩:=jI t
   rw[er]
   walk_at"ex"
   rw[FY]
   exact hK aT .refl
  rw[List.nil_append]
  refine bW (by simp only[List.length_map];omega) fun pp aR y3 hpp qV=>?_
  walk_at"ex"
  rw[aF qV]
  refine⟨by simp only[List.length_map];omega,?_⟩
  have T3:=T1.keep (y2.trans y3)
  rw[mI T3.ins (by simp [nR]),hJ (by rw[jD (by decide +kernel) (by decide +kernel) (by decide +kernel) (by decide +kernel)];rfl)]
  generalize hst8:put aR p _=gM
  have nep:∀ a o,a≠p->aR a=some o->gM a=some o:=fun a o na e=>by rw[<-hst8,bH na];exact e
  have lpp:lp≠p:=plp.symm
  have T8:gS gM p lp lr ld names (bJ ss []) R1 [(W "first_memory", .tup ((bJ ss []).map fun s=>.bl (fX s)))]:=by
   obtain⟨rows,r1,r2,r3⟩:=T3.rows
   refine⟨by rw[<-hst8,aV,List.append_assoc];rfl,nep _ _ lpp T3.pc,⟨rows,nep _ _ plr.symm r1,r2,fun j s d h1 h2=>?_⟩,nep _ _ pld.symm T3.tab,T3.ne,T3.nd,T3.gd,T3.len,T3.pd⟩
   obtain⟨q,is,c1,c2,c3,c4⟩:=r3 j s d h1 h2
   exact⟨q,is,c1,c2,nep _ _ (fun z=>by rw[z,T3.ins]at c3;cases c3) c3,c4⟩
  have cl:=T8.closed
  have hin:∀ s∈bJ ss [],mV s∈R1:=fun s gG=>by
   have h1:=M8 cl ss [] nO (fun x hx=>by cases hx) s gG
   cases s with
   |one w a =>
    cases w with
    |before=>exact cl _ h1 a (by simp [subs])
    |_=>exact h1
   |_=>exact h1
  have hpast:=vP ss [] (fun x hx=>by cases hx)
  walk_at"st"
  rw[fF T8.ins uU,pG,aF T8.pc]
  refine eE toD (fun s=>.int (R1.idxOf (mV s):Nat)) (bJ ss []) [] gM (fun aT y a ha=>?_) (fun t ht aT K y1 hK=>?_) (by simp only[List.length_nil];omega) fun nS y9=>?_
  ·simp only[List.mem_singleton]at ha
   subst ha
   rw[T8.pc,y _ _ T8.pc]
  ·have T'':=T8.keep y1
   walk_at"ex"
   rw[rZ T''.ins (by rw[jD (by decide +kernel) (by decide +kernel) (by decide +kernel) (by decide +kernel)];simp only[cC];rw[if_neg (by decide +kernel)])]
   refine⟨True.intro,?_⟩
   have eY:=List.idxOf_lt_length_iff.mpr (hin t ht)
   have hd8:aJ t<=8:=sX ss (n:=8) (by simp) (fun x hx=>(ho x hx).2) t ht
   refine US (k:=k+10) hrr T'' (hpast t ht) hd8 (j:=R1.idxOf (mV t)) (by rw[List.getElem?_eq_getElem eY];simp) ?_
   exact hK aT .refl
  rw[List.nil_append]
  refine bW (by simp only[List.length_map];omega) fun lm KP y10 hlm hlm10=>?_
  walk_at"ex"
  have T10:=T8.keep (y9.trans y10)
  rw[mI T10.ins (by simp [nR]),hJ (by rw[jD (by decide +kernel) (by decide +kernel) (by decide +kernel) (by decide +kernel)];simp only[cC];rw[if_neg (by decide +kernel)])]
  simp only[aE]
  generalize hst11:put KP p _=GP
  have nep2:∀ a o,a≠p->KP a=some o->GP a=some o:=fun a o na e=>by rw[<-hst11,bH na];exact e
  refine hQ GP R1 (fun a o na e=>?_) ⟨lp,lr,ld,lm,(bJ ss []).map fun s=>R1.idxOf (mV s),?_,?_,by simp,fun m j s h1 h2=>?_,hpast⟩ nO
  ·simp only[List.mem_singleton]at na
   have h7:=k7 a o (by simpa using na) e
   have alr:a≠lr:=fun z=>by rw[<-z,k3 a o (by simpa using na) e]at hlr;cases hlr
   have ald:a≠ld:=fun z=>by rw[<-z,k5 a o (by simpa using na) e]at hld;cases hld
   exact nep2 a o na ((y9.trans y10) _ _ (nep a o na ((y2.trans y3) _ _ (k1 a o (by simp [alr,ald]) h7))))
  ·obtain⟨rows,r1,r2,r3⟩:=T10.rows
   refine⟨by rw[<-hst11,aV,List.append_assoc];rfl,nep2 _ _ lpp T10.pc,⟨rows,nep2 _ _ plr.symm r1,r2,fun j s d h1 h2=>?_⟩,nep2 _ _ pld.symm T10.tab,T10.ne,T10.nd,T10.gd,T10.len,T10.pd⟩
   obtain⟨q,is,c1,c2,c3,c4⟩:=r3 j s d h1 h2
   exact⟨q,is,c1,c2,nep2 _ _ (fun z=>by rw[z,T10.ins]at c3;cases c3) c3,c4⟩
  ·rw[nep2 _ _ (fun z=>by rw[z,(T8.keep y9).ins]at hlm;cases hlm) hlm10,List.map_map];rfl
  ·rw[List.getElem?_map,h2]at h1
   simp at h1
   subst h1
   have eY:=List.idxOf_lt_length_iff.mpr (hin s (List.mem_of_getElem? h2))
   rw[List.getElem?_eq_getElem eY];simp
end
end L3
end
section
namespace L3
open PySem
noncomputable def vF (iti io:Nat):Fn:=⟨2,2,[.asg (.fl (W "Rules") (W "table") (.v 0)) (.mk (W "Table") iti [(.bin .add (.ix (.v 1) (.c (.int 0))) (.ix (.v 1) (.c (.int 1)))),(.call io [(.ix (.v 1) (.c (.int 2))),(.ix (.v 1) (.c (.int 3))),(.ix (.v 1) (.c (.int 4)))])]),.asg (.fl (W "Rules") (W "promise_rows") (.v 0)) (.comp 1 [0] [0] true none [(.ix (.v 1) (.c (.int 2)))] [] (.dix (.fld (W "Table") (W "row_of") (.fld (W "Rules") (W "table") (.v 1))) (.v 0))),.asg (.fl (W "Rules") (W "must_rows") (.v 0)) (.comp 1 [0] [0] true none [(.ix (.v 1) (.c (.int 3)))] [] (.dix (.fld (W "Table") (W "row_of") (.fld (W "Rules") (W "table") (.v 1))) (.v 0))),.asg (.fl (W "Rules") (W "priced_rows") (.v 0)) (.comp 1 [0] [0] true none [(.ix (.v 1) (.c (.int 4)))] [] (.tup [(.ix (.v 0) (.c (.int 0))),(.dix (.fld (W "Table") (W "row_of") (.fld (W "Rules") (W "table") (.v 1))) (.ix (.v 0) (.c (.int 1))))]))]⟩
noncomputable def lZ:Fn:=⟨2,2,[.ret (.and_ (.isi (.v 0) [.tuple]) (.and_ (.cmp .eq (.bi .len [(.v 0)]) (.v 1)) (.bi .all [(.comp 1 [] [0] true none [(.v 0)] [] (.isi (.v 0) [.bool]))])))]⟩
noncomputable def rP (ist:Nat):Fn:=⟨2,3,[.asg (.nm 2) (.bin .add (.bi .len [(.ix (.v 0) (.c (.int 0)))]) (.bi .len [(.ix (.v 0) (.c (.int 1)))])),.iff (.or_ (.not_ (.isi (.v 1) [.list])) (.not_ (.bi .all [(.comp 1 [2] [0] true none [(.v 1)] [] (.call ist [(.v 0),(.v 1)]))]))) [.rais 3 [(.c (.str (W "no play for this book")))]] [],.ret (.v 1)]⟩
noncomputable def oC (ibk:Nat):Fn:=⟨1,1,[.iff (.not_ (.call ibk [(.v 0)])) [.rais 2 [(.c (.str (W "no book")))]] [],.ret (.v 0)]⟩
noncomputable def nU (ich icp iri ima DK:Nat):Fn:=⟨2,5,[.ex (.call ich [(.v 0)]),.ex (.call icp [(.v 0),(.v 1)]),.asg (.nm 2) (.fld (W "Rules") (W "table") (.mk (W "Rules") iri [(.v 0)])),.asg (.nm 3) (.fld (W "Table") (W "first_memory") (.v 2)),.iX (.nm 4) none [(.v 1)] [.asg (.nm 3) (.mcl (W "Table") (W "memory_after") ima (.v 2) [(.mcl (W "Table") (W "held_at") DK (.v 2) [(.v 3),(.v 4)])])],.ret (.v 3)]⟩
theorem Table.keep {st aA:aB}{p:Nat}{names:List (List Nat)}{aU R:List Sy}(T:Table st p names aU R)(h:Ext st aA):Table aA p names aU R:=by
 obtain⟨lp,lr,ld,lm,js,a,b,c⟩:=T.h
 exact⟨lp,lr,ld,lm,js,a.keep h,h _ _ b,c⟩
theorem Table.set {st:aB}{p r:Nat}{names:List (List Nat)}{aU R:List Sy}{fs:List (List Nat×D)}{o:MO}(T:Table st p names aU R)(hr:st r=some (.ins (W "Rules") fs)):Table (put st r o) p names aU R:=by
 obtain⟨lp,lr,ld,lm,js,a,b',c⟩:=T.h
 have nr:∀ a u,st a=some u->u≠.ins (W "Rules") fs->put st r o a=some u:=fun a u e n=>by rw[bH (fun z=>n (by rw[z,hr]at e;cases e;rfl))];exact e
 have hc:W "Table" ≠ W "Rules":=by decide +kernel
 obtain⟨rows,r1,r2',r3⟩:=a.rows
 refine⟨lp,lr,ld,lm,js,⟨nr _ _ a.ins (fun z=>by injection z with z1;exact hc z1),nr _ _ a.pc (fun z=>nomatch z),⟨rows,nr _ _ r1 (fun z=>nomatch z),r2',fun j s d h1 h2=>?_⟩,nr _ _ a.tab (fun z=>nomatch z),a.ne,a.nd,a.gd,a.len,a.pd⟩,nr _ _ b' (fun z=>nomatch z),c⟩
 obtain⟨q,is,c1,c2,c3,c4⟩:=r3 j s d h1 h2
 exact⟨q,is,c1,c2,nr _ _ c3 (fun z=>nomatch z),c4⟩
theorem Table.row {st:aB}{p:Nat}{names:List (List Nat)}{aU R:List Sy}(T:Table st p names aU R):∃ ld fs,st p=some (.ins (W "Table") fs)/\cC fs (W "row_of")=some (.ref ld)/\st ld=some (.tab (R.map toD) (vT R.length))/\∀ s∈R,aJ s<=8/\kH (R.map toD) (vT R.length) (toD s)=some (.int (R.idxOf s:Nat)):=by
 obtain⟨lp,lr,ld,lm,js,a,b,c⟩:=T.h
 refine⟨ld,_,a.ins,lX,a.tab,fun s hs=>⟨(a.gd s hs).dp,?_⟩⟩
 have eY:=List.idxOf_lt_length_iff.mpr hs
 exact a.look (by rw[List.getElem?_eq_getElem eY];simp)
noncomputable def QN (p l1 l2 l3:Nat):List (List Nat×D):=[(W "table", .ref p),(W "promise_rows", .ref l1),(W "must_rows", .ref l2),(W "priced_rows", .ref l3)]
structure RP (st:aB)(r p l1 l2 l3:Nat)(b:Bk)(R:List Sy):Prop where
 ins:st r=some (.ins (W "Rules") (QN p l1 l2 l3))
 tab:Table st p b.names (bJ b.says []) R
 pr:st l1=some (.lst (b.ps.map fun s=>.int (R.idxOf s:Nat)))
 mu:st l2=some (.lst (b.ms.map fun s=>.int (R.idxOf s:Nat)))
 wi:st l3=some (.lst (b.ws.map fun w=>.tup [.int w.1,.int (R.idxOf w.2:Nat)]))
 all:∀ s∈b.says,s∈R
section
variable {G:Prog}{k i ie iw ipo iz irr iti io r:Nat}{st:aB}{Q:VK}{E:XK}{b:Bk}
theorem wM (B:b.Ok):∀ s∈b.says,over b.names s/\aJ s<=8:=by
 intro s hs
 simp only[Bk.says,List.mem_append,List.mem_map]at hs
 rcases hs with(hs|hs)|⟨w,hw,rfl⟩
 ·exact B.p2 s hs
 ·exact B.m2 s hs
 ·exact⟨(B.w3 w hw).2.2.1,(B.w3 w hw).2.2.2⟩
theorem OJ (h:G.fns i=some (vF iti io))(ht:G.fns iti=some (lW iz ie irr))(hz:G.fns iz=some (jP iw))(he:G.fns ie=some (oM ie iw ipo))(hw:G.fns iw=some gP)(hpo:G.fns ipo=some mQ)(hrr:G.fns irr=some zD)(hio:G.fns io=some qY)
  (B:b.Ok)(hs:dN b.says<=5000)(wL:(bJ b.says []).length<=5000)(hr:st r=some (.ins (W "Rules") []))(hQ:∀ aA p l1 l2 l3 R,bI [r] st aA->RP aA r p l1 l2 l3 b R->Q .non aA):aN G (k+13) i [.ref r,b.d] st Q E:=by
 have hL:bE=16777216:=rfl
 have f2:=B.f2
 have g2:=B.g2
 have p1:=B.p1
 have m1:=B.m1
 have w2:=B.w2
 have e2:cC (QN 0 0 0 0) (W "table")=some (.ref 0):=by simp only[QN,cC];rw[if_pos True.intro]
 rw[aS h]
 simp only[vF,start]
 refine⟨rfl,?_⟩
 have hd:b.d=.tup [.tup (b.fs.map .str),.tup (b.gs.map .str),.tup (b.ps.map toD),.tup (b.ms.map toD),.tup (b.ws.map fun w=>.tup [.int w.1,toD w.2])]:=rfl
 rw[hd]
 walk_at"st"
 refine⟨by simp only[List.length_map];omega,?_⟩
 refine C9 (k:=k+11) hio (by omega) (by omega) (by omega) fun l aC x1 l1=>?_
 intro p hp
 have l1':aC l=some (.lst (b.says.map toD)):=by rw[l1];simp [Bk.says]
 have lp:l≠p:=fun z=>by rw[z,hp]at l1;cases l1
 have rp:r≠p:=fun z=>by rw[<-z,x1 _ _ hr]at hp;cases hp
 have en:(b.fs.map D.str++b.gs.map D.str)=b.names.map .str:=by simp [Bk.names]
 rw[en]
 refine G1 (k:=k) ht hz he hw hpo hrr aV (by rw[bH lp];exact l1') (wM B) hs wL fun aG R k2 T2 nO=>⟨rfl,?_⟩
 have kk2:Ext aC aG:=fun a o e=>k2 a o (by intro z;simp only[List.mem_singleton]at z;rw[z,hp]at e;cases e) (A5 hp e)
 have r2:aG r=some (.ins (W "Rules") []):=kk2 _ _ (x1 _ _ hr)
 walk_at"ex"
 rw[mI r2 (by simp),hJ rfl]
 generalize hst3:put aG r _=aR
 have T2':=T2
 have ne3:∀ a o,a≠r->aG a=some o->aR a=some o:=fun a o na e=>by rw[<-hst3,bH na];exact e
 have T3:Table aR p b.names (bJ b.says []) R:=by rw[<-hst3];exact T2.set r2
 have r3:aR r=some (.ins (W "Rules") ([]++[(W "table", .ref p)])):=by rw[<-hst3,aV]
 have kk3:bI [r] st aR:=x1.keep.trans (kk2.keep.trans (by rw[<-hst3];exact bI.put (by simp)))
 have look:∀{cP:aB}{fs:List (List Nat×D)}{s:Sy}{Q':VK},Table cP p b.names (bJ b.says []) R->cP r=some (.ins (W "Rules") fs)->cC fs (W "table")=some (.ref p)->s∈R->Q' (.int (R.idxOf s:Nat)) cP ->
   nN (W "Rules") (W "table") (.ref r) cP fun x aC=>nN (W "Table") (W "row_of") x aC fun y aG=>oS (toD s) y aG Q':=by
  intro cP fs s Q' T4 r4 hf hsR hq
  obtain⟨ld,fs',a1,a2,a3,a4⟩:=T4.row
  rw[fF r4 hf,fF a1 a2,zS a3 (nB (a4 s hsR).1) (a4 s hsR).2]
  exact hq
 walk_at"st"
 refine eE toD (fun s=>.int (R.idxOf s:Nat)) b.ps [] aR (fun aT y a ha=>by cases ha) (fun t ht aT K y1 hK=>?_) (by simp only[List.length_nil];omega) fun cP y4=>?_
 ·exact look (T3.keep y1) (y1 _ _ r3) (by simp only[List.nil_append,cC];rw[if_pos True.intro]) (nO t (by simp [Bk.says,ht])) (hK aT .refl)
 rw[List.nil_append]
 refine bW (by simp only[List.length_map];omega) fun l1 dE y5 hl1 l15=>?_
 walk_at"ex"
 have y35:=y4.trans y5
 rw[mI (y35 _ _ r3) (by simp),hJ (by simp only[List.nil_append,cC];rw[if_neg (by decide +kernel)])]
 generalize hst6:put dE r _=fW
 have T6:Table fW p b.names (bJ b.says []) R:=by rw[<-hst6];exact(T3.keep y35).set (y35 _ _ r3)
 have r6:fW r=some (.ins (W "Rules") ([]++[(W "table", .ref p)]++[(W "promise_rows", .ref l1)])):=by rw[<-hst6,aV]
 have n6:∀ a o,a≠r->dE a=some o->fW a=some o:=fun a o na e=>by rw[<-hst6,bH na];exact e
 have l1r:l1≠r:=fun z=>by rw[z,y4 _ _ r3]at hl1;cases hl1
 have l16:=n6 _ _ l1r l15
 have kk6:bI [r] st fW:=kk3.trans (y35.keep.trans (by rw[<-hst6];exact bI.put (by simp)))
 walk_at"st"
 refine eE toD (fun s=>.int (R.idxOf s:Nat)) b.ms [] fW (fun aT y a ha=>by cases ha) (fun t ht aT K y1 hK=>?_) (by simp only[List.length_nil];omega) fun sG y7=>?_
 ·exact look (T6.keep y1) (y1 _ _ r6) (by simp only[List.nil_append,List.cons_append,cC];rw[if_pos True.intro]) (nO t (by simp [Bk.says,ht])) (hK aT .refl)
 rw[List.nil_append]
 refine bW (by simp only[List.length_map];omega) fun l2 gM y8 hl2 l28=>?_
 walk_at"ex"
 have y68:=y7.trans y8
 rw[mI (y68 _ _ r6) (by simp),hJ (by simp only[List.nil_append,List.cons_append,cC];rw[if_neg (by decide +kernel),if_neg (by decide +kernel)])]
 generalize hst9:put gM r _=nS
 have T9:Table nS p b.names (bJ b.says []) R:=by rw[<-hst9];exact(T6.keep y68).set (y68 _ _ r6)
 have r9:nS r=some (.ins (W "Rules") ([]++[(W "table", .ref p)]++[(W "promise_rows", .ref l1)]++[(W "must_rows", .ref l2)])):=by rw[<-hst9,aV]
 have n9:∀ a o,a≠r->gM a=some o->nS a=some o:=fun a o na e=>by rw[<-hst9,bH na];exact e
 have l2r:l2≠r:=fun z=>by rw[z,y7 _ _ r6]at hl2;cases hl2
 have l29:=n9 _ _ l2r l28
 have l19:=n9 _ _ l1r (y68 _ _ l16)
 have kk9:bI [r] st nS:=kk6.trans (y68.keep.trans (by rw[<-hst9];exact bI.put (by simp)))
 walk_at"st"
 refine eE (fun w:Int×Sy=>D.tup [.int w.1,toD w.2]) (fun w=>.tup [.int w.1,.int (R.idxOf w.2:Nat)]) b.ws [] nS (fun aT y a ha=>by cases ha) (fun t ht aT K y1 hK=>?_) (by simp only[List.length_nil];omega) fun KP y10=>?_
 ·refine look (s:=t.2) (T9.keep y1) (y1 _ _ r9) (by simp only[List.nil_append,List.cons_append,cC];rw[if_pos True.intro]) (nO t.2 (by simp only[Bk.says,List.mem_append,List.mem_map];exact .inr ⟨t,ht,rfl⟩)) ?_
  exact hK aT .refl
 rw[List.nil_append]
 refine bW (by simp only[List.length_map];omega) fun l3 GP y11 hl3 l311=>?_
 walk_at"ex"
 have y911:=y10.trans y11
 rw[mI (y911 _ _ r9) (by simp),hJ (by simp only[List.nil_append,List.cons_append,cC];rw[if_neg (by decide +kernel),if_neg (by decide +kernel),if_neg (by decide +kernel)])]
 simp only[aE]
 generalize hst12:put GP r _=Y9
 have n12:∀ a o,a≠r->GP a=some o->Y9 a=some o:=fun a o na e=>by rw[<-hst12,bH na];exact e
 have l3r:l3≠r:=fun z=>by rw[z,y10 _ _ r9]at hl3;cases hl3
 refine hQ Y9 p l1 l2 l3 R (kk9.trans (y911.keep.trans (by rw[<-hst12];exact bI.put (by simp)))) ⟨by rw[<-hst12,aV];rfl,by rw[<-hst12];exact(T9.keep y911).set (y911 _ _ r9),n12 _ _ l1r (y911 _ _ l19),n12 _ _ l2r (y911 _ _ l29),n12 _ _ l3r l311,nO⟩
end
end L3
end
section
namespace L3
open PySem
noncomputable def dZ (bs:List Bool):D:=.tup (bs.map .bl)
noncomputable def JX (G:Prog)(ibk kb:Nat)(b:Bk):Prop:=∀(k:Nat)(st:aB)(Q:VK)(E:XK),(∀ aA,Ext st aA->Q (.bl true) aA)->aN G (k+kb) ibk [b.d] st Q E
section
variable {G:Prog}{k i ibk kb ich icp ist ie iw ipo iz irr iti io iri ima DK iph inh:Nat}{st:aB}{Q:VK}{E:XK}{b:Bk}
theorem IS (h:G.fns ist=some lZ){bs:List Bool}{n:Nat}(hn:bs.length=n)(hl:n<=100)(hQ:∀ aA,Ext st aA->Q (.bl true) aA):aN G (k+1) ist [dZ bs,.int n] st Q E:=by
 have hL:bE=16777216:=rfl
 rw[aS h]
 simp only[lZ,start,dZ]
 refine⟨rfl,?_⟩
 walk_at"st"
 have e1:(((bs.map D.bl).length:Int)==(n:Int))=true:=by rw[List.length_map,hn];simp
 simp only[e1,if_true]
 walk_at"ex"
 refine eE D.bl (fun _=>.bl true) bs [] st (fun aT y a ha=>by cases ha) (fun t ht aT K y1 hK=>hK aT .refl) (by simp only[List.length_nil];omega) fun aG y2=>?_
 rw[List.nil_append]
 refine bW (by simp only[List.length_map];omega) fun pp aR y3 hpp qV=>?_
 walk_at"ex"
 rw[aF qV,iQ,bA]
 have e2:(bs.map fun _=>true).all id=true:=by simp
 rw[e2]
 exact hQ aR (y2.trans y3)
theorem JK (h:G.fns icp=some (rP ist))(hs:G.fns ist=some lZ)(B:b.Ok){l:Nat}{aI:List (List Bool)}(hl:st l=some (.lst (aI.map dZ)))(hp:∀ bs∈aI,bs.length=b.names.length)(cS:aI.length<=1000)
  (hQ:∀ aA,Ext st aA->Q (.ref l) aA):aN G (k+2) icp [b.d,.ref l] st Q E:=by
 have hL:bE=16777216:=rfl
 have f2:=B.f2
 have g2:=B.g2
 have jH:b.names.length=b.fs.length+b.gs.length:=by simp [Bk.names]
 rw[aS h]
 simp only[rP,start,Bk.d]
 refine⟨rfl,?_⟩
 walk_at"st"
 walk_at"st"
 rw[fI hl]
 (try simp only[Bool.not_true,Bool.false_eq_true,if_false])
 walk_at"ex"
 rw[aF hl]
 have en:((b.fs.map D.str).length:Int)+((b.gs.map D.str).length:Int)=(b.names.length:Nat):=by rw[jH];simp
 refine eE dZ (fun _=>.bl true) aI [] st (fun aT y a ha=>?_) (fun t ht aT K y1 hK=>?_) (by simp only[List.length_nil];omega) fun aG y2=>?_
 ·simp only[List.mem_singleton]at ha
  subst ha
  rw[hl,y _ _ hl]
 ·rw[en]
  exact IS hs (hp t ht) (by omega) fun aR y3=>hK aR y3
 rw[List.nil_append]
 refine bW (by simp only[List.length_map];omega) fun pp aR y3 hpp qV=>?_
 walk_at"ex"
 rw[aF qV,iQ,bA]
 have e2:(aI.map fun _=>true).all id=true:=by simp
 rw[e2]
 simp only[Bool.not_true,Bool.false_eq_true,if_false,aE]
 walk_at"st"
 exact hQ aR (y2.trans y3)
theorem JH (h:G.fns ich=some (oC ibk))(hb:JX G ibk kb b)(hQ:∀ aA,Ext st aA->Q b.d aA):aN G (k+kb+1) ich [b.d] st Q E:=by
 rw[aS h]
 simp only[oC,start]
 refine⟨rfl,?_⟩
 walk_at"st"
 refine hb k _ _ _ fun aC x1=>?_
 walk_at"ex"
 simp only[aE]
 walk_at"st"
 exact hQ aC x1
theorem DN (h:G.fns i=some (nU ich icp iri ima DK))(hch:G.fns ich=some (oC ibk))(hb:JX G ibk 13 b)(hcp:G.fns icp=some (rP ist))(eF:G.fns ist=some lZ)(hri:G.fns iri=some (vF iti io))(ht:G.fns iti=some (lW iz ie irr))(hz:G.fns iz=some (jP iw))(he:G.fns ie=some (oM ie iw ipo))(hw:G.fns iw=some gP)(hpo:G.fns ipo=some mQ)(hrr:G.fns irr=some zD)(hio:G.fns io=some qY)
  (hma:G.fns ima=some GL)(hha:G.fns DK=some (zV iph inh))(hn:G.fns inh=some BJ)(hpa:G.fns iph=some wZ)
  (B:b.Ok)(hs:dN b.says<=5000)(wL:(bJ b.says []).length<=5000){l:Nat}{aI:List (List Bool)}(hl:st l=some (.lst (aI.map dZ)))(hp:∀ bs∈aI,bs.length=b.names.length)(cS:aI.length<=1000)
  (hQ:∀ aA,Ext st aA->Q (.tup ((bJ b.says []).map fun s=>.bl (eM b.names aI aI.length s))) aA):aN G (k+15) i [b.d,.ref l] st Q E:=by
 have hL:bE=16777216:=rfl
 rw[aS h]
 simp only[nU,start]
 refine⟨rfl,?_⟩
 walk_at"st"
 refine JH (k:=k) hch hb fun aC x1=>?_
 walk_at"st"
 refine JK (k:=k+12) hcp eF B (x1 _ _ hl) hp cS fun aG x2=>?_
 walk_at"st"
 intro r hr
 refine OJ (k:=k+1) hri ht hz he hw hpo hrr hio B hs wL aV fun aR p l1 l2 l3 R k3 T3=>⟨rfl,?_⟩
 have x3:Ext aG aR:=fun a o e=>k3 a o (by intro z;simp only[List.mem_singleton]at z;rw[z,hr]at e;cases e) (A5 hr e)
 rw[fF T3.ins (x:=.ref p) (by simp only[QN,cC];rw[if_pos True.intro])]
 walk_at"ex"
 walk_at"st"
 obtain⟨lp,lr,ld,lm,js,T,hlm,hjl,hjs,hpast⟩:=T3.tab.h
 rw[fF T.ins (x:=.tup ((bJ b.says []).map fun s=>.bl (fX s))) (by rw[jD (by decide +kernel) (by decide +kernel) (by decide +kernel) (by decide +kernel)];simp only[KR,cC];rw[if_pos True.intro])]
 walk_at"ex"
 have l3':aR l=some (.lst (aI.map dZ)):=x3 _ _ (x2 _ _ (x1 _ _ hl))
 walk_at"st"
 rw[aF l3']
 refine jR dZ (I:=fun rest σ aA=>∃ t o4,t<=aI.length/\rest=aI.drop t/\σ=[some b.d,some (.ref l),some (.ref p),some (.tup ((bJ b.says []).map fun s=>.bl (eM b.names aI t s))),o4]/\Ext aR aA) (fun rest σ aA ⟨t,o4,e0,e1,e2,x4⟩=>?_) (fun x rest σ aA M ⟨t,o4,e0,e1,e2,x4⟩ hM=>?_) (fun σ aA ⟨t,o4,e0,e1,e2,x4⟩=>?_) _ _ _ ⟨0,none,Nat.zero_le _,rfl,by simp [eM],.refl⟩
 ·intro a ha
  simp only[List.mem_singleton]at ha
  subst ha
  rw[l3',x4 _ _ l3']
 ·-- a turn
  subst e2
  have ht':t<aI.length:=by
   by_cases z:t<aI.length
   ·exact z
   ·rw[List.drop_eq_nil_of_le (by omega)]at e1;cases e1
  rw[List.drop_eq_getElem_cons ht']at e1
  injection e1 with e3 e4
  have hx:aI[t]? = some x:=by rw[List.getElem?_eq_getElem ht',e3]
  have hxl:x.length=b.names.length:=hp x (List.mem_of_getElem? hx)
  have T4:=T.keep x4
  walk_at"st"
  rw[rZ T4.ins (by rw[jD (by decide +kernel) (by decide +kernel) (by decide +kernel) (by decide +kernel)];simp only[KR,cC];rw[if_neg (by decide +kernel),if_neg (by decide +kernel)])]
  refine⟨True.intro,?_⟩
  rw[rZ T4.ins (by rw[jD (by decide +kernel) (by decide +kernel) (by decide +kernel) (by decide +kernel)];simp only[KR,cC];rw[if_neg (by decide +kernel),if_neg (by decide +kernel)])]
  refine⟨True.intro,?_⟩
  have em:((bJ b.says []).map fun s=>D.bl (eM b.names aI t s))=((bJ b.says []).map fun s=>eM b.names aI t s).map .bl:=by rw[List.map_map];rfl
  rw[em]
  refine Q8 (k:=k+12) hha hn hpa T4 (set:=x) (fun s=>hv b.names aI s t) (fun n hn'=>?_) (fun s gG hps=>⟨eM b.names aI t s,?_,SM hps t⟩) (fun s h1 h2=>U9 h1 h2 t) fun dE q _ x5 hq=>?_
  ·have eY:b.names.idxOf n<x.length:=by rw[hxl];exact List.idxOf_lt_length_iff.mpr hn'
   simp only[hv,J2,hx,Option.getD_some]
   rw[List.getElem?_eq_getElem eY];rfl
  ·have eY:=List.idxOf_lt_length_iff.mpr gG
   rw[List.getElem?_map,List.getElem?_eq_getElem eY];simp
  ·have T5:=T4.keep x5
   refine XQ (k:=k+13) (aU:=bJ b.says []) hma T5.ins (lm:=lm) (by rw[jD (by decide +kernel) (by decide +kernel) (by decide +kernel) (by decide +kernel)];simp only[KR,cC];rw[if_neg (by decide +kernel),if_pos True.intro]) (x5 _ _ (x4 _ _ hlm)) hq hjl wL hjs fun fW x6=>?_
   walk_at"ex"
   simp only[aE]
   refine hM _ fW ⟨t+1,some (dZ x),ht',e4,?_,x4.trans (x5.trans x6)⟩
   simp [eM]
 ·-- the end
  subst e2
  have hj:aI.length<=t:=by
   by_cases z:t<aI.length
   ·rw[List.drop_eq_getElem_cons z]at e1;cases e1
   ·omega
  have et:t=aI.length:=by omega
  subst et
  walk_at"st"
  exact hQ aA (((x1.trans x2).trans x3).trans x4)
end
end L3
end
section
namespace L3
open PySem
local macro_rules|`(tactic| walk_at"wd")=>`(tactic| (first|rw[if_pos (by decide +kernel)]|rw[if_neg (by decide +kernel)]))
noncomputable def vK (ih:Nat):Fn:=⟨4,8,[.asg (.nm 4) (.ix (.v 1) (.c (.int 0))),.iff (.cmp .eq (.v 4) (.c (.str (W "lamp")))) [.ret (.ix (.ix (.v 2) (.v 3)) (.cK .index (.v 0) [(.ix (.v 1) (.c (.int 1)))]))] [],.iff (.or_ (.cmp .eq (.v 4) (.c (.str (W "yes")))) (.cmp .eq (.v 4) (.c (.str (W "no"))))) [.ret (.cmp .eq (.v 4) (.c (.str (W "yes"))))] [],.iff (.cmp .eq (.v 4) (.c (.str (W "before")))) [.ret (.and_ (.cmp .gt (.v 3) (.c (.int 0))) (.call ih [(.v 0),(.ix (.v 1) (.c (.int 1))),(.v 2),(.bin .sub (.v 3) (.c (.int 1)))]))] [],.iff (.cmp .eq (.v 4) (.c (.str (W "once")))) [.ret (.cmp .ne (.comp 1 [0,1,2] [0] true (some .range) [(.bin .add (.v 3) (.c (.int 1)))] [(.call ih [(.v 1),(.ix (.v 2) (.c (.int 1))),(.v 3),(.v 0)])] (.v 0)) (.lst []))] [],.iff (.cmp .eq (.v 4) (.c (.str (W "sofar")))) [.ret (.cmp .eq (.comp 1 [0,1,2] [0] true (some .range) [(.bin .add (.v 3) (.c (.int 1)))] [(.not_ (.call ih [(.v 1),(.ix (.v 2) (.c (.int 1))),(.v 3),(.v 0)]))] (.v 0)) (.lst []))] [],.iff (.cmp .eq (.v 4) (.c (.str (W "since")))) [.iX (.nm 5) (some .range) [(.v 3),(.neg (.c (.int 1))),(.neg (.c (.int 1)))] [.iff (.call ih [(.v 0),(.ix (.v 1) (.c (.int 2))),(.v 2),(.v 5)]) [.ret (.c (.bl true))] [],.iff (.not_ (.call ih [(.v 0),(.ix (.v 1) (.c (.int 1))),(.v 2),(.v 5)])) [.ret (.c (.bl false))] []],.ret (.c (.bl false))] [],.asg (.nm 6) (.call ih [(.v 0),(.ix (.v 1) (.c (.int 1))),(.v 2),(.v 3)]),.iff (.cmp .eq (.v 4) (.c (.str (W "not")))) [.ret (.not_ (.v 6))] [],.asg (.nm 7) (.call ih [(.v 0),(.ix (.v 1) (.c (.int 2))),(.v 2),(.v 3)]),.iff (.cmp .eq (.v 4) (.c (.str (W "and")))) [.ret (.and_ (.v 6) (.v 7))] [],.iff (.cmp .eq (.v 4) (.c (.str (W "or")))) [.ret (.or_ (.v 6) (.v 7))] [],.iff (.cmp .eq (.v 4) (.c (.str (W "then")))) [.ret (.or_ (.v 7) (.not_ (.v 6)))] [],.ret (.cmp .eq (.v 6) (.v 7))]⟩
theorem nZ {α:Type}{g:aB->Prop}{turn:D->aB->(Option D->aB->Prop)->Prop}{R:List D->aB->Prop}(t:α->D)(f:α->Option D):∀(xs:List α)(acc:List D)(st:aB),
  (∀ aA,Ext st aA->g aA)->(∀ x∈xs,∀ aA (K:Option D->aB->Prop),Ext st aA->(∀ aT,Ext aA aT->K (f x) aT)->turn (t x) aA K) ->
  acc.length+xs.length<=bE->(∀ aA,Ext st aA->R (acc++xs.filterMap f) aA)->iR g turn (xs.map t) acc st R
 |[],acc,st,hg,_,_,hR=>⟨hg st .refl,by simpa using hR st .refl⟩
 |x::xs,acc,st,hg,ht,hl,hR=>by
  simp only[List.length_cons]at hl
  refine⟨hg st .refl,by omega,ht x (by simp) st _ .refl fun aT h''=>?_⟩
  cases hf:f x with
  |none =>
   exact nZ t f xs acc aT (fun aA h=>hg aA (h''.trans h)) (fun y hy aA K h=>ht y (by simp [hy]) aA K (h''.trans h)) (by omega) fun aA h=>by simpa [hf]using hR aA (h''.trans h)
  |some d =>
   exact nZ t f xs (acc++[d]) aT (fun aA h=>hg aA (h''.trans h)) (fun y hy aA K h=>ht y (by simp [hy]) aA K (h''.trans h)) (by simp only[List.length_append,List.length_cons,List.length_nil];omega) fun aA h=>by simpa [hf]using hR aA (h''.trans h)
theorem AB:∀ is:List Int,bL (is.map .int)=true
 |[]=>rfl
 |i::is=>by simp only[List.map_cons,bL,aX,AB is,Bool.and_self]
theorem CG:∀ is:List Int,cG (is.map .int)=0
 |[]=>rfl
 |i::is=>by simp only[List.map_cons,cG,cI,CG is];rfl
theorem iP {st:aB}{p:Nat}{is:List Int}(h:st p=some (.lst (is.map .int))):plainS st (.ref p):=by
 refine⟨?_,Nat.zero_le _⟩
 simp only[fK,h,LL,AB,CG];rfl
theorem eq_nil {st:aB}{p q:Nat}{xs:List D}(h:st p=some (.lst xs))(h':st q=some (.lst [])):bK st (.ref p) (.ref q)=xs.isEmpty:=by
 simp only[bK,h,h',DI]
 cases xs<;>rfl
theorem EU (f:Nat->Bool)(n:Nat):((List.range n).filterMap fun k=>if f k=true then some (D.int (k:Nat))else none)=(((List.range n).filter f).map fun(k:Nat)=>(k:Int)).map .int:=by
 generalize List.range n=l
 induction l with
 |nil=>rfl
 |cons a l ih =>
 by_cases h:f a=true
 ·simp only[List.filterMap_cons,h,if_true,List.filter_cons,List.map_cons,ih]
 ·simp only[List.filterMap_cons,h,List.filter_cons,ih];simp [h]
theorem CU (f:Nat->Bool)(l:List Nat):((((l.filter f).map fun(k:Nat)=>(k:Int)).map D.int).isEmpty) = !l.any f:=by
 induction l with
 |nil=>rfl
 |cons a l ih =>
 by_cases h:f a=true
 ·simp [h]
 ·simp only[List.filter_cons,h,List.any_cons];simp [h]at ih ⊢;exact ih
theorem kR (n:Nat):gR 0 n=(List.range n).map fun k=>D.int (k:Nat):=by
 unfold gR;congr 1;funext k;simp
section
variable {G:Prog}{ih l:Nat}{names:List (List Nat)}{aI:List (List Bool)}
theorem GB (h:G.fns ih=some (vK ih))(hp:∀ bs∈aI,bs.length=names.length)(cS:aI.length<=1000):∀(n:Nat){s:Sy}{k t:Nat}{st:aB}{Q:VK}{E:XK},aJ s<=n->over names s->t<aI.length->st l=some (.lst (aI.map dZ)) ->
  (∀ aA,Ext st aA->Q (.bl (hv names aI s t)) aA)->aN G (k+n) ih [.tup (names.map .str),toD s,.ref l,.int t] st Q E:=by
 have hL:bE=16777216:=rfl
 intro n
 induction n with
 |zero=>intro s k t st Q E hn;cases s<;>simp [aJ]at hn
 |succ n ih' =>
  intro s k t st Q E hn ho ht hl hQ
  rw[show k+(n+1)=(k+n)+1 from rfl,aS h]
  simp only[vK,start]
  refine⟨rfl,?_⟩
  cases s with
  |yes =>
   simp only[toD]
   walk_at"st"
   walk_at"st"; walk_at"wd"; rw[aE]
   walk_at"st"; walk_at"wd"
   have e:(W "yes" == W "yes")=true:=by decide +kernel
   simp only[e,if_true]
   walk_at"st"
   rw[e]
   exact hQ st .refl
  |no =>
   simp only[toD]
   walk_at"st"
   walk_at"st"; walk_at"wd"; rw[aE]
   walk_at"st"; walk_at"wd"
   have e:(W "no" == W "no")=true:=by decide +kernel
   simp only[e,if_true]
   walk_at"st"
   have e:(W "no" == W "yes")=false:=by decide +kernel
   rw[e]
   exact hQ st .refl
  |cB m =>
   simp only[toD]
   walk_at"st"
   walk_at"st"; walk_at"wd"
   walk_at"st"
   have hx:=List.getElem?_eq_getElem ht
   rw[eI hl,eD (by simpa using ht),List.getElem?_map,hx,Option.map_some,bA]
   walk_at"ex"
   rw[wA,rW,zA,rW]
   refine⟨True.intro,tQ,jE st names,?_⟩
   rw[vU ho,bA]
   have hlen:=hp _ (List.mem_of_getElem? hx)
   have eY:names.idxOf m<(aI[t]).length:=by rw[hlen];exact List.idxOf_lt_length_iff.mpr ho
   simp only[dZ]
   rw[jO,eD (by simpa using eY),List.getElem?_map,List.getElem?_eq_getElem eY,Option.map_some,bA]
   have:=hQ st .refl
   simp only[hv,J2,hx,Option.getD_some]at this
   rw[List.getElem?_eq_getElem eY]at this
   exact this
  |one w a =>
   simp only[aJ]at hn
   have ho':over names a:=ho
   cases w with
   |not =>
    simp only[toD,c1]
    walk_at"st"
    walk_at"st"; walk_at"wd"; rw[aE]
    walk_at"st"; walk_at"wd"; walk_at"wd"; rw[aE]
    iterate 4 (walk_at"st"; walk_at"wd"; rw[aE])
    walk_at"st"
    refine ih' (s:=a) (by omega) ho' ht hl fun aC x1=>?_
    walk_at"st"; walk_at"wd"
    walk_at"st"
    exact hQ aC x1
   |before =>
    simp only[toD,c1]
    walk_at"st"
    walk_at"st"; walk_at"wd"; rw[aE]
    walk_at"st"; walk_at"wd"; walk_at"wd"; rw[aE]
    walk_at"st"; walk_at"wd"
    walk_at"st"
    by_cases h0:t=0
    ·subst h0
     rw[if_neg (by simp)]
     exact hQ st .refl
    ·rw[if_pos (by simp;omega),show(t:Int)-1=((t-1:Nat):Int)by omega]
     refine ih' (s:=a) (by omega) ho' (by omega) hl fun aC x1=>?_
     have:=hQ aC x1
     simp only[hv]at this
     rw[decide_eq_true (by omega),Bool.true_and]at this
     exact this
   |once =>
    simp only[toD,c1]
    walk_at"st"
    walk_at"st"; walk_at"wd"; rw[aE]
    walk_at"st"; walk_at"wd"; walk_at"wd"; rw[aE]
    walk_at"st"; walk_at"wd"; rw[aE]
    walk_at"st"; walk_at"wd"
    walk_at"st"
    refine⟨by unfold cW;omega,?_⟩
    rw[show((t:Int)+1).toNat=t+1 by omega,kR]
    refine nZ (fun k:Nat=>D.int (k:Nat)) (fun k=>if hv names aI a k=true then some (D.int (k:Nat))else none) (List.range (t+1)) [] st (fun aA y a ha=>by cases ha) (fun j hj aA K y1 hK=>?_) (by simp;omega) fun aC y1=>?_
    ·refine ih' (s:=a) (by omega) ho' (by have:=List.mem_range.mp hj;omega) (y1 _ _ hl) fun aG x2=>?_
     have:=hK aG x2
     walk_at"ex"
     cases hb:hv names aI a j with
     |true=>simpa [hb]using this
     |false=>simpa [hb]using this
    rw[List.nil_append,EU]
    refine bW (by simp only[List.length_map];have:=List.length_filter_le (hv names aI a) (List.range (t+1));simp at this;omega) fun p aG x2 hp' iG=>?_
    walk_at"ex"
    refine bW (by simp) fun q aR x3 hq hq3=>?_
    walk_at"ex"
    refine⟨iP (x3 _ _ iG),iP (is:=[]) hq3,?_⟩
    rw[eq_nil (x3 _ _ iG) hq3,CU,Bool.not_not]
    exact hQ aR ((y1.trans x2).trans x3)
   |sofar =>
    simp only[toD,c1]
    walk_at"st"
    walk_at"st"; walk_at"wd"; rw[aE]
    walk_at"st"; walk_at"wd"; walk_at"wd"; rw[aE]
    iterate 2 (walk_at"st"; walk_at"wd"; rw[aE])
    walk_at"st"; walk_at"wd"
    walk_at"st"
    refine⟨by unfold cW;omega,?_⟩
    rw[show((t:Int)+1).toNat=t+1 by omega,kR]
    refine nZ (fun k:Nat=>D.int (k:Nat)) (fun k=>if(!hv names aI a k)=true then some (D.int (k:Nat))else none) (List.range (t+1)) [] st (fun aA y a ha=>by cases ha) (fun j hj aA K y1 hK=>?_) (by simp;omega) fun aC y1=>?_
    ·refine ih' (s:=a) (by omega) ho' (by have:=List.mem_range.mp hj;omega) (y1 _ _ hl) fun aG x2=>?_
     have:=hK aG x2
     walk_at"ex"
     cases hb:hv names aI a j with
     |true=>simpa [hb]using this
     |false=>simpa [hb]using this
    rw[List.nil_append,EU (fun k=>!hv names aI a k)]
    refine bW (by simp only[List.length_map];have:=List.length_filter_le (fun k=>!hv names aI a k) (List.range (t+1));simp at this ⊢;omega) fun p aG x2 hp' iG=>?_
    walk_at"ex"
    refine bW (by simp) fun q aR x3 hq hq3=>?_
    walk_at"ex"
    refine⟨iP (x3 _ _ iG),iP (is:=[]) hq3,?_⟩
    rw[eq_nil (x3 _ _ iG) hq3,CU]
    have:=hQ aR ((y1.trans x2).trans x3)
    simp only[hv]at this
    have e:(!(List.range (t+1)).any fun k=>!hv names aI a k)=(List.range (t+1)).all (hv names aI a):=by
     rw[List.not_any_eq_all_not];simp
    rw[e]
    exact this
  |two w a b =>
   simp only[aJ]at hn
   have ho1:over names a:=ho.1
   have ho2:over names b:=ho.2
   cases w with
   |since =>
    simp only[toD,c2]
    walk_at"st"
    walk_at"st"; walk_at"wd"; rw[aE]
    walk_at"st"; walk_at"wd"; walk_at"wd"; rw[aE]
    iterate 3 (walk_at"st"; walk_at"wd"; rw[aE])
    walk_at"st"; walk_at"wd"
    walk_at"st"
    rw[AI]
    refine⟨rfl,by unfold cW;omega,by unfold cW;omega,?_⟩
    rw[show((t:Int) - -1).toNat=t+1 by omega]
    have er:mC (t:Int) (t+1)=(List.range (t+1)).map fun k=>D.int ((t:Int)-(k:Nat)):=rfl
    rw[er]
    have hsf:∀ u,lC (hv names aI a) (hv names aI b) u=(hv names aI b u||(hv names aI a u&&(decide (0<u)&&lC (hv names aI a) (hv names aI b) (u-1)))):=fun u=>by
     cases u with
     |zero=>simp [lC]
     |succ u=>simp [lC]
    refine jR (fun k:Nat=>D.int ((t:Int)-(k:Nat))) (I:=fun rest σ aA=>∃ m o5,m<=t+1/\rest=(List.range (t+1)).drop m/\σ=[some (.tup (names.map .str)),some (.tup [.str (W "since"),toD a,toD b]),some (.ref l),some (.int (t:Nat)),some (.str (W "since")),o5,none,none]/\Ext st aA/\hv names aI (Sy.two .since a b) t=(decide (m<=t)&&lC (hv names aI a) (hv names aI b) (t-m))) (fun rest σ aA _ x hx=>?_) (fun x rest σ aA M ⟨m,o5,e0,e1,e2,x4,e5⟩ hM=>?_) (fun σ aA ⟨m,o5,e0,e1,e2,x4,e5⟩=>?_) _ _ _ ⟨0,none,Nat.zero_le _,rfl,rfl,.refl,by simp [hv]⟩
    ·cases hx
    ·subst e2
     have hm:m<(List.range (t+1)).length:=by
      by_cases z:m<(List.range (t+1)).length
      ·exact z
      ·rw[List.drop_eq_nil_of_le (by omega)]at e1;cases e1
     rw[List.drop_eq_getElem_cons hm]at e1
     injection e1 with e3 e4
     simp only[List.getElem_range]at e3
     subst e3
     simp only[List.length_range]at hm
     have eu:(t:Int)-(x:Nat)=((t-x:Nat):Int):=by omega
     rw[eu]
     rw[decide_eq_true (by omega),Bool.true_and,hsf]at e5
     walk_at"st"
     refine ih' (s:=b) (by omega) ho2 (by omega) (x4 _ _ hl) fun aC x1=>?_
     walk_at"ex"
     cases hb:hv names aI b (t-x)with
     |true =>
      simp only[if_true]
      walk_at"st"
      rw[hb,Bool.true_or]at e5
      have:=hQ aC (x4.trans x1)
      rw[e5]at this
      exact this
     |false =>
      simp only[Bool.false_eq_true,if_false,aE]
      walk_at"st"
      refine ih' (s:=a) (by omega) ho1 (by omega) (x1 _ _ (x4 _ _ hl)) fun aG x2=>?_
      walk_at"ex"
      cases ha:hv names aI a (t-x)with
      |false =>
       simp only[Bool.not_false,if_true]
       walk_at"st"
       rw[hb,ha]at e5
       have:=hQ aG ((x4.trans x1).trans x2)
       rw[e5]at this
       exact this
      |true =>
       simp only[Bool.not_true,Bool.false_eq_true,if_false,aE]
       rw[hb,ha,Bool.false_or,Bool.true_and]at e5
       refine hM _ aG ⟨x+1,_,by omega,e4,rfl,(x4.trans x1).trans x2,?_⟩
       rw[e5]
       have e7:t-x-1=t-(x+1):=by omega
       rw[e7]
       congr 1
       rw[decide_eq_decide]
       omega
    ·subst e2
     have hm:t+1<=m:=by
      by_cases z:m<(List.range (t+1)).length
      ·rw[List.drop_eq_getElem_cons z]at e1;cases e1
      ·simpa using z
     rw[decide_eq_false (by omega),Bool.false_and]at e5
     walk_at"st"
     have:=hQ aA x4
     rw[e5]at this
     exact this
   |and =>
    simp only[toD,c2]
    walk_at"st"
    walk_at"st"; walk_at"wd"; rw[aE]
    walk_at"st"; walk_at"wd"; walk_at"wd"; rw[aE]
    iterate 4 (walk_at"st"; walk_at"wd"; rw[aE])
    walk_at"st"
    refine ih' (s:=a) (by omega) ho1 ht hl fun aC x1=>?_
    walk_at"st"; walk_at"wd"; rw[aE]
    walk_at"st"
    refine ih' (s:=b) (by omega) ho2 ht (x1 _ _ hl) fun aG x2=>?_
    walk_at"st"; walk_at"wd"
    walk_at"st"
    have:=hQ aG (x1.trans x2)
    simp only[hv]at this
    cases ha:hv names aI a t with
    |false=>simpa [ha]using this
    |true=>simpa [ha]using this
   |or =>
    simp only[toD,c2]
    walk_at"st"
    walk_at"st"; walk_at"wd"; rw[aE]
    walk_at"st"; walk_at"wd"; walk_at"wd"; rw[aE]
    iterate 4 (walk_at"st"; walk_at"wd"; rw[aE])
    walk_at"st"
    refine ih' (s:=a) (by omega) ho1 ht hl fun aC x1=>?_
    walk_at"st"; walk_at"wd"; rw[aE]
    walk_at"st"
    refine ih' (s:=b) (by omega) ho2 ht (x1 _ _ hl) fun aG x2=>?_
    walk_at"st"; walk_at"wd"; rw[aE]
    walk_at"st"; walk_at"wd"
    walk_at"st"
    have:=hQ aG (x1.trans x2)
    simp only[hv]at this
    cases ha:hv names aI a t with
    |false=>simpa [ha]using this
    |true=>simpa [ha]using this
   |aW =>
    simp only[toD,c2]
    walk_at"st"
    walk_at"st"; walk_at"wd"; rw[aE]
    walk_at"st"; walk_at"wd"; walk_at"wd"; rw[aE]
    iterate 4 (walk_at"st"; walk_at"wd"; rw[aE])
    walk_at"st"
    refine ih' (s:=a) (by omega) ho1 ht hl fun aC x1=>?_
    walk_at"st"; walk_at"wd"; rw[aE]
    walk_at"st"
    refine ih' (s:=b) (by omega) ho2 ht (x1 _ _ hl) fun aG x2=>?_
    iterate 2 (walk_at"st"; walk_at"wd"; rw[aE])
    walk_at"st"; walk_at"wd"
    walk_at"st"
    have:=hQ aG (x1.trans x2)
    simp only[hv]at this
    cases hb:hv names aI b t with
    |false=>simpa [hb]using this
    |true=>simpa [hb]using this
   |same =>
    simp only[toD,c2]
    walk_at"st"
    walk_at"st"; walk_at"wd"; rw[aE]
    walk_at"st"; walk_at"wd"; walk_at"wd"; rw[aE]
    iterate 4 (walk_at"st"; walk_at"wd"; rw[aE])
    walk_at"st"
    refine ih' (s:=a) (by omega) ho1 ht hl fun aC x1=>?_
    walk_at"st"; walk_at"wd"; rw[aE]
    walk_at"st"
    refine ih' (s:=b) (by omega) ho2 ht (x1 _ _ hl) fun aG x2=>?_
    iterate 3 (walk_at"st"; walk_at"wd"; rw[aE])
    walk_at"st"
    exact hQ aG (x1.trans x2)
end
end L3
end
section
namespace L3
open PySem
noncomputable def mT (ip:Nat):Fn:=⟨1,3,[.asg (.nm 1) (.lst []),.iX (.nm 2) none [(.bin .add (.bin .add (.ix (.v 0) (.c (.int 2))) (.ix (.v 0) (.c (.int 3)))) (.bi .tuple [(.comp 1 [] [0] true none [(.ix (.v 0) (.c (.int 4)))] [] (.ix (.v 0) (.c (.int 1))))]))] [.ex (.call ip [(.v 2),(.v 1)])],.ret (.v 1)]⟩
noncomputable def wO (ibp ih:Nat):Fn:=⟨2,5,[.asg (.nm 2) (.bin .add (.ix (.v 0) (.c (.int 0))) (.ix (.v 0) (.c (.int 1)))),.asg (.nm 3) (.lst []),.iX (.nm 4) none [(.call ibp [(.v 0)])] [.iff (.cmp .eq (.v 1) (.lst [])) [.ex (.cK .append (.v 3) [(.cmp .eq (.ix (.v 4) (.c (.int 0))) (.c (.str (W "sofar"))))])] [.iff (.cmp .eq (.ix (.v 4) (.c (.int 0))) (.c (.str (W "before")))) [.ex (.cK .append (.v 3) [(.call ih [(.v 2),(.ix (.v 4) (.c (.int 1))),(.v 1),(.bin .sub (.bi .len [(.v 1)]) (.c (.int 1)))])])] [.ex (.cK .append (.v 3) [(.call ih [(.v 2),(.v 4),(.v 1),(.bin .sub (.bi .len [(.v 1)]) (.c (.int 1)))])])]]],.ret (.bi .tuple [(.v 3)])]⟩
theorem yW (bs:List Bool):aX (dZ bs)=true:=by
 simp only[dZ,aX]
 induction bs with
 |nil=>rfl
 |cons a l ih=>simp only[List.map_cons,bL,aX,ih,Bool.and_self]
theorem HS (bs:List Bool):cI (dZ bs)<=1:=by
 simp only[dZ,cI]
 have:cG (bs.map D.bl)=0:=by
  induction bs with
  |nil=>rfl
  |cons a l ih=>simp only[List.map_cons,cG,cI,ih];rfl
 omega
theorem KH (aI:List (List Bool)):bL (aI.map dZ)=true/\cG (aI.map dZ)<=1:=by
 induction aI with
 |nil=>exact⟨rfl,by simp [cG]⟩
 |cons a l ih =>
 have:=HS a
 simp only[List.map_cons,bL,yW,ih.1,Bool.and_self,cG,true_and]
 omega
theorem KO {st:aB}{p:Nat}{aI:List (List Bool)}(h:st p=some (.lst (aI.map dZ))):plainS st (.ref p):=by
 refine⟨?_,Nat.zero_le _⟩
 have q:=KH aI
 simp only[fK,h,LL,q.1,Bool.true_and,decide_eq_true_eq]
 have:(1:Nat)<=kM:=by decide
 omega
section
variable {G:Prog}{k i ip ibp ih:Nat}{st:aB}{Q:VK}{E:XK}{b:Bk}
theorem FT (h:G.fns ibp=some (mT ip))(hp:G.fns ip=some (jS ip))(B:b.Ok)(hs:dN b.says<=5000)(hQ:∀ p aA,st p=none->Ext st aA->aA p=some (.lst ((bJ b.says []).map toD))->Q (.ref p) aA):aN G (k+9) ibp [b.d] st Q E:=by
 have hL:bE=16777216:=rfl
 have p1:=B.p1
 have m1:=B.m1
 have w2:=B.w2
 rw[aS h]
 simp only[mT,start]
 refine⟨rfl,?_⟩
 have hd:b.d=.tup [.tup (b.fs.map .str),.tup (b.gs.map .str),.tup (b.ps.map toD),.tup (b.ms.map toD),.tup (b.ws.map fun w=>.tup [.int w.1,toD w.2])]:=rfl
 rw[hd]
 walk_at"st"
 refine bW (by simp) fun p aC x1 hp' hp1=>?_
 walk_at"st"
 refine⟨by simp only[List.length_map];omega,?_⟩
 refine eE (fun w:Int×Sy=>D.tup [.int w.1,toD w.2]) (fun w=>toD w.2) b.ws [] aC (fun aA x a ha=>by cases ha) (fun x hx aA K y1 hK=>hK aA .refl) (by simp only[List.length_nil];omega) fun aG x2=>?_
 rw[List.nil_append]
 refine bW (by simp only[List.length_map];omega) fun u aR x3 hu hu3=>?_
 walk_at"ex"
 rw[aF hu3]
 refine⟨by simp only[List.length_map];omega,?_⟩
 have e:((b.ps.map toD++b.ms.map toD)++b.ws.map fun w=>toD w.2)=b.says.map toD:=by simp [Bk.says,List.map_map,Function.comp]
 show _/\_
 refine⟨by simp only[List.length_map,List.length_append];omega,?_⟩
 rw[e]
 have p3:aR p=some (.lst []):=x3 _ _ (x2 _ _ hp1)
 have hs60:∀ x∈b.says,aJ x<=60:=fun x hx=>by have:=(wM B x hx).2;omega
 refine jR toD (I:=fun rest σ aA=>∃ dn o2,b.says=dn++rest/\σ=[some (.tup [.tup (b.fs.map .str),.tup (b.gs.map .str),.tup (b.ps.map toD),.tup (b.ms.map toD),.tup (b.ws.map fun w=>.tup [.int w.1,toD w.2])]),some (.ref p),o2]/\bI [p] aR aA/\aA p=some (.lst ((bJ dn []).map toD))/\(∀ x∈bJ dn [],aJ x<=60)/\(bJ dn []).length<=dN dn) (fun rest σ aA _ x hx=>?_) (fun x rest σ aA M ⟨dn,o2,e1,e2,x4,e5,e6,e7⟩ hM=>?_) (fun σ aA ⟨dn,o2,e1,e2,x4,e5,e6,e7⟩=>?_) _ _ _ ⟨[],none,rfl,rfl,.refl,p3,by simp [bJ],by simp [bJ]⟩
 ·cases hx
 ·subst e2
  have hx:x∈b.says:=by rw[e1];simp
  have lU:dN dn+sz x<=dN b.says:=by rw[e1,gY,fZ];omega
  have hd8:=(wM B x hx).2
  walk_at"st"
  refine K4 (k:=k) hp x 8 (by omega) (by omega) e6 (by omega) e5 fun dE k5 e8=>?_
  simp only[aE]
  have ea:bJ (dn++[x]) []=aU x (bJ dn []):=by rw[yS];rfl
  refine hM _ dE ⟨dn++[x],_,by simp [e1],rfl,x4.trans k5,by rw[ea];exact e8,by rw[ea];exact nX x e6 (by omega),?_⟩
  rw[ea,gY]
  have:=rH x (bJ dn [])
  simp only[fZ];simp only[dN,List.map_nil,List.sum_nil]at *;omega
 ·subst e2
  rw[List.append_nil]at e1
  walk_at"st"
  refine hQ p aA hp' (fun a o e=>x4 a o (fun z=>?_) (x3 _ _ (x2 _ _ (x1 _ _ e)))) (by rw[e1];exact e5)
  simp only[List.mem_singleton]at z
  rw[z,hp']at e;cases e
theorem IB (h:G.fns i=some (wO ibp ih))(hbp:G.fns ibp=some (mT ip))(hp:G.fns ip=some (jS ip))(hh:G.fns ih=some (vK ih))(B:b.Ok)(hs:dN b.says<=5000)(wL:(bJ b.says []).length<=5000){l:Nat}{aI:List (List Bool)}(hl:st l=some (.lst (aI.map dZ)))(cS:∀ bs∈aI,bs.length=b.names.length)(hpn:aI.length<=1000)
  (hov:∀ s∈bJ b.says [],over b.names s/\aJ s<=8)(hQ:∀ aA,Ext st aA->Q (.tup ((bJ b.says []).map fun s=>.bl (eM b.names aI aI.length s))) aA):aN G (k+10) i [b.d,.ref l] st Q E:=by
 have hL:bE=16777216:=rfl
 have f2:=B.f2
 have g2:=B.g2
 rw[aS h]
 simp only[wO,start]
 refine⟨rfl,?_⟩
 have hd:b.d=.tup [.tup (b.fs.map .str),.tup (b.gs.map .str),.tup (b.ps.map toD),.tup (b.ms.map toD),.tup (b.ws.map fun w=>.tup [.int w.1,toD w.2])]:=rfl
 have en:(b.fs.map D.str++b.gs.map D.str)=b.names.map .str:=by simp [Bk.names]
 rw[hd]
 walk_at"st"
 refine⟨by simp only[List.length_map];omega,?_⟩
 rw[en]
 walk_at"st"
 refine bW (by simp) fun q aC x1 hq hq1=>?_
 walk_at"st"
 rw[<-hd]
 refine FT (k:=k) hbp hp B hs fun lp aG Dx x2 lp2=>?_
 walk_at"ex"
 rw[aF lp2]
 have hl2:=x2 _ _ (x1 _ _ hl)
 have q2:=x2 _ _ hq1
 have qlp:q≠lp:=fun z=>by rw[<-z,hq1]at Dx;cases Dx
 have ql:q≠l:=fun z=>by rw[z,hl]at hq;cases hq
 have hq0:∀ a o,st a=some o->a≠q:=fun a o e z=>by rw[z,hq]at e;cases e
 refine jR toD (I:=fun rest σ aA=>∃ dn o4,bJ b.says []=dn++rest/\σ=[some b.d,some (.ref l),some (.tup (b.names.map .str)),some (.ref q),o4]/\bI [q] aG aA/\aA q=some (.lst (dn.map fun s=>.bl (eM b.names aI aI.length s)))) (fun rest σ aA ⟨dn,o4,e1,e2,x4,e5⟩=>?_) (fun x rest σ aA M ⟨dn,o4,e1,e2,x4,e5⟩ hM=>?_) (fun σ aA ⟨dn,o4,e1,e2,x4,e5⟩=>?_) _ _ _ ⟨[],none,rfl,rfl,.refl,q2⟩
 ·intro a ha
  simp only[List.mem_singleton]at ha
  subst ha
  rw[lp2,x4 _ _ (by simpa using qlp.symm) lp2]
 ·subst e2
  have hx:x∈bJ b.says []:=by rw[e1];simp
  have hlen:dn.length<=5000:=by rw[e1]at wL;simp at wL;omega
  have hl4:aA l=some (.lst (aI.map dZ)):=x4 _ _ (by simpa using ql.symm) hl2
  have fin:∀(dE:aB)(σ':St)(v:Bool),(∃ o4,σ'=[some b.d,some (.ref l),some (.tup (b.names.map .str)),some (.ref q),o4])->Ext aA dE->v=eM b.names aI aI.length x->(dn.map fun s=>D.bl (eM b.names aI aI.length s)).length<bE/\M σ' (put dE q (.lst ((dn.map fun s=>.bl (eM b.names aI aI.length s))++[.bl v]))):=fun dE σ' v ⟨o4,eσ⟩ x5 hv'=>by
   refine⟨by simp only[List.length_map];omega,hM σ' _ ⟨dn++[x],o4,by simp [e1],eσ,fun a o na e=>by rw[bH (by simpa using na)];exact x5 _ _ (x4 a o na e),?_⟩⟩
   rw[aV,hv'];simp
  walk_at"st"
  refine bW (by simp) fun u dE x5 hu hu5=>?_
  walk_at"ex"
  refine⟨KO (x5 _ _ hl4),iP (is:=[]) hu5,?_⟩
  rw[eq_nil (x5 _ _ hl4) hu5]
  have q5:=x5 _ _ e5
  cases hpe:aI with
  |nil =>
   simp only[List.map_nil,List.isEmpty_nil,if_true]
   walk_at"st"
   rw[aF q5]
   refine⟨True.intro,?_⟩
   obtain⟨r,er⟩:=jI x
   rw[er]
   walk_at"ex"
   rw[FY,aF q5]
   simp only[aE]
   exact fin dE _ _ ⟨_,rfl⟩ x5 (by rw[hpe];simp [eM])
  |cons p0 pr =>
   have hpl1:0<aI.length:=by rw[hpe];simp
   have hm:eM b.names aI aI.length x=hv b.names aI (mV x) (aI.length-1):=by unfold eM;rw[if_neg (by omega)]
   have elen:((aI.map dZ).length:Int)-1=((aI.length-1:Nat):Int):=by simp;omega
   rw[<-hpe]
   have hne:(aI.map dZ).isEmpty=false:=by rw[hpe];rfl
   rw[hne]
   simp only[Bool.false_eq_true,if_false]
   obtain⟨r,er⟩:=jI x
   have hpx:=vP b.says [] (fun x hx=>by cases hx) x hx
   have hox:=hov x hx
   rcases CN x hpx with⟨w1,a,rfl⟩|⟨w1,w2⟩
   ·simp only[toD,c1]
    walk_at"st"
    rw[if_pos (by decide +kernel)]
    walk_at"st"
    rw[aF q5]
    refine⟨True.intro,?_⟩
    rw[fI (x5 _ _ hl4),elen]
    refine GB (k:=k+1) hh cS hpn 8 (s:=a) (by have:=hox.2;simp only[aJ]at this;omega) hox.1 (by omega) (x5 _ _ hl4) fun fW x6=>?_
    rw[aF (x6 _ _ q5)]
    simp only[aE]
    exact fin fW _ _ ⟨_,rfl⟩ (x5.trans x6) (by rw[hm];rfl)
   ·rw[er]
    walk_at"st"
    rw[if_neg (by rw[w1];exact Bool.false_ne_true)]
    walk_at"st"
    rw[aF q5]
    refine⟨True.intro,?_⟩
    rw[fI (x5 _ _ hl4),elen,<-er]
    refine GB (k:=k+1) hh cS hpn 8 (s:=x) hox.2 hox.1 (by omega) (x5 _ _ hl4) fun fW x6=>?_
    rw[aF (x6 _ _ q5)]
    simp only[aE]
    exact fin fW _ _ ⟨_,rfl⟩ (x5.trans x6) (by rw[hm,w2])
 ·subst e2
  rw[List.append_nil]at e1
  walk_at"st"
  rw[aF e5]
  rw[<-e1]
  refine⟨by simp only[List.length_map];omega,hQ aA fun a o e=>x4 a o (by simpa using hq0 a o e) (x2 _ _ (x1 _ _ e))⟩
end
end L3
end
section
namespace L3
open PySem
noncomputable def DO (im:Nat):Fn:=⟨4,8,[.asg (.nm 4) (.call im [(.v 0),(.v 1),(.bin .pow (.c (.int 10)) (.c (.int 9)))]),.asg (.nm 5) (.lst []),.iX (.nm 6) (some .range) [(.call im [(.v 0),(.bin .add (.v 1) (.c (.int 1))),(.bin .add (.v 3) (.c (.int 1)))])] [.asg (.nm 7) (.bin .mod (.bin .mul (.bin .add (.bin .add (.v 4) (.bin .mul (.bin .mul (.c (.int 104729)) (.v 6)) (.v 6))) (.bin .mul (.c (.int 7919)) (.v 6))) (.c (.int 48271))) (.c (.int 2147483647))),.ex (.cK .append (.v 5) [(.bi .tuple [(.comp 1 [7] [0] true (some .range) [(.v 2)] [] (.cmp .eq (.bin .mod (.bin .fdiv (.v 1) (.ix (.lst [(.c (.int 13)),(.c (.int 26)),(.c (.int 52)),(.c (.int 104))]) (.v 0))) (.c (.int 2))) (.c (.int 1))))])])],.ret (.v 5)]⟩
noncomputable def xM (is cX:Nat):Fn:=⟨5,7,[.asg (.nm 5) (.call is [(.v 0),(.v 1),(.v 2),(.c (.int 1)),(.lst [(.c (.int 0))])]),.iff (.and_ (.cmp .gt (.ix (.v 4) (.c (.int 0))) (.c (.int 0))) (.cmp .eq (.call cX [(.v 0),(.v 1),(.c (.int 2))]) (.c (.int 1)))) [.asg (.ix (.v 4) (.c (.int 0))) (.bin .sub (.ix (.v 4) (.c (.int 0))) (.c (.int 1))),.asg (.nm 6) (.call is [(.v 0),(.v 1),(.v 3),(.c (.int 1)),(.lst [(.c (.int 0))])]),.ret (.tup [(.ix (.lst [(.c (.str (W "then"))),(.c (.str (W "or"))),(.c (.str (W "same")))]) (.call cX [(.v 0),(.v 1),(.c (.int 3))])),(.tup [(.c (.str (W "before"))),(.v 6)]),(.v 5)])] [],.ret (.v 5)]⟩
noncomputable def xI (inm cX is ipr:Nat):Fn:=⟨4,14,[.asg (.nm 4) (.lst [(.v 1)]),.asg (.tp [5,6]) (.call inm [(.v 0),(.v 4)]),.asg (.nm 7) (.bin .add (.v 5) (.v 6)),.asg (.nm 8) (.lst [(.call cX [(.v 0),(.v 4),(.bin .add (.v 2) (.c (.int 1)))])]),.asg (.nm 9) (.lst []),.iX (.nm 10) (some .range) [(.bin .add (.c (.int 1)) (.call cX [(.v 0),(.v 4),(.c (.int 3))]))] [.asg (.nm 11) (.bin .add (.c (.int 1)) (.call cX [(.v 0),(.v 4),(.ix (.lst [(.c (.int 3)),(.c (.int 9)),(.c (.int 99))]) (.call cX [(.v 0),(.v 4),(.c (.int 3))]))])),.ex (.cK .append (.v 9) [(.tup [(.v 11),(.call is [(.v 0),(.v 4),(.v 7),(.c (.int 2)),(.v 8)])])])],.asg (.nm 12) (.comp 1 [0,4,7,8] [0] true (some .range) [(.call cX [(.v 0),(.v 4),(.bin .add (.v 3) (.c (.int 1)))])] [] (.call is [(.v 1),(.v 2),(.v 3),(.c (.int 2)),(.v 4)])),.asg (.nm 13) (.comp 1 [0,4,5,7,8] [0] true (some .range) [(.call cX [(.v 0),(.v 4),(.c (.int 2))])] [] (.call ipr [(.v 1),(.v 2),(.v 3),(.v 4),(.v 5)])),.ret (.tup [(.v 5),(.v 6),(.bi .tuple [(.v 13)]),(.bi .tuple [(.v 12)]),(.bi .tuple [(.v 9)])])]⟩
noncomputable def cst (j:Nat):Int:=([13,26,52,104]:List Int).getD j 1
theorem S6 (j:Nat)(h:j<4):0<cst j/\cst j<1073741824:=by
 match j,h with
 |0,_=>decide
 |1,_=>decide
 |2,_=>decide
 |3,_=>decide
section
variable {G:Prog}{k i im ic:Nat}{st:aB}{Q:VK}{E:XK}{ns:List Int}
theorem QW (h:G.fns i=some (DO im))(hm:G.fns im=some (kC ic))(hc:G.fns ic=some lJ){at_ most:Int}{n:Nat}(ha:0<=at_)(hn:n<=4)(hmo:0<=most)(hmo2:most<=100)
  (hQ:∀ p aA (aI:List (List Bool)),Ext st aA->aA p=some (.lst (aI.map dZ))->(∀ bs∈aI,bs.length=n)->(aI.length:Int)<=most->Q (.ref p) aA):aN G (k+3) i [.bB (ns.map .int),.int at_,.int n,.int most] st Q E:=by
 have hL:bE=16777216:=rfl
 rw[aS h]
 simp only[DO,start]
 refine⟨rfl,?_⟩
 walk_at"st"
 refine⟨by decide,?_⟩
 refine yX hm hc ha (by decide) fun aC x1=>?_
 walk_at"st"
 refine bW (by simp) fun q aG x2 hq hq2=>?_
 walk_at"st"
 refine yX hm hc (by omega) (by omega) fun aR x3=>?_
 have v0:=fM (ns:=ns) (k:=at_+1) (many:=most+1) (by omega)
 have v1:=fN (ns:=ns) (k:=at_+1) (many:=most+1) (by omega)
 generalize iT ns (at_+1) (most+1)=v at v0 v1
 generalize iT ns at_ (10 ^ Int.toNat 9)=seed
 walk_at"ex"
 refine⟨by unfold cW;omega,?_⟩
 rw[kR]
 have hq1:aC q=none:=hq
 refine jR (fun j:Nat=>D.int (j:Nat)) (I:=fun rest σ aA=>∃ m o6 o7 aI,m<=v.toNat/\rest=(List.range v.toNat).drop m/\σ=[some (.bB (ns.map .int)),some (.int at_),some (.int n),some (.int most),some (.int seed),some (.ref q),o6,o7]/\bI [q] aR aA/\aA q=some (.lst (aI.map dZ))/\(∀ bs∈aI,bs.length=n)/\aI.length=m) (fun rest σ aA _ a ha=>?_) (fun x rest σ aA M ⟨m,o6,o7,aI,e0,e1,e2,x4,e5,e6,e7⟩ hM=>?_) (fun σ aA ⟨m,o6,o7,aI,e0,e1,e2,x4,e5,e6,e7⟩=>?_) _ _ _ ⟨0,none,none,[],Nat.zero_le _,rfl,rfl,.refl,x3 _ _ hq2,by simp,rfl⟩
 ·cases ha
 ·subst e2
  have hm':m<(List.range v.toNat).length:=by
   by_cases z:m<(List.range v.toNat).length
   ·exact z
   ·rw[List.drop_eq_nil_of_le (by omega)]at e1;cases e1
  rw[List.drop_eq_getElem_cons hm']at e1
  injection e1 with e3 e4
  simp only[List.getElem_range]at e3
  subst e3
  simp only[List.length_range]at hm'
  walk_at"st"
  refine⟨.inl (by unfold mO;omega),.inr (by unfold mO;omega),.inl (by unfold mO;omega),.inr (by unfold mO;omega),by decide,?_⟩
  generalize (seed+104729*(x:Int)*(x:Int)+7919*(x:Int))*48271 % 2147483647=dr
  walk_at"st"
  rw[aF e5]
  refine⟨True.intro,by unfold cW;omega,?_⟩
  rw[show((n:Int)).toNat=n by omega,kR]
  refine eE (fun j:Nat=>D.int (j:Nat)) (fun j=>.bl (dr / cst j % 2==1)) (List.range n) [] aA (fun aT y a ha=>by cases ha) (fun j hj aT K y1 hK=>?_) (by simp;omega) fun dE y5=>?_
  ·have hj':=List.mem_range.mp hj
   refine bW (by decide) fun u fW x6 hu hu6=>?_
   have hat:eV [D.int 13,D.int 26,D.int 52,D.int 104] ((j:Nat):Int)=some (.int (cst j)):=by
    rw[eD (by simp;omega)]
    match j,(by omega:j<4)with
    |0,_=>rfl
    |1,_=>rfl
    |2,_=>rfl
    |3,_=>rfl
   rw[eI hu6,hat,bA]
   walk_at"ex"
   refine⟨S6 j (by omega),by decide,?_⟩
   exact hK fW x6
  rw[List.nil_append]
  refine bW (by simp;omega) fun u fW x6 hu hu6=>?_
  walk_at"ex"
  rw[aF hu6]
  refine⟨by simp;omega,?_⟩
  have q6:=x6 _ _ (y5 _ _ e5)
  rw[aF q6]
  refine⟨by simp;omega,?_⟩
  simp only[aE]
  refine hM _ _ ⟨x+1,_,_,aI++[(List.range n).map fun j=>dr / cst j % 2==1],by omega,e4,rfl,fun a o na e=>by rw[bH (by simpa using na)];exact x6 _ _ (y5 _ _ (x4 a o na e)),?_,fun bs hbs=>?_,by simp [e7]⟩
  ·rw[aV];simp [dZ,List.map_map,Function.comp]
  ·rcases List.mem_append.mp hbs with hbs|hbs
   ·exact e6 bs hbs
   ·simp only[List.mem_singleton]at hbs;subst hbs;simp
 ·subst e2
  have hm':v.toNat<=m:=by
   by_cases z:m<(List.range v.toNat).length
   ·rw[List.drop_eq_getElem_cons z]at e1;cases e1
   ·simpa using z
  walk_at"st"
  refine hQ q aA aI (fun a o e=>x4 a o (fun z=>?_) (x3 _ _ (x2 _ _ (x1 _ _ e)))) e5 e6 (by omega)
  simp only[List.mem_singleton]at z
  rw[z]at e
  rw[x1 _ _ e]at hq;cases hq
end
end L3
end
section
namespace L3
open PySem
theorem mR {f g:List (List Nat)}(h:∀ n∈f,n∈g):∀ s:Sy,over f s->over g s
 |.yes,_=>trivial
 |.no,_=>trivial
 |.cB _,q=>h _ q
 |.one w s,q=>mR h s q
 |.two w s t,q=>⟨mR h s q.1,mR h t q.2⟩
theorem mS {fs gs:List (List Nat)}(h:∀ n∈fs,n∉gs):∀ s:Sy,over fs s->eZ gs s=false
 |.yes,_=>rfl
 |.no,_=>rfl
 |.cB n,q=>by
  simp only[eZ,List.any_eq_false]
  intro x hx e
  have:=h n q
  rw[<-eq_of_beq e]at this
  exact this hx
 |.one w s,q=>by cases w<;>first|rfl|exact mS h s q
 |.two w s t,q=>by simp only[eZ,mS h s q.1,mS h t q.2,Bool.or_self]
section
variable {G:Prog}{k ic im cX is ipr:Nat}{st:aB}{Q:VK}{E:XK}{ns:List Int}
theorem RB (h:G.fns ipr=some (xM is cX))(hs:G.fns is=some (lY cX is))(hn:G.fns cX=some (qD im))(hm:G.fns im=some (kC ic))(hc:G.fns ic=some lJ){fs gs:List (List Nat)}(hf:0<fs.length)(hdis:∀ n∈fs,n∉gs){a b:Nat}(dC:a≠b){i l:Int}
  (ha:st a=some (.lst [.int i]))(hb:st b=some (.lst [.int l]))(hi:0<=i)(hl:0<=l)
  (hQ:∀ s aA i',over (fs++gs) s->eZ gs s=false->aJ s<=4->(cnt s:Int)<=l->bI [a,b] st aA->0<=i'->aA a=some (.lst [.int i'])->aA b=some (.lst [.int (l-cnt s)])->Q (toD s) aA):
  aN G (k+6) ipr [.bB (ns.map .int),.ref a,.tup (fs.map .str),.tup ((fs++gs).map .str),.ref b] st Q E:=by
 rw[aS h]
 simp only[xM,start]
 refine⟨rfl,?_⟩
 have hfm:∀ n∈fs,n∈fs++gs:=fun n hn=>by simp [hn]
 walk_at"st"
 refine bW (by decide) fun z aC x1 hz hz1=>?_
 have za:a≠z:=fun e=>by rw[<-e,ha]at hz;cases hz
 have zb:b≠z:=fun e=>by rw[<-e,hb]at hz;cases hz
 have zz:∀ c o,st c=some o->c≠z:=fun c o e q=>by rw[q,hz]at e;cases e
 refine qJ (k:=k) hs hn hm hc hf za 1 (x1 _ _ ha) hz1 hi (by omega) fun s aG i2 o1 d1 c1' k2 hi2 a2 z2=>?_
 have cs:cnt s=0:=by omega
 have b2:aG b=some (.lst [.int l]):=k2 b _ (by simp [dC.symm,zb]) (x1 _ _ hb)
 have kk2:bI [a,b] st aG:=fun c o nc e=>k2 c o (by simp only[List.mem_cons,List.not_mem_nil,or_false,not_or]at nc ⊢;exact⟨nc.1,zz c o e⟩) (x1 _ _ e)
 have base:∀ aR i3,bI [a,b] aG aR->0<=i3->aR a=some (.lst [.int i3])->aR b=some (.lst [.int l])->Q (toD s) aR:=fun aR i3 k3 h3 a3 b3 =>
  hQ s aR i3 (mR hfm s o1) (mS hdis s o1) (by omega) (by omega) (kk2.trans k3) h3 a3 (by rw[cs];simpa using b3)
 walk_at"st"
 rw[eI b2,DY,bA]
 walk_at"ex"
 by_cases hl0:0<l
 ·rw[if_pos hl0]
  refine eR (k:=k+2) hn hm hc a2 hi2 (by omega) fun aR k3 a3=>?_
  have b3:aR b=some (.lst [.int l]):=k3 b _ (by simpa using dC.symm) b2
  walk_at"ex"
  generalize hv:iT ns (i2+1) 2=v
  cases hv1:(v==1)with
  |true =>
   simp only[if_true]
   walk_at"st"
   rw[eI b3,DY,bA]
   walk_at"ex"
   rw[aF b3,QT,bA]
   generalize hst4:put aR b _=cP
   have b4:cP b=some (.lst [.int (l-1)]):=by rw[<-hst4,aV];rfl
   have a4:cP a=some (.lst [.int (i2+1)]):=by rw[<-hst4,bH dC];exact a3
   have k4:bI [a,b] aR cP:=by rw[<-hst4];exact bI.put (by simp)
   walk_at"st"
   refine bW (by decide) fun y dE x5 hy hy5=>?_
   have ya:a≠y:=fun e=>by rw[<-e,a4]at hy;cases hy
   have yb:b≠y:=fun e=>by rw[<-e,b4]at hy;cases hy
   have yy:∀ c o,cP c=some o->c≠y:=fun c o e q=>by rw[q,hy]at e;cases e
   refine qJ (k:=k) hs hn hm hc (by simp;omega) ya 1 (x5 _ _ a4) hy5 (by omega) (by omega) fun s2 fW i6 o6 d6 c6 k6 hi6 a6 y6=>?_
   have cs2:cnt s2=0:=by omega
   have b6:fW b=some (.lst [.int (l-1)]):=k6 b _ (by simp [dC.symm,yb]) (x5 _ _ b4)
   have kk6:bI [a,b] cP fW:=fun c o nc e=>k6 c o (by simp only[List.mem_cons,List.not_mem_nil,or_false,not_or]at nc ⊢;exact⟨nc.1,yy c o e⟩) (x5 _ _ e)
   walk_at"st"
   refine bW (by decide) fun u sG x7 hu hu7=>?_
   walk_at"ex"
   refine eR (k:=k+2) hn hm hc (x7 _ _ a6) hi6 (by omega) fun gM k8 a8=>?_
   have u8:gM u=some (.lst [.str (W "then"),.str (W "or"),.str (W "same")]):=k8 u _ (by
    intro z'
    simp only[List.mem_singleton]at z'
    rw[z',a6]at hu;cases hu) hu7
   have w0:=fM (ns:=ns) (k:=i6+1) (many:=3) (by omega)
   have w1:=fN (ns:=ns) (k:=i6+1) (many:=3) (by omega)
   generalize iT ns (i6+1) 3=w at w0 w1
   have b8:gM b=some (.lst [.int (l-1)]):=k8 b _ (by simpa using dC.symm) (x7 _ _ b6)
   have kk8:bI [a,b] st gM:=((((kk2.trans (k3.mono (by simp))).trans k4).trans kk6).trans x7.keep).trans (k8.mono (by simp))
   have fin:∀ W2',p2 W2'=false->aJ (Sy.two W2' (.one .before s2) s)<=4->Q (toD (Sy.two W2' (.one .before s2) s)) gM:=fun W2' iG hdp=>by
    have hcn:cnt (Sy.two W2' (.one .before s2) s)=1:=by simp [cnt,iG,p1,cs,cs2]
    refine hQ _ gM (i6+1) ⟨o6,mR hfm s o1⟩ ?_ hdp (by rw[hcn];omega) kk8 (by omega) a8 (by rw[hcn];exact b8)
    simp only[eZ,mS hdis s o1,Bool.or_self]
   walk_at"ex"
   have hdp:∀ W2',aJ (Sy.two W2' (.one .before s2) s)<=4:=fun W2'=>by simp only[aJ];omega
   have hw:w=0∨w=1∨w=2:=by omega
   rcases hw with rfl|rfl|rfl
   ·rw[eI u8,DY,bA];exact fin .aW rfl (hdp _)
   ·rw[eI u8,NR,bA];exact fin .or rfl (hdp _)
   ·rw[eI u8,PB,bA];exact fin .same rfl (hdp _)
  |false =>
   simp only[Bool.false_eq_true,if_false,aE]
   walk_at"st"
   exact base aR (i2+1) (k3.mono (by simp)) (by omega) a3 b3
 ·rw[if_neg hl0]
  (try rw[if_neg hl0])
  (try simp only[decide_eq_false hl0,Bool.false_eq_true,if_false])
  rw[aE]
  walk_at"st"
  exact base aG i2 .refl hi2 a2 b2
end
end L3
end
section
namespace L3
open PySem
theorem NZ {fs gs:List (List Nat)}(h:rM fs gs=true):1<=fs.length/\fs.length<=2/\1<=gs.length/\gs.length<=2/\(fs++gs).Nodup/\∀ n∈fs++gs,n∈mH:=by
 simp only[rM,Bool.and_eq_true,decide_eq_true_eq,List.all_eq_true]at h
 obtain⟨⟨⟨⟨⟨a,b⟩,c⟩,d⟩,e⟩,f⟩:=h
 exact⟨a,b,c,d,e,fun n hn=>by simpa using f n hn⟩
theorem J4:∀ n∈mH,eH n=true:=by decide +kernel
noncomputable def dY (l:List Sy):Nat:=(l.map cnt).sum
theorem qT (a b:List Sy):dY (a++b)=dY a+dY b:=by simp [dY]
theorem EH (f:List Sy)(s:Sy):(cT f s).length<=f.length+(if bU s=true then 1 else 0):=by
 unfold cT
 cases h:bU s with
 |true=>simp only[Bool.true_and,if_true];split<;>simp
 |false=>simp
theorem xC:∀(s:Sy)(f:List Sy),(aU s f).length<=f.length+cnt s
 |.yes,f=>by simp [aU]
 |.no,f=>by simp [aU]
 |.cB _,f=>by simp [aU]
 |.one w s,f=>by
  have h1:=xC s (cT f (.one w s))
  have h2:=EH f (.one w s)
  simp only[bU]at h2
  simp only[aU,cnt]
  cases h:p1 w<;>simp [h]at h2 ⊢<;>omega
 |.two w s t,f=>by
  have h1:=xC s (cT f (.two w s t))
  have h2:=EH f (.two w s t)
  have h3:=xC t (aU s (cT f (.two w s t)))
  simp only[bU]at h2
  simp only[aU,cnt]
  cases h:p2 w<;>simp [h]at h2 ⊢<;>omega
theorem E2:∀(l f:List Sy),(bJ l f).length<=f.length+dY l
 |[],f=>by simp [bJ,dY]
 |s::l,f=>by
  have h1:=E2 l (aU s f)
  have h2:=xC s f
  have:dY (s::l)=cnt s+dY l:=by simp [dY]
  simp only[bJ];omega
structure Dn (b:Bk)(pieces fD:Int):Prop where
 ok:b.Ok
 d4:∀ s∈b.says,aJ s<=4
 ms:(b.ms.length:Int)<=fD
 cn:(dY b.says:Int)<=pieces
 n8:∀ n∈b.names,n∈mH
noncomputable abbrev bσ (at_ pieces fD:Int)(ns:List Int)(fs gs:List (List Nat))(m lf wl:Nat)(qO sF QV Hu:Option D):St:=[some (.bB (ns.map .int)),some (.int at_),some (.int pieces),some (.int fD),some (.ref m),some (.tup (fs.map .str)),some (.tup (gs.map .str)),some (.tup ((fs++gs).map .str)),some (.ref lf),some (.ref wl),qO,sF,QV,Hu]
inductive WI (σ0:Option D->Option D->St)(names:List (List Nat))(m lf wl:Nat)(fW:aB)(lv v:Int)(rest:List Nat)(σ:St)(aA:aB):Prop
 |mk (j:Nat)(qO sF:Option D)(i':Int)(ws:List (Int×Sy))(e1:rest=(List.range (1+v).toNat).drop j)(e2:σ=σ0 qO sF)(q1:bI [m,lf,wl] fW aA)(q2:0<=i')(q3:aA m=some (.lst [.int i']))(q4:aA lf=some (.lst [.int (lv-dY (ws.map (·.2)))]))(q5:(dY (ws.map (·.2)):Int)<=lv)(q6:aA wl=some (.lst (ws.map fun w:Int×Sy=>.tup [.int w.1,toD w.2])))(q7:ws.length=j)(q7':j<=(1+v).toNat)(q8:∀ w∈ws,1<=w.1/\w.1<=99/\over names w.2/\aJ w.2<=3)
theorem Hj {a b c:Nat}{x:Int}(h:(a:Int)<=x)(h':(b:Int)<=x-a):((a+b:Nat):Int)<=x:=by omega
theorem Hl {a b:Nat}{x:Int}:x-(a:Int)-(b:Int)=x-((a+b:Nat):Int):=by omega
theorem P6 {b:Nat}{x:Int}(h:(b:Int)<=x):0<=x-(b:Int):=by omega
theorem draws {turn:D->aB->(Option D->aB->Prop)->Prop}{R:List D->aB->Prop}{m lf:Nat}{ok:Sy->Prop}{ZA:aB}
 (ht:∀(x:D)(st:aB)(K:Option D->aB->Prop)(i c:Int),0<=i->0<=c->st m=some (.lst [.int i])->st lf=some (.lst [.int c])->(∀ s aA i',ok s->(cnt s:Int)<=c->bI [m,lf] st aA->0<=i'->aA m=some (.lst [.int i'])->aA lf=some (.lst [.int (c-cnt s)])->K (some (toD s)) aA)->turn x st K):
 ∀(xs:List D)(ss:List Sy){st:aB}{i c:Int},0<=i->0<=c->st m=some (.lst [.int i])->st lf=some (.lst [.int c])->ss.length+xs.length<bE ->
  (∀ ss' aA i',(∀ s∈ss',ok s)->ss'.length=xs.length->(dY ss':Int)<=c->bI [m,lf] st aA->0<=i'->aA m=some (.lst [.int i'])->aA lf=some (.lst [.int (c-dY ss')])->R ((ss++ss').map toD) aA) ->
  iR (same [] ZA) turn xs (ss.map toD) st R
 |[],ss,st,i,c,hi,hc,hm,hl,hn,h=>⟨iN,by have q:=h [] st i (fun _ h=>nomatch h) rfl (by simpa [dY]using hc) .refl hi hm (by simpa [dY]using hl);rw[List.append_nil]at q;exact q⟩
 |x::xs,ss,st,i,c,hi,hc,hm,hl,hn,h=>⟨iN,by rw[List.length_map];simp only[List.length_cons]at hn;omega,ht x st _ i c hi hc hm hl fun s aA i' o1 o2 k1 hi' m1 l1=>by
 have q:=draws (ZA:=ZA) ht xs (ss++[s]) hi' (P6 o2) m1 l1 (by simp only[List.length_append,List.length_cons,List.length_nil]at hn ⊢;omega) (fun ss' aT i'' p1 p2 p3 p4 p5 p6 p7=>by
  have e:dY (s::ss')=cnt s+dY ss':=by simp [dY]
  have z:=h (s::ss') aT i'' (fun s' gG=>by
  rcases List.mem_cons.mp gG with rfl|gG
  ·exact o1
  ·exact p1 s' gG) (by simp [p2]) (by rw[e];exact Hj (c:=0) o2 p3) (k1.trans p4) p5 p6 (by rw[e,<-Hl];exact p7)
  rw[List.append_assoc]
  exact z)
 rw[List.map_append]at q
 exact q⟩
section
variable {G:Prog}{k i inm ic im cX is ipr:Nat}{st:aB}{Q:VK}{E:XK}{ns:List Int}
theorem UE {v:Int}{n:Int}(h0:0<=v)(h1:v<n)(hn:n<=4):cW v:=by unfold cW;omega
theorem QH {v:Int}{n:Int}{a:Nat}(e:a=v.toNat)(h1:v<n)(hn:n<=4):a<=3:=by omega
theorem Gu {v n:Int}{a:Nat}(e:a=v.toNat)(h0:0<=v)(h1:v<n+1):(a:Int)<=n:=by omega
theorem Hk {a b c:Nat}{x y:Int}(h:(a:Int)<=x-c-b)(h':x<y+1):((a+b+c:Nat):Int)<=y:=by omega
theorem M7 {a:Nat}(h:a<=3):a<=bE:=Nat.le_trans h (by decide)
theorem M0 (hp:G.fns ipr=some (xM is cX))(hs:G.fns is=some (lY cX is))(hn:G.fns cX=some (qD im))(hm:G.fns im=some (kC ic))(hc:G.fns ic=some lJ){fs gs:List (List Nat)}(f1:0<fs.length)(fpos:0<(fs++gs).length)(hdis:∀ n∈fs,n∉gs){m lf wl:Nat}(mlf:m≠lf)(mwl:m≠wl)(lfwl:lf≠wl){at_ pieces fD i' c:Int}(hmu:0<=fD)(hmu3:fD<=3){ws:List (Int×Sy)}{qO sF:Option D}(q2:0<=i')(q3:st m=some (.lst [.int i']))(q4:st lf=some (.lst [.int c]))(hc0:0<=c)(q6:st wl=some (.lst (ws.map fun w:Int×Sy=>.tup [.int w.1,toD w.2])))(hws:ws.length<=3)
 (hQ:∀ ps ms aA,(∀ s∈ms,over (fs++gs) s/\aJ s<=3)->(ms.length:Int)<=fD->ms.length<=3->(∀ s∈ps,over (fs++gs) s/\aJ s<=4/\eZ gs s=false)->ps.length<=3->(dY ms:Int)<=c->(dY ps:Int)<=c-dY ms->bI [m,lf] st aA->Q (Bk.d ⟨fs,gs,ps,ms,ws⟩) aA):
 cH (aN G (k+6)) G.sub ((xI inm cX is ipr).body.drop 6) ⟨fun _ aA=>Q .non aA,Q,fun _ _=>False,fun _ _=>False,fun c _ aA=>E c aA⟩ (bσ at_ pieces fD ns fs gs m lf wl qO sF none none) st:=by
 simp only[xI,List.drop_succ_cons,List.drop_zero,bσ]
 walk_at"st"
 refine eR (k:=k+3) hn hm hc q3 q2 (by omega) fun sG k7 m7=>?_
 have V2:=fM (ns:=ns) (k:=i'+1) (many:=fD+1) (by omega)
 have V3:=fN (ns:=ns) (k:=i'+1) (many:=fD+1) (by omega)
 generalize iT ns (i'+1) (fD+1)=v2 at V2 V3
 walk_at"ex"
 have h4:fD+1<=4:=by omega
 refine⟨UE V2 V3 h4,?_⟩
 have lf7:=k7 lf _ (by simpa using mlf.symm) q4
 have wl7:=k7 wl _ (by simpa using mwl.symm) q6
 refine draws (m:=m) (lf:=lf) (ok:=fun s=>over (fs++gs) s/\aJ s<=3) (fun x aA K i c hi hc' h1 h2 hK=>?_) _ [] (by omega) hc0 m7 lf7 ?_ fun ms gM i8 z8 z7 z6 z2 z3 z4 z5=>?_
 ·exact qJ (k:=k) hs hn hm hc fpos mlf 2 h1 h2 hi hc' fun s gM i8 o8 d8 c8 k8 hi8 m8 lf8=>hK s gM i8 ⟨o8,d8⟩ c8 k8 hi8 m8 lf8
 ·simp only[List.length_nil,gR,List.length_map,List.length_range];exact Nat.lt_of_le_of_lt (by rw[Nat.zero_add];exact QH rfl V3 h4) (by decide)
 simp only[gR,List.length_map,List.length_range]at z7
 have m3:=QH z7 V3 h4
 refine bW (by rw[List.nil_append,List.length_map];exact M7 m3) fun ml nS x9 hml ml9=>?_
 walk_at"ex"
 have wl9:=x9 _ _ (z2 wl _ (by simp [mwl.symm,lfwl.symm]) wl7)
 walk_at"st"
 refine eR (k:=k+3) hn hm hc (x9 _ _ z4) z3 (by decide) fun sta ka ma=>?_
 have V4:=fM (ns:=ns) (k:=i8+1) (many:=2) (by decide)
 have V5:=fN (ns:=ns) (k:=i8+1) (many:=2) (by decide)
 generalize iT ns (i8+1) 2=v3 at V4 V5
 walk_at"ex"
 refine⟨UE V4 V5 (by decide),?_⟩
 have mml:m≠ml:=fun z=>by rw[<-z,z4]at hml;cases hml
 have lfml:lf≠ml:=fun z=>by rw[<-z,z5]at hml;cases hml
 have lfa:=ka lf _ (by simpa using mlf.symm) (x9 _ _ z5)
 have wla:=ka wl _ (by simpa using mwl.symm) wl9
 have mla:=ka ml _ (by simpa using mml.symm) ml9
 refine draws (m:=m) (lf:=lf) (ok:=fun s=>over (fs++gs) s/\aJ s<=4/\eZ gs s=false) (fun x aA K i c hi hc' h1 h2 hK=>?_) _ [] (by omega) (P6 z6) ma lfa ?_ fun ps stb ib y8 y7 y6 y2 y3 y4 y5=>?_
 ·exact RB (k:=k) hp hs hn hm hc f1 hdis mlf h1 h2 hi hc' fun s gM i8 o8 b8 d8 c8 k8 hi8 m8 lf8=>hK s gM i8 ⟨o8,d8,b8⟩ c8 k8 hi8 m8 lf8
 ·simp only[List.length_nil,gR,List.length_map,List.length_range];exact Nat.lt_of_le_of_lt (by rw[Nat.zero_add];exact QH rfl V5 (by decide)) (by decide)
 simp only[gR,List.length_map,List.length_range]at y7
 have p3:=QH y7 V5 (by decide)
 refine bW (by rw[List.nil_append,List.length_map];exact M7 p3) fun pl stc xc cS plc=>?_
 walk_at"ex"
 have wlc:=xc _ _ (y2 wl _ (by simp [mwl.symm,lfwl.symm]) wla)
 have mlc:=xc _ _ (y2 ml _ (by simp [mml.symm,lfml.symm]) mla)
 simp only[List.nil_append]at plc mlc
 walk_at"st"
 rw[aF plc]
 refine⟨by rw[List.length_map];exact M7 p3,?_⟩
 rw[aF mlc]
 refine⟨by rw[List.length_map];exact M7 m3,?_⟩
 rw[aF wlc]
 refine⟨by rw[List.length_map];exact M7 hws,?_⟩
 refine hQ ps ms stc z8 (Gu z7 V2 V3) m3 y8 p3 z6 y6 fun a o ha e=>?_
 have ha':=ha
 simp only[List.mem_cons,List.not_mem_nil,or_false,not_or]at ha'
 have t7:=k7 a o (by simpa using ha'.1) e
 have t9:=ka a o (by simpa using ha'.1) (x9 _ _ (z2 a o ha t7))
 exact xc _ _ (y2 a o ha t9)
theorem R6 (h:G.fns i=some (xI inm cX is ipr))(jH:G.fns inm=some (zU cX))(hp:G.fns ipr=some (xM is cX))(hs:G.fns is=some (lY cX is))(hn:G.fns cX=some (qD im))(hm:G.fns im=some (kC ic))(hc:G.fns ic=some lJ){at_ pieces fD:Int}(ha:0<=at_)(hpi:0<=pieces)(hmu:0<=fD)(hmu3:fD<=3)
  (hQ:∀ b aA,Dn b pieces fD->Ext st aA->Q b.d aA):aN G (k+7) i [.bB (ns.map .int),.int at_,.int pieces,.int fD] st Q E:=by
 have hL:bE=16777216:=rfl
 rw[aS h]
 simp only[xI,start]
 refine⟨rfl,?_⟩
 walk_at"st"
 refine bW (by show 1<=bE;decide) fun m aC x1 hm0 m1=>?_
 walk_at"st"
 refine NT (k:=k+2) jH hn hm hc m1 ha fun fs gs aG i2 bY k2 hi2 m2=>?_
 obtain⟨f1,f2,g1,g2,nd,n8⟩:=NZ bY
 walk_at"ex"
 walk_at"st"
 refine⟨by simp only[List.length_map];omega,?_⟩
 have en:(fs.map D.str++gs.map D.str)=(fs++gs).map .str:=by simp
 rw[en]
 walk_at"st"
 refine eR (k:=k+3) hn hm hc m2 hi2 (by omega) fun aR k3 m3=>?_
 have L0:=fM (ns:=ns) (k:=i2+1) (many:=pieces+1) (by omega)
 have L1:=fN (ns:=ns) (k:=i2+1) (many:=pieces+1) (by omega)
 generalize iT ns (i2+1) (pieces+1)=lv at L0 L1
 refine bW (by show 1<=bE;decide) fun lf cP x4 hlf lf4=>?_
 have m4:=x4 _ _ m3
 have mlf:m≠lf:=fun z=>by rw[<-z,m3]at hlf;cases hlf
 have old3:∀ a o,st a=some o->aR a=some o:=fun a o e=>by
  have hma:a≠m:=fun z=>by rw[z,hm0]at e;cases e
  exact k3 a o (by simpa using hma) (k2 a o (by simpa using hma) (x1 _ _ e))
 have old4:∀ a o,st a=some o->cP a=some o/\a≠m/\a≠lf:=fun a o e=>⟨x4 _ _ (old3 a o e),fun z=>(by rw[z,hm0]at e;cases e),fun z=>(by rw[<-z,old3 a o e]at hlf;cases hlf)⟩
 walk_at"ex"
 walk_at"st"
 refine bW (by simp) fun wl dE x5 hwl wl5=>?_
 have m5:=x5 _ _ m4
 have lf5:=x5 _ _ lf4
 have mwl:m≠wl:=fun z=>by rw[<-z,m4]at hwl;cases hwl
 have lfwl:lf≠wl:=fun z=>by rw[<-z,lf4]at hwl;cases hwl
 have old5:∀ a o,st a=some o->dE a=some o/\a≠m/\a≠lf/\a≠wl:=fun a o e=>by
  obtain⟨q1,q2,q3⟩:=old4 a o e
  exact⟨x5 _ _ q1,q2,q3,fun z=>by rw[<-z,q1]at hwl;cases hwl⟩
 walk_at"ex"
 walk_at"st"
 refine eR (k:=k+3) hn hm hc m5 (by omega) (by omega) fun fW k6 m6=>?_
 have V0:=fM (ns:=ns) (k:=i2+1+1) (many:=3) (by omega)
 have V1:=fN (ns:=ns) (k:=i2+1+1) (many:=3) (by omega)
 generalize iT ns (i2+1+1) 3=v at V0 V1
 have lf6:=k6 lf _ (by simpa using mlf.symm) lf5
 have wl6:=k6 wl _ (by simpa using mwl.symm) wl5
 walk_at"ex"
 refine⟨by unfold cW;omega,?_⟩
 rw[kR]
 have hname:∀ n∈fs++gs,eH n=true:=fun n hn'=>J4 n (n8 n hn')
 have fpos:0<(fs++gs).length:=by simp;omega
 have hdis:∀ n∈fs,n∉gs:=fun n h1 h2=>by
  rw[List.nodup_append]at nd
  exact nd.2.2 n h1 n h2 rfl
 refine jR (fun j:Nat=>D.int (j:Nat)) (I:=WI (fun qO sF=>bσ at_ pieces fD ns fs gs m lf wl qO sF none none) (fs++gs) m lf wl fW lv v) (fun rest σ aA _ a ha=>?_) (fun x rest σ aA M ⟨j,qO,sF,i',ws,e1,e2,q1,q2,q3,q4,q5,q6,q7,q7',q8⟩ hM=>?_) (fun σ aA ⟨j,qO,sF,i',ws,e1,e2,q1,q2,q3,q4,q5,q6,q7,q7',q8⟩=>?_) _ _ _ ⟨0,none,none,i2+1+1,[],rfl,rfl,.refl,by omega,m6,by simpa [dY]using lf6,by simp [dY];omega,wl6,rfl,Nat.zero_le _,by simp⟩
 ·cases ha
 ·subst e2
  have hj:j<(List.range (1+v).toNat).length:=by
   by_cases z:j<(List.range (1+v).toNat).length
   ·exact z
   ·rw[List.drop_eq_nil_of_le (by omega)]at e1;cases e1
  rw[List.drop_eq_getElem_cons hj]at e1
  injection e1 with e3 e4
  simp only[List.length_range]at hj
  simp only[bσ]
  walk_at"st"
  refine bW (by decide) fun u sG x7 hu hu7=>?_
  walk_at"ex"
  refine eR (k:=k+3) hn hm hc (x7 _ _ q3) q2 (by omega) fun gM k8 m8=>?_
  have um:u≠m:=fun z=>by rw[z,q3]at hu;cases hu
  have u8:=k8 u _ (by simpa using um) hu7
  have w0:=fM (ns:=ns) (k:=i'+1) (many:=3) (by omega)
  have w1:=fN (ns:=ns) (k:=i'+1) (many:=3) (by omega)
  generalize iT ns (i'+1) 3=w at w0 w1
  have hpr:∃ c:Int,0<c/\c<=99/\eV [D.int 3,D.int 9,D.int 99] w=some (.int c):=by
   have hw:w=0∨w=1∨w=2:=by omega
   rcases hw with rfl|rfl|rfl
   ·exact⟨3,by decide,by decide,DY⟩
   ·exact⟨9,by decide,by decide,NR⟩
   ·exact⟨99,by decide,by decide,PB⟩
  obtain⟨c,P6,c99,hc'⟩:=hpr
  rw[eI u8,hc',bA]
  refine eR (k:=k+3) hn hm hc m8 (by omega) P6 fun nS k9 m9=>?_
  have y0:=fM (ns:=ns) (k:=i'+1+1) (many:=c) (by omega)
  have y1:=fN (ns:=ns) (k:=i'+1+1) (many:=c) (by omega)
  generalize iT ns (i'+1+1) c=y at y0 y1
  walk_at"ex"
  have kk9:bI [m,lf,wl] aA nS:=(x7.keep.trans (k8.mono (by simp))).trans (k9.mono (by simp))
  have lf9:nS lf=some (.lst [.int (lv-dY (ws.map (·.2)))]):=k9 lf _ (by simpa using mlf.symm) (k8 lf _ (by simpa using mlf.symm) (x7 _ _ q4))
  have wl9:nS wl=some (.lst (ws.map fun w:Int×Sy=>.tup [.int w.1,toD w.2])):=k9 wl _ (by simpa using mwl.symm) (k8 wl _ (by simpa using mwl.symm) (x7 _ _ q6))
  walk_at"st"
  rw[aF wl9]
  refine⟨True.intro,?_⟩
  refine qJ (k:=k) hs hn hm hc fpos mlf 2 m9 lf9 (by omega) (by omega) fun s KP i10 o10' d10 c10 k10 hi10 m10 lf10=>?_
  have wl10:=k10 wl _ (by simp [mwl.symm,lfwl.symm]) wl9
  walk_at"ex"
  rw[aF wl10]
  refine⟨by simp only[List.length_map];omega,?_⟩
  simp only[aE]
  have ec:dY ((ws++[(1+y,s)]).map (·.2))=dY (ws.map (·.2))+cnt s:=by rw[List.map_append,qT];simp [dY]
  refine hM _ _ ⟨j+1,_,_,i10,ws++[(1+y,s)],e4,rfl,?_,hi10,?_,?_,?_,?_,by simp [q7],by omega,fun w' hw'=>?_⟩
  ·intro a o na e
   simp only[List.mem_cons,List.not_mem_nil,or_false,not_or]at na
   rw[bH na.2.2]
   exact k10 a o (by simp [na]) (kk9 a o (by simp [na]) (q1 a o (by simp [na]) e))
  ·rw[bH mwl];exact m10
  ·rw[bH lfwl,lf10,ec];simp;omega
  ·rw[ec];simp;omega
  ·rw[aV];simp
  ·rcases List.mem_append.mp hw' with hw'|hw'
   ·exact q8 w' hw'
   ·simp only[List.mem_singleton]at hw';subst hw'
    exact⟨by show 1<=1+y;omega,by show 1+y<=99;omega,o10',d10⟩
 ·-- fD
  subst e2
  have hj:(1+v).toNat<=j:=by
   by_cases z:j<(List.range (1+v).toNat).length
   ·rw[List.drop_eq_getElem_cons z]at e1;cases e1
   ·simpa using z
  have hws:ws.length<=3:=by omega
  refine M0 (k:=k) (inm:=inm) hp hs hn hm hc (by omega) fpos hdis mlf mwl lfwl hmu hmu3 q2 q3 q4 (by omega) q6 hws fun ps ms gM z8 z7 m3 y8 p3 z6 y6 z2=>?_
  have w1:1<=ws.length:=by omega
  refine hQ ⟨fs,gs,ps,ms,ws⟩ gM ⟨⟨f1,f2,g1,g2,nd,hname,p3,fun s gG=>⟨(y8 s gG).1,Nat.le_trans (y8 s gG).2.1 (by decide)⟩,fun s gG=>(y8 s gG).2.2,m3,fun s gG=>⟨(z8 s gG).1,Nat.le_trans (z8 s gG).2 (by decide)⟩,w1,Nat.le_trans hws (by decide),fun w hw=>⟨(q8 w hw).1,(q8 w hw).2.1,(q8 w hw).2.2.1,Nat.le_trans (q8 w hw).2.2.2 (by decide)⟩⟩,fun s gG=>?_,z7,?_,n8⟩ fun a o e=>?_
  ·simp only[Bk.says,List.mem_append,List.mem_map]at gG
   rcases gG with(gG|gG)|⟨w,hw,rfl⟩
   ·exact(y8 s gG).2.1
   ·exact Nat.le_trans (z8 s gG).2 (by decide)
   ·exact Nat.le_trans (q8 w hw).2.2.2 (by decide)
  ·show((dY (ps++ms++ws.map (·.2)):Nat):Int)<=pieces
   rw[qT,qT]
   exact Hk y6 L1
  ·obtain⟨s1,s2,s3,s4⟩:=old5 a o e
   have t6:=k6 a o (by simpa using s2) s1
   exact z2 a o (by simp [s2,s3]) (q1 a o (by simp [s2,s3,s4]) t6)
end
end L3
end
section
namespace L3
open PySem
noncomputable def NB (ibo ipl imb ilm:Nat):Fn:=⟨1,5,[.asg (.nm 1) (.call ibo [(.v 0),(.c (.int 4)),(.c (.int 3)),(.c (.int 2))]),.asg (.nm 2) (.call ipl [(.v 0),(.c (.int 0)),(.bi .len [(.bin .add (.ix (.v 1) (.c (.int 0))) (.ix (.v 1) (.c (.int 1))))]),(.c (.int 7))]),.iX (.nm 3) (some .range) [(.bin .add (.bi .len [(.v 2)]) (.c (.int 1)))] [.asg (.nm 4) (.call imb [(.v 1),(.sl (.v 2) [] [(.v 3)])]),.iff (.or_ (.not_ (.isi (.v 4) [.tuple])) (.cmp .ne (.comp 1 [] [0] true none [(.v 4)] [(.not_ (.isi (.v 0) [.bool]))] (.v 0)) (.lst []))) [.ret (.c (.bl false))] [],.iff (.cmp .ne (.v 4) (.call ilm [(.v 1),(.sl (.v 2) [] [(.v 3)])])) [.ret (.c (.bl false))] []],.ret (.c (.bl true))]⟩
theorem OC {α:Type}(xs:List α){t:Nat}(h:t<=xs.length):cut xs none (some (t:Int))=xs.take t:=by
 simp only[cut,bX]
 rw[if_neg (by omega)]
 simp [Nat.min_eq_left h]
theorem K5 {n:Nat}:∀(l:List Sy),(∀ s∈l,aJ s<=4)->dN l<=l.length*15
 |[],_=>by simp [dN]
 |s::l,h=>by
  have h1:=DS s
  have h2:=h s (by simp)
  have h3:=K5 (n:=n) l fun x hx=>h x (by simp [hx])
  have h4:2 ^ aJ s<=2 ^ 4:=Nat.pow_le_pow_right (by decide) h2
  rw[fZ]
  simp only[List.length_cons]
  omega
theorem CC {names:List (List Nat)}{f:List Sy}{s:Sy}(hf:∀ x∈f,over names x)(hs:over names s):∀ x∈cT f s,over names x:=by
 unfold cT;split
 ·intro x hx
  rcases List.mem_append.mp hx with hx|hx
  ·exact hf x hx
  ·simp only[List.mem_singleton]at hx;subst hx;exact hs
 ·exact hf
theorem sN {names:List (List Nat)}:∀(s:Sy){f:List Sy},(∀ x∈f,over names x)->over names s->∀ x∈aU s f,over names x
 |.yes,_,hf,_=>hf
 |.no,_,hf,_=>hf
 |.cB _,_,hf,_=>hf
 |.one w s,_,hf,hs=>sN s (CC hf hs) hs
 |.two w s t,_,hf,hs=>sN t (sN s (CC hf hs) hs.1) hs.2
theorem C3 {names:List (List Nat)}:∀(l:List Sy){f:List Sy},(∀ x∈f,over names x)->(∀ s∈l,over names s)->∀ x∈bJ l f,over names x
 |[],_,hf,_=>hf
 |s::l,_,hf,hl=>C3 l (sN s hf (hl s (by simp))) fun x hx=>hl x (by simp [hx])
section
variable {G:Prog}{k il ibo ipl imb ilm inm ic im cX is ipr ibk ich icp ist ie iw ipo iz irr iti io iri ima DK iph inh ibp ip ih:Nat}{st:aB}{E:XK}{ns:List Int}
theorem M1 {b:Bk}{pieces fD:Int}(DR:Dn b pieces fD)(hp:pieces<=4):dN b.says<=200/\(∀ x∈b.says,aJ x<=60)/\(bJ b.says []).length<=4/\∀ s∈bJ b.says [],over b.names s/\aJ s<=8:=by
 have p1:=DR.ok.p1
 have m1:=DR.ok.m1
 have w2:=DR.ok.w2
 have hl:b.says.length<=11:=by simp [Bk.says];omega
 refine⟨?_,fun x hx=>by have:=DR.d4 x hx;omega,?_,fun s hs=>⟨C3 b.says (by simp) (fun s hs=>(wM DR.ok s hs).1) s hs,sX b.says (n:=8) (by simp) (fun x hx=>by have:=DR.d4 x hx;omega) s hs⟩⟩
 ·have:=K5 (n:=0) b.says DR.d4;omega
 ·have:=E2 b.says []
  have h2:=DR.cn
  simp at this;omega
theorem Bs (h:G.fns il=some (NB ibo ipl imb ilm))(hbo:G.fns ibo=some (xI inm cX is ipr))(jH:G.fns inm=some (zU cX))(hpr:G.fns ipr=some (xM is cX))(hs:G.fns is=some (lY cX is))(hn:G.fns cX=some (qD im))(hm:G.fns im=some (kC ic))(hc:G.fns ic=some lJ)(cS:G.fns ipl=some (DO im))
  (hmb:G.fns imb=some (nU ich icp iri ima DK))(hch:G.fns ich=some (oC ibk))(hb:∀ b:Bk,b.Ok->dN b.says<bE->(∀ x∈b.says,aJ x<=60)->(bJ b.says []).length<=4->JX G ibk 13 b)(hcp:G.fns icp=some (rP ist))(eF:G.fns ist=some lZ)(hri:G.fns iri=some (vF iti io))(ht:G.fns iti=some (lW iz ie irr))(hz:G.fns iz=some (jP iw))(he:G.fns ie=some (oM ie iw ipo))(hw:G.fns iw=some gP)(hpo:G.fns ipo=some mQ)(hrr:G.fns irr=some zD)(hio:G.fns io=some qY)
  (hma:G.fns ima=some GL)(hha:G.fns DK=some (zV iph inh))(hnh:G.fns inh=some BJ)(hph:G.fns iph=some wZ)(hlm:G.fns ilm=some (wO ibp ih))(hbp:G.fns ibp=some (mT ip))(hpp:G.fns ip=some (jS ip))(hh:G.fns ih=some (vK ih)):aN G (k+16) il [.bB (ns.map .int)] st (fun d _=>d=.bl true) E:=by
 have hL:bE=16777216:=rfl
 rw[aS h]
 simp only[NB,start]
 refine⟨rfl,?_⟩
 walk_at"st"
 refine R6 (k:=k+8) hbo jH hpr hs hn hm hc (by decide) (by decide) (by decide) (by decide) fun b aC DR x1=>?_
 obtain⟨F1,F2,F3,F4⟩:=M1 DR (by decide)
 have hB:=hb b DR.ok (by omega) F2 F3
 have f2:=DR.ok.f2
 have g2:=DR.ok.g2
 have en:(b.fs.map D.str++b.gs.map D.str).length=b.names.length:=by simp [Bk.names]
 have hn4:b.names.length<=4:=by simp [Bk.names];omega
 have hd:b.d=.tup [.tup (b.fs.map .str),.tup (b.gs.map .str),.tup (b.ps.map toD),.tup (b.ms.map toD),.tup (b.ws.map fun w=>.tup [.int w.1,toD w.2])]:=rfl
 walk_at"ex"
 rw[hd]
 walk_at"st"
 refine⟨by simp only[List.length_map];omega,?_⟩
 rw[en]
 refine QW (k:=k+12) cS hm hc (by decide) hn4 (by decide) (by decide) fun l aG aI x2 hl2 hpb hpn=>?_
 walk_at"ex"
 walk_at"st"
 rw[fI hl2]
 refine⟨by unfold cW;simp;omega,?_⟩
 rw[show(((aI.map dZ).length:Int)+1).toNat=aI.length+1 by(simp<;>omega),kR,<-hd]
 refine jR (fun j:Nat=>D.int (j:Nat)) (I:=fun rest σ aA=>∃ t o3 o4,rest=(List.range (aI.length+1)).drop t/\σ=[some (.bB (ns.map .int)),some b.d,some (.ref l),o3,o4]/\Ext aG aA) (fun rest σ aA _ a ha=>?_) (fun x rest σ aA M ⟨t,o3,o4,e1,e2,x3⟩ hM=>?_) (fun σ aA ⟨t,o3,o4,e1,e2,x3⟩=>?_) _ _ _ ⟨0,none,none,rfl,rfl,.refl⟩
 ·cases ha
 ·subst e2
  have ht':t<(List.range (aI.length+1)).length:=by
   by_cases z:t<(List.range (aI.length+1)).length
   ·exact z
   ·rw[List.drop_eq_nil_of_le (by omega)]at e1;cases e1
  rw[List.drop_eq_getElem_cons ht']at e1
  injection e1 with e3 e4
  simp only[List.getElem_range]at e3
  subst e3
  simp only[List.length_range]at ht'
  have hl3:=x3 _ _ hl2
  have hpb':∀ bs∈aI.take x,bs.length=b.names.length:=fun bs hbs=>hpb bs (List.mem_of_mem_take hbs)
  have hpn':(aI.take x).length<=1000:=by simp;omega
  have ecut:cut (aI.map dZ) none (some (x:Int))=(aI.take x).map dZ:=by rw[OC _ (by simp;omega),List.map_take]
  walk_at"st"
  rw[aF hl3]
  intro p1 hp1
  rw[ecut]
  have x4:Ext aA (put aA p1 (.lst ((aI.take x).map dZ))):=Ext.new hp1
  refine DN (k:=k) hmb hch hB hcp eF hri ht hz he hw hpo hrr hio hma hha hnh hph DR.ok (by omega) (by omega) aV hpb' hpn' fun dE x5=>?_
  walk_at"ex"
  walk_at"st"
  have em:((bJ b.says []).map fun s=>D.bl (eM b.names (aI.take x) (aI.take x).length s))=((bJ b.says []).map fun s=>eM b.names (aI.take x) (aI.take x).length s).map .bl:=by rw[List.map_map];rfl
  rw[em]
  refine nZ D.bl (fun _=>none) _ [] dE (fun aT y a ha=>by cases ha) (fun v hv' aT K y1 hK=>hK aT .refl) (by simp;omega) fun fW y6=>?_
  rw[List.nil_append,show((bJ b.says []).map fun s=>eM b.names (aI.take x) (aI.take x).length s).filterMap (fun _=>(none:Option L3.D))=[]by simp]
  refine bW (by simp) fun u sG x7 hu hu7=>?_
  walk_at"ex"
  refine bW (by simp) fun u2 gM x8 hu2 hu8=>?_
  walk_at"ex"
  refine⟨iP (is:=[]) (x8 _ _ hu7),iP (is:=[]) hu8,?_⟩
  rw[eq_nil (x8 _ _ hu7) hu8]
  simp only[List.isEmpty_nil,Bool.not_true,Bool.false_eq_true,if_false,aE]
  walk_at"st"
  have hl8:=x8 _ _ (x7 _ _ (y6 _ _ (x5 _ _ (x4 _ _ hl3))))
  rw[aF hl8]
  intro p2 iG
  rw[ecut]
  refine IB (k:=k+5) hlm hbp hpp hh DR.ok (by omega) (by omega) aV hpb' hpn' F4 fun nS x9=>?_
  rw[em]
  have hpm:∀ bs:List Bool,plainS nS (.tup (bs.map .bl)):=fun bs=>⟨sI _ (yW bs),Nat.le_trans (HS bs) (by decide)⟩
  walk_at"ex"
  refine⟨hpm _,hpm _,?_⟩
  have erf:∀ bs:List Bool,bK nS (.tup (bs.map .bl)) (.tup (bs.map .bl))=true:=fun bs=>HW (dZ bs) (yW bs)
  rw[erf]
  simp only[Bool.not_true,Bool.false_eq_true,if_false,aE]
  refine hM _ nS ⟨x+1,_,_,e4,rfl,?_⟩
  exact(x3.trans x4).trans ((x5.trans y6).trans ((x7.trans x8).trans ((Ext.new iG).trans x9)))
 ·subst e2
  walk_at"st"
end
end L3
end
end
namespace L3
open PySem PySem.Spec PyProof.Rows L2
noncomputable def g_LETTERS:D:=(.str (W "abcdefghijklmnopqrstuvwxyz"))
noncomputable def g_LONGEST_NAME:D:=(.int 8)
noncomputable def g_NO_NAMES:D:=(.tup [(.str (W "yes")),(.str (W "no")),(.str (W "not")),(.str (W "and")),(.str (W "or")),(.str (W "then")),(.str (W "same")),(.str (W "before")),(.str (W "once")),(.str (W "sofar")),(.str (W "since")),(.str (W "foe")),(.str (W "friend")),(.str (W "promise")),(.str (W "must")),(.str (W "wish"))])
noncomputable def g_DEEPEST:D:=(.int 8)
noncomputable def g_SAYINGS_WITHIN:D:=(.cM [(.str (W "yes")),(.str (W "no")),(.str (W "not")),(.str (W "before")),(.str (W "once")),(.str (W "sofar")),(.str (W "and")),(.str (W "or")),(.str (W "then")),(.str (W "same")),(.str (W "since"))] [(.int 0),(.int 0),(.int 1),(.int 1),(.int 1),(.int 1),(.int 2),(.int 2),(.int 2),(.int 2),(.int 2)])
noncomputable def g_PAST_WORDS:D:=(.tup [(.str (W "before")),(.str (W "once")),(.str (W "sofar")),(.str (W "since"))])
noncomputable def g_MOST_LAMPS:D:=(.int 2)
noncomputable def g_MOST_PROMISES:D:=(.int 3)
noncomputable def g_MOST_MUSTS:D:=(.int 3)
noncomputable def g_MOST_WISHES:D:=(.int 5)
noncomputable def g_HIGHEST_PRICE:D:=(.int 99)
noncomputable def g_MOST_PIECES:D:=(.int 4)
noncomputable abbrev vE:Nat:=0
noncomputable abbrev qR:Nat:=1
noncomputable abbrev jM:Nat:=2
noncomputable abbrev gD:Nat:=3
noncomputable abbrev mG:Nat:=4
noncomputable abbrev kJ:Nat:=5
noncomputable abbrev xR:Nat:=6
noncomputable abbrev nE:Nat:=7
noncomputable abbrev nF:Nat:=8
noncomputable abbrev rG:Nat:=9
noncomputable abbrev AW:Nat:=10
noncomputable abbrev B8:Nat:=11
noncomputable abbrev vZ:Nat:=12
noncomputable abbrev lG:Nat:=13
noncomputable abbrev vX:Nat:=14
noncomputable abbrev C8:Nat:=15
noncomputable abbrev xT:Nat:=16
noncomputable abbrev uT:Nat:=17
noncomputable abbrev oJ:Nat:=18
noncomputable abbrev nD:Nat:=19
noncomputable abbrev pD:Nat:=20
noncomputable abbrev kD:Nat:=21
noncomputable abbrev qI:Nat:=22
noncomputable abbrev lA:Nat:=23
noncomputable abbrev oZ:Nat:=24
noncomputable abbrev vM:Nat:=25
noncomputable abbrev rK:Nat:=26
noncomputable abbrev qE:Nat:=27
noncomputable abbrev qW:Nat:=28
noncomputable abbrev oA:Nat:=29
noncomputable abbrev fB:Nat:=30
noncomputable abbrev wI:Nat:=31
noncomputable abbrev fO:Nat:=32
noncomputable abbrev sD:Nat:=33
noncomputable abbrev yR:Nat:=34
noncomputable abbrev xY:Nat:=35
noncomputable abbrev nI:Nat:=36
noncomputable abbrev mN:Nat:=37
noncomputable abbrev oP:Nat:=38
noncomputable abbrev uA:Nat:=39
noncomputable abbrev PZ:Nat:=40
noncomputable def B5:Fn:=⟨1,1,[.iff (.or_ (.not_ (.isi (.v 0) [.str])) (.cmp .in_ (.v 0) (.c g_NO_NAMES))) [.ret (.c (.bl false))] [],.ret (.and_ (.chain .le .le (.c (.int 1)) (.bi .len [(.v 0)]) (.c g_LONGEST_NAME)) (.bi .all [(.comp 1 [] [0] true none [(.v 0)] [] (.cmp .in_ (.v 0) (.c g_LETTERS)))]))]⟩
noncomputable def xS:Fn:=⟨2,2,[.ret (.call jM [(.v 0),(.v 1),(.c g_DEEPEST)])]⟩
noncomputable def mX:Fn:=⟨3,3,[.iff (.or_ (.cmp .lt (.v 2) (.c (.int 1))) (.or_ (.not_ (.isi (.v 1) [.tuple])) (.or_ (.cmp .lt (.bi .len [(.v 1)]) (.c (.int 1))) (.not_ (.isi (.ix (.v 1) (.c (.int 0))) [.str]))))) [.ret (.c (.bl false))] [],.iff (.cmp .eq (.ix (.v 1) (.c (.int 0))) (.c (.str (W "lamp")))) [.ret (.and_ (.cmp .eq (.bi .len [(.v 1)]) (.c (.int 2))) (.and_ (.call vE [(.ix (.v 1) (.c (.int 1)))]) (.cmp .in_ (.ix (.v 1) (.c (.int 1))) (.v 0))))] [],.iff (.or_ (.cmp .fV (.ix (.v 1) (.c (.int 0))) (.c g_SAYINGS_WITHIN)) (.cmp .ne (.bi .len [(.v 1)]) (.bin .add (.c (.int 1)) (.ix (.c g_SAYINGS_WITHIN) (.ix (.v 1) (.c (.int 0))))))) [.ret (.c (.bl false))] [],.ret (.bi .all [(.comp 1 [0,2] [0] true none [(.sl (.v 1) [(.c (.int 1))] [])] [] (.call jM [(.v 1),(.v 0),(.bin .sub (.v 2) (.c (.int 1)))]))])]⟩
noncomputable def oV:Fn:=⟨1,1,[.iff (.cmp .eq (.ix (.v 0) (.c (.int 0))) (.c (.str (W "lamp")))) [.ret (.tup [])] [],.ret (.sl (.v 0) [(.c (.int 1))] [])]⟩
noncomputable def xV:Fn:=⟨1,4,[.asg (.nm 1) (.lst []),.asg (.nm 2) (.bit .list .rev [(.v 0)]),.whl (.v 2) [.asg (.nm 3) (.cK .pop (.v 2) []),.iff (.and_ (.cmp .in_ (.ix (.v 3) (.c (.int 0))) (.c g_PAST_WORDS)) (.cmp .fV (.v 3) (.v 1))) [.ex (.cK .append (.v 1) [(.v 3)])] [],.ex (.cK .extend (.v 2) [(.bit .list .rev [(.call gD [(.v 3)])])])],.ret (.v 1)]⟩
noncomputable def FI:Fn:=⟨3,3,[.ret (.and_ (.isi (.v 0) [.tuple]) (.chain .le .le (.v 1) (.bi .len [(.v 0)]) (.v 2)))]⟩
noncomputable def yN:Fn:=⟨2,3,[.iff (.or_ (.not_ (.call kJ [(.v 0),(.c (.int 1)),(.c g_MOST_LAMPS)])) (.not_ (.call kJ [(.v 1),(.c (.int 1)),(.c g_MOST_LAMPS)]))) [.ret (.c (.bl false))] [],.asg (.nm 2) (.bin .add (.v 0) (.v 1)),.ret (.and_ (.bi .all [(.comp 1 [] [0] true none [(.v 2)] [] (.call vE [(.v 0)]))]) (.cmp .eq (.bi .pS [(.v 2)]) (.bi .len [(.v 2)])))]⟩
noncomputable def uK:Fn:=⟨3,3,[.ret (.and_ (.call kJ [(.v 1),(.c (.int 0)),(.v 2)]) (.bi .all [(.comp 1 [0] [0] true none [(.v 1)] [] (.call qR [(.v 1),(.v 0)]))]))]⟩
noncomputable def uL:Fn:=⟨2,2,[.iff (.cmp .eq (.ix (.v 1) (.c (.int 0))) (.c (.str (W "before")))) [.ret (.c (.bl false))] [],.iff (.cmp .eq (.ix (.v 1) (.c (.int 0))) (.c (.str (W "lamp")))) [.ret (.cmp .in_ (.ix (.v 1) (.c (.int 1))) (.v 0))] [],.ret (.bi .any [(.comp 1 [0] [0] true none [(.call gD [(.v 1)])] [] (.call nF [(.v 1),(.v 0)]))])]⟩
noncomputable def rT:Fn:=⟨3,3,[.ret (.and_ (.call nE [(.v 0),(.v 2),(.c g_MOST_PROMISES)]) (.not_ (.bi .any [(.comp 1 [1] [0] true none [(.v 2)] [] (.call nF [(.v 1),(.v 0)]))])))]⟩
noncomputable def AA:Fn:=⟨1,1,[.ret (.and_ (.isi (.v 0) [.int]) (.and_ (.not_ (.isi (.v 0) [.bool])) (.chain .le .le (.c (.int 1)) (.v 0) (.c g_HIGHEST_PRICE))))]⟩
noncomputable def B2:Fn:=⟨2,2,[.ret (.and_ (.call kJ [(.v 1),(.c (.int 2)),(.c (.int 2))]) (.and_ (.call AW [(.ix (.v 1) (.c (.int 0)))]) (.call qR [(.v 0),(.ix (.v 1) (.c (.int 1)))])))]⟩
noncomputable def wD:Fn:=⟨2,2,[.ret (.and_ (.call kJ [(.v 1),(.c (.int 1)),(.c g_MOST_WISHES)]) (.bi .all [(.comp 1 [0] [0] true none [(.v 1)] [] (.call B8 [(.v 1),(.v 0)]))]))]⟩
noncomputable def uV:Fn:=⟨3,3,[.ret (.bin .add (.bin .add (.bi .list [(.v 0)]) (.bi .list [(.v 1)])) (.comp 1 [] [0] true none [(.v 2)] [] (.ix (.v 0) (.c (.int 1)))))]⟩
noncomputable def CH:Fn:=⟨1,6,[.iff (.or_ (.not_ (.call kJ [(.v 0),(.c (.int 5)),(.c (.int 5))])) (.not_ (.call xR [(.ix (.v 0) (.c (.int 0))),(.ix (.v 0) (.c (.int 1)))]))) [.ret (.c (.bl false))] [],.asg (.nm 1) (.ix (.v 0) (.c (.int 1))),.asg (.nm 2) (.bin .add (.ix (.v 0) (.c (.int 0))) (.v 1)),.asg (.nm 3) (.ix (.v 0) (.c (.int 2))),.asg (.nm 4) (.ix (.v 0) (.c (.int 3))),.asg (.nm 5) (.ix (.v 0) (.c (.int 4))),.iff (.or_ (.not_ (.call rG [(.v 2),(.v 1),(.v 3)])) (.not_ (.call nE [(.v 2),(.v 4),(.c g_MOST_MUSTS)]))) [.ret (.c (.bl false))] [],.ret (.and_ (.call vZ [(.v 2),(.v 5)]) (.cmp .le (.bi .len [(.call mG [(.call lG [(.v 3),(.v 4),(.v 5)])])]) (.c g_MOST_PIECES)))]⟩
noncomputable def C2:Fn:=oC vX
noncomputable def yQ:Fn:=BJ
noncomputable def vA:Fn:=wZ
noncomputable def oE:Fn:=lW mG nD kD
noncomputable def uH:Fn:=oM nD gD pD
noncomputable def pF:Fn:=mQ
noncomputable def kF:Fn:=zD
noncomputable def pT:Fn:=zV uT xT
noncomputable def lK:Fn:=GL
noncomputable def pN:Fn:=vF oJ lG
noncomputable def uX:Fn:=lZ
noncomputable def rF:Fn:=rP vM
noncomputable def pY:Fn:=nU C8 rK oZ lA qI
noncomputable def rC:Fn:=⟨2,2,[.iff (.cmp .lt (.v 1) (.bi .len [(.v 0)])) [.ret (.ix (.v 0) (.v 1))] [],.iff (.cmp .eq (.v 0) (.lst [])) [.ret (.c (.int 0))] [],.ret (.bin .add (.bin .mul (.ix (.v 0) (.bin .mod (.v 1) (.bi .len [(.v 0)]))) (.c (.int 31))) (.v 1))]⟩
noncomputable def uS:Fn:=⟨3,4,[.asg (.nm 3) (.bin .mod (.bin .mul (.bin .add (.bin .add (.call qW [(.v 0),(.v 1)]) (.bin .mul (.c (.int 7919)) (.v 1))) (.c (.int 1))) (.c (.int 48271))) (.c (.int 2147483647))),.ret (.bin .mod (.bin .mod (.bin .add (.bin .add (.bin .mul (.v 3) (.v 3)) (.bin .mul (.c (.int 7)) (.v 3))) (.v 1)) (.c (.int 2147483629))) (.v 2))]⟩
noncomputable def yE:Fn:=⟨3,3,[.asg (.ix (.v 1) (.c (.int 0))) (.bin .add (.ix (.v 1) (.c (.int 0))) (.c (.int 1))),.ret (.call oA [(.v 0),(.ix (.v 1) (.c (.int 0))),(.v 2)])]⟩
noncomputable def vW:Fn:=⟨2,7,[.asg (.nm 2) (.lst [(.c (.str (W "a"))),(.c (.str (W "b"))),(.c (.str (W "x"))),(.c (.str (W "y"))),(.c (.str (W "lamp"))),(.c (.str (W "far"))),(.c (.str (W "yesno"))),(.c (.str (W "abcdefgh")))]),.asg (.nm 3) (.call fB [(.v 0),(.v 1),(.c (.int 8))]),.asg (.nm 4) (.bin .add (.sl (.v 2) [(.v 3)] []) (.sl (.v 2) [] [(.v 3)])),.asg (.nm 5) (.bin .add (.c (.int 1)) (.call fB [(.v 0),(.v 1),(.c (.int 2))])),.asg (.nm 6) (.bin .add (.c (.int 1)) (.call fB [(.v 0),(.v 1),(.c (.int 2))])),.ret (.tup [(.bi .tuple [(.sl (.v 4) [] [(.v 5)])]),(.bi .tuple [(.sl (.v 4) [(.v 5)] [(.bin .add (.v 5) (.v 6))])])])]⟩
noncomputable def uD:Fn:=⟨5,7,[.asg (.nm 5) (.call fB [(.v 0),(.v 1),(.c (.int 13))]),.iff (.or_ (.cmp .eq (.v 3) (.c (.int 0))) (.cmp .lt (.v 5) (.c (.int 3)))) [.ret (.tup [(.c (.str (W "lamp"))),(.ix (.v 2) (.call fB [(.v 0),(.v 1),(.bi .len [(.v 2)])]))])] [],.iff (.cmp .eq (.v 5) (.c (.int 3))) [.ret (.tup [(.ix (.lst [(.c (.str (W "yes"))),(.c (.str (W "no")))]) (.call fB [(.v 0),(.v 1),(.c (.int 2))]))])] [],.iff (.and_ (.cmp .gt (.v 5) (.c (.int 8))) (.cmp .gt (.ix (.v 4) (.c (.int 0))) (.c (.int 0)))) [.asg (.ix (.v 4) (.c (.int 0))) (.bin .sub (.ix (.v 4) (.c (.int 0))) (.c (.int 1))),.asg (.nm 6) (.call fO [(.v 0),(.v 1),(.v 2),(.bin .sub (.v 3) (.c (.int 1))),(.v 4)]),.iff (.cmp .eq (.v 5) (.c (.int 12))) [.ret (.tup [(.c (.str (W "since"))),(.v 6),(.call fO [(.v 0),(.v 1),(.v 2),(.bin .sub (.v 3) (.c (.int 1))),(.v 4)])])] [],.ret (.tup [(.ix (.lst [(.c (.str (W "before"))),(.c (.str (W "once"))),(.c (.str (W "sofar")))]) (.bin .sub (.v 5) (.c (.int 9)))),(.v 6)])] [],.asg (.nm 6) (.call fO [(.v 0),(.v 1),(.v 2),(.bin .sub (.v 3) (.c (.int 1))),(.v 4)]),.iff (.or_ (.cmp .eq (.v 5) (.c (.int 4))) (.cmp .gt (.v 5) (.c (.int 8)))) [.ret (.tup [(.c (.str (W "not"))),(.v 6)])] [],.ret (.tup [(.ix (.lst [(.c (.str (W "and"))),(.c (.str (W "or"))),(.c (.str (W "then"))),(.c (.str (W "same")))]) (.bin .sub (.v 5) (.c (.int 5)))),(.v 6),(.call fO [(.v 0),(.v 1),(.v 2),(.bin .sub (.v 3) (.c (.int 1))),(.v 4)])])]⟩
noncomputable def rR:Fn:=xM fO fB
noncomputable def yJ:Fn:=xI wI fB fO sD
noncomputable def yH:Fn:=DO oA
noncomputable def uC:Fn:=⟨2,3,[.iff (.and_ (.cmp .in_ (.ix (.v 0) (.c (.int 0))) (.tup [(.c (.str (W "before"))),(.c (.str (W "once"))),(.c (.str (W "sofar"))),(.c (.str (W "since")))])) (.cmp .fV (.v 0) (.v 1))) [.ex (.cK .append (.v 1) [(.v 0)])] [],.iff (.cmp .ne (.ix (.v 0) (.c (.int 0))) (.c (.str (W "lamp")))) [.iX (.nm 2) none [(.sl (.v 0) [(.c (.int 1))] [])] [.ex (.call nI [(.v 2),(.v 1)])]] [],.ret (.v 1)]⟩
noncomputable def mW:Fn:=mT nI
noncomputable def wF:Fn:=vK oP
noncomputable def uJ:Fn:=wO mN oP
noncomputable def QF:Fn:=⟨1,5,[.asg (.nm 1) (.call yR [(.v 0),(.c (.int 4)),(.c (.int 3)),(.c (.int 2))]),.asg (.nm 2) (.call xY [(.v 0),(.c (.int 0)),(.bi .len [(.bin .add (.ix (.v 1) (.c (.int 0))) (.ix (.v 1) (.c (.int 1))))]),(.c (.int 7))]),.iX (.nm 3) (some .range) [(.bin .add (.bi .len [(.v 2)]) (.c (.int 1)))] [.asg (.nm 4) (.call qE [(.v 1),(.sl (.v 2) [] [(.v 3)])]),.iff (.or_ (.not_ (.isi (.v 4) [.tuple])) (.cmp .ne (.comp 1 [] [0] true none [(.v 4)] [(.not_ (.isi (.v 0) [.bool]))] (.v 0)) (.lst []))) [.ret (.c (.bl false))] [],.iff (.cmp .ne (.v 4) (.call uA [(.v 1),(.sl (.v 2) [] [(.v 3)])])) [.ret (.c (.bl false))] []],.ret (.c (.bl true))]⟩
noncomputable def Gj:Nat->Option Fn
 |0=>some B5
 |1=>some xS
 |2=>some mX
 |3=>some oV
 |4=>some xV
 |5=>some FI
 |6=>some yN
 |7=>some uK
 |8=>some uL
 |9=>some rT
 |10=>some AA
 |11=>some B2
 |12=>some wD
 |13=>some uV
 |14=>some CH
 |15=>some C2
 |16=>some yQ
 |17=>some vA
 |18=>some oE
 |19=>some uH
 |20=>some pF
 |21=>some kF
 |22=>some pT
 |23=>some lK
 |24=>some pN
 |25=>some uX
 |26=>some rF
 |27=>some pY
 |28=>some rC
 |29=>some uS
 |30=>some yE
 |31=>some vW
 |32=>some uD
 |33=>some rR
 |34=>some yJ
 |35=>some yH
 |36=>some uC
 |37=>some mW
 |38=>some wF
 |39=>some uJ
 |40=>some QF
 |_=>none
noncomputable def Fl:Nat->Nat->Bool
 |0,0=>true
 |1,1=>true
 |1,0=>true
 |2,2=>true
 |2,1=>true
 |2,0=>true
 |3,3=>true
 |3,1=>true
 |3,0=>true
 |_,_=>false
noncomputable def G:Prog:=⟨Gj,Fl⟩
noncomputable abbrev bd (n:Nat):Stmt:=PySem.Challenge.pw_leastloss_k07_memory.main.body.getD n (.Pass ⟨0,0,0,0⟩)
noncomputable def dB:Nat->Stmt
 |0=>bd 12
 |1=>bd 13
 |2=>bd 14
 |3=>bd 15
 |4=>bd 16
 |5=>bd 24
 |6=>bd 25
 |7=>bd 26
 |8=>bd 27
 |9=>bd 28
 |10=>bd 29
 |11=>bd 30
 |12=>bd 31
 |13=>bd 32
 |14=>bd 33
 |15=>bd 34
 |16=>bd 36
 |17=>bd 37
 |18=>pB (bd 38) 0
 |19=>pB (bd 38) 1
 |20=>pB (bd 38) 2
 |21=>pB (bd 38) 3
 |22=>pB (bd 38) 4
 |23=>pB (bd 38) 5
 |24=>pB (bd 39) 0
 |25=>bd 40
 |26=>bd 41
 |27=>bd 43
 |28=>bd 45
 |29=>bd 46
 |30=>bd 47
 |31=>bd 48
 |32=>bd 49
 |33=>bd 50
 |34=>bd 51
 |35=>bd 52
 |36=>bd 53
 |37=>bd 54
 |38=>bd 55
 |39=>bd 56
 |40=>bd 57
 |_=>.Pass ⟨0,0,0,0⟩
def qX:Nat->Str
 |0 =>"is_name"
 |1 =>"is_saying"
 |2 =>"is_saying_within"
 |3 =>"sayings_within"
 |4 =>"pieces_in"
 |5 =>"is_row"
 |6 =>"are_lamps"
 |7 =>"are_sayings"
 |8 =>"stands_bare"
 |9 =>"are_promises"
 |10 =>"is_price"
 |11 =>"is_wish"
 |12 =>"are_wishes"
 |13 =>"sayings_of"
 |14 =>"is_book"
 |15 =>"checked"
 |16 =>"now_holds"
 |17 =>"past_holds"
 |18 =>"__init__"
 |19 =>"enter"
 |20 =>"place_of"
 |21 =>"remembered_row"
 |22 =>"held_at"
 |23 =>"memory_after"
 |24 =>"__init__"
 |25 =>"is_setting"
 |26 =>"checked_play"
 |27 =>"memory_behind"
 |28 =>"_law_cell_at"
 |29 =>"_law_mixed"
 |30 =>"_law_next"
 |31 =>"_law_names"
 |32 =>"_law_saying"
 |33 =>"_law_promise"
 |34 =>"_law_book"
 |35 =>"_law_play"
 |36 =>"_law_pieces"
 |37 =>"_law_book_pieces"
 |38 =>"_law_holds"
 |39 =>"_law_memory"
 |40 =>"law"
 |_ =>""
def lR:Nat->Str
 |0 =>"is_name"
 |1 =>"is_saying"
 |2 =>"is_saying_within"
 |3 =>"sayings_within"
 |4 =>"pieces_in"
 |5 =>"is_row"
 |6 =>"are_lamps"
 |7 =>"are_sayings"
 |8 =>"stands_bare"
 |9 =>"are_promises"
 |10 =>"is_price"
 |11 =>"is_wish"
 |12 =>"are_wishes"
 |13 =>"sayings_of"
 |14 =>"is_book"
 |15 =>"checked"
 |16 =>"now_holds"
 |17 =>"past_holds"
 |18 =>"Table.__init__"
 |19 =>"Table.enter"
 |20 =>"Table.place_of"
 |21 =>"Table.remembered_row"
 |22 =>"Table.held_at"
 |23 =>"Table.memory_after"
 |24 =>"Rules.__init__"
 |25 =>"is_setting"
 |26 =>"checked_play"
 |27 =>"memory_behind"
 |28 =>"_law_cell_at"
 |29 =>"_law_mixed"
 |30 =>"_law_next"
 |31 =>"_law_names"
 |32 =>"_law_saying"
 |33 =>"_law_promise"
 |34 =>"_law_book"
 |35 =>"_law_play"
 |36 =>"_law_pieces"
 |37 =>"_law_book_pieces"
 |38 =>"_law_holds"
 |39 =>"_law_memory"
 |40 =>"law"
 |_ =>""
def pV:Nat->At
 |0=>.top
 |1=>.top
 |2=>.top
 |3=>.top
 |4=>.top
 |5=>.top
 |6=>.top
 |7=>.top
 |8=>.top
 |9=>.top
 |10=>.top
 |11=>.top
 |12=>.top
 |13=>.top
 |14=>.top
 |15=>.top
 |16=>.top
 |17=>.top
 |18=>(.init (W "Table"))
 |19=>(.cK (W "Table"))
 |20=>(.cK (W "Table"))
 |21=>(.cK (W "Table"))
 |22=>(.cK (W "Table"))
 |23=>(.cK (W "Table"))
 |24=>(.init (W "Rules"))
 |25=>.top
 |26=>.top
 |27=>.top
 |28=>.top
 |29=>.top
 |30=>.top
 |31=>.top
 |32=>.top
 |33=>.top
 |34=>.top
 |35=>.top
 |36=>.top
 |37=>.top
 |38=>.top
 |39=>.top
 |40=>.top
 |_=>.top
def lT:Nat->List Str
 |0=>["thing"]
 |1=>["names","thing"]
 |2=>["names","thing","deepest"]
 |3=>["saying"]
 |4=>["sayings"]
 |5=>["thing","fewest","most"]
 |6=>["foe","friend"]
 |7=>["names","things","most"]
 |8=>["names","saying"]
 |9=>["names","friend","things"]
 |10=>["thing"]
 |11=>["names","thing"]
 |12=>["names","things"]
 |13=>["promises","musts","wishes"]
 |14=>["thing"]
 |15=>["book"]
 |16=>["word","parts"]
 |17=>["word","remembered","parts"]
 |18=>["self","names","sayings"]
 |19=>["self","saying"]
 |20=>["self","saying"]
 |21=>["self","piece"]
 |22=>["self","memory","setting"]
 |23=>["self","held"]
 |24=>["self","book"]
 |25=>["thing","lamps"]
 |26=>["book","play"]
 |27=>["book","play"]
 |28=>["_law_script","_law_k"]
 |29=>["_law_script","_law_k","_law_many"]
 |30=>["_law_script","_law_m","_law_many"]
 |31=>["_law_script","_law_m"]
 |32=>["_law_script","_law_m","_law_names_here","_law_deep","_law_left"]
 |33=>["_law_script","_law_m","_law_foe","_law_names_here","_law_left"]
 |34=>["_law_script","_law_at","_law_pieces_here","_law_musts"]
 |35=>["_law_script","_law_at","_law_lamps","_law_most"]
 |36=>["_law_saying_here","_law_found"]
 |37=>["_law_book_here"]
 |38=>["_law_names_here","_law_saying_here","_law_play_here","_law_turn"]
 |39=>["_law_book_here","_law_play_here"]
 |40=>["_law_script"]
 |_=>[]
structure Zt (K:PySem.W.Frag)(mg:Str->Option Value):Prop where
 b_isinstance:mg "isinstance" = none
 b_str:mg "str" = none
 b_len:mg "len" = none
 b_all:mg "all" = none
 b_tuple:mg "tuple" = none
 b_list:mg "list" = none
 b_reversed:mg "reversed" = none
 b_set:mg "set" = none
 b_any:mg "any" = none
 b_int:mg "int" = none
 b_bool:mg "bool" = none
 b_range:mg "range" = none
 g_NO_NAMES:GC K mg "NO_NAMES" g_NO_NAMES
 g_LONGEST_NAME:GC K mg "LONGEST_NAME" g_LONGEST_NAME
 g_LETTERS:GC K mg "LETTERS" g_LETTERS
 g_DEEPEST:GC K mg "DEEPEST" g_DEEPEST
 g_SAYINGS_WITHIN:GC K mg "SAYINGS_WITHIN" g_SAYINGS_WITHIN
 g_PAST_WORDS:GC K mg "PAST_WORDS" g_PAST_WORDS
 g_MOST_LAMPS:GC K mg "MOST_LAMPS" g_MOST_LAMPS
 g_MOST_PROMISES:GC K mg "MOST_PROMISES" g_MOST_PROMISES
 g_HIGHEST_PRICE:GC K mg "HIGHEST_PRICE" g_HIGHEST_PRICE
 g_MOST_WISHES:GC K mg "MOST_WISHES" g_MOST_WISHES
 g_MOST_MUSTS:GC K mg "MOST_MUSTS" g_MOST_MUSTS
 g_MOST_PIECES:GC K mg "MOST_PIECES" g_MOST_PIECES
 c_Table:tL K (W "Table")
 c_Rules:tL K (W "Rules")
 a_Table_names:oQ K (W "Table") (W "names")
 a_Table_pieces:oQ K (W "Table") (W "pieces")
 a_Table_rows:oQ K (W "Table") (W "rows")
 a_Table_row_of:oQ K (W "Table") (W "row_of")
 a_Table_first_memory:oQ K (W "Table") (W "first_memory")
 a_Table_remembered_rows:oQ K (W "Table") (W "remembered_rows")
 a_Rules_table:oQ K (W "Rules") (W "table")
 a_Rules_promise_rows:oQ K (W "Rules") (W "promise_rows")
 a_Rules_must_rows:oQ K (W "Rules") (W "must_rows")
 a_Rules_priced_rows:oQ K (W "Rules") (W "priced_rows")
section
variable {P:Program}{w:World}{K:PySem.W.Frag}{mg:Str->Option Value}{base:Heap}
theorem RV {k:Nat}(T:zI K mg 41 qX lR lT dB pV)(IH:∀ i,i<41->dX P w K mg base gA (2*k) (T.a i) (T.fd i) (lT i) (eU K (aN G k) i)){X:Cx}(e1:X.prog=P)(e2:X.w=w)(e3:X.K=K)(e4:X.mg=mg)(e5:X.base=base)(hr:dA (2*k+1) X.A)(i:Nat)(h:Nat.blt i 41=true)(ha:pV i=.top):rJ X (aN G k) (qX i) i:=by
 subst e1 e2 e3 e4 e5
 have h:i<41:=Nat.ble_eq.mp h
 have q:=T.mg i h
 rw[ha]at q
 exact⟨2*k,T.a i,T.fd i,lT i,IH i h,hr.mono (by omega),q,(T.fn i h).kp,T.bi i h⟩
theorem RZ {k:Nat}(T:zI K mg 41 qX lR lT dB pV)(IH:∀ i,i<41->dX P w K mg base gA (2*k) (T.a i) (T.fd i) (lT i) (eU K (aN G k) i)){X:Cx}(e1:X.prog=P)(e2:X.w=w)(e3:X.K=K)(e4:X.mg=mg)(e5:X.base=base)(hr:dA (2*k+1) X.A)(i:Nat)(c:List Nat)(h:Nat.blt i 41=true)(ha:pV i=.cK c):rX X (aN G k) c (qX i) i:=by
 subst e1 e2 e3 e4 e5
 have h:i<41:=Nat.ble_eq.mp h
 have q:=T.mg i h
 rw[ha]at q
 obtain⟨C0,q1,q2,q3⟩:=q
 exact⟨2*k,T.a i,T.fd i,lT i,C0,IH i h,hr.mono (by omega),T.bi i h,q1,q2,q3⟩
theorem S3 {k:Nat}(T:zI K mg 41 qX lR lT dB pV)(IH:∀ i,i<41->dX P w K mg base gA (2*k) (T.a i) (T.fd i) (lT i) (eU K (aN G k) i)){X:Cx}(e1:X.prog=P)(e2:X.w=w)(e3:X.K=K)(e4:X.mg=mg)(e5:X.base=base)(hr:dA (2*k+1) X.A)(i:Nat)(c:List Nat)(h:Nat.blt i 41=true)(ha:pV i=.init c){n:Str}(hn:n=⟨c.toArray⟩:=by kernel_rfl):GD X (aN G k) c n i:=by
 subst e1 e2 e3 e4 e5
 have h:i<41:=Nat.ble_eq.mp h
 have q:=T.mg i h
 rw[ha]at q
 obtain⟨C0,q1,q2,q3⟩:=q
 exact⟨2*k,T.a i,T.fd i,lT i,C0,IH i h,hr,T.bi i h,q1,by rw[hn];exact q2,q3⟩
noncomputable abbrev TT (K:PySem.W.Frag)(mg:Str->Option Value):=zI K mg 41 qX lR lT dB pV
noncomputable abbrev IT (P:Program)(w:World)(base:Heap)(T:TT K mg)(k:Nat):Prop:=∀ i,i<41->dX P w K mg base gA (2*k) (T.a i) (T.fd i) (lT i) (eU K (aN G k) i)
noncomputable abbrev OT (P:Program)(w:World)(base:Heap)(T:TT K mg)(k i:Nat):Prop:=dX P w K mg base gA (2*k+1+1) (T.a i) (T.fd i) (lT i) (eU K (aN G (k+1)) i)
theorem dM (i:Nat){k:Nat}{fn:Fn}{N:List Str}(T:TT K mg)(IH:IT P w base T k)(hi:Nat.blt i 41=true)(S:sA N (lT i) (aP (dB i)))(hG:G.fns i=some fn)(hp:fn.np=(lT i).length)(hl:fn.nl=N.length)
 (hb:∀(bO:Value)(A:Around)(outer:List Env)(s:Shared)(H:Hp)(E:L2.XK)(hr:dA (2*k+1) (A.deeper (envOfC (lR i) (aP (dB i)) s.heap.objs.size (T.a i) bO)))(m:bP (aN G k) (aN G k))(u:(A.deeper (envOfC (lR i) (aP (dB i)) s.heap.objs.size (T.a i) bO)).units+180<PySem.cLine)
 (c:∀ j,Nat.blt j 41=true->pV j=.top->rJ (lL gA P w K mg base N (lR i) (aP (dB i)) (T.a i) bO A outer s H E).uG (aN G k) (qX j) j)(cm:∀ j c,Nat.blt j 41=true->pV j=.cK c->rX (lL gA P w K mg base N (lR i) (aP (dB i)) (T.a i) bO A outer s H E).uG (aN G k) c (qX j) j)(ck:∀ j c,Nat.blt j 41=true->pV j=.init c->∀{n:Str}(hn:n=⟨c.toArray⟩:=by kernel_rfl),GD (lL gA P w K mg base N (lR i) (aP (dB i)) (T.a i) bO A outer s H E).uG (aN G k) c n j)(nd:N.Nodup),
 yB (lL gA P w K mg base N (lR i) (aP (dB i)) (T.a i) bO A outer s H E).uG (aN G k) G.sub (iC (dB i)) fn.body):OT P w base T k i :=
 VP (fn:=fn) (T.fn i (Nat.ble_eq.mp hi)) S hG hp hl fun bO A outer s H E hr=>hb bO A outer s H E hr (vR G (Nat.le_refl k)) (Bq hr) (RV (X:=(lL gA P w K mg base N (lR i) (aP (dB i)) (T.a i) bO A outer s H E).uG) T IH rfl rfl rfl rfl rfl hr) (RZ (X:=(lL gA P w K mg base N (lR i) (aP (dB i)) (T.a i) bO A outer s H E).uG) T IH rfl rfl rfl rfl rfl hr) (@S3 P w K mg base k T IH (lL gA P w K mg base N (lR i) (aP (dB i)) (T.a i) bO A outer s H E).uG rfl rfl rfl rfl rfl hr) S.nd
theorem Fp {k:Nat}(T:TT K mg)(Z:Zt K mg)(IH:IT P w base T k):OT P w base T k 0 :=
 dM 0 (fn:=B5) (N:=["thing"]) T IH rfl ⟨rfl,rfl,rfl,by decide +kernel,rfl,by decide +kernel,by decide +kernel⟩ rfl rfl rfl fun bO A outer s H E hr m u c cm ck nd=>by
 exact(cc (cO m (pI (rO m (nP (tp (wC (t:=.str) M2 Z.b_isinstance Z.b_str (jv 0)))) (oK (cL (o:=.in_) u (jv 0) (jg Z.g_NO_NAMES))))) (cc (bQ m jb)
 c0) c0)
 (cc (bQ m (kP (VH (o:=.le) (o':=.le) u ji (eQ cJ dW Z.b_len (ja (jv 0) an)) (jg Z.g_LONGEST_NAME)) (jV (eQ (jJ hr.hd) oW Z.b_all (ja (jZ m (own:=["sign"]) (cn:=[]) (aY:=[]) (one:=true) (jC (on:=(aP (dB 0)).names) (N:=["thing"]) (by decide +kernel)) (iv (jv 0)) (fun _ _ _ _=>(b1 (gn (show(["sign"]:List Str).Nodup by decide +kernel)))) (fun _ _ _ _=>qn) (fun _ _ _ _=>(mP (o:=.in_) u (jv 0) (jg Z.g_LETTERS)))) an)))))
 c0))
theorem Eo {k:Nat}(T:TT K mg)(Z:Zt K mg)(IH:IT P w base T k):OT P w base T k 1 :=
 dM 1 (fn:=xS) (N:=["names","thing"]) T IH rfl ⟨rfl,rfl,rfl,by decide +kernel,rfl,by decide +kernel,by decide +kernel⟩ rfl rfl rfl fun bO A outer s H E hr m u c cm ck nd=>by
 exact(cc (bQ m (bT (c 2 rfl rfl) (ja (jv 0) (ja (jv 1) (ja (jg Z.g_DEEPEST) an)))))
 c0)
noncomputable abbrev N2:List Str:=["names","thing","deepest"]
theorem Dy {k:Nat}(T:TT K mg)(Z:Zt K mg)(IH:IT P w base T k):OT P w base T k 2 :=
 dM 2 (fn:=mX) (N:=N2) T IH rfl ⟨rfl,rfl,rfl,by decide +kernel,rfl,by decide +kernel,by decide +kernel⟩ rfl rfl rfl fun bO A outer s H E hr m u c cm ck nd=>by
 exact(cc (cO m (pI (rO m (cL (o:=.lt) u (bF 2) ji) (rO m (nP (tp (wC (t:=.tuple) dS Z.b_isinstance Z.b_tuple (jv 1)))) (rO m (cL (o:=.lt) u (eQ cJ dW Z.b_len (ja (jv 1) an)) ji) (oK (nP (tp (wC (t:=.str) M2 Z.b_isinstance Z.b_str (bD (jv 1) ji))))))))) (cc (bQ m jb)
 c0) c0)
 (cc (cO m (cL (o:=.eq) u (bD (jv 1) ji) js) (cc (bQ m (kP (mP (o:=.eq) u (eQ cJ dW Z.b_len (ja (jv 1) an)) ji) (kP (bT (c 0 rfl rfl) (ja (bD (jv 1) ji) an)) (jV (mP (o:=.in_) u (bD (jv 1) ji) (bF 0))))))
 c0) c0)
 (cc (cO m (pI (rO m (cL (o:=.fV) u (bD (jv 1) ji) (jg Z.g_SAYINGS_WITHIN)) (oK (cL (o:=.ne) u (eQ cJ dW Z.b_len (ja (jv 1) an)) (cD (op:=.add) ji (bD (jg Z.g_SAYINGS_WITHIN) (bD (jv 1) ji))))))) (cc (bQ m jb)
 c0) c0)
 (cc (bQ m (eQ (jJ hr.hd) oW Z.b_all (ja (jZ m (own:=["part"]) (cn:=["names","deepest"]) (aY:=[0,2]) (one:=true) (jC (on:=(aP (dB 2)).names) (N:=N2) (by decide +kernel)) (iv (AL (jv 1) (os ji) on)) (fun _ _ _ _=>(b1 (gn (show(["part","names","deepest"]:List Str).Nodup by decide +kernel)))) (fun _ _ _ _=>qn) (fun _ _ _ _=>(bT ((c 2 rfl rfl).rE) (ja (bF 1) (ja (jv 0) (ja (cD (op:=.sub) (bF 2) ji) an)))))) an)))
 c0))))
theorem Eu {k:Nat}(T:TT K mg)(Z:Zt K mg)(IH:IT P w base T k):OT P w base T k 3 :=
 dM 3 (fn:=oV) (N:=["saying"]) T IH rfl ⟨rfl,rfl,rfl,by decide +kernel,rfl,by decide +kernel,by decide +kernel⟩ rfl rfl rfl fun bO A outer s H E hr m u c cm ck nd=>by
 exact(cc (cO m (cL (o:=.eq) u (bD (jv 0) ji) js) (cc (bQ m (jt m an))
 c0) c0)
 (cc (bQ m (AL (jv 0) (os ji) on))
 c0))
theorem Gd {k:Nat}(T:TT K mg)(Z:Zt K mg)(IH:IT P w base T k):OT P w base T k 4 :=
 dM 4 (fn:=xV) (N:=["sayings","pieces","ahead","saying"]) T IH rfl ⟨rfl,rfl,rfl,by decide +kernel,rfl,by decide +kernel,by decide +kernel⟩ rfl rfl rfl fun bO A outer s H E hr m u c cm ck nd=>by
 exact(cc (sn (i:=1) m nd (jl an))
 (cc (sn (i:=2) m nd (Dw Z.b_list Z.b_reversed (ja (jv 0) an)))
 (cc (sw m (tp (jv 2)) (cc (sn (i:=3) m nd (Gz (jv 2) ))
 (cc (cO m (pI (PR m (cL (o:=.in_) u (bD (jv 3) ji) (jg Z.g_PAST_WORDS)) (oK (cL (o:=.fV) u (jv 3) (jv 1))))) (cc (sx m (vJ (jv 1) (ja (jv 3) an)))
 c0) c0)
 (cc (sx m (Gw (jv 2) (ja (Dw Z.b_list Z.b_reversed (ja (bT (c 3 rfl rfl) (ja (jv 3) an)) an)) an)))
 c0))))
 (cc (bQ m (jv 1))
 c0))))
theorem Gp {k:Nat}(T:TT K mg)(Z:Zt K mg)(IH:IT P w base T k):OT P w base T k 5 :=
 dM 5 (fn:=FI) (N:=["thing","fewest","most"]) T IH rfl ⟨rfl,rfl,rfl,by decide +kernel,rfl,by decide +kernel,by decide +kernel⟩ rfl rfl rfl fun bO A outer s H E hr m u c cm ck nd=>by
 exact(cc (bQ m (kP (wC (t:=.tuple) dS Z.b_isinstance Z.b_tuple (jv 0)) (jV (VH (o:=.le) (o':=.le) u (jv 1) (eQ cJ dW Z.b_len (ja (jv 0) an)) (jv 2)))))
 c0)
noncomputable abbrev N6:List Str:=["foe","friend","names"]
theorem Fs {k:Nat}(T:TT K mg)(Z:Zt K mg)(IH:IT P w base T k):OT P w base T k 6 :=
 dM 6 (fn:=yN) (N:=N6) T IH rfl ⟨rfl,rfl,rfl,by decide +kernel,rfl,by decide +kernel,by decide +kernel⟩ rfl rfl rfl fun bO A outer s H E hr m u c cm ck nd=>by
 exact(cc (cO m (pI (rO m (nP (tp (bT (c 5 rfl rfl) (ja (jv 0) (ja ji (ja (jg Z.g_MOST_LAMPS) an)))))) (oK (nP (tp (bT (c 5 rfl rfl) (ja (jv 1) (ja ji (ja (jg Z.g_MOST_LAMPS) an))))))))) (cc (bQ m jb)
 c0) c0)
 (cc (sn (i:=2) m nd (cD (op:=.add) (jv 0) (jv 1)))
 (cc (bQ m (kP (eQ (jJ hr.hd) oW Z.b_all (ja (jZ m (own:=["name"]) (cn:=[]) (aY:=[]) (one:=true) (jC (on:=(aP (dB 6)).names) (N:=N6) (by decide +kernel)) (iv (jv 2)) (fun _ _ _ _=>(b1 (gn (show(["name"]:List Str).Nodup by decide +kernel)))) (fun _ _ _ _=>qn) (fun _ _ _ _=>(bT ((c 0 rfl rfl).rE) (ja (jv 0) an)))) an)) (jV (mP (o:=.eq) u (Hh Z.b_len Z.b_set (ja (jv 2) an)) (eQ cJ dW Z.b_len (ja (jv 2) an))))))
 c0)))
noncomputable abbrev N7:List Str:=["names","things","most"]
theorem Ea {k:Nat}(T:TT K mg)(Z:Zt K mg)(IH:IT P w base T k):OT P w base T k 7 :=
 dM 7 (fn:=uK) (N:=N7) T IH rfl ⟨rfl,rfl,rfl,by decide +kernel,rfl,by decide +kernel,by decide +kernel⟩ rfl rfl rfl fun bO A outer s H E hr m u c cm ck nd=>by
 exact(cc (bQ m (kP (bT (c 5 rfl rfl) (ja (jv 1) (ja ji (ja (jv 2) an)))) (jV (eQ (jJ hr.hd) oW Z.b_all (ja (jZ m (own:=["thing"]) (cn:=["names"]) (aY:=[0]) (one:=true) (jC (on:=(aP (dB 7)).names) (N:=N7) (by decide +kernel)) (iv (jv 1)) (fun _ _ _ _=>(b1 (gn (show(["thing","names"]:List Str).Nodup by decide +kernel)))) (fun _ _ _ _=>qn) (fun _ _ _ _=>(bT ((c 1 rfl rfl).rE) (ja (bF 1) (ja (jv 0) an))))) an)))))
 c0)
theorem Ei {k:Nat}(T:TT K mg)(Z:Zt K mg)(IH:IT P w base T k):OT P w base T k 8 :=
 dM 8 (fn:=uL) (N:=["names","saying"]) T IH rfl ⟨rfl,rfl,rfl,by decide +kernel,rfl,by decide +kernel,by decide +kernel⟩ rfl rfl rfl fun bO A outer s H E hr m u c cm ck nd=>by
 exact(cc (cO m (cL (o:=.eq) u (bD (jv 1) ji) js) (cc (bQ m jb)
 c0) c0)
 (cc (cO m (cL (o:=.eq) u (bD (jv 1) ji) js) (cc (bQ m (mP (o:=.in_) u (bD (jv 1) ji) (bF 0)))
 c0) c0)
 (cc (bQ m (eQ (CW hr.hd) LX Z.b_any (ja (jZ m (own:=["part"]) (cn:=["names"]) (aY:=[0]) (one:=true) (jC (on:=(aP (dB 8)).names) (N:=["names","saying"]) (by decide +kernel)) (iv (bT (c 3 rfl rfl) (ja (jv 1) an))) (fun _ _ _ _=>(b1 (gn (show(["part","names"]:List Str).Nodup by decide +kernel)))) (fun _ _ _ _=>qn) (fun _ _ _ _=>(bT ((c 8 rfl rfl).rE) (ja (bF 1) (ja (jv 0) an))))) an)))
 c0)))
noncomputable abbrev N9:List Str:=["names","friend","things"]
theorem Ff {k:Nat}(T:TT K mg)(Z:Zt K mg)(IH:IT P w base T k):OT P w base T k 9 :=
 dM 9 (fn:=rT) (N:=N9) T IH rfl ⟨rfl,rfl,rfl,by decide +kernel,rfl,by decide +kernel,by decide +kernel⟩ rfl rfl rfl fun bO A outer s H E hr m u c cm ck nd=>by
 exact(cc (bQ m (kP (bT (c 7 rfl rfl) (ja (jv 0) (ja (jv 2) (ja (jg Z.g_MOST_PROMISES) an)))) (jV (HU (eQ (CW hr.hd) LX Z.b_any (ja (jZ m (own:=["thing"]) (cn:=["friend"]) (aY:=[1]) (one:=true) (jC (on:=(aP (dB 9)).names) (N:=N9) (by decide +kernel)) (iv (jv 2)) (fun _ _ _ _=>(b1 (gn (show(["thing","friend"]:List Str).Nodup by decide +kernel)))) (fun _ _ _ _=>qn) (fun _ _ _ _=>(bT ((c 8 rfl rfl).rE) (ja (bF 1) (ja (jv 0) an))))) an))))))
 c0)
theorem ZO {k:Nat}(T:TT K mg)(Z:Zt K mg)(IH:IT P w base T k):OT P w base T k 10 :=
 dM 10 (fn:=AA) (N:=["thing"]) T IH rfl ⟨rfl,rfl,rfl,by decide +kernel,rfl,by decide +kernel,by decide +kernel⟩ rfl rfl rfl fun bO A outer s H E hr m u c cm ck nd=>by
 exact(cc (bQ m (kP (wC (t:=.int) VV Z.b_isinstance Z.b_int (jv 0)) (kP (HU (wC (t:=.bool) BR Z.b_isinstance Z.b_bool (jv 0))) (jV (VH (o:=.le) (o':=.le) u ji (jv 0) (jg Z.g_HIGHEST_PRICE))))))
 c0)
theorem Bv {k:Nat}(T:TT K mg)(Z:Zt K mg)(IH:IT P w base T k):OT P w base T k 11 :=
 dM 11 (fn:=B2) (N:=["names","thing"]) T IH rfl ⟨rfl,rfl,rfl,by decide +kernel,rfl,by decide +kernel,by decide +kernel⟩ rfl rfl rfl fun bO A outer s H E hr m u c cm ck nd=>by
 exact(cc (bQ m (kP (bT (c 5 rfl rfl) (ja (jv 1) (ja ji (ja ji an)))) (kP (bT (c 10 rfl rfl) (ja (bD (jv 1) ji) an)) (jV (bT (c 1 rfl rfl) (ja (jv 0) (ja (bD (jv 1) ji) an)))))))
 c0)
theorem Bu {k:Nat}(T:TT K mg)(Z:Zt K mg)(IH:IT P w base T k):OT P w base T k 12 :=
 dM 12 (fn:=wD) (N:=["names","things"]) T IH rfl ⟨rfl,rfl,rfl,by decide +kernel,rfl,by decide +kernel,by decide +kernel⟩ rfl rfl rfl fun bO A outer s H E hr m u c cm ck nd=>by
 exact(cc (bQ m (kP (bT (c 5 rfl rfl) (ja (jv 1) (ja ji (ja (jg Z.g_MOST_WISHES) an)))) (jV (eQ (jJ hr.hd) oW Z.b_all (ja (jZ m (own:=["thing"]) (cn:=["names"]) (aY:=[0]) (one:=true) (jC (on:=(aP (dB 12)).names) (N:=["names","things"]) (by decide +kernel)) (iv (jv 1)) (fun _ _ _ _=>(b1 (gn (show(["thing","names"]:List Str).Nodup by decide +kernel)))) (fun _ _ _ _=>qn) (fun _ _ _ _=>(bT ((c 11 rfl rfl).rE) (ja (bF 1) (ja (jv 0) an))))) an)))))
 c0)
noncomputable abbrev Ds:List Str:=["promises","musts","wishes"]
theorem Bt {k:Nat}(T:TT K mg)(Z:Zt K mg)(IH:IT P w base T k):OT P w base T k 13 :=
 dM 13 (fn:=uV) (N:=Ds) T IH rfl ⟨rfl,rfl,rfl,by decide +kernel,rfl,by decide +kernel,by decide +kernel⟩ rfl rfl rfl fun bO A outer s H E hr m u c cm ck nd=>by
 exact(cc (bQ m (cD (op:=.add) (cD (op:=.add) (nG zQ xE Z.b_list (ja (jv 0) an)) (nG zQ xE Z.b_list (ja (jv 1) an))) (jZ m (own:=["wish"]) (cn:=[]) (aY:=[]) (one:=true) (jC (on:=(aP (dB 13)).names) (N:=Ds) (by decide +kernel)) (iv (jv 2)) (fun _ _ _ _=>(b1 (gn (show(["wish"]:List Str).Nodup by decide +kernel)))) (fun _ _ _ _=>qn) (fun _ _ _ _=>(bD (jv 0) ji)))))
 c0)
theorem Cd {k:Nat}(T:TT K mg)(Z:Zt K mg)(IH:IT P w base T k):OT P w base T k 14 :=
 dM 14 (fn:=CH) (N:=["thing","friend","names","promises","musts","wishes"]) T IH rfl ⟨rfl,rfl,rfl,by decide +kernel,rfl,by decide +kernel,by decide +kernel⟩ rfl rfl rfl fun bO A outer s H E hr m u c cm ck nd=>by
 exact(cc (cO m (pI (rO m (nP (tp (bT (c 5 rfl rfl) (ja (jv 0) (ja ji (ja ji an)))))) (oK (nP (tp (bT (c 6 rfl rfl) (ja (bD (jv 0) ji) (ja (bD (jv 0) ji) an)))))))) (cc (bQ m jb)
 c0) c0)
 (cc (sn (i:=1) m nd (bD (jv 0) ji))
 (cc (sn (i:=2) m nd (cD (op:=.add) (bD (jv 0) ji) (jv 1)))
 (cc (sn (i:=3) m nd (bD (jv 0) ji))
 (cc (sn (i:=4) m nd (bD (jv 0) ji))
 (cc (sn (i:=5) m nd (bD (jv 0) ji))
 (cc (cO m (pI (rO m (nP (tp (bT (c 9 rfl rfl) (ja (jv 2) (ja (jv 1) (ja (jv 3) an)))))) (oK (nP (tp (bT (c 7 rfl rfl) (ja (jv 2) (ja (jv 4) (ja (jg Z.g_MOST_MUSTS) an))))))))) (cc (bQ m jb)
 c0) c0)
 (cc (bQ m (kP (bT (c 12 rfl rfl) (ja (jv 2) (ja (jv 5) an))) (jV (mP (o:=.le) u (eQ cJ dW Z.b_len (ja (bT (c 4 rfl rfl) (ja (bT (c 13 rfl rfl) (ja (jv 3) (ja (jv 4) (ja (jv 5) an)))) an)) an)) (jg Z.g_MOST_PIECES)))))
 c0))))))))
theorem ZP {k:Nat}(T:TT K mg)(Z:Zt K mg)(IH:IT P w base T k):OT P w base T k 15 :=
 dM 15 (fn:=C2) (N:=["book"]) T IH rfl ⟨rfl,rfl,rfl,by decide +kernel,rfl,by decide +kernel,by decide +kernel⟩ rfl rfl rfl fun bO A outer s H E hr m u c cm ck nd=>by
 exact(cc (cO m (nP (tp (bT (c 14 rfl rfl) (ja (jv 0) an)))) (cc (Dk m)
 c0) c0)
 (cc (bQ m (jv 0))
 c0))
theorem Bp {k:Nat}(T:TT K mg)(Z:Zt K mg)(IH:IT P w base T k):OT P w base T k 16 :=
 dM 16 (fn:=yQ) (N:=["word","parts"]) T IH rfl ⟨rfl,rfl,rfl,by decide +kernel,rfl,by decide +kernel,by decide +kernel⟩ rfl rfl rfl fun bO A outer s H E hr m u c cm ck nd=>by
 exact(cc (cO m (cL (o:=.eq) u (jv 0) js) (cc (bQ m (HU (bD (jv 1) ji)))
 c0) c0)
 (cc (cO m (cL (o:=.eq) u (jv 0) js) (cc (bQ m (kP (bD (jv 1) ji) (jV (bD (jv 1) ji))))
 c0) c0)
 (cc (cO m (cL (o:=.eq) u (jv 0) js) (cc (bQ m (HI (bD (jv 1) ji) (jV (bD (jv 1) ji))))
 c0) c0)
 (cc (cO m (cL (o:=.eq) u (jv 0) js) (cc (bQ m (HI (bD (jv 1) ji) (jV (HU (bD (jv 1) ji)))))
 c0) c0)
 (cc (cO m (cL (o:=.eq) u (jv 0) js) (cc (bQ m (mP (o:=.eq) u (bD (jv 1) ji) (bD (jv 1) ji)))
 c0) c0)
 (cc (bQ m (mP (o:=.eq) u (jv 0) js))
 c0))))))
theorem Bn {k:Nat}(T:TT K mg)(Z:Zt K mg)(IH:IT P w base T k):OT P w base T k 17 :=
 dM 17 (fn:=vA) (N:=["word","remembered","parts"]) T IH rfl ⟨rfl,rfl,rfl,by decide +kernel,rfl,by decide +kernel,by decide +kernel⟩ rfl rfl rfl fun bO A outer s H E hr m u c cm ck nd=>by
 exact(cc (cO m (cL (o:=.eq) u (jv 0) js) (cc (bQ m (jv 1))
 c0) c0)
 (cc (cO m (cL (o:=.eq) u (jv 0) js) (cc (bQ m (HI (jv 1) (jV (bD (jv 2) ji))))
 c0) c0)
 (cc (cO m (cL (o:=.eq) u (jv 0) js) (cc (bQ m (kP (jv 1) (jV (bD (jv 2) ji))))
 c0) c0)
 (cc (bQ m (HI (bD (jv 2) ji) (jV (kP (jv 1) (jV (bD (jv 2) ji))))))
 c0))))
noncomputable abbrev YZ:List Str:=["self","names","sayings","saying"]
theorem Cn {k:Nat}(T:TT K mg)(Z:Zt K mg)(IH:IT P w base T k):OT P w base T k 18 :=
 dM 18 (fn:=oE) (N:=YZ) T IH rfl ⟨rfl,rfl,rfl,by decide +kernel,rfl,by decide +kernel,by decide +kernel⟩ rfl rfl rfl fun bO A outer s H E hr m u c cm ck nd=>by
 exact(cc (yF m (W "Table") Z.c_Table Z.a_Table_names (bF 0) (jv 1))
 (cc (yF m (W "Table") Z.c_Table Z.a_Table_pieces (bF 0) (bT (c 4 rfl rfl) (ja (jv 2) an)))
 (cc (yF m (W "Table") Z.c_Table Z.a_Table_rows (bF 0) (jl an))
 (cc (yF m (W "Table") Z.c_Table Z.a_Table_row_of (bF 0) Hr)
 (cc (yL (i:=3) m nd (iv (jv 2)) (cc (sx m (HH (mm:=W "enter") (cm 19 (W "Table") rfl rfl) (bF 0) (ja (jv 3) an)))
 c0))
 (cc (yF m (W "Table") Z.c_Table Z.a_Table_first_memory (bF 0) (nG dQ dS Z.b_tuple (ja (jZ m (own:=["piece"]) (cn:=[]) (aY:=[]) (one:=true) (jC (on:=(aP (dB 18)).names) (N:=YZ) (by decide +kernel)) (iv (kE (W "Table") Z.c_Table Z.a_Table_pieces (bF 0))) (fun _ _ _ _=>(b1 (gn (show(["piece"]:List Str).Nodup by decide +kernel)))) (fun _ _ _ _=>qn) (fun _ _ _ _=>(mP (o:=.eq) u (bD (jv 0) ji) js))) an)))
 (cc (yF m (W "Table") Z.c_Table Z.a_Table_remembered_rows (bF 0) (jZ m (own:=["piece"]) (cn:=["self"]) (aY:=[0]) (one:=true) (jC (on:=(aP (dB 18)).names) (N:=YZ) (by decide +kernel)) (iv (kE (W "Table") Z.c_Table Z.a_Table_pieces (bF 0))) (fun _ _ _ _=>(b1 (gn (show(["piece", "self"]:List Str).Nodup by decide +kernel)))) (fun _ _ _ _=>qn) (fun _ _ _ _=>(HH (mm:=W "remembered_row") ((cm 21 (W "Table") rfl rfl).rE) (bF 1) (ja (jv 0) an)))))
 c0)))))))
noncomputable abbrev Dp:List Str:=["self","saying","part","parts"]
theorem Cg {k:Nat}(T:TT K mg)(Z:Zt K mg)(IH:IT P w base T k):OT P w base T k 19 :=
 dM 19 (fn:=uH) (N:=Dp) T IH rfl ⟨rfl,rfl,rfl,by decide +kernel,rfl,by decide +kernel,by decide +kernel⟩ rfl rfl rfl fun bO A outer s H E hr m u c cm ck nd=>by
 exact(cc (cO m (Hs u (jv 1) (kE (W "Table") Z.c_Table Z.a_Table_row_of (bF 0))) (cc Ho
 c0) c0)
 (cc (yL (i:=2) m nd (iv (bT (c 3 rfl rfl) (ja (jv 1) an))) (cc (sx m (HH (mm:=W "enter") (cm 19 (W "Table") rfl rfl) (bF 0) (ja (jv 2) an)))
 c0))
 (cc (QL (i:=3) m nd (own:=["part"]) (cn:=["self"]) (aY:=[0]) (one:=true) (jC (on:=(aP (dB 19)).names) (N:=Dp) (by decide +kernel)) (iv (bT (c 3 rfl rfl) (ja (jv 1) an))) (fun _ _ _ _=>(b1 (gn (show(["part","self"]:List Str).Nodup by decide +kernel)))) (fun _ _ _ _=>qn) (fun _ _ _ _=>(HE u (kE (W "Table") Z.c_Table Z.a_Table_row_of (bF 1)) (jv 0))))
 (cc (Hi m u (kE (W "Table") Z.c_Table Z.a_Table_row_of (bF 0)) (jv 1) (eQ cJ dW Z.b_len (ja (kE (W "Table") Z.c_Table Z.a_Table_rows (bF 0)) an)))
 (cc (sx m (vJ (kE (W "Table") Z.c_Table Z.a_Table_rows (bF 0)) (ja (jt m (ja (bD (jv 1) ji) (ja (HH (mm:=W "place_of") (cm 20 (W "Table") rfl rfl) (bF 0) (ja (jv 1) an)) (ja (jv 3) an)))) an)))
 c0)))))
theorem Ce {k:Nat}(T:TT K mg)(Z:Zt K mg)(IH:IT P w base T k):OT P w base T k 20 :=
 dM 20 (fn:=pF) (N:=["self","saying"]) T IH rfl ⟨rfl,rfl,rfl,by decide +kernel,rfl,by decide +kernel,by decide +kernel⟩ rfl rfl rfl fun bO A outer s H E hr m u c cm ck nd=>by
 exact(cc (cO m (cL (o:=.eq) u (bD (jv 1) ji) js) (cc (bQ m (OS m u (kE (W "Table") Z.c_Table Z.a_Table_names (jv 0)) (ja (bD (jv 1) ji) an)))
 c0) c0)
 (cc (cO m (cL (o:=.in_) u (bD (jv 1) ji) (jg Z.g_PAST_WORDS)) (cc (bQ m (OS m u (kE (W "Table") Z.c_Table Z.a_Table_pieces (jv 0)) (ja (jv 1) an)))
 c0) c0)
 (cc (bQ m jn)
 c0)))
theorem ZR {k:Nat}(T:TT K mg)(Z:Zt K mg)(IH:IT P w base T k):OT P w base T k 21 :=
 dM 21 (fn:=kF) (N:=["self","piece"]) T IH rfl ⟨rfl,rfl,rfl,by decide +kernel,rfl,by decide +kernel,by decide +kernel⟩ rfl rfl rfl fun bO A outer s H E hr m u c cm ck nd=>by
 exact(cc (cO m (cL (o:=.eq) u (bD (jv 1) ji) js) (cc (bQ m (HE u (kE (W "Table") Z.c_Table Z.a_Table_row_of (jv 0)) (bD (jv 1) ji)))
 c0) c0)
 (cc (bQ m (HE u (kE (W "Table") Z.c_Table Z.a_Table_row_of (jv 0)) (jv 1)))
 c0))
noncomputable abbrev Dt:List Str:=["self","memory","setting","held","word","place","part_rows","parts"]
theorem Br {k:Nat}(T:TT K mg)(Z:Zt K mg)(IH:IT P w base T k):OT P w base T k 22 :=
 dM 22 (fn:=pT) (N:=Dt) T IH rfl ⟨rfl,rfl,rfl,by decide +kernel,rfl,by decide +kernel,by decide +kernel⟩ rfl rfl rfl fun bO A outer s H E hr m u c cm ck nd=>by
 exact(cc (HN (i:=3) m nd (jl an))
 (cc (sf m (iv (kE (W "Table") Z.c_Table Z.a_Table_rows (jv 0))) (gt (gc (gn (i:=4) nd) (gc (gn (i:=5) nd) (gc (gn (i:=6) nd) nn)))) (cc (QL (i:=7) m nd (own:=["row"]) (cn:=["held"]) (aY:=[3]) (one:=true) (jC (on:=(aP (dB 22)).names) (N:=Dt) (by decide +kernel)) (iv (jv 6)) (fun _ _ _ _=>(b1 (gn (show(["row","held"]:List Str).Nodup by decide +kernel)))) (fun _ _ _ _=>qn) (fun _ _ _ _=>(bD (bF 1) (jv 0))))
 (cc (cO m (cL (o:=.eq) u (jv 4) js) (cc (sx m (vJ (bF 3) (ja (bD (jv 2) (jv 5)) an)))
 c0) (cc (cO m (cL (o:=.in_) u (jv 4) (jg Z.g_PAST_WORDS)) (cc (sx m (vJ (bF 3) (ja (bT (c 17 rfl rfl) (ja (jv 4) (ja (bD (jv 1) (jv 5)) (ja (jv 7) an)))) an)))
 c0) (cc (sx m (vJ (bF 3) (ja (bT (c 16 rfl rfl) (ja (jv 4) (ja (jv 7) an))) an)))
 c0))
 c0))
 c0)))
 (cc (bQ m (bF 3))
 c0)))
theorem Cw {k:Nat}(T:TT K mg)(Z:Zt K mg)(IH:IT P w base T k):OT P w base T k 23 :=
 dM 23 (fn:=lK) (N:=["self","held"]) T IH rfl ⟨rfl,rfl,rfl,by decide +kernel,rfl,by decide +kernel,by decide +kernel⟩ rfl rfl rfl fun bO A outer s H E hr m u c cm ck nd=>by
 exact(cc (bQ m (nG dQ dS Z.b_tuple (ja (jZ m (own:=["row"]) (cn:=["held"]) (aY:=[1]) (one:=true) (jC (on:=(aP (dB 23)).names) (N:=["self", "held"]) (by decide +kernel)) (iv (kE (W "Table") Z.c_Table Z.a_Table_remembered_rows (jv 0))) (fun _ _ _ _=>(b1 (gn (show(["row","held"]:List Str).Nodup by decide +kernel)))) (fun _ _ _ _=>qn) (fun _ _ _ _=>(bD (bF 1) (jv 0)))) an)))
 c0)
theorem Z1 {k:Nat}(T:TT K mg)(Z:Zt K mg)(IH:IT P w base T k):OT P w base T k 24 :=
 dM 24 (fn:=pN) (N:=["self","book"]) T IH rfl ⟨rfl,rfl,rfl,by decide +kernel,rfl,by decide +kernel,by decide +kernel⟩ rfl rfl rfl fun bO A outer s H E hr m u c cm ck nd=>by
 exact(cc (yF m (W "Rules") Z.c_Rules Z.a_Rules_table (bF 0) (Dm (ck 18 (W "Table") rfl rfl) (ja (cD (op:=.add) (bD (jv 1) ji) (bD (jv 1) ji)) (ja (bT (c 13 rfl rfl) (ja (bD (jv 1) ji) (ja (bD (jv 1) ji) (ja (bD (jv 1) ji) an)))) an))))
 (cc (yF m (W "Rules") Z.c_Rules Z.a_Rules_promise_rows (bF 0) (jZ m (own:=["saying"]) (cn:=["self"]) (aY:=[0]) (one:=true) (jC (on:=(aP (dB 24)).names) (N:=["self", "book"]) (by decide +kernel)) (iv (bD (jv 1) ji)) (fun _ _ _ _=>(b1 (gn (show(["saying", "self"]:List Str).Nodup by decide +kernel)))) (fun _ _ _ _=>qn) (fun _ _ _ _=>(HE u (kE (W "Table") Z.c_Table Z.a_Table_row_of (kE (W "Rules") Z.c_Rules Z.a_Rules_table (bF 1))) (jv 0)))))
 (cc (yF m (W "Rules") Z.c_Rules Z.a_Rules_must_rows (bF 0) (jZ m (own:=["saying"]) (cn:=["self"]) (aY:=[0]) (one:=true) (jC (on:=(aP (dB 24)).names) (N:=["self", "book"]) (by decide +kernel)) (iv (bD (jv 1) ji)) (fun _ _ _ _=>(b1 (gn (show(["saying", "self"]:List Str).Nodup by decide +kernel)))) (fun _ _ _ _=>qn) (fun _ _ _ _=>(HE u (kE (W "Table") Z.c_Table Z.a_Table_row_of (kE (W "Rules") Z.c_Rules Z.a_Rules_table (bF 1))) (jv 0)))))
 (cc (yF m (W "Rules") Z.c_Rules Z.a_Rules_priced_rows (bF 0) (jZ m (own:=["wish"]) (cn:=["self"]) (aY:=[0]) (one:=true) (jC (on:=(aP (dB 24)).names) (N:=["self", "book"]) (by decide +kernel)) (iv (bD (jv 1) ji)) (fun _ _ _ _=>(b1 (gn (show(["wish", "self"]:List Str).Nodup by decide +kernel)))) (fun _ _ _ _=>qn) (fun _ _ _ _=>(jt m (ja (bD (jv 0) ji) (ja (HE u (kE (W "Table") Z.c_Table Z.a_Table_row_of (kE (W "Rules") Z.c_Rules Z.a_Rules_table (bF 1))) (bD (jv 0) ji)) an))))))
 c0))))
theorem Bx {k:Nat}(T:TT K mg)(Z:Zt K mg)(IH:IT P w base T k):OT P w base T k 25 :=
 dM 25 (fn:=uX) (N:=["thing","lamps"]) T IH rfl ⟨rfl,rfl,rfl,by decide +kernel,rfl,by decide +kernel,by decide +kernel⟩ rfl rfl rfl fun bO A outer s H E hr m u c cm ck nd=>by
 exact(cc (bQ m (kP (wC (t:=.tuple) dS Z.b_isinstance Z.b_tuple (jv 0)) (kP (mP (o:=.eq) u (eQ cJ dW Z.b_len (ja (jv 0) an)) (jv 1)) (jV (eQ (jJ hr.hd) oW Z.b_all (ja (jZ m (own:=["part"]) (cn:=[]) (aY:=[]) (one:=true) (jC (on:=(aP (dB 25)).names) (N:=["thing","lamps"]) (by decide +kernel)) (iv (jv 0)) (fun _ _ _ _=>(b1 (gn (show(["part"]:List Str).Nodup by decide +kernel)))) (fun _ _ _ _=>qn) (fun _ _ _ _=>(wC (t:=.bool) BR Z.b_isinstance Z.b_bool (jv 0)))) an))))))
 c0)
noncomputable abbrev Dq:List Str:=["book","play","lamps"]
theorem ZK {k:Nat}(T:TT K mg)(Z:Zt K mg)(IH:IT P w base T k):OT P w base T k 26 :=
 dM 26 (fn:=rF) (N:=Dq) T IH rfl ⟨rfl,rfl,rfl,by decide +kernel,rfl,by decide +kernel,by decide +kernel⟩ rfl rfl rfl fun bO A outer s H E hr m u c cm ck nd=>by
 exact(cc (HN (i:=2) m nd (cD (op:=.add) (eQ cJ dW Z.b_len (ja (bD (jv 0) ji) an)) (eQ cJ dW Z.b_len (ja (bD (jv 0) ji) an))))
 (cc (cO m (pI (rO m (nP (tp (wC (t:=.list) xE Z.b_isinstance Z.b_list (jv 1)))) (oK (nP (tp (eQ (jJ hr.hd) oW Z.b_all (ja (jZ m (own:=["setting"]) (cn:=["lamps"]) (aY:=[2]) (one:=true) (jC (on:=(aP (dB 26)).names) (N:=Dq) (by decide +kernel)) (iv (jv 1)) (fun _ _ _ _=>(b1 (gn (show(["setting","lamps"]:List Str).Nodup by decide +kernel)))) (fun _ _ _ _=>qn) (fun _ _ _ _=>(bT ((c 25 rfl rfl).rE) (ja (jv 0) (ja (bF 1) an))))) an))))))) (cc (Dk m)
 c0) c0)
 (cc (bQ m (jv 1))
 c0)))
theorem Ac {k:Nat}(T:TT K mg)(Z:Zt K mg)(IH:IT P w base T k):OT P w base T k 27 :=
 dM 27 (fn:=pY) (N:=["book","play","table","memory","setting"]) T IH rfl ⟨rfl,rfl,rfl,by decide +kernel,rfl,by decide +kernel,by decide +kernel⟩ rfl rfl rfl fun bO A outer s H E hr m u c cm ck nd=>by
 exact(cc (sx m (bT (c 15 rfl rfl) (ja (jv 0) an)))
 (cc (sx m (bT (c 26 rfl rfl) (ja (jv 0) (ja (jv 1) an))))
 (cc (sn (i:=2) m nd (kE (W "Rules") Z.c_Rules Z.a_Rules_table (Dm (ck 24 (W "Rules") rfl rfl) (ja (jv 0) an))))
 (cc (sn (i:=3) m nd (kE (W "Table") Z.c_Table Z.a_Table_first_memory (jv 2)))
 (cc (yL (i:=4) m nd (iv (jv 1)) (cc (sn (i:=3) m nd (HH (mm:=W "memory_after") (cm 23 (W "Table") rfl rfl) (jv 2) (ja (HH (mm:=W "held_at") (cm 22 (W "Table") rfl rfl) (jv 2) (ja (jv 3) (ja (jv 4) an))) an)))
 c0))
 (cc (bQ m (jv 3))
 c0))))))
theorem Bd {k:Nat}(T:TT K mg)(Z:Zt K mg)(IH:IT P w base T k):OT P w base T k 28 :=
 dM 28 (fn:=rC) (N:=["_law_script","_law_k"]) T IH rfl ⟨rfl,rfl,rfl,by decide +kernel,rfl,by decide +kernel,by decide +kernel⟩ rfl rfl rfl fun bO A outer s H E hr m u c cm ck nd=>by
 exact(cc (cO m (cL (o:=.lt) u (jv 1) (eQ cJ dW Z.b_len (ja (jv 0) an))) (cc (bQ m (bD (jv 0) (jv 1)))
 c0) c0)
 (cc (cO m (cL (o:=.eq) u (jv 0) (jl an)) (cc (bQ m ji)
 c0) c0)
 (cc (bQ m (cD (op:=.add) (cD (op:=.mul) (bD (jv 0) (cD (op:=.mod) (jv 1) (eQ cJ dW Z.b_len (ja (jv 0) an)))) ji) (jv 1)))
 c0)))
theorem Au {k:Nat}(T:TT K mg)(Z:Zt K mg)(IH:IT P w base T k):OT P w base T k 29 :=
 dM 29 (fn:=uS) (N:=["_law_script","_law_k","_law_many","_law_drawn"]) T IH rfl ⟨rfl,rfl,rfl,by decide +kernel,rfl,by decide +kernel,by decide +kernel⟩ rfl rfl rfl fun bO A outer s H E hr m u c cm ck nd=>by
 exact(cc (sn (i:=3) m nd (cD (op:=.mod) (cD (op:=.mul) (cD (op:=.add) (cD (op:=.add) (bT (c 28 rfl rfl) (ja (jv 0) (ja (jv 1) an))) (cD (op:=.mul) ji (jv 1))) ji) ji) ji))
 (cc (bQ m (cD (op:=.mod) (cD (op:=.mod) (cD (op:=.add) (cD (op:=.add) (cD (op:=.mul) (jv 3) (jv 3)) (cD (op:=.mul) ji (jv 3))) (jv 1)) ji) (jv 2)))
 c0))
theorem Z7 {k:Nat}(T:TT K mg)(Z:Zt K mg)(IH:IT P w base T k):OT P w base T k 30 :=
 dM 30 (fn:=yE) (N:=["_law_script","_law_m","_law_many"]) T IH rfl ⟨rfl,rfl,rfl,by decide +kernel,rfl,by decide +kernel,by decide +kernel⟩ rfl rfl rfl fun bO A outer s H E hr m u c cm ck nd=>by
 exact(cc (sg m (cD (op:=.add) (bD (jv 1) ji) ji) (gi (jv 1) ji))
 (cc (bQ m (bT (c 29 rfl rfl) (ja (jv 0) (ja (bD (jv 1) ji) (ja (jv 2) an)))))
 c0))
theorem Dc {k:Nat}(T:TT K mg)(Z:Zt K mg)(IH:IT P w base T k):OT P w base T k 31 :=
 dM 31 (fn:=vW) (N:=["_law_script","_law_m","_law_some","_law_turn","_law_row","_law_foe","_law_friend"]) T IH rfl ⟨rfl,rfl,rfl,by decide +kernel,rfl,by decide +kernel,by decide +kernel⟩ rfl rfl rfl fun bO A outer s H E hr m u c cm ck nd=>by
 exact(cc (sn (i:=2) m nd (jl (ja js (ja js (ja js (ja js (ja js (ja js (ja js (ja js an))))))))))
 (cc (sn (i:=3) m nd (bT (c 30 rfl rfl) (ja (jv 0) (ja (jv 1) (ja ji an)))))
 (cc (sn (i:=4) m nd (cD (op:=.add) (AL (jv 2) (os (jv 3)) on) (AL (jv 2) on (os (jv 3)))))
 (cc (sn (i:=5) m nd (cD (op:=.add) ji (bT (c 30 rfl rfl) (ja (jv 0) (ja (jv 1) (ja ji an))))))
 (cc (sn (i:=6) m nd (cD (op:=.add) ji (bT (c 30 rfl rfl) (ja (jv 0) (ja (jv 1) (ja ji an))))))
 (cc (bQ m (jt m (ja (nG dQ dS Z.b_tuple (ja (AL (jv 4) on (os (jv 5))) an)) (ja (nG dQ dS Z.b_tuple (ja (AL (jv 4) (os (jv 5)) (os (cD (op:=.add) (jv 5) (jv 6)))) an)) an))))
 c0))))))
theorem Bb {k:Nat}(T:TT K mg)(Z:Zt K mg)(IH:IT P w base T k):OT P w base T k 32 :=
 dM 32 (fn:=uD) (N:=["_law_script","_law_m","_law_names_here","_law_deep","_law_left","_law_way","_law_one"]) T IH rfl ⟨rfl,rfl,rfl,by decide +kernel,rfl,by decide +kernel,by decide +kernel⟩ rfl rfl rfl fun bO A outer s H E hr m u c cm ck nd=>by
 exact(cc (sn (i:=5) m nd (bT (c 30 rfl rfl) (ja (jv 0) (ja (jv 1) (ja ji an)))))
 (cc (cO m (pI (rO m (cL (o:=.eq) u (jv 3) ji) (oK (cL (o:=.lt) u (jv 5) ji)))) (cc (bQ m (jt m (ja js (ja (bD (jv 2) (bT (c 30 rfl rfl) (ja (jv 0) (ja (jv 1) (ja (eQ cJ dW Z.b_len (ja (jv 2) an)) an))))) an))))
 c0) c0)
 (cc (cO m (cL (o:=.eq) u (jv 5) ji) (cc (bQ m (jt m (ja (bD (jl (ja js (ja js an))) (bT (c 30 rfl rfl) (ja (jv 0) (ja (jv 1) (ja ji an))))) an)))
 c0) c0)
 (cc (cO m (pI (PR m (cL (o:=.gt) u (jv 5) ji) (oK (cL (o:=.gt) u (bD (jv 4) ji) ji)))) (cc (sg m (cD (op:=.sub) (bD (jv 4) ji) ji) (gi (jv 4) ji))
 (cc (sn (i:=6) m nd (bT (c 32 rfl rfl) (ja (jv 0) (ja (jv 1) (ja (jv 2) (ja (cD (op:=.sub) (jv 3) ji) (ja (jv 4) an)))))))
 (cc (cO m (cL (o:=.eq) u (jv 5) ji) (cc (bQ m (jt m (ja js (ja (jv 6) (ja (bT (c 32 rfl rfl) (ja (jv 0) (ja (jv 1) (ja (jv 2) (ja (cD (op:=.sub) (jv 3) ji) (ja (jv 4) an)))))) an)))))
 c0) c0)
 (cc (bQ m (jt m (ja (bD (jl (ja js (ja js (ja js an)))) (cD (op:=.sub) (jv 5) ji)) (ja (jv 6) an))))
 c0)))) c0)
 (cc (sn (i:=6) m nd (bT (c 32 rfl rfl) (ja (jv 0) (ja (jv 1) (ja (jv 2) (ja (cD (op:=.sub) (jv 3) ji) (ja (jv 4) an)))))))
 (cc (cO m (pI (rO m (cL (o:=.eq) u (jv 5) ji) (oK (cL (o:=.gt) u (jv 5) ji)))) (cc (bQ m (jt m (ja js (ja (jv 6) an))))
 c0) c0)
 (cc (bQ m (jt m (ja (bD (jl (ja js (ja js (ja js (ja js an))))) (cD (op:=.sub) (jv 5) ji)) (ja (jv 6) (ja (bT (c 32 rfl rfl) (ja (jv 0) (ja (jv 1) (ja (jv 2) (ja (cD (op:=.sub) (jv 3) ji) (ja (jv 4) an)))))) an)))))
 c0)))))))
theorem ZU {k:Nat}(T:TT K mg)(Z:Zt K mg)(IH:IT P w base T k):OT P w base T k 33 :=
 dM 33 (fn:=rR) (N:=["_law_script","_law_m","_law_foe","_law_names_here","_law_left","_law_one","_law_other"]) T IH rfl ⟨rfl,rfl,rfl,by decide +kernel,rfl,by decide +kernel,by decide +kernel⟩ rfl rfl rfl fun bO A outer s H E hr m u c cm ck nd=>by
 exact(cc (sn (i:=5) m nd (bT (c 32 rfl rfl) (ja (jv 0) (ja (jv 1) (ja (jv 2) (ja ji (ja (jl (ja ji an)) an)))))))
 (cc (cO m (pI (PR m (cL (o:=.gt) u (bD (jv 4) ji) ji) (oK (cL (o:=.eq) u (bT (c 30 rfl rfl) (ja (jv 0) (ja (jv 1) (ja ji an)))) ji)))) (cc (sg m (cD (op:=.sub) (bD (jv 4) ji) ji) (gi (jv 4) ji))
 (cc (sn (i:=6) m nd (bT (c 32 rfl rfl) (ja (jv 0) (ja (jv 1) (ja (jv 3) (ja ji (ja (jl (ja ji an)) an)))))))
 (cc (bQ m (jt m (ja (bD (jl (ja js (ja js (ja js an)))) (bT (c 30 rfl rfl) (ja (jv 0) (ja (jv 1) (ja ji an))))) (ja (jt m (ja js (ja (jv 6) an))) (ja (jv 5) an)))))
 c0))) c0)
 (cc (bQ m (jv 5))
 c0)))
noncomputable abbrev YQ:List Str:=["_law_script","_law_at","_law_pieces_here","_law_musts","_law_m","_law_foe","_law_friend","_law_names_here","_law_left","_law_wishes","_law_k","_law_price","_law_some","_law_known"]
theorem Bm {k:Nat}(T:TT K mg)(Z:Zt K mg)(IH:IT P w base T k):OT P w base T k 34 :=
 dM 34 (fn:=yJ) (N:=YQ) T IH rfl ⟨rfl,rfl,rfl,by decide +kernel,rfl,by decide +kernel,by decide +kernel⟩ rfl rfl rfl fun bO A outer s H E hr m u c cm ck nd=>by
 exact(cc (HN (i:=4) m nd (jl (ja (jv 1) an)))
 (cc (sg m (bT (c 31 rfl rfl) (ja (bF 0) (ja (bF 4) an))) (gt (gc (Hb (i:=5) nd) (gc (gn (i:=6) nd) nn))))
 (cc (HN (i:=7) m nd (cD (op:=.add) (bF 5) (jv 6)))
 (cc (HN (i:=8) m nd (jl (ja (bT (c 30 rfl rfl) (ja (bF 0) (ja (bF 4) (ja (cD (op:=.add) (jv 2) ji) an)))) an)))
 (cc (sn (i:=9) m nd (jl an))
 (cc (yL (i:=10) m nd (C6 m Z.b_range (ja (cD (op:=.add) ji (bT (c 30 rfl rfl) (ja (bF 0) (ja (bF 4) (ja ji an))))) an)) (cc (sn (i:=11) m nd (cD (op:=.add) ji (bT (c 30 rfl rfl) (ja (bF 0) (ja (bF 4) (ja (bD (jl (ja ji (ja ji (ja ji an)))) (bT (c 30 rfl rfl) (ja (bF 0) (ja (bF 4) (ja ji an))))) an))))))
 (cc (sx m (vJ (jv 9) (ja (jt m (ja (jv 11) (ja (bT (c 32 rfl rfl) (ja (bF 0) (ja (bF 4) (ja (bF 7) (ja ji (ja (bF 8) an)))))) an))) an)))
 c0)))
 (cc (QL (i:=12) m nd (own:=["_law_k"]) (cn:=["_law_script","_law_m","_law_names_here","_law_left"]) (aY:=[0,4,7,8]) (one:=true) (jC (on:=(aP (dB 34)).names) (N:=YQ) (by decide +kernel)) (C6 m Z.b_range (ja (bT (c 30 rfl rfl) (ja (bF 0) (ja (bF 4) (ja (cD (op:=.add) (jv 3) ji) an)))) an)) (fun _ _ _ _=>(b1 (gn (show(["_law_k","_law_script","_law_m","_law_names_here","_law_left"]:List Str).Nodup by decide +kernel)))) (fun _ _ _ _=>qn) (fun _ _ _ _=>(bT ((c 32 rfl rfl).rE) (ja (bF 1) (ja (bF 2) (ja (bF 3) (ja ji (ja (bF 4) an))))))))
 (cc (QL (i:=13) m nd (own:=["_law_k"]) (cn:=["_law_script","_law_m","_law_foe","_law_names_here","_law_left"]) (aY:=[0,4,5,7,8]) (one:=true) (jC (on:=(aP (dB 34)).names) (N:=YQ) (by decide +kernel)) (C6 m Z.b_range (ja (bT (c 30 rfl rfl) (ja (bF 0) (ja (bF 4) (ja ji an)))) an)) (fun _ _ _ _=>(b1 (gn (show(["_law_k","_law_script","_law_m","_law_foe","_law_names_here","_law_left"]:List Str).Nodup by decide +kernel)))) (fun _ _ _ _=>qn) (fun _ _ _ _=>(bT ((c 33 rfl rfl).rE) (ja (bF 1) (ja (bF 2) (ja (bF 3) (ja (bF 4) (ja (bF 5) an))))))))
 (cc (bQ m (jt m (ja (bF 5) (ja (jv 6) (ja (nG dQ dS Z.b_tuple (ja (jv 13) an)) (ja (nG dQ dS Z.b_tuple (ja (jv 12) an)) (ja (nG dQ dS Z.b_tuple (ja (jv 9) an)) an)))))))
 c0)))))))))
noncomputable abbrev Dj:List Str:=["_law_script","_law_at","_law_lamps","_law_most","_law_seed","_law_made","_law_k","_law_drawn"]
theorem Ct {k:Nat}(T:TT K mg)(Z:Zt K mg)(IH:IT P w base T k):OT P w base T k 35 :=
 dM 35 (fn:=yH) (N:=Dj) T IH rfl ⟨rfl,rfl,rfl,by decide +kernel,rfl,by decide +kernel,by decide +kernel⟩ rfl rfl rfl fun bO A outer s H E hr m u c cm ck nd=>by
 exact(cc (sn (i:=4) m nd (bT (c 29 rfl rfl) (ja (jv 0) (ja (jv 1) (ja (cD (op:=.pow) ji ji) an)))))
 (cc (sn (i:=5) m nd (jl an))
 (cc (yL (i:=6) m nd (C6 m Z.b_range (ja (bT (c 29 rfl rfl) (ja (jv 0) (ja (cD (op:=.add) (jv 1) ji) (ja (cD (op:=.add) (jv 3) ji) an)))) an)) (cc (HN (i:=7) m nd (cD (op:=.mod) (cD (op:=.mul) (cD (op:=.add) (cD (op:=.add) (jv 4) (cD (op:=.mul) (cD (op:=.mul) ji (jv 6)) (jv 6))) (cD (op:=.mul) ji (jv 6))) ji) ji))
 (cc (sx m (vJ (jv 5) (ja (nG dQ dS Z.b_tuple (ja (jZ m (own:=["_law_j"]) (cn:=["_law_drawn"]) (aY:=[7]) (one:=true) (jC (on:=(aP (dB 35)).names) (N:=Dj) (by decide +kernel)) (C6 m Z.b_range (ja (jv 2) an)) (fun _ _ _ _=>(b1 (gn (show(["_law_j","_law_drawn"]:List Str).Nodup by decide +kernel)))) (fun _ _ _ _=>qn) (fun _ _ _ _=>(mP (o:=.eq) u (cD (op:=.mod) (cD (op:=.fdiv) (bF 1) (bD (jl (ja ji (ja ji (ja ji (ja ji an))))) (jv 0))) ji) ji))) an)) an)))
 c0)))
 (cc (bQ m (jv 5))
 c0))))
theorem ZH {k:Nat}(T:TT K mg)(Z:Zt K mg)(IH:IT P w base T k):OT P w base T k 36 :=
 dM 36 (fn:=uC) (N:=["_law_saying_here","_law_found","_law_part"]) T IH rfl ⟨rfl,rfl,rfl,by decide +kernel,rfl,by decide +kernel,by decide +kernel⟩ rfl rfl rfl fun bO A outer s H E hr m u c cm ck nd=>by
 exact(cc (cO m (pI (PR m (cL (o:=.in_) u (bD (jv 0) ji) (jt m (ja js (ja js (ja js (ja js an)))))) (oK (cL (o:=.fV) u (jv 0) (jv 1))))) (cc (sx m (vJ (jv 1) (ja (jv 0) an)))
 c0) c0)
 (cc (cO m (cL (o:=.ne) u (bD (jv 0) ji) js) (cc (yL (i:=2) m nd (iv (AL (jv 0) (os ji) on)) (cc (sx m (bT (c 36 rfl rfl) (ja (jv 2) (ja (jv 1) an))))
 c0))
 c0) c0)
 (cc (bQ m (jv 1))
 c0)))
noncomputable abbrev Dh:List Str:=["_law_book_here","_law_found","_law_saying_here"]
theorem ZG {k:Nat}(T:TT K mg)(Z:Zt K mg)(IH:IT P w base T k):OT P w base T k 37 :=
 dM 37 (fn:=mW) (N:=Dh) T IH rfl ⟨rfl,rfl,rfl,by decide +kernel,rfl,by decide +kernel,by decide +kernel⟩ rfl rfl rfl fun bO A outer s H E hr m u c cm ck nd=>by
 exact(cc (sn (i:=1) m nd (jl an))
 (cc (yL (i:=2) m nd (iv (cD (op:=.add) (cD (op:=.add) (bD (jv 0) ji) (bD (jv 0) ji)) (nG dQ dS Z.b_tuple (ja (jZ m (own:=["_law_wish"]) (cn:=[]) (aY:=[]) (one:=true) (jC (on:=(aP (dB 37)).names) (N:=Dh) (by decide +kernel)) (iv (bD (jv 0) ji)) (fun _ _ _ _=>(b1 (gn (show(["_law_wish"]:List Str).Nodup by decide +kernel)))) (fun _ _ _ _=>qn) (fun _ _ _ _=>(bD (jv 0) ji))) an)))) (cc (sx m (bT (c 36 rfl rfl) (ja (jv 2) (ja (jv 1) an))))
 c0))
 (cc (bQ m (jv 1))
 c0)))
noncomputable abbrev Y2:List Str:=["_law_names_here","_law_saying_here","_law_play_here","_law_turn","_law_head","_law_k","_law_one","_law_other"]
theorem Cv {k:Nat}(T:TT K mg)(Z:Zt K mg)(IH:IT P w base T k):OT P w base T k 38 :=
 dM 38 (fn:=wF) (N:=Y2) T IH rfl ⟨rfl,rfl,rfl,by decide +kernel,rfl,by decide +kernel,by decide +kernel⟩ rfl rfl rfl fun bO A outer s H E hr m u c cm ck nd=>by
 exact(cc (sn (i:=4) m nd (bD (bF 1) ji))
 (cc (cO m (cL (o:=.eq) u (jv 4) js) (cc (bQ m (bD (bD (bF 2) (jv 3)) (OS m u (bF 0) (ja (bD (bF 1) ji) an))))
 c0) c0)
 (cc (cO m (pI (rO m (cL (o:=.eq) u (jv 4) js) (oK (cL (o:=.eq) u (jv 4) js)))) (cc (bQ m (mP (o:=.eq) u (jv 4) js))
 c0) c0)
 (cc (cO m (cL (o:=.eq) u (jv 4) js) (cc (bQ m (kP (mP (o:=.gt) u (jv 3) ji) (jV (bT (c 38 rfl rfl) (ja (bF 0) (ja (bD (bF 1) ji) (ja (bF 2) (ja (cD (op:=.sub) (jv 3) ji) an))))))))
 c0) c0)
 (cc (cO m (cL (o:=.eq) u (jv 4) js) (cc (bQ m (mP (o:=.ne) u (jZ m (own:=["_law_k"]) (cn:=["_law_names_here","_law_saying_here","_law_play_here"]) (aY:=[0,1,2]) (one:=true) (jC (on:=(aP (dB 38)).names) (N:=Y2) (by decide +kernel)) (C6 m Z.b_range (ja (cD (op:=.add) (jv 3) ji) an)) (fun _ _ _ _=>(b1 (gn (show(["_law_k","_law_names_here","_law_saying_here","_law_play_here"]:List Str).Nodup by decide +kernel)))) (fun _ _ _ _=>(qc (tp (bT ((c 38 rfl rfl).rE) (ja (bF 1) (ja (bD (bF 2) ji) (ja (bF 3) (ja (jv 0) an)))))) qn)) (fun _ _ _ _=>(jv 0))) (jl an)))
 c0) c0)
 (cc (cO m (cL (o:=.eq) u (jv 4) js) (cc (bQ m (mP (o:=.eq) u (jZ m (own:=["_law_k"]) (cn:=["_law_names_here","_law_saying_here","_law_play_here"]) (aY:=[0,1,2]) (one:=true) (jC (on:=(aP (dB 38)).names) (N:=Y2) (by decide +kernel)) (C6 m Z.b_range (ja (cD (op:=.add) (jv 3) ji) an)) (fun _ _ _ _=>(b1 (gn (show(["_law_k","_law_names_here","_law_saying_here","_law_play_here"]:List Str).Nodup by decide +kernel)))) (fun _ _ _ _=>(qc (nP (tp (bT ((c 38 rfl rfl).rE) (ja (bF 1) (ja (bD (bF 2) ji) (ja (bF 3) (ja (jv 0) an))))))) qn)) (fun _ _ _ _=>(jv 0))) (jl an)))
 c0) c0)
 (cc (cO m (cL (o:=.eq) u (jv 4) js) (cc (yL (i:=5) m nd (Ha m Z.b_range (ja (jv 3) (ja (Dr ji) (ja (Dr ji) an)))) (cc (cO m (tp (bT (c 38 rfl rfl) (ja (bF 0) (ja (bD (bF 1) ji) (ja (bF 2) (ja (jv 5) an)))))) (cc (bQ m jb)
 c0) c0)
 (cc (cO m (nP (tp (bT (c 38 rfl rfl) (ja (bF 0) (ja (bD (bF 1) ji) (ja (bF 2) (ja (jv 5) an))))))) (cc (bQ m jb)
 c0) c0)
 c0)))
 (cc (bQ m jb)
 c0)) c0)
 (cc (sn (i:=6) m nd (bT (c 38 rfl rfl) (ja (bF 0) (ja (bD (bF 1) ji) (ja (bF 2) (ja (jv 3) an))))))
 (cc (cO m (cL (o:=.eq) u (jv 4) js) (cc (bQ m (HU (jv 6)))
 c0) c0)
 (cc (sn (i:=7) m nd (bT (c 38 rfl rfl) (ja (bF 0) (ja (bD (bF 1) ji) (ja (bF 2) (ja (jv 3) an))))))
 (cc (cO m (cL (o:=.eq) u (jv 4) js) (cc (bQ m (kP (jv 6) (jV (jv 7))))
 c0) c0)
 (cc (cO m (cL (o:=.eq) u (jv 4) js) (cc (bQ m (HI (jv 6) (jV (jv 7))))
 c0) c0)
 (cc (cO m (cL (o:=.eq) u (jv 4) js) (cc (bQ m (HI (jv 7) (jV (HU (jv 6)))))
 c0) c0)
 (cc (bQ m (mP (o:=.eq) u (jv 6) (jv 7)))
 c0))))))))))))))
theorem Ax {k:Nat}(T:TT K mg)(Z:Zt K mg)(IH:IT P w base T k):OT P w base T k 39 :=
 dM 39 (fn:=uJ) (N:=["_law_book_here","_law_play_here","_law_names_here","_law_found","_law_piece"]) T IH rfl ⟨rfl,rfl,rfl,by decide +kernel,rfl,by decide +kernel,by decide +kernel⟩ rfl rfl rfl fun bO A outer s H E hr m u c cm ck nd=>by
 exact(cc (sn (i:=2) m nd (cD (op:=.add) (bD (jv 0) ji) (bD (jv 0) ji)))
 (cc (sn (i:=3) m nd (jl an))
 (cc (yL (i:=4) m nd (iv (bT (c 37 rfl rfl) (ja (jv 0) an))) (cc (cO m (cL (o:=.eq) u (jv 1) (jl an)) (cc (sx m (vJ (jv 3) (ja (mP (o:=.eq) u (bD (jv 4) ji) js) an)))
 c0) (cc (cO m (cL (o:=.eq) u (bD (jv 4) ji) js) (cc (sx m (vJ (jv 3) (ja (bT (c 38 rfl rfl) (ja (jv 2) (ja (bD (jv 4) ji) (ja (jv 1) (ja (cD (op:=.sub) (eQ cJ dW Z.b_len (ja (jv 1) an)) ji) an))))) an)))
 c0) (cc (sx m (vJ (jv 3) (ja (bT (c 38 rfl rfl) (ja (jv 2) (ja (jv 4) (ja (jv 1) (ja (cD (op:=.sub) (eQ cJ dW Z.b_len (ja (jv 1) an)) ji) an))))) an)))
 c0))
 c0))
 c0))
 (cc (bQ m (nG dQ dS Z.b_tuple (ja (jv 3) an)))
 c0))))
noncomputable abbrev Du:List Str:=["_law_script","_law_book_here","_law_play_here","_law_turn","_law_answer"]
theorem As {k:Nat}(T:TT K mg)(Z:Zt K mg)(IH:IT P w base T k):OT P w base T k 40 :=
 dM 40 (fn:=QF) (N:=Du) T IH rfl ⟨rfl,rfl,rfl,by decide +kernel,rfl,by decide +kernel,by decide +kernel⟩ rfl rfl rfl fun bO A outer s H E hr m u c cm ck nd=>by
 exact(cc (sn (i:=1) m nd (bT (c 34 rfl rfl) (ja (jv 0) (ja ji (ja ji (ja ji an))))))
 (cc (sn (i:=2) m nd (bT (c 35 rfl rfl) (ja (jv 0) (ja ji (ja (eQ cJ dW Z.b_len (ja (cD (op:=.add) (bD (jv 1) ji) (bD (jv 1) ji)) an)) (ja ji an))))))
 (cc (yL (i:=3) m nd (C6 m Z.b_range (ja (cD (op:=.add) (eQ cJ dW Z.b_len (ja (jv 2) an)) ji) an)) (cc (sn (i:=4) m nd (bT (c 27 rfl rfl) (ja (jv 1) (ja (AL (jv 2) on (os (jv 3))) an))))
 (cc (cO m (pI (rO m (nP (tp (wC (t:=.tuple) dS Z.b_isinstance Z.b_tuple (jv 4)))) (oK (cL (o:=.ne) u (jZ m (own:=["_law_lamp"]) (cn:=[]) (aY:=[]) (one:=true) (jC (on:=(aP (dB 40)).names) (N:=Du) (by decide +kernel)) (iv (jv 4)) (fun _ _ _ _=>(b1 (gn (show(["_law_lamp"]:List Str).Nodup by decide +kernel)))) (fun _ _ _ _=>(qc (nP (tp (wC (t:=.bool) BR Z.b_isinstance Z.b_bool (jv 0)))) qn)) (fun _ _ _ _=>(jv 0))) (jl an))))) (cc (bQ m jb)
 c0) c0)
 (cc (cO m (cL (o:=.ne) u (jv 4) (bT (c 39 rfl rfl) (ja (jv 1) (ja (AL (jv 2) on (os (jv 3))) an)))) (cc (bQ m jb)
 c0) c0)
 c0))))
 (cc (bQ m jb)
 c0))))
theorem Gy {k:Nat}(T:zI K mg 41 qX lR lT dB pV)(Z:Zt K mg)(IH:∀ i,i<41->dX P w K mg base gA (2*k) (T.a i) (T.fd i) (lT i) (eU K (aN G k) i)):∀ i,i<41->dX P w K mg base gA (2*k+1+1) (T.a i) (T.fd i) (lT i) (eU K (aN G (k+1)) i)
 |0,_=>Fp T Z IH
 |1,_=>Eo T Z IH
 |2,_=>Dy T Z IH
 |3,_=>Eu T Z IH
 |4,_=>Gd T Z IH
 |5,_=>Gp T Z IH
 |6,_=>Fs T Z IH
 |7,_=>Ea T Z IH
 |8,_=>Ei T Z IH
 |9,_=>Ff T Z IH
 |10,_=>ZO T Z IH
 |11,_=>Bv T Z IH
 |12,_=>Bu T Z IH
 |13,_=>Bt T Z IH
 |14,_=>Cd T Z IH
 |15,_=>ZP T Z IH
 |16,_=>Bp T Z IH
 |17,_=>Bn T Z IH
 |18,_=>Cn T Z IH
 |19,_=>Cg T Z IH
 |20,_=>Ce T Z IH
 |21,_=>ZR T Z IH
 |22,_=>Br T Z IH
 |23,_=>Cw T Z IH
 |24,_=>Z1 T Z IH
 |25,_=>Bx T Z IH
 |26,_=>ZK T Z IH
 |27,_=>Ac T Z IH
 |28,_=>Bd T Z IH
 |29,_=>Au T Z IH
 |30,_=>Z7 T Z IH
 |31,_=>Dc T Z IH
 |32,_=>Bb T Z IH
 |33,_=>ZU T Z IH
 |34,_=>Bm T Z IH
 |35,_=>Ct T Z IH
 |36,_=>ZH T Z IH
 |37,_=>ZG T Z IH
 |38,_=>Cv T Z IH
 |39,_=>Ax T Z IH
 |40,_=>As T Z IH
 |n+41,h=>absurd h (by omega)
end
theorem NL:∀ ns:List Int,ns.length<=63->aN G 40 PZ [.bB (ns.map .int)] (fun _=>none) (fun d _=>d=.bl true) fun _ _=>False:=fun ns _ =>
 Bs (k:=24) (G:=G) (il:=PZ) (ibo:=yR) (ipl:=xY) (imb:=qE) (ilm:=uA) (inm:=wI) (ic:=qW) (im:=oA) (cX:=fB) (is:=fO) (ipr:=sD) (ibk:=vX) (ich:=C8) (icp:=rK) (ist:=vM) (ie:=nD) (iw:=gD) (ipo:=pD) (iz:=mG) (irr:=kD) (iti:=oJ) (io:=lG) (iri:=oZ) (ima:=lA) (DK:=qI) (iph:=uT) (inh:=xT) (ibp:=mN) (ip:=nI) (ih:=oP)
 rfl rfl rfl rfl rfl rfl rfl rfl rfl rfl rfl
 (fun b B hs hd hc k st Q E hQ=>JR (G:=G) (ir:=kJ) (gH:=vE) (eG:=jM) (iy:=qR) (ia:=nE) (iap:=rG) (io:=lG) (il:=xR) (iaw:=vZ) (ipi:=mG) (ip:=AW) (iw:=B8) (ibk:=vX) (ih:=gD) (ib:=nF) rfl rfl rfl rfl rfl rfl rfl rfl rfl rfl rfl rfl rfl rfl rfl B hs hd hc hQ)
 rfl rfl rfl rfl rfl rfl rfl rfl rfl rfl rfl rfl rfl rfl rfl rfl rfl rfl
theorem C5 {α:Type}{P:List α->Prop}(h:∀ a0,P [a0]):∀ us:List α,us.length=1->P us
 |[a0],_=>h a0
theorem ln2 {α:Type}{P:List α->Prop}(h:∀ a0 a1,P [a0,a1]):∀ us:List α,us.length=2->P us
 |[a0,a1],_=>h a0 a1
theorem xU {α:Type}{P:List α->Prop}(h:∀ a0 a1 a2,P [a0,a1,a2]):∀ us:List α,us.length=3->P us
 |[a0,a1,a2],_=>h a0 a1 a2
theorem VZ {α:Type}{P:List α->Prop}(h:∀ a0 a1 a2 a3,P [a0,a1,a2,a3]):∀ us:List α,us.length=4->P us
 |[a0,a1,a2,a3],_=>h a0 a1 a2 a3
theorem Df {α:Type}{P:List α->Prop}(h:∀ a0 a1 a2 a3 a4,P [a0,a1,a2,a3,a4]):∀ us:List α,us.length=5->P us
 |[a0,a1,a2,a3,a4],_=>h a0 a1 a2 a3 a4
theorem Di:∀ i,i<41->BV (qX i) (lR i) (lT i) (dB i)
 |0,_=>fun _ _ _ _ _ _=>C5 fun _=>rfl
 |1,_=>fun _ _ _ _ _ _=>ln2 fun _ _=>rfl
 |2,_=>fun _ _ _ _ _ _=>xU fun _ _ _=>rfl
 |3,_=>fun _ _ _ _ _ _=>C5 fun _=>rfl
 |4,_=>fun _ _ _ _ _ _=>C5 fun _=>rfl
 |5,_=>fun _ _ _ _ _ _=>xU fun _ _ _=>rfl
 |6,_=>fun _ _ _ _ _ _=>ln2 fun _ _=>rfl
 |7,_=>fun _ _ _ _ _ _=>xU fun _ _ _=>rfl
 |8,_=>fun _ _ _ _ _ _=>ln2 fun _ _=>rfl
 |9,_=>fun _ _ _ _ _ _=>xU fun _ _ _=>rfl
 |10,_=>fun _ _ _ _ _ _=>C5 fun _=>rfl
 |11,_=>fun _ _ _ _ _ _=>ln2 fun _ _=>rfl
 |12,_=>fun _ _ _ _ _ _=>ln2 fun _ _=>rfl
 |13,_=>fun _ _ _ _ _ _=>xU fun _ _ _=>rfl
 |14,_=>fun _ _ _ _ _ _=>C5 fun _=>rfl
 |15,_=>fun _ _ _ _ _ _=>C5 fun _=>rfl
 |16,_=>fun _ _ _ _ _ _=>ln2 fun _ _=>rfl
 |17,_=>fun _ _ _ _ _ _=>xU fun _ _ _=>rfl
 |18,_=>fun _ _ _ _ _ _=>xU fun _ _ _=>rfl
 |19,_=>fun _ _ _ _ _ _=>ln2 fun _ _=>rfl
 |20,_=>fun _ _ _ _ _ _=>ln2 fun _ _=>rfl
 |21,_=>fun _ _ _ _ _ _=>ln2 fun _ _=>rfl
 |22,_=>fun _ _ _ _ _ _=>xU fun _ _ _=>rfl
 |23,_=>fun _ _ _ _ _ _=>ln2 fun _ _=>rfl
 |24,_=>fun _ _ _ _ _ _=>ln2 fun _ _=>rfl
 |25,_=>fun _ _ _ _ _ _=>ln2 fun _ _=>rfl
 |26,_=>fun _ _ _ _ _ _=>ln2 fun _ _=>rfl
 |27,_=>fun _ _ _ _ _ _=>ln2 fun _ _=>rfl
 |28,_=>fun _ _ _ _ _ _=>ln2 fun _ _=>rfl
 |29,_=>fun _ _ _ _ _ _=>xU fun _ _ _=>rfl
 |30,_=>fun _ _ _ _ _ _=>xU fun _ _ _=>rfl
 |31,_=>fun _ _ _ _ _ _=>ln2 fun _ _=>rfl
 |32,_=>fun _ _ _ _ _ _=>Df fun _ _ _ _ _=>rfl
 |33,_=>fun _ _ _ _ _ _=>Df fun _ _ _ _ _=>rfl
 |34,_=>fun _ _ _ _ _ _=>VZ fun _ _ _ _=>rfl
 |35,_=>fun _ _ _ _ _ _=>VZ fun _ _ _ _=>rfl
 |36,_=>fun _ _ _ _ _ _=>ln2 fun _ _=>rfl
 |37,_=>fun _ _ _ _ _ _=>C5 fun _=>rfl
 |38,_=>fun _ _ _ _ _ _=>VZ fun _ _ _ _=>rfl
 |39,_=>fun _ _ _ _ _ _=>ln2 fun _ _=>rfl
 |40,_=>fun _ _ _ _ _ _=>C5 fun _=>rfl
 |n+41,h=>absurd h (by omega)
noncomputable abbrev FF (K:PySem.W.Frag)(mg:Str->Option Value)(i:Nat):=sJ K mg (qX i) (lR i) (dB i) (pV i)
theorem Gv {K:PySem.W.Frag}{mg:Str->Option Value}(F0:FF K mg 0)(F1:FF K mg 1)(F2:FF K mg 2)(F3:FF K mg 3)(F4:FF K mg 4)(F5:FF K mg 5)(F6:FF K mg 6)(F7:FF K mg 7)(F8:FF K mg 8)(F9:FF K mg 9)(F10:FF K mg 10)(F11:FF K mg 11)(F12:FF K mg 12)(F13:FF K mg 13)(F14:FF K mg 14)(F15:FF K mg 15)(F16:FF K mg 16)(F17:FF K mg 17)(F18:FF K mg 18)(F19:FF K mg 19)(F20:FF K mg 20)(F21:FF K mg 21)(F22:FF K mg 22)(F23:FF K mg 23)(F24:FF K mg 24)(F25:FF K mg 25)(F26:FF K mg 26)(F27:FF K mg 27)(F28:FF K mg 28)(F29:FF K mg 29)(F30:FF K mg 30)(F31:FF K mg 31)(F32:FF K mg 32)(F33:FF K mg 33)(F34:FF K mg 34)(F35:FF K mg 35)(F36:FF K mg 36)(F37:FF K mg 37)(F38:FF K mg 38)(F39:FF K mg 39)(F40:FF K mg 40):∀ i,i<41->sJ K mg (qX i) (lR i) (dB i) (pV i)
 |0,_=>F0
 |1,_=>F1
 |2,_=>F2
 |3,_=>F3
 |4,_=>F4
 |5,_=>F5
 |6,_=>F6
 |7,_=>F7
 |8,_=>F8
 |9,_=>F9
 |10,_=>F10
 |11,_=>F11
 |12,_=>F12
 |13,_=>F13
 |14,_=>F14
 |15,_=>F15
 |16,_=>F16
 |17,_=>F17
 |18,_=>F18
 |19,_=>F19
 |20,_=>F20
 |21,_=>F21
 |22,_=>F22
 |23,_=>F23
 |24,_=>F24
 |25,_=>F25
 |26,_=>F26
 |27,_=>F27
 |28,_=>F28
 |29,_=>F29
 |30,_=>F30
 |31,_=>F31
 |32,_=>F32
 |33,_=>F33
 |34,_=>F34
 |35,_=>F35
 |36,_=>F36
 |37,_=>F37
 |38,_=>F38
 |39,_=>F39
 |40,_=>F40
 |n+41,h=>absurd h (by omega)
theorem all_mk {P:Program}{w:World}{K:PySem.W.Frag}{mg:Str->Option Value}{fa:Addr}(hfa:mg "law" = some (.ref fa))(Z:Zt K mg)(F:∀ i,i<41->sJ K mg (qX i) (lR i) (dB i) (pV i)):
 ∃ fd:FuncData,(∀(s:Shared)(u:Value),BindsTo s fd ⟨[u],[]⟩ [("_law_script", u)])/\∀ base:Heap,K.In base->base.Ns mainGlobals mg->dX P w K mg base gA (2*40) fa fd ["_law_script"] (eU K (aN G 40) 40):=by
 obtain⟨_,d,_⟩:=F 0 (by decide)
 obtain⟨T⟩:=HR 41 Di F d
 have e:=hfa.symm.trans (show mg "law" = some (.ref (T.a 40))from T.mg 40 (by decide))
 cases e
 exact⟨T.fd 40,KE (T.fn 40 (by decide)) (Di 40 (by decide)),fun base _ _=>G7 T (fun k IH=>Gy T Z IH) 40 40 (by decide)⟩
end L3
open PySem PySem.W PyProof.Rows
local macro_rules|`(tactic| walk_at"ft")=>`(tactic| (refine' L3.Z2 (by assumption) (by assumption) ?a ?l ?c ?k;(case a=>k_is);(case l=>k_is);(case c=>k_is);(case k=>k_is)))
local macro_rules|`(tactic| walk_at"fi")=>`(tactic| (refine' L3.Z8 (by assumption) (by assumption) ?cl ?mk ?kp ?a ?fn ?l ?cc ?k;(case cl=>k_is);(case mk=>k_is);(case kp=>k_is);(case a=>k_is);(case fn=>k_is);(case l=>k_is);(case cc=>k_is);(case k=>k_is)))
local macro_rules|`(tactic| walk_at"fm")=>`(tactic| (refine' L3.Dd (by assumption) (by assumption) ?cl ?pg ?hd ?po ?sa ?a ?fn ?l ?cc ?k;(case cl=>k_is);(case pg=>k_is);(case hd=>k_is);(case po=>k_is);(case sa=>k_is);(case a=>k_is);(case fn=>k_is);(case l=>k_is);(case cc=>k_is);(case k=>k_is)))
local macro_rules|`(tactic| walk_at"fc")=>`(tactic| (refine' L3.YR ?cl ?pg ?hd ?po ?sa;(case cl=>k_is);(case pg=>k_is);(case hd=>k_is);(case po=>k_is);(case sa=>k_is)))
local macro_rules|`(tactic| walk_at"fa")=>`(tactic| (refine' L3.WC ?cl ?na;(case cl=>k_is);(case na=>k_is)))
local macro_rules|`(tactic| walk_at"fn")=>`(tactic| (refine' PySem.W.mg_none_of (by assumption) (by assumption) ?x;(case x=>k_is)))
local macro_rules|`(tactic| walk_at"fg")=>`(tactic| (refine' L3.UW (by assumption) (by assumption) ?a;(case a=>k_is)))
def PySem.W.Fast.tw11679433546964902131:Unit:=()
def PySem.W.Fast.tw5854569158112113195:Unit:=()
def PySem.W.Fast.tw5435813004862641422:Unit:=()
def PySem.W.Fast.tw933077698280420614:Unit:=()
def PySem.W.Fast.tw6644377139925535024:Unit:=()
def PySem.W.Fast.tw11448616961788809711:Unit:=()
def PySem.W.Fast.tw14238789288983019942:Unit:=()
def PySem.W.Fast.tw3905827883379020808:Unit:=()
def PySem.W.Fast.tw7258330480199558262:Unit:=()
def PySem.W.Fast.tw12524504193508176273:Unit:=()
def PySem.W.Fast.tw1439129886744815184:Unit:=()
def PySem.W.Fast.tw13980272349568950707:Unit:=()
def PySem.W.Fast.tw8538347787235479540:Unit:=()
def PySem.W.Fast.tw8031590257126739952:Unit:=()
def PySem.W.Fast.tw12598347680343463337:Unit:=()
def PySem.W.Fast.tw15596680449034339300:Unit:=()
def PySem.W.Fast.tw10975753297791180927:Unit:=()
def PySem.W.Fast.tw16608375438470992082:Unit:=()
def PySem.W.Fast.tw11122062128163464684:Unit:=()
def PySem.W.Fast.tw2241817729950315663:Unit:=()
def PySem.W.Fast.tw2402076964041097873:Unit:=()
def PySem.W.Fast.tw16647139365074276400:Unit:=()
def PySem.W.Fast.tw3453919521165916620:Unit:=()
def PySem.W.Fast.tw8279668740963646233:Unit:=()
def PySem.W.Fast.tw7478165638764697812:Unit:=()
def PySem.W.Fast.tw17978898783247914765:Unit:=()
def PySem.W.Fast.tw17921522697038774847:Unit:=()
def PySem.W.Fast.tw12150275974875258663:Unit:=()
def PySem.W.Fast.tw8895981909920199825:Unit:=()
def PySem.W.Fast.tw13961008180018452440:Unit:=()
def PySem.W.Fast.tw4267282267824044394:Unit:=()
def PySem.W.Fast.tw5565500909112137205:Unit:=()
def PySem.W.Fast.tw4516132894740343448:Unit:=()
def PySem.W.Fast.tw8128300212024710464:Unit:=()
def PySem.W.Fast.tw10465693449815128766:Unit:=()
def PySem.W.Fast.tw13588459005410859254:Unit:=()
def PySem.W.Fast.tw1214677081101722594:Unit:=()
def PySem.W.Fast.tw12429879166784796807:Unit:=()
def PySem.W.Fast.tw8750601720646458750:Unit:=()
def PySem.W.Fast.tw14132919983888239556:Unit:=()
def PySem.W.Fast.tw9139845030887782718:Unit:=()
def PySem.W.Fast.tw1864573154807563413:Unit:=()
def PySem.W.Fast.tw5678648725859530615:Unit:=()
def PySem.W.Fast.tw12140222509140350486:Unit:=()
def PySem.W.Fast.tw7782277317377782320:Unit:=()
def PySem.W.Fast.tw5317023496742979342:Unit:=()
def PySem.W.Fast.tw3044505509113599274:Unit:=()
def PySem.W.Fast.tw5970703921240205240:Unit:=()
def PySem.W.Fast.tw4129178684384071875:Unit:=()
def PySem.W.Fast.tw5524469748875097566:Unit:=()
def PySem.W.Fast.tw4961450188761551759:Unit:=()
def PySem.W.Fast.tw10351222026267667743:Unit:=()
def PySem.W.Fast.tw13354995649361130869:Unit:=()
def PySem.W.Fast.tw3698909696769082155:Unit:=()
def PySem.W.Fast.tw6324503207500404471:Unit:=()
def PySem.W.Fast.tw4497328475379085950:Unit:=()
def PySem.W.Fast.tw6050623681209864574:Unit:=()
def PySem.W.Fast.tw4104891352670468575:Unit:=()
def PySem.W.Fast.tw6386292400181703558:Unit:=()
def PySem.W.Fast.tw2601296255068586583:Unit:=()
def PySem.W.Fast.tw17507346531927968259:Unit:=()
def PySem.W.Fast.tw8908924606519093962:Unit:=()
def PySem.W.Fast.tw2399546539744120904:Unit:=()
def PySem.W.Fast.tw12268972800319711989:Unit:=()
def PySem.W.Fast.tw4774200913504994622:Unit:=()
def PySem.W.Fast.tw16262613588157790784:Unit:=()
def PySem.W.Fast.tw16928812108766915496:Unit:=()
def PySem.W.Fast.tw6704453223729003702:Unit:=()
def PySem.W.Fast.tw3488193364644349314:Unit:=()
def PySem.W.Fast.tw3725775712110026361:Unit:=()
def PySem.W.Fast.tw14208280720533646655:Unit:=()
def PySem.W.Fast.tw15039690808806693554:Unit:=()
def PySem.W.Fast.tw14040709833160136571:Unit:=()
def PySem.W.Fast.tw17571639041288595465:Unit:=()
def PySem.W.Fast.tw11276011822396558718:Unit:=()
def PySem.W.Fast.tw5736740796244126178:Unit:=()
def PySem.W.Fast.tw5295908997795368998:Unit:=()
def PySem.W.Fast.tw13616026363875610357:Unit:=()
def PySem.W.Fast.tw6495275267732609418:Unit:=()
def PySem.W.Fast.tw10205720556922924946:Unit:=()
def PySem.W.Fast.tw12158438801818570327:Unit:=()
def PySem.W.Fast.tw4630173214907542368:Unit:=()
def PySem.W.Fast.tw4372775904426886192:Unit:=()
def PySem.W.Fast.tw13769638974002039605:Unit:=()
def PySem.W.Fast.tw11498014898390382686:Unit:=()
def PySem.W.Fast.tw9401868828771185805:Unit:=()
def PySem.W.Fast.tw1940010988394197084:Unit:=()
def PySem.W.Fast.tw16785693771963050120:Unit:=()
def PySem.W.Fast.tw15969518327721406319:Unit:=()
def PySem.W.Fast.tw9387386725584774105:Unit:=()
set_option maxRecDepth 100000 in
set_option maxHeartbeats 0 in
theorem PySem.Challenge.cw_leastloss_k07_memory_holds : PySem.Challenge.rw_leastloss_k07_memory.Holds := by
 w_on;o_law;k_head;(case hw=>w_witness2)
 k_fill
 refine L3.YI (l:=PySem.Challenge.rw_leastloss_k07_memory) (x :="_law_script") (r:=2*40) (k:=40) (f:=40) (G:=L3.G) ⟨rfl,by decide,by decide⟩ L3.NL rfl rfl (fun w h Y=>PySem.W.kIn_of Y) ?F
 case F =>
 intro w mg fa h KX G hmg
 refine L3.all_mk hmg ?Z (L3.Gv ?F0 ?F1 ?F2 ?F3 ?F4 ?F5 ?F6 ?F7 ?F8 ?F9 ?F10 ?F11 ?F12 ?F13 ?F14 ?F15 ?F16 ?F17 ?F18 ?F19 ?F20 ?F21 ?F22 ?F23 ?F24 ?F25 ?F26 ?F27 ?F28 ?F29 ?F30 ?F31 ?F32 ?F33 ?F34 ?F35 ?F36 ?F37 ?F38 ?F39 ?F40)
 case Z =>
  refine⟨?b_isinstance,?b_str,?b_len,?b_all,?b_tuple,?b_list,?b_reversed,?b_set,?b_any,?b_int,?b_bool,?b_range,?g_NO_NAMES,?g_LONGEST_NAME,?g_LETTERS,?g_DEEPEST,?g_SAYINGS_WITHIN,?g_PAST_WORDS,?g_MOST_LAMPS,?g_MOST_PROMISES,?g_HIGHEST_PRICE,?g_MOST_WISHES,?g_MOST_MUSTS,?g_MOST_PIECES,?c_Table,?c_Rules,?a_Table_names,?a_Table_pieces,?a_Table_rows,?a_Table_row_of,?a_Table_first_memory,?a_Table_remembered_rows,?a_Rules_table,?a_Rules_promise_rows,?a_Rules_must_rows,?a_Rules_priced_rows⟩
  case b_isinstance=>walk_at"fn"
  case b_str=>walk_at"fn"
  case b_len=>walk_at"fn"
  case b_all=>walk_at"fn"
  case b_tuple=>walk_at"fn"
  case b_list=>walk_at"fn"
  case b_reversed=>walk_at"fn"
  case b_set=>walk_at"fn"
  case b_any=>walk_at"fn"
  case b_int=>walk_at"fn"
  case b_bool=>walk_at"fn"
  case b_range=>walk_at"fn"
  case g_NO_NAMES=>refine' L3.MA KX G ?NO_NAMESa ?NO_NAMESl ?NO_NAMESf ?NO_NAMESz;(case NO_NAMESa=>k_is);(case NO_NAMESl=>k_is);(case NO_NAMESf=>kernel_rfl);(case NO_NAMESz=>kernel_rfl)
  case g_LONGEST_NAME=>walk_at"fg"
  case g_LETTERS=>refine' L3.VS KX G ?LETTERSa ?LETTERSe;(case LETTERSa=>k_is);(case LETTERSe=>rfl)
  case g_DEEPEST=>walk_at"fg"
  case g_SAYINGS_WITHIN=>refine' L3.UD KX G ?SAYINGS_WITHINa ?SAYINGS_WITHINl ?SAYINGS_WITHINf;(case SAYINGS_WITHINa=>k_is);(case SAYINGS_WITHINl=>k_is);(case SAYINGS_WITHINf=>kernel_rfl)
  case g_PAST_WORDS=>refine' L3.MA KX G ?PAST_WORDSa ?PAST_WORDSl ?PAST_WORDSf ?PAST_WORDSz;(case PAST_WORDSa=>k_is);(case PAST_WORDSl=>k_is);(case PAST_WORDSf=>kernel_rfl);(case PAST_WORDSz=>kernel_rfl)
  case g_MOST_LAMPS=>walk_at"fg"
  case g_MOST_PROMISES=>walk_at"fg"
  case g_HIGHEST_PRICE=>walk_at"fg"
  case g_MOST_WISHES=>walk_at"fg"
  case g_MOST_MUSTS=>walk_at"fg"
  case g_MOST_PIECES=>walk_at"fg"
  case c_Table=>walk_at"fc"
  case c_Rules=>walk_at"fc"
  case a_Table_names=>walk_at"fa"
  case a_Table_pieces=>walk_at"fa"
  case a_Table_rows=>walk_at"fa"
  case a_Table_row_of=>walk_at"fa"
  case a_Table_first_memory=>walk_at"fa"
  case a_Table_remembered_rows=>walk_at"fa"
  case a_Rules_table=>walk_at"fa"
  case a_Rules_promise_rows=>walk_at"fa"
  case a_Rules_must_rows=>walk_at"fa"
  case a_Rules_priced_rows=>walk_at"fa"
 case F0=>walk_at"ft"
 case F1=>walk_at"ft"
 case F2=>walk_at"ft"
 case F3=>walk_at"ft"
 case F4=>walk_at"ft"
 case F5=>walk_at"ft"
 case F6=>walk_at"ft"
 case F7=>walk_at"ft"
 case F8=>walk_at"ft"
 case F9=>walk_at"ft"
 case F10=>walk_at"ft"
 case F11=>walk_at"ft"
 case F12=>walk_at"ft"
 case F13=>walk_at"ft"
 case F14=>walk_at"ft"
 case F15=>walk_at"ft"
 case F16=>walk_at"ft"
 case F17=>walk_at"ft"
 case F18=>walk_at"fi"
 case F19=>walk_at"fm"
 case F20=>walk_at"fm"
 case F21=>walk_at"fm"
 case F22=>walk_at"fm"
 case F23=>walk_at"fm"
 case F24=>walk_at"fi"
 case F25=>walk_at"ft"
 case F26=>walk_at"ft"
 case F27=>walk_at"ft"
 case F28=>walk_at"ft"
 case F29=>walk_at"ft"
 case F30=>walk_at"ft"
 case F31=>walk_at"ft"
 case F32=>walk_at"ft"
 case F33=>walk_at"ft"
 case F34=>walk_at"ft"
 case F35=>walk_at"ft"
 case F36=>walk_at"ft"
 case F37=>walk_at"ft"
 case F38=>walk_at"ft"
 case F39=>walk_at"ft"
 case F40=>walk_at"ft"
