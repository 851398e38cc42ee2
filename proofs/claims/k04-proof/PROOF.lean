import PyProof.Rows.All
import Wide.All
import OpenK.AllK
import Wide.FinOn
import Lean
import PyProof.EqAt
import PyProof.EqKinds
import PyProof.TupleCall
import PySem.Challenge.RW_leastloss_k04_whole_waiting
set_option Elab.async false
set_option genSizeOf false
set_option bootstrap.genMatcherCode false
set_option compiler.extract_closed false
set_option linter.all false
set_option maxRecDepth 100000
set_option maxHeartbeats 4000000
section
namespace L2
open PySem PySem.Spec PyProof.Rows
noncomputable abbrev Key:=Sum Int Str
noncomputable def SK:Key->Value->Bool
 |.inl k,v=>Value.isInt k v
 |.inr x,v=>Value.isStrOf x v
noncomputable def Hb (w:World):Key->Int
 |.inl k=>hashInt k
 |.inr x=>hashStr w x
theorem fA:∀{k:Key}{v:Value},SK k v=true->(∃ i t,k=Sum.inl i/\v=Value.int i t)∨(∃ x t,k=Sum.inr x/\v=Value.str x t)
 |.inl i,v,h=>by
  obtain⟨t,e⟩:=Value.isInt_shape (k:=i) (v:=v) h
  exact .inl ⟨i,t,rfl,e⟩
 |.inr x,v,h=>by
  obtain⟨t,e⟩:=Value.isStrOf_shape (x:=x) (v:=v) h
  exact .inr ⟨x,t,rfl,e⟩
theorem Ax (a b:Int):decide ((Sum.inl a:Key)=Sum.inl b)=(a==b):=by
 by_cases e:a=b
 ·subst e;simp
 ·have h:¬(Sum.inl a:Key)=Sum.inl b:=fun q=>e (Sum.inl.inj q)
  rw[decide_eq_false h]
  exact(beq_eq_false_iff_ne.mpr e).symm
theorem Ag (a b:Str):decide ((Sum.inr a:Key)=Sum.inr b)=decide (a=b):=by
 by_cases e:a=b
 ·subst e;simp
 ·have h:¬(Sum.inr a:Key)=Sum.inr b:=fun q=>e (Sum.inr.inj q)
  rw[decide_eq_false h,decide_eq_false e]
theorem WB (a:Int)(b:Str):decide ((Sum.inl a:Key)=Sum.inr b)=false:=decide_eq_false (fun q=>nomatch q)
theorem Z5 (a:Str)(b:Int):decide ((Sum.inr a:Key)=Sum.inl b)=false:=decide_eq_false (fun q=>nomatch q)
noncomputable def BX (prog:Program)(w:World):PySem.KeyKind prog w Key where
 is:=SK
 hash:=Hb w
 inj:=fun v a b ha hb=>by
  rcases fA ha with⟨i,t,rfl,rfl⟩|⟨x,t,rfl,rfl⟩
  ·rcases fA hb with⟨j,u,rfl,e⟩|⟨y,u,rfl,e⟩
   ·injection e with e1 _;rw[e1]
   ·exact nomatch e
  ·rcases fA hb with⟨j,u,rfl,e⟩|⟨y,u,rfl,e⟩
   ·exact nomatch e
   ·injection e with e1 _;rw[e1]
 byValue:=fun k v h=>by
  rcases fA h with⟨i,t,rfl,rfl⟩|⟨x,t,rfl,rfl⟩<;>rfl
 pyHash:=fun hv h=>by
  rcases fA hv with⟨i,t,rfl,rfl⟩|⟨x,t,rfl,rfl⟩
  ·exact wpAny_pyHash_int h
  ·exact wpAny_pyHash_str h
 eqBool:=fun hu hv h=>by
  rcases fA hu with⟨i,t,rfl,rfl⟩|⟨x,t,rfl,rfl⟩
  ·rcases fA hv with⟨j,u,rfl,rfl⟩|⟨y,u,rfl,rfl⟩
   ·rw[Ax]at h;exact wpAny_eqBool_int h
   ·rw[WB]at h;exact SeqAt.EqAt.int_str i t y u _ _ _ _ h
  ·rcases fA hv with⟨j,u,rfl,rfl⟩|⟨y,u,rfl,rfl⟩
   ·rw[Z5]at h;exact SeqAt.EqAt.str_int x t j u _ _ _ _ h
   ·rw[Ag]at h;exact wpAny_eqBool_str h
 «strs»:=fun k x t v h=>by
  rcases fA h with⟨i,u,rfl,e⟩|⟨y,u,rfl,e⟩
  ·exact nomatch e
  ·injection e with e1 _
   subst e1
   cases v<;>rfl
end L2
namespace L2
open PySem PySem.Spec PyProof.Rows
inductive V where
 |non|bl (b:Bool)|int (i:Int)|str (x:Str)|byt (b:Array UInt8)|flt (b:UInt64)|ref (a:Addr)|ty (n:String)
 deriving DecidableEq
noncomputable def RelV:V->Value->Prop
 |.non,u=>u=Value.none
 |.bl b,u=>u=Value.bool b
 |.int i,u=>∃ t,u=Value.int i t
 |.str x,u=>∃ t,u=Value.str x t
 |.byt b,u=>∃ t,u=Value.bytes b t
 |.flt b,u=>∃ t,u=Value.float b t
 |.ref a,u=>u=Value.ref a
 |.ty n,u=>u=Value.type n
noncomputable abbrev aO:List V->List Value->Prop:=Paired RelV
theorem aO.length {xs:List V}{us:List Value}(r:aO xs us):xs.length=us.length:=Paired.length r
theorem aO.get:∀{xs:List V}{us:List Value}{i:Nat}{x:V},aO xs us->xs[i]? = some x->∃ u,us[i]? = some u/\RelV x u
 |_,_,_,_,.nil,e=>by simp at e
 |_,_,0,_,.cons r _,e=>by simp at e;subst e;exact⟨_,rfl,r⟩
 |_,_,i+1,x,.cons _ t,e=>by
  obtain⟨u,h1,h2⟩:=aO.get (i:=i) (x:=x) t (by simpa using e)
  exact⟨u,by simpa using h1,h2⟩
theorem aO.set {x:V}{u:Value}(r:RelV x u):∀{xs:List V}{us:List Value}(i:Nat),aO xs us->aO (xs.set i x) (us.set i u)
 |_,_,_,.nil=>.nil
 |_,_,0,.cons _ t=>.cons r t
 |_,_,i+1,.cons q t=>.cons q (aO.set r i t)
theorem aO.append:∀{xs ys:List V}{us ws:List Value},aO xs us->aO ys ws->aO (xs++ys) (us++ws)
 |_,_,_,_,.nil,s=>s
 |_,_,_,_,.cons r t,s=>.cons r (aO.append t s)
theorem aO.take:∀{xs:List V}{us:List Value}(n:Nat),aO xs us->aO (xs.take n) (us.take n)
 |_,_,0,_=>.nil
 |_,_,_+1,.nil=>.nil
 |_,_,n+1,.cons r t=>.cons r (aO.take n t)
theorem aO.drop:∀{xs:List V}{us:List Value}(n:Nat),aO xs us->aO (xs.drop n) (us.drop n)
 |_,_,0,r=>r
 |_,_,_+1,.nil=>.nil
 |_,_,n+1,.cons _ t=>aO.drop n t
noncomputable def rA:Option V->Option Value->Prop
 |some v,some u=>RelV v u
 |none,none=>True
 |_,_=>False
noncomputable def KV {κ:Type}:List (κ×V)->List (κ×Value)->Prop:=Paired fun(p:κ×V)(q:κ×Value)=>p.1=q.1/\RelV p.2 q.2
noncomputable def kV:Key->V
 |.inl i=>.int i
 |.inr x=>.str x
inductive HO where
 /-- a list -/
 |lst (xs:List V)
 /-- a tuple (never changes) -/
 |tup (xs:List V)
 /-- a dict whose keys are ints and texts; one whose keys are tuples of ints and texts (the empty one is both) -/
 |dK (gF:List (Key×V))|dT (gF:List (List Key×V))
 /-- a set of ints: aD members, aD size -/
 |set (S:Int->Bool)(n:Nat)
 /-- an instance of the class at C, aD dict at dx, aD attributes -/
 |ins (C dx:Addr)(fs:List (Str×V))
 /-- the dict of the instance at x -/
 |own (x:Addr)
 /-- the dict of an exception -/
 |xd (fs:List (Str×V))
 /-- a bound method, f of x -/
 |met (f x:Addr)
 /-- a range object lo, lo + 1, .. below hi -/
 |rng (lo hi:Int)
 /-- a thing that is known to the object (the script; a dict while a loop walks it): read, never written while it is so -/
 |frz (o:Obj)(u:HO)
 /-- a code object's table -/
 |tbl (ps:Array Value)
 /-- any other thing, by what is true of aD one object (a def of one's own: SetO a S n := HO.ext fun h => ..) -/
 |ext (φ:Program->World->Heap->Prop)
noncomputable abbrev Hp:=Addr->Option HO
noncomputable def upd (H:Hp)(a:Addr)(o:HO):Hp:=fun b=>if b=a then some o else H b
theorem cZ {H:Hp}{a:Addr}{o:HO}:upd H a o a=some o:=by unfold upd;rw[if_pos rfl]
theorem aY {H:Hp}{a b:Addr}{o:HO}(h:b≠a):upd H a o b=H b:=by unfold upd;rw[if_neg h]
theorem LU {H:Hp}{a b:Addr}{o u:HO}(h:H a=some o)(h':H b=some u)(d:o≠u):a≠b:=by
 intro e;subst e;rw[h]at h';exact d (Option.some.inj h')
theorem gP {H:Hp}{a b:Addr}{o:HO}(h:H a=some o)(h':H b=none):a≠b:=by
 intro e;subst e;rw[h]at h';cases h'
noncomputable def nZ (h:Heap)(a:Addr)(aD:Array Value):Prop:=∃ o,h.get? a=some o/\o.cls=.type "tuple" /\ (∃ n,o.data=.seq aD n)/\o.dict=none
theorem nZ.tup {h:Heap}{a:Addr}{aD:Array Value}:nZ h a aD->IsTup h a aD:=fun⟨o,e,c,d,_⟩=>⟨o,e,c,d⟩
theorem nZ.lt {h:Heap}{a:Addr}{aD:Array Value}(x:nZ h a aD):a<h.objs.size:=x.tup.lt
theorem nZ.new (h:Heap)(items:Array Value):nZ (h.push { cls:=.type "tuple", data:=.seq items }) h.objs.size items:=⟨_,Heap.get?_push_size _ rfl,rfl,⟨_,rfl⟩,rfl⟩
section
variable (P:Program)(w:World)
noncomputable def iT (H:Hp)(h:Heap)(a:Addr):HO->Prop
 |.lst xs=>xs.length<=sizeLine/\∃(aD:List Value)(n:Nat),aO xs aD/\h.get? a=some { cls:=.type "list", data:=.seq aD.toArray n }
 |.tup xs=>xs.length<=sizeLine/\∃ aD:List Value,aO xs aD/\nZ h a aD.toArray
 |.dK gF=>gF.length<=sizeLine/\(a==sysModules)=false/\∃ vs,KV gF vs/\h.DictOf (BX P w) a vs
 |.dT gF=>gF.length<=sizeLine/\(a==sysModules)=false/\∃ xs:List (List Key×Addr×Value),
  Paired (fun(p:List Key×V)(q:List Key×Addr×Value)=>p.1=q.1/\H q.2.1=some (.tup (p.1.map kV))/\RelV p.2 q.2.2) gF xs /\
  ∃ o es ep,h.get? a=some o/\o.ExactDict/\o.data=.dict es ep/\es.toList=xs.map (entryOfKey (tupleKind (BX P w)))/\(xs.map (·.1)).Nodup
 |.set S n=>h.SetOf (intKind P w) a S n
 |.ins C dx fs=>H dx=some (.own a)/\fs.length<=1000/\dx≠a/\h.get? a=some (PySem.W.instObj C dx) /\
  ∃ mA,h.Ns1 dx mA/\(∀ f,rA (fs.lookup f) (mA f))/\PySem.Within mA (fs.map (·.1))
 |.own _=>∃ o,h.get? a=some o
 |.xd fs=>∃ mA,h.Ns1 a mA/\∀ f,rA (fs.lookup f) (mA f)
 |.rng lo hi=>∃ t u v,h.get? a=some { cls:=.type "range", data:=.fields #[.int lo t,.int hi u,.int 1 v] }
 |.frz o u=>h.get? a=some o/\iT H h a u
 |.tbl ps=>h.get? a=some { cls:=.none,data:=.fields ps }
 |.met f x=>h.get? a=some (PySem.W.methodObj (.ref f) (.ref x))
 |.ext φ=>φ P w h/\(∃ o,h.get? a=some o)/\∀ h1 h2:Heap,φ P w h1->(∀ o,h1.get? a=some o->h2.get? a=some o)->φ P w h2
noncomputable def fT (H:Hp)(h:Heap):Prop:=∀ a o,H a=some o->iT P w H h a o
end
section
variable {P:Program}{w:World}{H H':Hp}{h h':Heap}{a:Addr}{o:HO}
theorem iT.lt (x:iT P w H h a o):a<h.objs.size:=by
 cases o with
 |lst xs=>obtain⟨_,_,_,_,e⟩:=x;exact Heap.lt_size e
 |tup xs=>obtain⟨_,_,_,p⟩:=x;exact p.lt
 |dK gF=>obtain⟨_,_,_,_,o,_,_,e,_⟩:=x;exact Heap.lt_size e
 |dT gF=>obtain⟨_,_,_,_,o,_,_,e,_⟩:=x;exact Heap.lt_size e
 |set S n=>obtain⟨o,_,_,_,e,_⟩:=x;exact Heap.lt_size e
 |ins C dx fs=>obtain⟨_,_,_,e,_⟩:=x;exact Heap.lt_size e
 |own y=>obtain⟨_,e⟩:=x;exact Heap.lt_size e
 |xd fs=>obtain⟨_,⟨_,_,_,e,_⟩,_⟩:=x;exact Heap.lt_size e
 |rng lo hi=>obtain⟨_,_,_,e⟩:=x;exact Heap.lt_size e
 |frz ob u=>obtain⟨e,_⟩:=x;exact Heap.lt_size e
 |tbl ps=>exact Heap.lt_size (show h.get? a=some _ from x)
 |met f y=>exact Heap.lt_size (show h.get? a=some _ from x)
 |ext φ=>obtain⟨_,⟨_,e⟩,_⟩:=x;exact Heap.lt_size e
theorem Paired.ZA {α β:Type}{F G:α->β->Prop}:∀{l₁:List α}{l₂:List β},Paired F l₁ l₂->(∀ a b,F a b->G a b)->Paired G l₁ l₂
 |_,_,.nil,_=>.nil
 |_,_,.cons r t,f=>.cons (f _ _ r) (Paired.ZA t f)
theorem iT.nX (x:iT P w H h a o)(k:∀ b u,(b=a∨H b=some (.own a))->h.get? b=some u->h'.get? b=some u)
 (ho:∀ b,H b=some (.own a)->H' b=some (.own a))(ht:∀ b xs,H b=some (.tup xs)->H' b=some (.tup xs)):iT P w H' h' a o:=by
 induction o with
 |lst xs=>obtain⟨z,aD,n,r,e⟩:=x;exact⟨z,aD,n,r,k _ _ (.inl rfl) e⟩
 |tup xs=>obtain⟨z,aD,r,ob,e,c⟩:=x;exact⟨z,aD,r,ob,k _ _ (.inl rfl) e,c⟩
 |dK gF=>obtain⟨z,y,vs,r,ob,es,ep,e,c⟩:=x;exact⟨z,y,vs,r,ob,es,ep,k _ _ (.inl rfl) e,c⟩
 |dT gF =>
 obtain⟨z,y,xs,r,ob,es,ep,e,c⟩:=x
 exact⟨z,y,xs,Paired.ZA r fun p q z=>⟨z.1,ht _ _ z.2.1,z.2.2⟩,ob,es,ep,k _ _ (.inl rfl) e,c⟩
 |set S n=>obtain⟨ob,es,ep,t,e,c⟩:=x;exact⟨ob,es,ep,t,k _ _ (.inl rfl) e,c⟩
 |ins C dx fs =>
 obtain⟨d,z,ne,e,mA,⟨od,es,ep,e2,c⟩,r⟩:=x
 exact⟨ho _ d,z,ne,k _ _ (.inl rfl) e,mA,⟨od,es,ep,k _ _ (.inr d) e2,c⟩,r⟩
 |own y=>obtain⟨ob,e⟩:=x;exact⟨ob,k _ _ (.inl rfl) e⟩
 |xd fs=>obtain⟨mA,⟨od,es,ep,e,c⟩,r⟩:=x;exact⟨mA,⟨od,es,ep,k _ _ (.inl rfl) e,c⟩,r⟩
 |rng lo hi=>obtain⟨t,u,v,e⟩:=x;exact⟨t,u,v,k _ _ (.inl rfl) e⟩
 |frz ob u ih=>obtain⟨e,q⟩:=x;exact⟨k _ _ (.inl rfl) e,ih q⟩
 |tbl ps =>
 have e:h.get? a=some { cls:=.none,data:=.fields ps }:=x
 show h'.get? a=some { cls:=.none,data:=.fields ps }
 exact k a _ (.inl rfl) e
 |met f y =>
 have e:h.get? a=some (PySem.W.methodObj (.ref f) (.ref y)):=x
 show h'.get? a=some (PySem.W.methodObj (.ref f) (.ref y))
 exact k a _ (.inl rfl) e
 |ext φ=>obtain⟨p,⟨o,e⟩,st⟩:=x;exact⟨st _ _ p fun o q=>k _ _ (.inl rfl) q,⟨o,k _ _ (.inl rfl) e⟩,st⟩
theorem fT.lt (x:fT P w H h)(e:H a=some o):a<h.objs.size:=(x a o e).lt
theorem fT.fresh (x:fT P w H h)(e:h.objs.size<=a):H a=none:=by
 cases q:H a with
 |none=>rfl
 |some u=>exact absurd (Nat.lt_of_lt_of_le (x.lt q) e) (Nat.lt_irrefl _)
theorem fT.kept (x:fT P w H h)(k:∀ b u,h.get? b=some u->h'.get? b=some u):fT P w H h':=fun a o e =>
 (x a o e).nX (fun b u _ q=>k b u q) (fun _ q=>q) fun _ _ q=>q
theorem fT.laid (x:fT P w H h)(k:∀ b u,h.get? b=some u->h'.get? b=some u)(hp:h.objs.size<=a)(new:iT P w (upd H a o) h' a o):fT P w (upd H a o) h':=fun b u e=>by
 have hn:=x.fresh hp
 by_cases hb:b=a
 ·subst hb;rw[cZ]at e;cases e;exact new
 ·rw[aY hb]at e
  exact(x b u e).nX (fun c v _ q=>k c v q) (fun c q=>by rw[aY (gP q hn)];exact q) fun c xs q=>by rw[aY (gP q hn)];exact q
end
noncomputable def Rd (H:Hp)(a:Addr)(u:HO):Prop:=H a=some u∨∃ o,H a=some (.frz o u)
theorem Rd.ok {P:Program}{w:World}{H:Hp}{h:Heap}{a:Addr}{u:HO}(r:Rd H a u)(x:fT P w H h):iT P w H h a u:=by
 rcases r with r|⟨o,r⟩
 ·exact x a u r
 ·obtain⟨_,q⟩:=x a _ r
  exact q
noncomputable def RX:Option HO->Prop
 |some (.lst _)=>True
 |some (.dK _)=>True
 |some (.dT _)=>True
 |some (.set _ _)=>True
 |some (.ins _ _ _)=>True
 |some (.ext _)=>True
 |_=>False
section
variable {P:Program}{w:World}{H:Hp}{h h':Heap}{x e:Addr}{o':HO}
theorem fT.write (ok:fT P w H h)(mu:RX (H x))(he:e=x∨H e=some (.own x))(k:∀ b u,b≠e->h.get? b=some u->h'.get? b=some u)(heo:∃ u,h'.get? e=some u)
  (new:iT P w (upd H x o') h' x o'):fT P w (upd H x o') h':=fun b u q=>by
 have nown:∀ c y,H c=some (.own y)->c≠x:=fun c y r z=>by subst z;rw[r]at mu;exact mu
 have ntup:∀ c xs,H c=some (.tup xs)->c≠x:=fun c xs r z=>by subst z;rw[r]at mu;exact mu
 by_cases hb:b=x
 ·subst hb;rw[cZ]at q;cases q;exact new
 ·rw[aY hb]at q
  by_cases hbe:b=e
  ·have q':H b=some (.own x):=by
    rcases he with z|z
    ·exact absurd (hbe.trans z) hb
    ·rw[hbe];exact z
   rw[q]at q';cases q'
   obtain⟨v,hv⟩:=heo
   exact⟨v,by rw[hbe];exact hv⟩
  ·refine(ok b u q).nX (fun c v hc r=>k c v ?_ r) (fun c r=>by rw[aY (nown c b r)];exact r) fun c xs r=>by rw[aY (ntup c xs r)];exact r
   rcases hc with rfl|hc
   ·exact hbe
   ·rintro rfl
    rcases he with z|z
    ·exact nown c b hc z
    ·rw[hc]at z;cases z;exact hb rfl
end
structure Un (fs ex:List Addr)(H H':Hp)(h h':Heap):Prop where
 keep:∀ b o,h.get? b=some o->H b=none->b∉fs->b∉ex->h'.get? b=some o
 slot:∀ b o,h.get? b=some o->H b=none->b∈fs->b∉ex->∃ sl,h'.get? b=some { o with slots:=sl }
 free:∀ b o,h.get? b=some o->H b=none->b∉ex->H' b=none
 there:∀ b o,h.get? b=some o->b∉ex->∃ o',h'.get? b=some o'
 pZ:∀ b xs,H b=some (.tup xs)->H' b=some (.tup xs)
 mG:∀ b o u,H b=some (.frz o u)->H' b=some (.frz o u)
 oE:∀ b ps,H b=some (.tbl ps)->∃ more,H' b=some (.tbl (ps++more))
section
variable {fs fs' ex ex':List Addr}{H H1 H2:Hp}{h h1 h2 h':Heap}{a x e:Addr}{o:HO}
theorem Un.any (u:Un fs ex H H1 h h1){b:Addr}{ob:Obj}(q:h.get? b=some ob)(n:H b=none)(hx:b∉ex):∃ sl,h1.get? b=some { ob with slots:=sl }:=by
 by_cases hb:b∈fs
 ·exact u.slot b ob q n hb hx
 ·exact⟨ob.slots,u.keep b ob q n hb hx⟩
theorem Un.kept (k:∀ b u,h.get? b=some u->h'.get? b=some u):Un fs ex H H h h' :=
 ⟨fun b ob q _ _ _=>k b ob q,fun b ob q _ _ _=>⟨ob.slots,k b ob q⟩,fun _ _ _ n _=>n,fun b ob q _=>⟨ob,k b ob q⟩,fun _ _ q=>q,fun _ _ _ q=>q,fun _ ps q=>⟨#[],by rw[q];simp⟩⟩
theorem Un.refl:Un fs ex H H h h:=Un.kept fun _ _ q=>q
theorem Un.laid (k:∀ b u,h.get? b=some u->h'.get? b=some u)(hp:h.objs.size<=a)(hn:H a=none):Un fs ex H (upd H a o) h h' where
 keep:=fun b u q _ _ _=>k b u q
 slot:=fun b u q _ _ _=>⟨u.slots,k b u q⟩
 free:=fun b u q n _=>by rw[aY (Nat.ne_of_lt (Nat.lt_of_lt_of_le (Heap.lt_size q) hp))];exact n
 there:=fun b u q _=>⟨u,k b u q⟩
 pZ:=fun b xs q=>by rw[aY (gP q hn)];exact q
 mG:=fun b u xs q=>by rw[aY (gP q hn)];exact q
 oE:=fun b ps q=>⟨#[],by rw[aY (gP q hn),q];simp⟩
theorem Un.write (mu:RX (H x))(he:e=x∨H e=some (.own x))(k:∀ b u,b≠e->h.get? b=some u->h'.get? b=some u)(heo:∃ u,h'.get? e=some u):Un fs ex H (upd H x o) h h':=by
 have hx:∀ b,H b=none->b≠x:=fun b n z=>by subst z;rw[n]at mu;exact mu
 have hb:∀ b,H b=none->b≠e:=fun b n z=>by
  subst z
  rcases he with r|r
  ·exact hx b n r
  ·rw[n]at r;cases r
 have hm:∀ b u,H b=some u->¬RX (some u)->b≠x:=fun b u q nm z=>by subst z;rw[q]at mu;exact nm mu
 refine⟨fun b u q n _ _=>k b u (hb b n) q,fun b u q n _ _=>⟨u.slots,k b u (hb b n) q⟩,fun b u q n _=>by rw[aY (hx b n)];exact n,fun b u q _=>?_,
  fun b xs q=>by rw[aY (hm b _ q fun z=>z)];exact q,fun b u xs q=>by rw[aY (hm b _ q fun z=>z)];exact q,fun b ps q=>⟨#[],by rw[aY (hm b _ q fun z=>z),q];simp⟩⟩
 by_cases hbe:b=e
 ·subst hbe;exact heo
 ·exact⟨u,k b u hbe q⟩
end
noncomputable def RT (h:Heap)(H:Hp):List Addr:=(List.range h.objs.size).filter fun a=>(H a).isSome
noncomputable def rF (h:Heap)(H:Hp):Heap:=PySem.W.hideAll h (RT h H)
theorem OP (h:Heap)(H:Hp):(rF h H).objs.size=h.objs.size:=PySem.W.hideAll_size _ _
theorem PM {h:Heap}{H:Hp}{b:Addr}{o:Obj}(e:h.get? b=some o)(n:H b=none):(rF h H).get? b=some o :=
 PySem.W.hideAll_get _ e fun hm=>by
 have q:(H b).isSome=true:=(List.mem_filter.mp hm).2
 rw[n]at q;simp at q
theorem UT {h:Heap}{H:Hp}{b:Addr}{o:Obj}(e:(rF h H).get? b=some o):h.get? b=some o/\H b=none:=by
 have e':h.get? b=some o:=PySem.W.of_hideAll (RT h H) e
 refine⟨e',?_⟩
 cases q:H b with
 |none=>rfl
 |some x =>
 have hm:b∈RT h H:=List.mem_filter.mpr ⟨List.mem_range.mpr (Heap.lt_size e'),by simp [q]⟩
 have z:(rF h H).get? b=none:=PySem.W.hideAll_none (RT h H) hm
 rw[z]at e;cases e
noncomputable def VN (g h:Heap)(L:Addr):List (Addr×Obj):=(List.range h.objs.size).filterMap fun a=>if a=L∨(g.get? a).isSome=true then none else(h.get? a).map fun o=>(a,o)
noncomputable def rest (g h:Heap)(L d:Addr):List (Addr×Obj):=(VN g h L).filter fun p=>decide (p.1≠d)
end L2
namespace L2
open PySem PySem.Spec PyProof.Rows
structure Mod (K:PySem.W.Frag)(mg:Str->Option Value)(base:Heap):Prop where
 kin:K.In base
 glob:base.Ns mainGlobals mg
 blt:∃ mb,base.Ns builtinsNs mb/\∀ x:Str,x ≠"__name__" -> mb x=bootBuiltins x
 nolimit:base.NoLimit
structure Cx where
 prog:Program
 w:World
 K:PySem.W.Frag
 mg:Str->Option Value
 base:Heap
 A:Around
 N:List Str
 s₀:Shared
 H₀:Hp
 env:Env
 outer:List Env
 stack:List Env
 ex:List Addr
 fn:Str->Bool
 calm:Bool
 pn:List (Addr×Obj)
 xe:Value->Shared->Prop
noncomputable def sG (l:List Env):List Addr:=l.filterMap (·.frame)
noncomputable abbrev Cx.fs (X:Cx):List Addr:=sG X.outer
noncomputable def SI (sc:Scope)(x:Str):Prop:=sc.names.lookup x=some .local∨sc.names.lookup x=some .cell∨sc.names.lookup x=some .free
noncomputable def Loc (sc:Scope)(x:Str):Prop:=sc.names.lookup x=some .local∨sc.names.lookup x=some .cell
noncomputable def Look (env:Env)(h:Heap)(m:Str->Option Value)(x:Str)(u:Value):Prop :=
 (env.kindOf x=some .local/\m x=some u)∨((env.kindOf x=some .cell∨env.kindOf x=some .free)/\∃ c,env.cells.lookup x=some c/\h.IsCell c (some u))
structure Cx.Ok (X:Cx):Prop where
 mod:Mod X.K X.mg X.base
 kind:X.env.scope.kind=.function
 glob:X.env.globals=mainGlobals
 blt:X.env.builtins=builtinsNs
 above:X.s₀.heap.objs.size<=X.env.locals
 inj:∀ x y c,X.env.cells.lookup x=some c->X.env.cells.lookup y=some c->x=y
 has:∀ x,(X.env.kindOf x=some .cell∨X.env.kindOf x=some .free)->∃ c,X.env.cells.lookup x=some c
 cab:∀ x c,X.fn x=true->X.env.cells.lookup x=some c->X.s₀.heap.objs.size<=c
 hd:X.calm=true->X.A.handled=none
 frames:X.A.frames=some X.stack
 stk:X.stack=X.outer∨(X.stack=X.env::X.outer/\X.env.frame=some X.env.locals)
 exf:∀ b∈X.ex,b≠X.env.locals/\∀ x c,X.env.cells.lookup x=some c->c≠b
 bs:∀ b o,X.base.get? b=some o->X.s₀.heap.get? b=some o/\X.H₀ b=none
 bsz:X.base.objs.size<=X.s₀.heap.objs.size
 noex:∀ b o,X.base.get? b=some o->b∉X.ex
 exfs:∀ b∈X.ex,b∉X.fs
 kC:X.s₀.heap.FunFrames X.base X.outer
 frf:∀ b∈X.fs,X.H₀ b=none
structure Inv (X:Cx)(pins:List (Addr×Obj))(σ:List (Option V))(H:Hp)(s:Shared):Prop where
 ok:X.Ok
 os:s.os=X.s₀.os
 bare:AllBare s.gens
 base:Un X.fs X.ex X.H₀ H X.s₀.heap s.heap
 loc:∃ m,s.heap.Ns X.env.locals m/\∀(i:Nat)(x:Str)(v:V),X.N[i]? = some x->σ[i]? = some (some v)->SI X.env.scope x->∃ u,RelV v u/\Look X.env s.heap m x u
 cell:∀ x c,X.env.cells.lookup x=some c->∃ v,s.heap.IsCell c v
 free:H X.env.locals=none
 jJ:∀ x c,X.env.cells.lookup x=some c->H c=none
 pin:∀ p∈X.pn++pins,s.heap.get? p.1=some p.2/\H p.1=none/\p.1≠X.env.locals/\p.1∉X.fs/\∀ v,p.2.data≠.cell v
 bJ:fT X.prog X.w H s.heap
 len:σ.length=X.N.length
section
variable {X:Cx}{pins:List (Addr×Obj)}{σ:List (Option V)}{H H':Hp}{s:Shared}{h':Heap}
theorem Cx.Ok.Ha (ok:X.Ok){b:Addr}{o:Obj}(e:X.base.get? b=some o):b∉X.fs:=fun hb=>by
 have:=(ok.kC.mem hb).1
 rw[e]at this;cases this
theorem Inv.bs (I:Inv X pins σ H s):∀ b o,X.base.get? b=some o->s.heap.get? b=some o/\H b=none:=fun b o e =>
 ⟨I.base.keep b o (I.ok.bs b o e).1 (I.ok.bs b o e).2 (I.ok.Ha e) (I.ok.noex b o e),I.base.free b o (I.ok.bs b o e).1 (I.ok.bs b o e).2 (I.ok.noex b o e)⟩
theorem Inv.bk (I:Inv X pins σ H s):∀ b o,X.base.get? b=some o->s.heap.get? b=some o:=fun b o e=>(I.bs b o e).1
theorem Inv.mod (I:Inv X pins σ H s):Mod X.K X.mg X.base:=I.ok.mod
theorem Inv.iA (I:Inv X pins σ H s):X.K.In s.heap:=I.ok.mod.kin.keeps I.bk
theorem Inv.fr (I:Inv X pins σ H s):∃ m,Fr X.base X.env.locals s.heap m :=
 let⟨m,hn,_⟩:=I.loc
 ⟨m,hn,I.bk,Nat.le_trans I.ok.bsz I.ok.above⟩
theorem Inv.lt (I:Inv X pins σ H s):X.env.locals<s.heap.objs.size:=let⟨_,hn,_⟩:=I.loc;hn.lt
theorem Inv.sz (I:Inv X pins σ H s):X.s₀.heap.objs.size<=s.heap.objs.size:=Nat.le_trans I.ok.above (Nat.le_of_lt I.lt)
theorem Inv.Z4 (I:Inv X pins σ H s){a:Addr}(h:s.heap.objs.size<=a):a∉X.fs:=fun hb=>by
 obtain⟨_,o,ho,_⟩:=I.ok.kC.mem hb
 exact absurd (Nat.lt_of_lt_of_le (Heap.lt_size ho) (Nat.le_trans I.sz h)) (Nat.lt_irrefl _)
theorem Inv.CP (I:Inv X pins σ H s):∀ x c,X.env.cells.lookup x=some c->c≠X.env.locals:=fun x c e z=>by
 obtain⟨v,o,ho,hd⟩:=I.cell x c e
 obtain⟨m,⟨o',es,ep,ho',hd',_⟩,_⟩:=I.loc
 rw[z,ho']at ho;cases ho;rw[hd']at hd;cases hd
theorem Inv.kC (I:Inv X pins σ H s):s.heap.FunFrames X.base X.outer:=by
 have all:∀(l:List Env),(∀ b∈sG l,b∈X.fs)->X.s₀.heap.FunFrames X.base l->s.heap.FunFrames X.base l:=by
  intro l
  induction l with
  |nil=>intro _ _;trivial
  |cons env r ih =>
   intro hs hl
   obtain⟨hk,⟨L,o,hf,hn,ho,hd⟩,hr⟩:=hl
   have hL:L∈X.fs:=hs L (by unfold sG;rw[List.filterMap_cons,hf];exact List.mem_cons_self)
   obtain⟨sl,e⟩:=I.base.slot L o ho (I.ok.frf L hL) hL fun z=>I.ok.exfs L z hL
   exact⟨hk,⟨L,_,hf,hn,e,hd⟩,ih (fun b hb=>hs b (by unfold sG;rw[List.filterMap_cons,hf];exact List.mem_cons_of_mem _ hb)) hr⟩
 exact all X.outer (fun _ hb=>hb) I.ok.kC
theorem Inv.stack (I:Inv X pins σ H s):s.heap.FunFrames X.base X.stack:=by
 rcases I.ok.stk with e|⟨e,hf⟩
 ·rw[e];exact I.kC
 ·rw[e]
  obtain⟨m,hn,_⟩:=I.loc
  refine .cons (by rw[I.ok.kind];decide) hf hn ?_ I.kC
  exact Heap.get?_none_of_le (Nat.le_trans I.ok.bsz I.ok.above)
theorem Inv.BE (I:Inv X pins σ H s):∀ b∈sG X.stack,b∈X.env.locals::X.fs:=fun b hb=>by
 rcases I.ok.stk with e|⟨e,hf⟩
 ·rw[e]at hb;exact List.mem_cons_of_mem _ hb
 ·rw[e]at hb
  unfold sG at hb
  rw[List.filterMap_cons,hf]at hb
  exact hb
theorem Inv.J4 (I:Inv X pins σ H s):∀ b∈sG X.stack,H b=none:=fun b hb=>by
 rcases List.mem_cons.mp (I.BE b hb)with e|hb
 ·rw[e];exact I.free
 ·obtain⟨_,o,ho,_⟩:=I.ok.kC.mem hb
  exact I.base.free b o ho (I.ok.frf b hb) fun z=>I.ok.exfs b z hb
theorem Inv.step {g':Array GenState}{t':Nat}{d':Drawn}{ch:List Addr}(I:Inv X pins σ H s)
  (hch:∀ b∈ch,(b∈X.ex∨X.s₀.heap.objs.size<=b)/\b≠X.env.locals/\(∀ x c,X.env.cells.lookup x=some c->c≠b)/\∀ p∈X.pn++pins,p.1≠b)
  (keep:∀ b o,b≠X.env.locals->b∉X.fs->b∉ch->s.heap.get? b=some o->H b=none->h'.get? b=some o)
  (slot:∀ b o,b≠X.env.locals->b∈X.fs->b∉ch->s.heap.get? b=some o->H b=none->∃ sl,h'.get? b=some { o with slots:=sl })(free:∀ b o,b∉ch->s.heap.get? b=some o->H b=none->H' b=none)
  (there:∀ b o,b∉ch->s.heap.get? b=some o->∃ o',h'.get? b=some o')
  (pZ:∀ b xs,H b=some (.tup xs)->H' b=some (.tup xs))(mG:∀ b o u,H b=some (.frz o u)->H' b=some (.frz o u))(oE:∀ b ps,H b=some (.tbl ps)->∃ more,H' b=some (.tbl (ps++more)))
  (ns:∀ m,s.heap.Ns X.env.locals m->h'.Ns X.env.locals m)(bJ:fT X.prog X.w H' h')(hg:AllBare g'):
  Inv X pins σ H' { s with heap:=h',gens:=g',drawn:=d',toks:=t' }:=by
 have neL:∀ b o,X.s₀.heap.get? b=some o->b≠X.env.locals:=fun b o e=>Nat.ne_of_lt (Nat.lt_of_lt_of_le (Heap.lt_size e) I.ok.above)
 have neC:∀ b o,X.s₀.heap.get? b=some o->b∉X.ex->b∉ch:=fun b o e hx hb=>by
  rcases(hch b hb).1 with z|z
  ·exact hx z
  ·exact absurd (Nat.lt_of_lt_of_le (Heap.lt_size e) z) (Nat.lt_irrefl _)
 have cellK:∀ x c,X.env.cells.lookup x=some c->∀ v,s.heap.IsCell c v->h'.IsCell c v:=fun x c e v ⟨o,ho,hd⟩=>by
  have nch:c∉ch:=fun z=>(hch c z).2.2.1 x c e rfl
  by_cases hc:c∈X.fs
  ·obtain⟨sl,q⟩:=slot c o (I.CP x c e) hc nch ho (I.jJ x c e)
   exact⟨_,q,hd⟩
  ·exact⟨o,keep c o (I.CP x c e) hc nch ho (I.jJ x c e),hd⟩
 refine⟨I.ok,I.os,hg,⟨fun b o e n hb hx=>?_,fun b o e n hb hx=>?_,fun b o e n hx=>?_,fun b o e hx=>?_,fun b xs e=>pZ b xs (I.base.pZ b xs e),fun b o xs e=>mG b o xs (I.base.mG b o xs e),fun b ps e=>?_⟩,?_,fun x c e=>?_,?_,fun x c e=>?_,fun p hp=>?_,bJ,I.len⟩
 ·exact keep b o (neL b o e) hb (neC b o e hx) (I.base.keep b o e n hb hx) (I.base.free b o e n hx)
 ·obtain⟨sl,e1⟩:=I.base.slot b o e n hb hx
  obtain⟨sl',e2⟩:=slot b _ (neL b o e) hb (neC b o e hx) e1 (I.base.free b o e n hx)
  exact⟨sl',e2⟩
 ·obtain⟨o',e1⟩:=I.base.there b o e hx
  exact free b o' (neC b o e hx) e1 (I.base.free b o e n hx)
 ·obtain⟨o',e1⟩:=I.base.there b o e hx
  exact there b o' (neC b o e hx) e1
 ·obtain⟨m1,e1⟩:=I.base.oE b ps e
  obtain⟨m2,e2⟩:=oE b _ e1
  exact⟨m1++m2,by rw[e2,Array.append_assoc]⟩
 ·obtain⟨m,hn,hl⟩:=I.loc
  refine⟨m,ns m hn,fun i x v e1 e2 e3=>?_⟩
  obtain⟨u,r,l⟩:=hl i x v e1 e2 e3
  refine⟨u,r,?_⟩
  rcases l with l|⟨k,c,e,z⟩
  ·exact .inl l
  ·exact .inr ⟨k,c,e,cellK x c e _ z⟩
 ·obtain⟨v,z⟩:=I.cell x c e
  exact⟨v,cellK x c e v z⟩
 ·obtain⟨m,⟨o,_,_,ho,_⟩,_⟩:=I.loc
  exact free _ o (fun z=>(hch _ z).2.1 rfl) ho I.free
 ·obtain⟨v,o,ho,hd⟩:=I.cell x c e
  exact free c o (fun z=>(hch c z).2.2.1 x c e rfl) ho (I.jJ x c e)
 ·obtain⟨e,n,ne,nf,d⟩:=I.pin p hp
  have nch:p.1∉ch:=fun z=>(hch p.1 z).2.2.2 p hp rfl
  exact⟨keep p.1 p.2 ne nf nch e n,free p.1 p.2 nch e n,ne,nf,d⟩
theorem Inv.un {t':Nat}(I:Inv X pins σ H s)(u:Un X.fs [] H H' s.heap h')(bJ:fT X.prog X.w H' h'):Inv X pins σ H' { s with heap:=h',toks:=t' }:=by
 obtain⟨m,⟨o,es,ep,ho,r⟩,_⟩:=id I.loc
 obtain⟨sl,hL⟩:=u.any ho I.free (by simp)
 exact I.step (g':=s.gens) (d':=s.drawn) (ch:=[]) (fun _ z=>nomatch z) (fun b o _ hb _ e n=>u.keep b o e n hb (by simp)) (fun b o _ hb _ e n=>u.slot b o e n hb (by simp)) (fun b o _ e n=>u.free b o e n (by simp)) (fun b o _ e=>u.there b o e (by simp)) u.pZ u.mG u.oE (fun m' hm=>by
 obtain⟨o',es',ep',ho',r'⟩:=hm
 rw[ho]at ho';cases ho'
 exact⟨_,es',ep',hL,r'⟩) bJ I.bare
theorem Inv.call {g':Array GenState}{t':Nat}{d':Drawn}{ch:List Addr}(I:Inv X pins σ H s)(u:Un (sG X.stack) ch H H' s.heap h')(bJ:fT X.prog X.w H' h')(hg:AllBare g')
 (hch:∀ b∈ch,(b∈X.ex∨X.s₀.heap.objs.size<=b)/\b≠X.env.locals/\(∀ x c,X.env.cells.lookup x=some c->c≠b)/\∀ p∈X.pn++pins,p.1≠b):
 Inv X pins σ H' { s with heap:=h',gens:=g',drawn:=d',toks:=t' }:=by
 obtain⟨m,⟨o,es,ep,ho,r⟩,_⟩:=id I.loc
 obtain⟨sl,hL⟩:=u.any ho I.free fun z=>(hch _ z).2.1 rfl
 exact I.step (ch:=ch) hch (fun b o hL hb hc e n=>u.keep b o e n (fun z=>(List.mem_cons.mp (I.BE b z)).elim hL hb) hc) (fun b o _ _ hc e n=>u.any e n hc) (fun b o hc e n=>u.free b o e n hc) (fun b o hc e=>u.there b o e hc) u.pZ u.mG u.oE (fun m' hm=>by
 obtain⟨o',es',ep',ho',r'⟩:=hm
 rw[ho]at ho';cases ho'
 exact⟨_,es',ep',hL,r'⟩) bJ hg
theorem Inv.turned {t':Nat}{it:Addr}(I:Inv X pins σ H s)(k:∀ b o,b≠it->s.heap.get? b=some o->h'.get? b=some o)(hn:H it=none)(hL:it≠X.env.locals)
  (h1:it∈X.ex∨X.s₀.heap.objs.size<=it)(h2:∀ x c,X.env.cells.lookup x=some c->c≠it)(h3:∀ p∈X.pn++pins,p.1≠it):Inv X pins σ H { s with heap:=h',toks:=t' }:=by
 have nit:∀ b u,H b=some u->b≠it:=fun b u e z=>by rw[z,hn]at e;cases e
 refine I.step (g':=s.gens) (d':=s.drawn) (ch:=[it]) (fun b hb=>?_) (fun b o _ _ hc e _=>k b o (fun z=>hc (by simp [z])) e) (fun b o _ _ hc e _=>⟨o.slots,k b o (fun z=>hc (by simp [z])) e⟩) (fun _ _ _ _ n=>n)
  (fun b o hc e=>⟨o,k b o (fun z=>hc (by simp [z])) e⟩) (fun _ _ e=>e) (fun _ _ _ e=>e) (fun b ps e=>⟨#[],by rw[e];simp⟩) (fun m hm=>?_) (fun b u e=>?_) I.bare
 ·have e:b=it:=by simpa using hb
  subst e
  exact⟨h1,hL,h2,h3⟩
 ·obtain⟨o,es,ep,ho,r⟩:=hm
  exact⟨o,es,ep,k _ o (Ne.symm hL) ho,r⟩
 ·refine(I.bJ b u e).nX (fun c v hc q=>k c v ?_ q) (fun _ q=>q) fun _ _ q=>q
  rcases hc with z|z
  ·rw[z];exact nit b u e
  ·exact nit c _ z
theorem Inv.tok (I:Inv X pins σ H s)(t:Nat):Inv X pins σ H { s with toks:=t }:=I.un (h':=s.heap) (t':=t) Un.refl I.bJ
theorem Inv.kept {t':Nat}(I:Inv X pins σ H s)(k:∀ b u,s.heap.get? b=some u->h'.get? b=some u):Inv X pins σ H { s with heap:=h',toks:=t' }:=I.un (Un.kept k) (I.bJ.kept k)
theorem Inv.laid {a:Addr}{o:HO}{t':Nat}(I:Inv X pins σ H s)(k:∀ b u,s.heap.get? b=some u->h'.get? b=some u)(hp:s.heap.objs.size<=a)(new:iT X.prog X.w (upd H a o) h' a o):
 Inv X pins σ (upd H a o) { s with heap:=h',toks:=t' }:=I.un (Un.laid k hp (I.bJ.fresh hp)) (I.bJ.laid k hp new)
theorem Inv.write {x e:Addr}{o:HO}{t':Nat}(I:Inv X pins σ H s)(mu:RX (H x))(he:e=x∨H e=some (.own x))(k:∀ b u,b≠e->s.heap.get? b=some u->h'.get? b=some u)(heo:∃ u,h'.get? e=some u)
 (new:iT X.prog X.w (upd H x o) h' x o):Inv X pins σ (upd H x o) { s with heap:=h',toks:=t' }:=I.un (Un.write mu he k heo) (I.bJ.write mu he k heo new)
theorem Inv.weak {σ':List (Option V)}(I:Inv X pins σ H s)(hl:σ'.length=σ.length)(w:∀(i:Nat) v,σ'[i]? = some (some v)->σ[i]? = some (some v)):Inv X pins σ' H s :=
 ⟨I.ok,I.os,I.bare,I.base,let⟨m,hn,hl'⟩:=I.loc;⟨m,hn,fun i x v e1 e2 e3=>hl' i x v e1 (w i v e2) e3⟩,I.cell,I.free,I.jJ,I.pin,I.bJ,hl.trans I.len⟩
theorem Inv.J7 {pins':List (Addr×Obj)}(I:Inv X pins σ H s)(h:∀ p∈pins',s.heap.get? p.1=some p.2/\H p.1=none/\p.1≠X.env.locals/\p.1∉X.fs/\∀ v,p.2.data≠.cell v):Inv X pins' σ H s :=
 ⟨I.ok,I.os,I.bare,I.base,I.loc,I.cell,I.free,I.jJ,fun p hp=>(List.mem_append.mp hp).elim (fun z=>I.pin p (List.mem_append_left _ z)) (h p),I.bJ,I.len⟩
theorem HB {N:List Str}(hN:N.Nodup){i j:Nat}{x:Str}(a:N[i]? = some x)(b:N[j]? = some x):i=j:=by
 obtain⟨h1,e1⟩:=List.getElem?_eq_some_iff.mp a
 obtain⟨h2,e2⟩:=List.getElem?_eq_some_iff.mp b
 exact(List.getElem_inj hN).mp (e1.trans e2.symm)
theorem C7 {M:Model}{A:Around}{E:Value->Shared->Prop}{i:Nat}{x:Str}{v:V}{u:Value}{Q:Unit->Shared->Prop}(I:Inv X pins σ H s)(hN:X.N.Nodup)(hi:X.N[i]? = some x)(hx:Loc X.env.scope x)(r:RelV v u)
  (h:∀ s',Inv X pins (σ.set i (some v)) H s'->(∃ a,Heap.SameBut a s.heap s'.heap/\(a=X.env.locals∨X.env.cells.lookup x=some a))->Q () s')(hf:X.fn x=true∨X.env.scope.names.lookup x=some .local:=by first|exact .inl rfl|exact .inr rfl|assumption):wpAny M A (storeName X.env x u) Q E s:=by
 obtain⟨m,hn,hl⟩:=id I.loc
 have hcls:(X.env.scope.kind == .class||(X.env.scope.kind == .module&&X.env.locals != X.env.globals))=false:=by rw[I.ok.kind];rfl
 have hiσ:i<σ.length:=by rw[I.len];exact(List.getElem?_eq_some_iff.mp hi).1
 have CP:=I.CP
 have tracked:∀{a:Addr}{h':Heap},(∃ o,s.heap.get? a=some o/\H a=none)->Heap.SameBut a s.heap h'->fT X.prog X.w H h':=fun{a h'} ha hs b ob e=>by
  obtain⟨_,_,hfree⟩:=ha
  refine(I.bJ b ob e).nX (fun c w' hc q=>(hs.2 c ?_).trans q) (fun _ q=>q) fun _ _ q=>q
  rintro rfl
  rcases hc with rfl|hc
  ·rw[hfree]at e;cases e
  ·rw[hfree]at hc;cases hc
 rcases hx with hk|hk
 ·refine wpAny_storeName_local hk hn (fun h' hn' hs=>?_) hcls
  obtain⟨oL,_,_,hoL,_⟩:=id hn
  refine h _ ⟨I.ok,I.os,I.bare,⟨fun b o e n hb hx=>?_,fun b o e n hb hx=>?_,I.base.free,fun b o e hx=>?_,I.base.pZ,I.base.mG,I.base.oE⟩,⟨_,hn',fun j y v' e1 e2 e3=>?_⟩,fun y c e=>?_,I.free,I.jJ,fun p hp=>?_,tracked ⟨oL,hoL,I.free⟩ hs,by simpa using I.len⟩ ⟨_,hs,.inl rfl⟩
  ·exact(hs.2 b (Nat.ne_of_lt (Nat.lt_of_lt_of_le (Heap.lt_size e) I.ok.above))).trans (I.base.keep b o e n hb hx)
  ·obtain⟨sl,e1⟩:=I.base.slot b o e n hb hx
   exact⟨sl,(hs.2 b (Nat.ne_of_lt (Nat.lt_of_lt_of_le (Heap.lt_size e) I.ok.above))).trans e1⟩
  ·obtain⟨o',e1⟩:=I.base.there b o e hx
   exact⟨o',(hs.2 b (Nat.ne_of_lt (Nat.lt_of_lt_of_le (Heap.lt_size e) I.ok.above))).trans e1⟩
  ·by_cases hj:j=i
   ·subst hj
    rw[hi]at e1;cases e1
    rw[List.getElem?_set_self hiσ]at e2
    cases e2
    exact⟨u,r,.inl ⟨hk,by simp⟩⟩
   ·rw[List.getElem?_set_ne (Ne.symm hj)]at e2
    obtain⟨u',r',q⟩:=hl j y v' e1 e2 e3
    refine⟨u',r',?_⟩
    rcases q with⟨k,e⟩|⟨k,c,e,z⟩
    ·refine .inl ⟨k,?_⟩
     have:y≠x:=fun e=>hj (HB hN e1 (e▸hi))
     simp [this,e]
    ·exact .inr ⟨k,c,e,z.sameBut hs (CP y c e)⟩
  ·obtain⟨w',z⟩:=I.cell y c e
   exact⟨w',z.sameBut hs (CP y c e)⟩
  ·obtain⟨e,n,ne,nf,d⟩:=I.pin p hp
   exact⟨(hs.2 p.1 ne).trans e,n,ne,nf,d⟩
 ·have hfn:X.fn x=true:=by
   rcases hf with z|z
   ·exact z
   ·rw[z]at hk;cases hk
  obtain⟨c,hc⟩:=I.ok.has x (.inl hk)
  obtain⟨w',z⟩:=I.cell x c hc
  refine wpAny_storeName_cell I.ok.kind hk hc z (fun h' hc' hs=>?_)
  obtain⟨oc,hoc,hocd⟩:=id z
  refine h { s with heap:=h' } ⟨I.ok,I.os,I.bare,⟨fun b o e n hb hx=>?_,fun b o e n hb hx=>?_,I.base.free,fun b o e hx=>?_,I.base.pZ,I.base.mG,I.base.oE⟩,⟨m,hn.sameBut hs (Ne.symm (CP x c hc)),fun j y v' e1 e2 e3=>?_⟩,fun y c' e=>?_,I.free,I.jJ,fun p hp=>?_,tracked ⟨oc,hoc,I.jJ x c hc⟩ hs,by simpa using I.len⟩ ⟨c,hs,.inr hc⟩
  ·exact(hs.2 b (Nat.ne_of_lt (Nat.lt_of_lt_of_le (Heap.lt_size e) (I.ok.cab x c hfn hc)))).trans (I.base.keep b o e n hb hx)
  ·obtain⟨sl,e1⟩:=I.base.slot b o e n hb hx
   exact⟨sl,(hs.2 b (Nat.ne_of_lt (Nat.lt_of_lt_of_le (Heap.lt_size e) (I.ok.cab x c hfn hc)))).trans e1⟩
  ·obtain⟨o',e1⟩:=I.base.there b o e hx
   exact⟨o',(hs.2 b (Nat.ne_of_lt (Nat.lt_of_lt_of_le (Heap.lt_size e) (I.ok.cab x c hfn hc)))).trans e1⟩
  ·by_cases hj:j=i
   ·subst hj
    rw[hi]at e1;cases e1
    rw[List.getElem?_set_self hiσ]at e2
    cases e2
    exact⟨u,r,.inr ⟨.inl hk,c,hc,hc'⟩⟩
   ·rw[List.getElem?_set_ne (Ne.symm hj)]at e2
    obtain⟨u',r',q⟩:=hl j y v' e1 e2 e3
    refine⟨u',r',?_⟩
    rcases q with q|⟨k,c',e,z'⟩
    ·exact .inl q
    ·refine .inr ⟨k,c',e,z'.sameBut hs ?_⟩
     rintro rfl
     exact hj (HB hN e1 (I.ok.inj _ _ _ e hc▸hi))
  ·by_cases hcc:c'=c
   ·subst hcc;exact⟨_,hc'⟩
   ·obtain⟨w2,z2⟩:=I.cell y c' e
    exact⟨w2,z2.sameBut hs hcc⟩
  ·obtain⟨e,n,ne,nf,d⟩:=I.pin p hp
   refine⟨(hs.2 p.1 ?_).trans e,n,ne,nf,d⟩
   intro q
   rw[q,hoc]at e
   have q':oc=p.2:=Option.some.inj e
   exact d w' (by rw[<-q'];exact hocd)
theorem RI {M:Model}{A:Around}{E:Value->Shared->Prop}{i:Nat}{x:Str}{v:V}{u:Value}{Q:Unit->Shared->Prop}(I:Inv X pins σ H s)(hN:X.N.Nodup)(hi:X.N[i]? = some x)(hx:Loc X.env.scope x)(r:RelV v u)
 (h:∀ s',Inv X pins (σ.set i (some v)) H s'->Q () s')(hf:X.fn x=true∨X.env.scope.names.lookup x=some .local:=by first|exact .inl rfl|exact .inr rfl|assumption):wpAny M A (storeName X.env x u) Q E s :=
 C7 I hN hi hx r (fun s' I' _=>h s' I') hf
theorem Inv.SR {s':Shared}{ch:List Addr}(I:Inv X pins σ H s)(ho:s'.os=s.os)(u:Un (sG X.stack) ch H H' s.heap s'.heap)(bJ:fT X.prog X.w H' s'.heap)(hg:AllBare s'.gens)
 (hch:∀ b∈ch,(b∈X.ex∨X.s₀.heap.objs.size<=b)/\b≠X.env.locals/\(∀ x c,X.env.cells.lookup x=some c->c≠b)/\∀ p∈X.pn++pins,p.1≠b):Inv X pins σ H' s':=by
 obtain⟨h',g',d',t',o'⟩:=s'
 have e:o'=s.os:=ho
 subst e
 exact I.call (g':=g') (t':=t') (d':=d') u bJ hg hch
end
noncomputable abbrev XK:=Value->Option Addr->Hp->Prop
noncomputable abbrev St:=List (Option V)
noncomputable abbrev VK:=V->Hp->Prop
noncomputable abbrev TE:=St->Hp->VK->Prop
noncomputable abbrev TT:=St->Hp->(Bool->Hp->Prop)->Prop
noncomputable abbrev TA:=St->Hp->(List V->Hp->Prop)->Prop
structure Ends where
 nx:St->Hp->Prop
 rt:VK
 bk:St->Hp->Prop:=fun _ _=>False
 ct:St->Hp->Prop:=fun _ _=>False
noncomputable abbrev TS:=Ends->St->Hp->Prop
inductive EP (X:Cx)(pins:List (Addr×Obj))(σ:St)(Q:VK)(u:Value)(s':Shared):Prop
 |mk (v:V)(H':Hp)(i:Inv X pins σ H' s')(r:RelV v u)(q:Q v H')
inductive TP (X:Cx)(pins:List (Addr×Obj))(σ:St)(Q:Bool->Hp->Prop)(b:Bool)(s':Shared):Prop
 |mk (H':Hp)(i:Inv X pins σ H' s')(q:Q b H')
inductive AP (X:Cx)(pins:List (Addr×Obj))(σ:St)(Q:List V->Hp->Prop)(us:List Value)(s':Shared):Prop
 |mk (vs:List V)(H':Hp)(i:Inv X pins σ H' s')(r:aO vs us)(q:Q vs H')
noncomputable def SP (X:Cx)(pins:List (Addr×Obj))(D:Ends)(f:Flow)(s':Shared):Prop :=
 match f with
 |.next=>∃ σ' H',Inv X pins σ' H' s'/\D.nx σ' H'
 |.brk=>∃ σ' H',Inv X pins σ' H' s'/\D.bk σ' H'
 |.cont=>∃ σ' H',Inv X pins σ' H' s'/\D.ct σ' H'
 |.ret u=>∃ v σ' H',Inv X pins σ' H' s'/\RelV v u/\D.rt v H'
noncomputable def PE (X:Cx)(e:Expr)(t:TE):Prop :=
 ∀(pins:List (Addr×Obj))(s:Shared)(σ:St)(H:Hp)(Q:VK),Inv X pins σ H s->t σ H Q->wpAny (model X.prog X.w) X.A (eval e X.env) (EP X pins σ Q) X.xe s
noncomputable def PT (X:Cx)(e:Expr)(t:TT):Prop :=
 ∀(pins:List (Addr×Obj))(s:Shared)(σ:St)(H:Hp)(Q:Bool->Hp->Prop),Inv X pins σ H s->t σ H Q->wpAny (model X.prog X.w) X.A (isTrue e X.env (eval e X.env)) (TP X pins σ Q) X.xe s
noncomputable def PW (X:Cx)(e:Expr)(t:TT):Prop :=
 ∀(whole:Sem Value)(pins:List (Addr×Obj))(s:Shared)(σ:St)(H:Hp)(Q:Bool->Hp->Prop),Inv X pins σ H s->t σ H Q->wpAny (model X.prog X.w) X.A (isTrue e X.env whole) (TP X pins σ Q) X.xe s
theorem PW.pt {X:Cx}{e:Expr}{t:TT}(h:PW X e t):PT X e t:=h _
noncomputable def PA (X:Cx)(es:List Expr)(t:TA):Prop :=
 ∀(pos:Pos)(pins:List (Addr×Obj))(s:Shared)(σ:St)(H:Hp)(Q:List V->Hp->Prop),Inv X pins σ H s->t σ H Q->wpAny (model X.prog X.w) X.A (spliced (backTo pos (starEach es X.env))) (AP X pins σ Q) X.xe s
noncomputable def PS (X:Cx)(st:Stmt)(t:TS):Prop :=
 ∀(pins:List (Addr×Obj))(s:Shared)(σ:St)(H:Hp)(D:Ends),Inv X pins σ H s->t D σ H->wpAny (model X.prog X.w) X.A (exec st X.env) (SP X pins D) X.xe s
noncomputable def jP (X:Cx)(st:List Stmt)(t:TS):Prop :=
 ∀(pins:List (Addr×Obj))(s:Shared)(σ:St)(H:Hp)(D:Ends),Inv X pins σ H s->t D σ H->wpAny (model X.prog X.w) X.A (execs st X.env) (SP X pins D) X.xe s
theorem aV {α:Type}{t:Sem α}{Q Q':α->Shared->Prop}{M:Model}{A:Around}{E:Value->Shared->Prop}{s:Shared}(h:wpAny M A t Q E s)(hQ:∀ a s,Q a s->Q' a s):wpAny M A t Q' E s:=wpAny_mono h hQ fun _ _ x=>x
end L2
namespace L2
open PySem PySem.Spec PyProof.Rows
section
variable {X:Cx}
theorem bin {a b:Expr}{ta tb:TE}(ha:PE X a ta)(hb:PE X b tb){pins:List (Addr×Obj)}{s:Shared}{σ:St}{H:Hp}{R:V->V->Hp->Prop}(I:Inv X pins σ H s)(h:ta σ H fun x H1=>tb σ H1 fun y H2=>R x y H2)
 {α:Type}{Q:α->Shared->Prop}{f:Value->Value->Sem α}
 (hf:∀ v u s2 x y H2,Inv X pins σ H2 s2->RelV x v->RelV y u->R x y H2->wpAny (model X.prog X.w) X.A (f v u) Q X.xe s2):
 wpAny (model X.prog X.w) X.A (eval a X.env) (fun v s₁=>wpAny (model X.prog X.w) X.A (eval b X.env) (fun u s₂=>wpAny (model X.prog X.w) X.A (f v u) Q X.xe s₂) X.xe s₁) X.xe s:=by
 refine aV (ha pins s σ H _ I h) fun v s1 ⟨x,H1,I1,r1,q1⟩=>?_
 refine aV (hb pins s1 σ H1 _ I1 q1) fun u s2 ⟨y,H2,I2,r2,q2⟩=>?_
 exact hf v u s2 x y H2 I2 r1 r2 q2
noncomputable def QE (i:Nat):TE:=fun σ H Q=>∃ v,σ[i]? = some (some v)/\Q v H
noncomputable def tC (v:V):TE:=fun _ H Q=>Q v H
theorem MB {i:Nat}{x:Str}{pos:Pos}(hN:X.N[i]? = some x)(hv:SI X.env.scope x)(hd:(x==("__debug__" : Str))=false:=by decide)(hcd:(x==("__classdict__" : Str))=false:=by decide):PE X (.Name x pos) (QE i):=by
 intro pins s σ H Q I h
 obtain⟨v,e,h⟩:=h
 obtain⟨m,hn,hl⟩:=I.loc
 obtain⟨u,r,l⟩:=hl i x v hN e hv
 have fin:EP X pins σ Q u s:=⟨v,H,I,r,h⟩
 rcases l with⟨hk,hm⟩|⟨hk,c,hc,hcell⟩
 ·exact wpAny_Name (wpAny_loadName_local I.ok.kind hk hn hm fin) hd
 ·rcases hk with hk|hk
  ·exact wpAny_Name (wpAny_loadName_cell I.ok.kind hk hc hcell fin) hd
  ·exact wpAny_Name (wpAny_loadName_free I.ok.kind hk hc hcell fin hcd) hd
theorem XY {i j pos}:PE X (.Constant (.int i) j pos) (tC (.int i)):=fun _ _ _ H _ I h=>wpAny_Constant_int ⟨.int i,H,I.tok _,⟨_,rfl⟩,h⟩
theorem Bg {b j pos}:PE X (.Constant (.bool b) j pos) (tC (.bl b)):=fun _ _ _ H _ I h=>Constant_bool ⟨.bl b,H,I,rfl,h⟩
theorem Al {j pos}:PE X (.Constant .none j pos) (tC .non):=fun _ _ _ H _ I h=>Constant_none ⟨.non,H,I,rfl,h⟩
theorem WU {x j pos}:PE X (.Constant (.str x) j pos) (tC (.str x)):=fun _ _ _ H _ I h=>Calls.Constant_str ⟨.str x,H,I.tok _,⟨_,rfl⟩,h⟩
noncomputable def Gl (X:Cx)(x:Str):Prop:=X.env.kindOf x=some .globalImplicit
theorem xG {E:Value->Shared->Prop}{pins:List (Addr×Obj)}{s:Shared}{σ:St}{H:Hp}{x:Str}{u:Value}{pos:Pos}{Q:Value->Shared->Prop}(I:Inv X pins σ H s)(hg:Gl X x)(hm:X.mg x=some u)(h:Q u s)
 (hd:(x==("__debug__" : Str))=false:=by decide):wpAny (model X.prog X.w) X.A (eval (.Name x pos) X.env) Q E s :=
 Calls.Name_function_global I.ok.kind hg (Calls.loadGlobal_global (by rw[I.ok.glob];exact I.mod.glob.keeps I.bk) hm h) hd
theorem kL {E:Value->Shared->Prop}{pins:List (Addr×Obj)}{s:Shared}{σ:St}{H:Hp}{x:Str}{u:Value}{pos:Pos}{Q:Value->Shared->Prop}(I:Inv X pins σ H s)(hg:Gl X x)(hm:X.mg x=none)(hv:bootBuiltins x=some u)(h:Q u s)
 (hn:x ≠"__name__":=by decide)(hd:(x==("__debug__" : Str))=false:=by decide):wpAny (model X.prog X.w) X.A (eval (.Name x pos) X.env) Q E s:=by
 obtain⟨mb,h1,h2⟩:=I.mod.blt
 exact Calls.Name_function_global I.ok.kind hg (Calls.loadGlobal_builtin (by rw[I.ok.glob];exact I.mod.glob.keeps I.bk) hm (by rw[I.ok.blt];exact h1.keeps I.bk) ((h2 x hn).trans hv) h) hd
theorem S4 {x:Str}{v:V}{u:Value}{pos:Pos}(hg:Gl X x)(hm:X.mg x=some u)(r:RelV v u)(hd:(x==("__debug__" : Str))=false:=by decide):PE X (.Name x pos) (tC v) :=
 fun _ _ _ H _ I h=>xG I hg hm ⟨v,H,I,r,h⟩ hd
theorem U3 {x:Str}{v:V}{u:Value}{pos:Pos}(hg:Gl X x)(hm:X.mg x=none)(hv:bootBuiltins x=some u)(r:RelV v u)(hn:x ≠"__name__":=by decide)(hd:(x==("__debug__" : Str))=false:=by decide):PE X (.Name x pos) (tC v) :=
 fun _ _ _ H _ I h=>kL I hg hm hv ⟨v,H,I,r,h⟩ hn hd
variable {a b:Expr}{ta tb:TE}{pos:Pos}
theorem RelV.RN {x:V}{v:Value}(r:RelV x v):(v==Value.none)=decide (x=.non):=by
 cases x with
 |non=>cases r;rfl
 |bl _=>cases r;rfl
 |int _=>obtain⟨t,rfl⟩:=r;rfl
 |str _=>obtain⟨t,rfl⟩:=r;rfl
 |byt _=>obtain⟨t,rfl⟩:=r;rfl
 |flt _=>obtain⟨t,rfl⟩:=r;rfl
 |ref _=>cases r;rfl
 |ty _=>cases r;rfl
variable {tA tB':TT}{rest:List Expr}
noncomputable def Gk (t u:TT):TT:=fun σ H Q=>t σ H fun c H1=>if c=true then u σ H1 Q else Q false H1
noncomputable def Kh (t u:TT):TT:=fun σ H Q=>t σ H fun c H1=>if c=true then Q true H1 else u σ H1 Q
noncomputable def Hd (t:TT):TT:=fun σ H Q=>t σ H fun c H1=>Q (!c) H1
theorem VT (ha:PT X a tA):PW X (.BoolOp .And [a] pos) tA:=by
 intro wh pins s σ H Q I h
 refine isTrue_and (aV (ha pins s σ H Q I h) fun c s1 e=>?_)
 cases c with
 |true=>exact isTrue_and_nil e
 |false=>exact e
theorem WH (ha:PT X a tA):PW X (.BoolOp .Or [a] pos) tA:=by
 intro wh pins s σ H Q I h
 refine isTrue_or (aV (ha pins s σ H Q I h) fun c s1 e=>?_)
 cases c with
 |false=>exact isTrue_or_nil e
 |true=>exact e
theorem Z6 (ha:PT X a tA)(hb:PW X (.BoolOp .And (b::rest) pos) tB'):PW X (.BoolOp .And (a::b::rest) pos) (Gk tA tB'):=by
 intro wh pins s σ H Q I h
 refine isTrue_and (aV (ha pins s σ H _ I h) fun c s1 ⟨H1,I1,q1⟩=>?_)
 cases c with
 |true=>exact hb wh pins s1 σ H1 Q I1 q1
 |false=>exact⟨H1,I1,q1⟩
theorem Eo (ha:PT X a tA)(hb:PW X (.BoolOp .Or (b::rest) pos) tB'):PW X (.BoolOp .Or (a::b::rest) pos) (Kh tA tB'):=by
 intro wh pins s σ H Q I h
 refine isTrue_or (aV (ha pins s σ H _ I h) fun c s1 ⟨H1,I1,q1⟩=>?_)
 cases c with
 |true=>exact⟨H1,I1,q1⟩
 |false=>exact hb wh pins s1 σ H1 Q I1 q1
theorem WN (ha:PT X a tA):PT X (.UnaryOp .Not a pos) (Hd tA):=by
 intro pins s σ H Q I h
 exact isTrue_not (aV (ha pins s σ H (fun c H1=>Q (!c) H1) I h) fun c s1 ⟨H1,I1,q⟩=>⟨H1,I1,q⟩)
theorem WL {op}{t:TE}(h:PE X a t):PE X (.BoolOp op [a] pos) t:=fun pins s σ H Q I hw=>BoolOp_one (h pins s σ H Q I hw)
end
end L2
namespace L2
open PySem PySem.Spec PyProof.Rows
noncomputable def dU (K:PySem.W.Frag)(H:Hp)(a:Addr)(xs:List V):Prop :=
 Rd H a (.lst xs) ∨
 ∃(o:Obj)(aD:Array Value)(n:Nat),K.lookup a=some o/\o.cls=.type "list" /\ o.dict=none/\o.data=.seq aD n/\aD.size<=sizeLine/\aO xs aD.toList
noncomputable def dS (K:PySem.W.Frag)(H:Hp)(a:Addr)(xs:List V):Prop :=
 Rd H a (.tup xs) ∨
 ∃(o:Obj)(aD:Array Value)(n:Nat),K.lookup a=some o/\o.cls=.type "tuple" /\ o.dict=none/\o.data=.seq aD n/\aD.size<=sizeLine/\aO xs aD.toList
noncomputable def Hu:Value->Option V
 |.none=>some .non
 |.bool b=>some (.bl b)
 |.int i _=>some (.int i)
 |.str x _=>some (.str x)
 |.bytes b _=>some (.byt b)
 |.float b _=>some (.flt b)
 |.ref a=>some (.ref a)
 |.type n=>some (.ty n)
 |_=>none
theorem RelV.abs {x:V}{u:Value}(r:RelV x u):Hu u=some x:=by
 cases x with
 |non=>cases r;rfl
 |bl _=>cases r;rfl
 |int _=>obtain⟨t,rfl⟩:=r;rfl
 |str _=>obtain⟨t,rfl⟩:=r;rfl
 |byt _=>obtain⟨t,rfl⟩:=r;rfl
 |flt _=>obtain⟨t,rfl⟩:=r;rfl
 |ref _=>cases r;rfl
 |ty _=>cases r;rfl
theorem RelV.inj {x y:V}{u:Value}(r:RelV x u)(q:RelV y u):x=y:=Option.some.inj (r.abs.symm.trans q.abs)
theorem aO.inj:∀{xs ys:List V}{us:List Value},aO xs us->aO ys us->xs=ys
 |_,_,_,.nil,.nil=>rfl
 |_,_,_,.cons r t,.cons r' t'=>by rw[r.inj r',aO.inj t t']
section
variable {X:Cx}{pins:List (Addr×Obj)}{σ:St}{H:Hp}{s:Shared}{a:Addr}{xs ys:List V}
theorem dU.of {K:PySem.W.Frag}(h:H a=some (.lst xs)):dU K H a xs:=.inl (.inl h)
theorem dS.of {K:PySem.W.Frag}(h:H a=some (.tup xs)):dS K H a xs:=.inl (.inl h)
theorem Inv.list (I:Inv X pins σ H s)(h:dU X.K H a xs):∃ aD:List Value,aO xs aD/\PlainL s.heap a aD.toArray/\xs.length<=sizeLine:=by
 rcases h with h|⟨o,aD,n,hk,hc,hd,hs,hz,r⟩
 ·obtain⟨z,aD,n,r,e⟩:=h.ok I.bJ
  exact⟨aD,r,⟨_,n,e,rfl,rfl,rfl⟩,z⟩
 ·refine⟨aD.toList,r,⟨o,n,I.iA a o hk,hc,hd,by simpa using hs⟩,?_⟩
  have e:=r.length
  simp only[Array.length_toList]at e
  omega
theorem Inv.tuple (I:Inv X pins σ H s)(h:dS X.K H a xs):∃ aD:List Value,aO xs aD/\IsTup s.heap a aD.toArray/\xs.length<=sizeLine:=by
 rcases h with h|⟨o,aD,n,hk,hc,_,hs,hz,r⟩
 ·obtain⟨z,aD,r,p⟩:=h.ok I.bJ
  exact⟨aD,r,p.tup,z⟩
 ·refine⟨aD.toList,r,⟨o,I.iA a o hk,hc,n,by simpa using hs⟩,?_⟩
  have e:=r.length
  simp only[Array.length_toList]at e
  omega
theorem Inv.pG (I:Inv X pins σ H s)(h:dU X.K H a xs)(h':dU X.K H a ys):xs=ys:=by
 obtain⟨aD,r,⟨o,n,e,_,_,d⟩,_⟩:=I.list h
 obtain⟨kD,r',⟨o',n',e',_,_,d'⟩,_⟩:=I.list h'
 rw[e]at e';cases e'
 rw[d]at d'
 injection d' with d1 _
 have:aD=kD:=by simpa using congrArg Array.toList d1
 subst this
 exact r.inj r'
theorem Inv.Fm (I:Inv X pins σ H s)(h:dS X.K H a xs):∃ o,s.heap.get? a=some o/\o.dict=none:=by
 rcases h with h|⟨o,aD,n,hk,hc,hd,hs,hz,r⟩
 ·obtain⟨z,aD,r,o,e,_,_,d⟩:=h.ok I.bJ
  exact⟨o,e,d⟩
 ·exact⟨o,I.iA a o hk,hd⟩
theorem Inv.qU (I:Inv X pins σ H s)(h:dS X.K H a xs)(h':dS X.K H a ys):xs=ys:=by
 obtain⟨aD,r,⟨o,e,_,n,d⟩,_⟩:=I.tuple h
 obtain⟨kD,r',⟨o',e',_,n',d'⟩,_⟩:=I.tuple h'
 rw[e]at e';cases e'
 rw[d]at d'
 injection d' with d1 _
 have:aD=kD:=by simpa using congrArg Array.toList d1
 subst this
 exact r.inj r'
end
noncomputable abbrev Cx.qZ (X:Cx)(E:Value->Shared->Prop):Cx:={ X with xe:=E }
noncomputable abbrev Cx.gT (X:Cx):Cx:=X.qZ fun _ _=>False
theorem Cx.Ok.qZ {X:Cx}(ok:X.Ok)(E:Value->Shared->Prop):(X.qZ E).Ok :=
 ⟨ok.mod,ok.kind,ok.glob,ok.blt,ok.above,ok.inj,ok.has,ok.cab,ok.hd,ok.frames,ok.stk,ok.exf,ok.bs,ok.bsz,ok.noex,ok.exfs,ok.kC,ok.frf⟩
theorem Cx.Ok.nK {X:Cx}{E:Value->Shared->Prop}(ok:(X.qZ E).Ok):X.Ok :=
 ⟨ok.mod,ok.kind,ok.glob,ok.blt,ok.above,ok.inj,ok.has,ok.cab,ok.hd,ok.frames,ok.stk,ok.exf,ok.bs,ok.bsz,ok.noex,ok.exfs,ok.kC,ok.frf⟩
section
variable {X:Cx}{pins:List (Addr×Obj)}{σ:St}{H:Hp}{s:Shared}{E:Value->Shared->Prop}
theorem Inv.qZ (I:Inv X pins σ H s)(E:Value->Shared->Prop):Inv (X.qZ E) pins σ H s:=⟨I.ok.qZ E,I.os,I.bare,I.base,I.loc,I.cell,I.free,I.jJ,I.pin,I.bJ,I.len⟩
theorem Inv.nK (I:Inv (X.qZ E) pins σ H s):Inv X pins σ H s:=⟨I.ok.nK,I.os,I.bare,I.base,I.loc,I.cell,I.free,I.jJ,I.pin,I.bJ,I.len⟩
theorem SP.nK {D:Ends}{f:Flow}{s':Shared}(h:SP (X.qZ E) pins D f s'):SP X pins D f s':=by
 cases f with
 |next=>obtain⟨σ',H',I,q⟩:=h;exact⟨σ',H',I.nK,q⟩
 |brk=>obtain⟨σ',H',I,q⟩:=h;exact⟨σ',H',I.nK,q⟩
 |cont=>obtain⟨σ',H',I,q⟩:=h;exact⟨σ',H',I.nK,q⟩
 |ret u=>obtain⟨v,σ',H',I,r,q⟩:=h;exact⟨v,σ',H',I.nK,r,q⟩
theorem jP.gT {st:List Stmt}{t:TS}(h:jP X.gT st t):jP X st t:=fun pins s σ H D I hw =>
 wpAny_mono (h pins s σ H D (I.qZ _) hw) (fun _ _ q=>q.nK) fun _ _ z=>False.elim z
end
section
variable {X:Cx}{st:Stmt}{rest:List Stmt}{t u:TS}{e:Expr}{te:TE}{pos:Pos}
noncomputable def Dv:TS:=fun D σ H=>D.nx σ H
noncomputable def Ic (t u:TS):TS:=fun D σ H=>t { D with nx:=u D } σ H
theorem T9:jP X [] Dv:=fun _ _ σ H _ I h=>wpAny_execs_nil ⟨σ,H,I,h⟩
theorem QA (h1:PS X st t)(h2:jP X rest u):jP X (st::rest) (Ic t u):=by
 intro pins s σ H D I h
 refine wpAny_execs_cons (aV (h1 pins s σ H { D with nx:=u D } I h) fun f s1 q=>?_)
 cases f with
 |next =>
 obtain⟨σ',H',I',q⟩:=q
 exact h2 pins s1 σ' H' D I' q
 |ret v=>exact q
 |brk=>exact q
 |cont=>exact q
theorem Inv.quiet {pins:List (Addr×Obj)}{σ:St}{H:Hp}{s:Shared}(I:Inv X pins σ H s):interactive X.env=false:=by simp [interactive,I.ok.kind]
noncomputable def Bq (te:TE):TS:=fun D σ H=>te σ H fun _ H1=>D.nx σ H1
theorem UH (he:PE X e te)(hs:swapsWith e none pos.line X.env=pure false:=by rfl):PS X (.Expr e pos) (Bq te):=by
 intro pins s σ H D I h
 exact wpAny_Expr_any (aV (he pins s σ H _ I h) fun v s1 ⟨x,H1,I1,r1,q1⟩=>⟨σ,H1,I1,q1⟩) I.quiet hs
noncomputable def Gx (te:TE):TS:=fun D σ H=>te σ H D.rt
theorem XG (he:PE X e te):PS X (.Return (some e) pos) (Gx te):=by
 intro pins s σ H D I h
 exact wpAny_Return_some (aV (he pins s σ H _ I h) fun v s1 ⟨x,H1,I1,r1,q1⟩=>⟨x,σ,H1,I1,r1,q1⟩)
noncomputable def Ce:TS:=fun D _ H=>D.rt .non H
theorem VM:PS X (.Return none pos) Ce:=fun _ _ σ H _ I h=>wpAny_Return_none ⟨.non,σ,H,I,rfl,h⟩
noncomputable def Jd (c:TT)(t u:TS):TS:=fun D σ H=>c σ H fun b H1=>if b=true then t D σ H1 else u D σ H1
theorem Dz {c:Expr}{a b:List Stmt}{tc:TT}(hc:PT X c tc)(ha:jP X a t)(hb:jP X b u):PS X (.If c a b pos) (Jd tc t u):=by
 intro pins s σ H D I h
 refine wpAny_If (aV (hc pins s σ H _ I h) fun d s1 ⟨H1,I1,q1⟩=>?_)
 cases d with
 |true=>exact ha pins s1 σ H1 D I1 q1
 |false=>exact hb pins s1 σ H1 D I1 q1
noncomputable def WG:TS:=fun _ _ _=>False
theorem QK:PS X st WG:=fun _ _ _ _ _ _ h=>h.elim
end
noncomputable abbrev TG:=V->St->Hp->(St->Hp->Prop)->Prop
noncomputable abbrev CV:=List V->St->Hp->(St->Hp->Prop)->Prop
noncomputable def PG (X:Cx)(target:Expr)(t:TG):Prop :=
 ∀(pins:List (Addr×Obj))(s:Shared)(σ:St)(H:Hp)(v:V)(u:Value)(Q:St->Hp->Prop),Inv X pins σ H s->RelV v u->t v σ H Q ->
 wpAny (model X.prog X.w) X.A (assign target X.env u) (fun _ s'=>∃ σ' H',Inv X pins σ' H' s'/\Q σ' H') X.xe s
noncomputable def BG (X:Cx)(ts:List Expr)(t:CV):Prop :=
 ∀(pins:List (Addr×Obj))(s:Shared)(σ:St)(H:Hp)(vs:List V)(us:List Value)(Q:St->Hp->Prop),Inv X pins σ H s->aO vs us->t vs σ H Q ->
 wpAny (model X.prog X.w) X.A (assignInOrder ((assignEach ts X.env).map (·.2)) us) (fun _ s'=>∃ σ' H',Inv X pins σ' H' s'/\Q σ' H') X.xe s
noncomputable abbrev RP:=V->V->V->Hp->(Hp->Prop)->Prop
noncomputable def YO (X:Cx)(t:RP):Prop :=
 ∀(pins:List (Addr×Obj))(s:Shared)(σ:St)(H:Hp)(o i v:V)(ov iv u:Value)(Q:Hp->Prop),Inv X pins σ H s->RelV o ov->RelV i iv->RelV v u->t o i v H Q ->
 wpAny (model X.prog X.w) X.A (setItem ov iv u) (fun _ s'=>∃ H',Inv X pins σ H' s'/\Q H') X.xe s
section
variable {X:Cx}{pos:Pos}
noncomputable def A6 (i:Nat):TG:=fun v σ H Q=>Q (σ.set i (some v)) H
theorem xB {i:Nat}{x:Str}(hN:X.N.Nodup)(hi:X.N[i]? = some x)(hx:Loc X.env.scope x)(hf:X.fn x=true∨X.env.scope.names.lookup x=some .local:=by first|exact .inl rfl|exact .inr rfl|assumption):PG X (.Name x pos) (A6 i):=by
 intro pins s σ H v u Q I r h
 exact wpAny_assign_Name (RI I hN hi hx r (fun s' I'=>⟨_,H,I',h⟩) hf)
noncomputable def Jj:CV:=fun vs σ H Q=>vs=[]/\Q σ H
noncomputable def Bl (t:TG)(u:CV):CV:=fun vs σ H Q=>∃ v r,vs=v::r/\t v σ H fun σ' H'=>u r σ' H' Q
theorem VP:BG X [] Jj:=by
 intro pins s σ H vs us Q I r h
 obtain⟨e,h⟩:=h
 subst e
 cases r
 exact assignInOrder_nil ⟨σ,H,I,h⟩
theorem QS {e:Expr}{es:List Expr}{t:TG}{u:CV}(h1:PG X e t)(h2:BG X es u)
 (hs:(assignEach (e::es) X.env).map (·.2)=assign e X.env::(assignEach es X.env).map (·.2):=by rfl):BG X (e::es) (Bl t u):=by
 intro pins s σ H vs us Q I r h
 obtain⟨v,vr,e1,h⟩:=h
 subst e1
 cases r with
 |cons r rr =>
 rw[hs]
 refine assignInOrder_cons (aV (h1 pins s σ H _ _ _ I r h) fun _ s1 ⟨σ1,H1,I1,q1⟩=>?_)
 exact h2 pins s1 σ1 H1 _ _ Q I1 rr q1
noncomputable def ZY (K:PySem.W.Frag)(n:Nat)(t:CV):TG:=fun v σ H Q=>∃ a xs,v=.ref a/\dS K H a xs/\xs.length=n/\t xs σ H Q
theorem Ak {es:List Expr}{k:Nat}{t:CV}{n:Nat}(hc:X.calm=true)(h:BG X es t)
 (hn:(assignEach es X.env).length=n:=by rfl)(eB:(assignEach es X.env).findIdx? (·.1)=none:=by rfl):PG X (.Tuple es k pos) (ZY X.K n t):=by
 intro pins s σ H v u Q I r hw
 obtain⟨a,xs,e1,hq,hl,hw⟩:=hw
 subst e1
 cases r
 obtain⟨aD,rv,ht,hz⟩:=I.tuple hq
 refine assign_Tuple_tuple (I.ok.hd hc) ht (by simp [hn,<-hl,rv.length]) eB fun h' hx=>?_
 have I1:Inv X pins σ H { s with heap:=h' }:=I.kept (t':=s.toks) fun b o e=>hx b o (Nat.ne_of_lt (Heap.lt_size e)) e
 exact h pins _ σ H xs _ Q I1 (by simpa using rv) hw
noncomputable def Hg (to ti:TE)(t:RP):TG:=fun v σ H Q=>to σ H fun o H1=>ti σ H1 fun i H2=>t o i v H2 fun H3=>Q σ H3
theorem W4 {o i:Expr}{to ti:TE}{t:RP}(ho:PE X o to)(hi:PE X i ti)(hs:YO X t)
 (ha:∀ v,assign (.Subscript o i pos) X.env v=(do
  let ov <-holding [v] (eval o X.env)
  let iv <-holding [v,ov] (eval i X.env)
  standAt pos
  holding [v,ov,iv] (setItem ov iv v)
  release [v,ov,iv] []):=by intro _;rfl):PG X (.Subscript o i pos) (Hg to ti t):=by
 intro pins s σ H v u Q I r h
 rw[ha]
 refine wpAny_bind (wpAny_holding (aV (ho pins s σ H _ I h) fun ov s1 ⟨x,H1,I1,r1,q1⟩=>?_))
 refine wpAny_bind (wpAny_holding (aV (hi pins s1 σ H1 _ I1 q1) fun iv s2 ⟨y,H2,I2,r2,q2⟩=>?_))
 refine wpAny_bind (wpAny_standAt (wpAny_bind (wpAny_holding (aV (hs pins s2 σ H2 x y v ov iv u _ I2 r1 r2 r q2) fun _ s3 ⟨H3,I3,q3⟩=>?_))))
 exact wpAny_release ⟨σ,H3,I3,q3⟩
noncomputable def Gq (te:TE)(g:TG):TS:=fun D σ H=>te σ H fun x H1=>g x σ H1 D.nx
theorem ZI {tg e:Expr}{te:TE}{g:TG}(he:PE X e te)(hg:PG X tg g)(hs:swapsWithSole [tg] e pos.line X.env=pure false:=by rfl)(hw:swappedStores [tg] e X.env=pure none:=by rfl)
 (h1:(assignEach [tg] X.env).map (·.2)=[assign tg X.env]:=by rfl):PS X (.Assign [tg] e pos) (Gq te g):=by
 intro pins s σ H D I h
 refine wpAny_Assign_stores (aV (he pins s σ H _ I h) fun v s1 ⟨x,H1,I1,r1,q1⟩=>?_) hs hw
 rw[h1]
 exact aV (hg pins s1 σ H1 x v _ I1 r1 q1) fun _ s2 q=>q
end
section
variable {X:Cx}{pos:Pos}
noncomputable def YL (c:TT)(tb:TS):TS:=fun D σ H=>∃ W:Nat->St->Hp->Prop,(∃ m,W m σ H)/\∀ m σ H,W m σ H ->
 c σ H fun b H1=>if b=true then ∃ N:St->Hp->Prop,(∀ σ' H',N σ' H'->∃ m',m'<m/\W m' σ' H')/\tb { D with nx:=N,ct:=N,bk:=D.nx } σ H1 else D.nx σ H1
theorem Q2 {c:Expr}{body:List Stmt}{tc:TT}{tb:TS}(hp:PassesOwn (model X.prog X.w) X.A X.env X.xe)(hc:PT X c tc)(hb:jP X body tb):PS X (.While c body [] pos) (YL tc tb):=by
 intro pins s σ H D I h
 obtain⟨W,⟨m0,w0⟩,turn⟩:=h
 refine wpAny_While (codeAny_whileLoop (fun n s'=>∃ σ' H',Inv X pins σ' H' s'/\W n σ' H') ?_ m0 ⟨σ,H,I,w0⟩)
 rintro n s1 ⟨σ1,H1,I1,w1⟩
 refine wpAny_passesOwn hp (aV (hc pins s1 σ1 H1 _ I1 (turn n σ1 H1 w1)) fun b s2 ⟨H2,I2,q2⟩=>?_)
 cases b with
 |true =>
  obtain⟨N,hN,q2⟩:=q2
  rw[if_pos rfl]
  refine wpAny_passesOwn hp (aV (hb pins s2 σ1 H2 _ I2 q2) fun f s3 q3=>?_)
  cases f with
  |next =>
   obtain⟨σ3,H3,I3,n3⟩:=q3
   obtain⟨m',hm,w3⟩:=hN σ3 H3 n3
   exact⟨m',hm,σ3,H3,I3,w3⟩
  |cont =>
   obtain⟨σ3,H3,I3,n3⟩:=q3
   obtain⟨m',hm,w3⟩:=hN σ3 H3 n3
   exact⟨m',hm,σ3,H3,I3,w3⟩
  |brk=>exact q3
  |ret v=>exact q3
 |false =>
  rw[if_neg Bool.false_ne_true]
  exact wpAny_execs_nil ⟨σ1,H2,I2,q2⟩
end
structure It where
 go:Nat->Hp->Prop
 yld:Nat->Hp->V->Hp->Prop
 stop:Nat->Hp->Prop
noncomputable def mF (X:Cx)(pins:List (Addr×Obj))(H:Hp)(b:Addr):Prop :=
 H b=none/\b≠X.env.locals/\b∉X.fs/\(b∈X.ex∨X.s₀.heap.objs.size<=b)/\(∀ x c,X.env.cells.lookup x=some c->c≠b)/\∀ p∈X.pn++pins,p.1≠b
theorem Inv.GP {X:Cx}{pins:List (Addr×Obj)}{σ:St}{H H':Hp}{s:Shared}{b:Addr}(I:Inv X pins σ H s)(hb:s.heap.objs.size<=b)(hn:H' b=none):mF X pins H' b:=by
 refine⟨hn,Nat.ne_of_gt (Nat.lt_of_lt_of_le I.lt hb),I.Z4 hb,.inr (Nat.le_trans I.sz hb),fun x c e z=>?_,fun p hp z=>?_⟩
 ·obtain⟨v,q⟩:=I.cell x c e
  exact absurd (Nat.lt_of_lt_of_le q.lt (by rw[z];exact hb)) (Nat.lt_irrefl _)
 ·exact absurd (Nat.lt_of_lt_of_le (Heap.lt_size (I.pin p hp).1) (by rw[z];exact hb)) (Nat.lt_irrefl _)
structure Turn (P:Program)(w:World)(K:PySem.W.Frag)(tg:Expr)(J:It)(fp:List Addr)(it:Addr)(tn:Nat->Heap->Prop):Prop where
 mem:it∈fp
 obj:∀ i h,tn i h->∀ b∈fp,∃ o,h.get? b=some o/\∀ v,o.data≠.cell v
 keep:∀ i h h',tn i h->(∀ b∈fp,∀ o,h.get? b=some o->h'.get? b=some o)->tn i h'
 item:∀(X:Cx),X.prog=P->X.w=w->X.K=K->X.calm=true->∀(i:Nat)(pins:List (Addr×Obj))(s:Shared)(σ:St)(H:Hp)(E:Value->Shared->Prop),Inv X pins σ H s->(∀ b∈fp,mF X pins H b)->tn i s.heap->J.go i H ->
 wpAny (model P w) X.A (pyNext (.ref it)) (fun r s1=>∃ u,r=some u /\
  wpAny (model P w) X.A (letOwnedTupleGo tg (.ref it) u) (fun _ s2=>∃ x H',Inv X pins σ H' s2/\RelV x u/\J.yld i H x H'/\tn (i+1) s2.heap/\∀ b∈fp,H' b=none) E s1) E s
 done:∀(X:Cx),X.prog=P->X.w=w->X.K=K->X.calm=true->∀(i:Nat)(pins:List (Addr×Obj))(s:Shared)(σ:St)(H:Hp)(E:Value->Shared->Prop),Inv X pins σ H s->(∀ b∈fp,mF X pins H b)->tn i s.heap->J.stop i H ->
 wpAny (model P w) X.A (pyNext (.ref it)) (fun r s1=>r=none/\Inv X pins σ H s1) E s
 self:∀(A:Around)(i:Nat)(s:Shared)(Q:Value->Shared->Prop)(E:Value->Shared->Prop),tn i s.heap->Q (.ref it) s->wpAny (model P w) A (pyIter (.ref it)) Q E s
noncomputable abbrev TI:=St->Hp->(It->Hp->Prop)->Prop
noncomputable def MJ (X:Cx)(pins:List (Addr×Obj))(σ:St)(tg:Expr)(R:It->Hp->Prop)(itv:Value)(s2:Shared):Prop :=
 ∃(it:Addr)(fp:List Addr)(tn:Nat->Heap->Prop)(J:It)(H':Hp),itv=.ref it/\Inv X pins σ H' s2/\Turn X.prog X.w X.K tg J fp it tn/\tn 0 s2.heap/\(∀ b∈fp,mF X pins H' b)/\R J H'
noncomputable def PI (X:Cx)(tg iter:Expr)(wi:TI):Prop :=
 ∀(pins:List (Addr×Obj))(s:Shared)(σ:St)(H:Hp)(R:It->Hp->Prop),Inv X pins σ H s->wi σ H R ->
 wpAny (model X.prog X.w) X.A (eval iter X.env) (fun v s1=>wpAny (model X.prog X.w) X.A (pyIter v) (MJ X pins σ tg R) X.xe s1) X.xe s
theorem AE {M:Model}{A:Around}{E:Value->Shared->Prop}{s:Shared}{tg:Expr}{it:Addr}{u:Value}{o:Obj}{n:String}{vs:Array Value}{Q:Unit->Shared->Prop}(ho:s.heap.get? it=some o)(hc:o.cls=.type n)(hd:o.data=.fields vs)
    (hn:["enumerate","zip","dict_itemiterator","dict_reverseitemiterator","odict_iterator","itertools.zip_longest","itertools.pairwise"].contains n=false)(hQ:Q () s):wpAny M A (letOwnedTupleGo tg (.ref it) u) Q E s:=by
  unfold letOwnedTupleGo
  cases tg<;>first
    |exact wpAny_pure hQ
    |(cases u<;>first
        |exact wpAny_pure hQ
        | (refine wpAny_bind (wpAny_load ho ?_)
           rw[hc,hd]
           show wpAny M A (if(["enumerate","zip","dict_itemiterator","dict_reverseitemiterator","odict_iterator","itertools.zip_longest","itertools.pairwise"].contains n&&vs[0]? == some (rawInt _))=true then _ else _) Q E s
           rw[if_neg (by intro h;rw[hn,Bool.false_and]at h;cases h)]
           exact wpAny_pure hQ))
noncomputable def RW (K:PySem.W.Frag)(a:Addr):It :=
 ⟨fun i H=>∃ xs x,dU K H a xs/\xs[i]? = some x,fun i H x H'=>H'=H/\∀ xs,dU K H a xs->xs[i]? = some x,fun i H=>∃ xs,dU K H a xs/\xs.length<=i⟩
noncomputable def YG (K:PySem.W.Frag)(a:Addr):It :=
 ⟨fun i H=>∃ xs x,dS K H a xs/\xs[i]? = some x,fun i H x H'=>H'=H/\∀ xs,dS K H a xs->xs[i]? = some x,fun i H=>∃ xs,dS K H a xs/\xs.length<=i⟩
noncomputable def OV (lo:Int)(n:Nat):It:=⟨fun i _=>i<n,fun i H x H'=>H'=H/\x=.int (lo+i),fun i _=>n<=i⟩
theorem NT {P:Program}{w:World}{K:PySem.W.Frag}{tg:Expr}(a it:Addr):Turn P w K tg (RW K a) [it] it (fun i h=>h.IsListIter it a i) where
 mem:=by simp
 obj:=fun i h st b hb=>by
  have e:b=it:=by simpa using hb
  subst e
  obtain⟨o,e,c,d⟩:=st
  exact⟨o,e,fun v z=>by rw[d]at z;cases z⟩
 keep:=fun i h h' st k=>st.at fun o e=>k it (by simp) o e
 item:=by
  intro X hP hw hK hc i pins s σ H E I hf st hg
  subst hP hw hK
  obtain⟨xs,x,hq,hx⟩:=hg
  obtain⟨aD,rv,p,hz⟩:=I.list hq
  obtain⟨u,hu,ru⟩:=rv.get hx
  obtain⟨f0,f1,f2,f3,f4,f5⟩:=hf it (by simp)
  refine wpAny_pyNext_list_item st p.isList (x:=u) (by simpa using hu) fun h' aB sb=>?_
  have I1:Inv X pins σ H { s with heap:=h' }:=I.turned (t':=s.toks) (fun b o hb e=>(sb.2 b hb).trans e) f0 f1 f3 f4 f5
  obtain⟨o,e,c,d⟩:=id aB
  exact⟨u,rfl,AE (s:={ s with heap:=h' }) e c d (by decide) ⟨x,H,I1,ru,⟨rfl,fun ys hy=>by rw[I.pG hy hq];exact hx⟩,aB,fun b hb=>(hf b hb).1⟩⟩
 done:=by
  intro X hP hw hK hc i pins s σ H E I hf st hg
  subst hP hw hK
  obtain⟨xs,hq,hx⟩:=hg
  obtain⟨aD,rv,p,hz⟩:=I.list hq
  obtain⟨f0,f1,f2,f3,f4,f5⟩:=hf it (by simp)
  have hl:=rv.length
  exact wpAny_pyNext_list_end (I.ok.hd hc) st p.isList (by simp;omega) fun h' eb=>⟨rfl,I.turned (t':=s.toks) (fun b o hb e=>eb b o hb e) f0 f1 f3 f4 f5⟩
 self:=fun _ _ _ _ _ st h=>wpAny_pyIter_listiter st h
theorem K0 {P:Program}{w:World}{K:PySem.W.Frag}{tg:Expr}(a it:Addr):Turn P w K tg (YG K a) [it] it (fun i h=>h.IsTupleIter it a i) where
 mem:=by simp
 obj:=fun i h st b hb=>by
  have e:b=it:=by simpa using hb
  subst e
  obtain⟨o,e,c,d⟩:=st
  exact⟨o,e,fun v z=>by rw[d]at z;cases z⟩
 keep:=fun i h h' st k=>st.at fun o e=>k it (by simp) o e
 item:=by
  intro X hP hw hK hc i pins s σ H E I hf st hg
  subst hP hw hK
  obtain⟨xs,x,hq,hx⟩:=hg
  obtain⟨aD,rv,p,hz⟩:=I.tuple hq
  obtain⟨u,hu,ru⟩:=rv.get hx
  obtain⟨f0,f1,f2,f3,f4,f5⟩:=hf it (by simp)
  refine wpAny_pyNext_tuple_item st (show s.heap.IsTuple a aD.toArray from p) (x:=u) (by simpa using hu) fun h' aB sb=>?_
  have I1:Inv X pins σ H { s with heap:=h' }:=I.turned (t':=s.toks) (fun b o hb e=>(sb.2 b hb).trans e) f0 f1 f3 f4 f5
  obtain⟨o,e,c,d⟩:=id aB
  exact⟨u,rfl,AE (s:={ s with heap:=h' }) e c d (by decide) ⟨x,H,I1,ru,⟨rfl,fun ys hy=>by rw[I.qU hy hq];exact hx⟩,aB,fun b hb=>(hf b hb).1⟩⟩
 done:=by
  intro X hP hw hK hc i pins s σ H E I hf st hg
  subst hP hw hK
  obtain⟨xs,hq,hx⟩:=hg
  obtain⟨aD,rv,p,hz⟩:=I.tuple hq
  obtain⟨f0,f1,f2,f3,f4,f5⟩:=hf it (by simp)
  have hl:=rv.length
  exact wpAny_pyNext_tuple_end (I.ok.hd hc) st (show s.heap.IsTuple a aD.toArray from p) (by simp;omega) fun h' eb=>⟨rfl,I.turned (t':=s.toks) (fun b o hb e=>eb b o hb e) f0 f1 f3 f4 f5⟩
 self:=fun _ _ _ _ _ st h=>wpAny_pyIter_tupleiter st h
theorem LN {P:Program}{w:World}{K:PySem.W.Frag}{tg:Expr}(it:Addr)(lo:Int)(n:Nat):Turn P w K tg (OV lo n) [it] it (fun i h=>IsRangeIter h it (lo+(i:Nat)*1) ((n:Int)-(i:Nat)) 1) where
 mem:=by simp
 obj:=fun i h st b hb=>by
  have e:b=it:=by simpa using hb
  subst e
  exact⟨_,st,fun v z=>by
   have z':Data.fields _=Data.cell v:=z
   cases z'⟩
 keep:=fun i h h' st k=>k it (by simp) _ st
 item:=by
  intro X hP hw hK hc i pins s σ H E I hf st hg
  subst hP hw hK
  obtain⟨f0,f1,f2,f3,f4,f5⟩:=hf it (by simp)
  have W:=Walks.range (prog:=X.prog) (w:=X.w) (I.ok.hd hc) it lo 1 n
  refine W.item i s _ _ hg st fun v h' tk hv aB kk=>?_
  obtain⟨t,rfl⟩:=hv
  have I1:Inv X pins σ H { s with heap:=h',toks:=tk }:=I.turned (fun b o hb e=>kk b o (by simpa using hb) e) f0 f1 f3 f4 f5
  refine⟨_,rfl,AE (s:={ s with heap:=h',toks:=tk }) (n :="range_iterator") aB rfl rfl (by decide) ⟨.int (lo+i),H,I1,⟨t,?_⟩,⟨rfl,rfl⟩,aB,fun b hb=>(hf b hb).1⟩⟩
  rw[Int.mul_one]
 done:=by
  intro X hP hw hK hc i pins s σ H E I hf st hg
  subst hP hw hK
  obtain⟨f0,f1,f2,f3,f4,f5⟩:=hf it (by simp)
  exact wpAny_pyNext_range_end (I.ok.hd hc) st (by have:n<=i:=hg;omega) fun h' eb=>⟨rfl,I.turned (t':=s.toks) (fun b o hb e=>eb b o hb e) f0 f1 f3 f4 f5⟩
 self:=fun _ _ _ _ _ st h=>wpAny_pyIter_rangeiter st h
end L2
namespace L2
open PySem PySem.Spec PyProof.Rows
section
variable {X:Cx}{tg:Expr}
theorem EZ {pins:List (Addr×Obj)}{σ:St}{H:Hp}{s:Shared}{R:It->Hp->Prop}{E:Value->Shared->Prop}{lo hi:Int}{t u v:Tok}{tk:Nat}(I:Inv X pins σ H s) (h1 : -(2 ^ 62)<=lo)(h2:lo<2 ^ 62) (h3 : -(2 ^ 62)<=hi)(h4:hi<2 ^ 62)
  (q:R (OV lo (hi-lo).toNat) H):wpAny (model X.prog X.w) X.A (pyIter (.ref s.heap.objs.size)) (MJ X pins σ tg R) E { s with heap:=s.heap.push { cls:=.type "range", data:=.fields #[.int lo t,.int hi u,.int 1 v] },toks:=tk }:=by
 refine wpAny_pyIter_range (IsRange.new ..) (small_one h1 h2 h3 h4) ?_
 have I1:Inv X pins σ H { s with heap:=s.heap.push { cls:=.type "range", data:=.fields #[.int lo t,.int hi u,.int 1 v] },toks:=tk }:=I.kept fun b o e=>Heap.get?_push_of_some _ e
 refine⟨(s.heap.push { cls:=.type "range", data:=.fields #[.int lo t,.int hi u,.int 1 v] }).objs.size,[(s.heap.push { cls:=.type "range", data:=.fields #[.int lo t,.int hi u,.int 1 v] }).objs.size],_,_,H,rfl,
  I1.kept (t':=tk) fun b o e=>Heap.get?_push_of_some _ e,LN _ lo (hi-lo).toNat,?_,fun b hb=>?_,q⟩
 ·have e1:lo+((0:Nat):Int)*1=lo:=by simp
  have e2:(((hi-lo).toNat:Nat):Int)-((0:Nat):Int)=Builtin.Range.rangeSize lo hi 1:=by rw[rangeSize_one];split<;>omega
  show IsRangeIter _ _ (lo+((0:Nat):Int)*1) ((((hi-lo).toNat:Nat):Int)-((0:Nat):Int)) 1
  rw[e1,e2]
  exact Heap.get?_push_size _ rfl
 ·have e:b=(s.heap.push { cls:=.type "range", data:=.fields #[.int lo t,.int hi u,.int 1 v] }).objs.size:=by simpa using hb
  subst e
  exact I1.GP (Nat.le_refl _) (I1.bJ.fresh (Nat.le_refl _))
noncomputable def De (ta:TA):TI:=fun σ H R=>ta σ H fun vs H1=>∃ j:Int,vs=[.int j]/\-(2 ^ 62)<=j/\j<2 ^ 62/\R (OV 0 j.toNat) H1
noncomputable def Dx (ta:TA):TI:=fun σ H R=>ta σ H fun vs H1=>∃ i j:Int,vs=[.int i,.int j]/\(-(2 ^ 62)<=i/\i<2 ^ 62/\-(2 ^ 62)<=j/\j<2 ^ 62)/\R (OV i (j-i).toNat) H1
theorem MC {a:Expr}{ta:TA}{p pos:Pos}(hg:Gl X "range")(hm:X.mg "range" = none)(ha:PA X [a] ta)(hs:starEach [a] X.env=[(false,eval a X.env)]:=by rfl):PI X tg (.Call (.Name "range" p) [a] [] pos) (De ta):=by
 intro pins s σ H R I h
 refine Call_ (kL I hg hm boot_range (PyProof.Rows.callWith_type1 (aV (ha pos pins s σ H _ I h) fun us s1 ⟨vs,H1,I1,r1,q1⟩=>?_) hs rfl))
 obtain⟨j,e,q1,q2,q⟩:=q1
 subst e
 cases r1 with
 |cons r rr =>
 cases rr
 obtain⟨t,rfl⟩:=r
 exact call_range_1 (EZ I1 (by omega) (by omega) q1 q2 (by simpa using q))
theorem MV {a b:Expr}{ta:TA}{p pos:Pos}(hg:Gl X "range")(hm:X.mg "range" = none)(ha:PA X [a,b] ta)(hs:starEach [a,b] X.env=[(false,eval a X.env),(false,eval b X.env)]:=by rfl)(hs2:starEach [b] X.env=[(false,eval b X.env)]:=by rfl):
 PI X tg (.Call (.Name "range" p) [a,b] [] pos) (Dx ta):=by
 intro pins s σ H R I h
 refine Call_ (kL I hg hm boot_range (PyProof.Rows.callWith_type1 (aV (ha pos pins s σ H _ I h) fun us s1 ⟨vs,H1,I1,r1,q1⟩=>?_) (by rw[hs,hs2]) (by rw[hs2];rfl)))
 obtain⟨i,j,e,⟨q1,q2,q3,q4⟩,q⟩:=q1
 subst e
 cases r1 with
 |cons r rr =>
 cases rr with
 |cons r' rr =>
  cases rr
  obtain⟨t,rfl⟩:=r
  obtain⟨t',rfl⟩:=r'
  exact call_range_2 (EZ I1 q1 q2 q3 q4 q)
noncomputable def Iw (wi:TI)(g:TG)(tb:TS):TS:=fun D σ H=>wi σ H fun J H1=>∃ W:Nat->Nat->St->Hp->Prop,(∃ m,W 0 m σ H1)/\∀ i m σ H,W i m σ H ->
 (J.stop i H/\D.nx σ H)∨(J.go i H/\∃ N:St->Hp->Prop,(∀ σ' H',N σ' H'->∃ m',m'<m/\W (i+1) m' σ' H')/\∀ x H',J.yld i H x H'->g x σ H' fun σ2 H2=>tb { D with nx:=N,ct:=N,bk:=D.nx } σ2 H2)
noncomputable def vL (fp:List Addr)(h:Heap):List (Addr×Obj):=fp.filterMap fun b=>(h.get? b).map fun o=>(b,o)
theorem tL {fp:List Addr}{h:Heap}{b:Addr}{o:Obj}(hb:b∈fp)(e:h.get? b=some o):(b,o)∈vL fp h:=List.mem_filterMap.mpr ⟨b,hb,by rw[e];rfl⟩
theorem MP {fp:List Addr}{h:Heap}{p:Addr×Obj}(hp:p∈vL fp h):p.1∈fp/\h.get? p.1=some p.2:=by
 obtain⟨b,hb,e⟩:=List.mem_filterMap.mp hp
 cases q:h.get? b with
 |none=>rw[q]at e;cases e
 |some o =>
 rw[q]at e
 have e':(b,o)=p:=Option.some.inj e
 subst e'
 exact⟨hb,q⟩
theorem Inv.pinned {pins:List (Addr×Obj)}{σ:St}{H:Hp}{s:Shared}{fp:List Addr}(I:Inv X pins σ H s)(hf:∀ b∈fp,mF X pins H b)(ho:∀ b∈fp,∃ o,s.heap.get? b=some o/\∀ v,o.data≠.cell v):Inv X (pins++vL fp s.heap) σ H s :=
 I.J7 fun p hp=>(List.mem_append.mp hp).elim (fun z=>I.pin p (List.mem_append_right _ z)) fun z=>by
 obtain⟨hb,e⟩:=MP z
 obtain⟨f0,f1,f2,_⟩:=hf p.1 hb
 obtain⟨o,e',d⟩:=ho p.1 hb
 rw[e]at e';cases e'
 exact⟨e,f0,f1,f2,d⟩
theorem Inv.tR {pins pl:List (Addr×Obj)}{σ:St}{H:Hp}{s:Shared}(I:Inv X (pins++pl) σ H s):Inv X pins σ H s:=I.J7 fun p hp=>I.pin p (List.mem_append_right _ (List.mem_append_left _ hp))
theorem WZ {iter:Expr}{body:List Stmt}{wi:TI}{g:TG}{tb:TS}{pos:Pos}(hp:PassesOwn (model X.prog X.w) X.A X.env X.xe)(hc:X.calm=true)(hi:PI X tg iter wi)(hg:PG X tg g)(hb:jP X body tb)
  (hs:∀ x,foldedSetIterable iter X.env x=pure x:=by intro _;rfl):PS X (.For tg iter body [] pos) (Iw wi g tb):=by
 intro pins s σ H D I h
 refine wpAny_For (aV (hi pins s σ H _ I h) fun v s1 h1=>aV h1 fun itv s2 h2=>?_) hs
 obtain⟨it,fp,tn,J,H2,e,I2,T,aF,f2,W,⟨m0,w0⟩,turn⟩:=h2
 subst e
 have stat:∀{H':Hp},(∀ b∈fp,H' b=none)->∀ b∈fp,mF X pins H' b:=fun hn b hb=>⟨hn b hb,(f2 b hb).2⟩
 refine codeAny_forLoop_any (fun n s'=>∃ i σ' H',Inv X pins σ' H' s'/\tn i s'.heap/\(∀ b∈fp,H' b=none)/\W i n σ' H') ?_ m0 ⟨0,σ,H2,I2,aF,fun b hb=>(f2 b hb).1,w0⟩
 rintro n s3 ⟨i,σ3,H3,I3,bC,fr3,w3⟩
 rcases turn i n σ3 H3 w3 with⟨stop,qn⟩|⟨go,N,hN,step⟩
 ·refine wpAny_passesOwn hp (aV (T.done X rfl rfl rfl hc i pins s3 σ3 H3 X.xe I3 (stat fr3) bC stop) fun r s4 ⟨hr,I4⟩=>?_)
  subst hr
  exact wpAny_execs_nil ⟨σ3,H3,I4,qn⟩
 ·refine wpAny_passesOwn hp (aV (T.item X rfl rfl rfl hc i pins s3 σ3 H3 X.xe I3 (stat fr3) bC go) fun r s4 ⟨u,hr,h4⟩=>?_)
  subst hr
  refine wpAny_passesOwn hp (aV h4 fun _ s5 ⟨x,H5,I5,r5,y5,gB,fr5⟩=>?_)
  have I5':=I5.pinned (stat fr5) (T.obj _ _ gB)
  refine wpAny_passesOwn hp (aV (hg _ s5 σ3 H5 x u _ I5' r5 (step x H5 y5)) fun _ s6 ⟨σ6,H6,I6,q6⟩=>?_)
  refine wpAny_passesOwn hp (aV (hb _ s6 σ6 H6 _ I6 q6) fun f s7 q7=>?_)
  have again:∀{σ7:St}{H7:Hp},Inv X (pins++vL fp s5.heap) σ7 H7 s7->N σ7 H7->∃ m,m<n/\∃ i σ' H',Inv X pins σ' H' s7/\tn i s7.heap/\(∀ b∈fp,H' b=none)/\W i m σ' H':=fun{σ7 H7} I7 n7=>by
   obtain⟨m',hm,w7⟩:=hN σ7 H7 n7
   refine⟨m',hm,i+1,σ7,H7,I7.tR,T.keep _ _ _ gB fun b hb o e=>(I7.pin (b,o) (List.mem_append_right _ (List.mem_append_right _ (tL hb e)))).1,fun b hb=>?_,w7⟩
   obtain⟨o,e,d⟩:=T.obj _ _ gB b hb
   exact(I7.pin (b,o) (List.mem_append_right _ (List.mem_append_right _ (tL hb e)))).2.1
  cases f with
  |next=>obtain⟨σ7,H7,I7,n7⟩:=q7;exact again I7 n7
  |cont=>obtain⟨σ7,H7,I7,n7⟩:=q7;exact again I7 n7
  |brk=>obtain⟨σ7,H7,I7,q7⟩:=q7;exact⟨σ7,H7,I7.tR,q7⟩
  |ret v=>obtain⟨x7,σ7,H7,I7,r7,q7⟩:=q7;exact⟨x7,σ7,H7,I7.tR,r7,q7⟩
end
end L2
namespace L2
open PySem PySem.Spec PyProof.Rows
noncomputable abbrev R2:=V->V->Hp->VK->Prop
noncomputable def gD (X:Cx)(f:Value->Value->Sem Value)(r:R2):Prop :=
 ∀(pins:List (Addr×Obj))(s:Shared)(σ:St)(H:Hp)(x y:V)(v u:Value)(Q:VK),Inv X pins σ H s->RelV x v->RelV y u->r x y H Q ->
 wpAny (model X.prog X.w) X.A (f v u) (EP X pins σ Q) X.xe s
noncomputable def ZV (X:Cx)(f:Value->Sem Value)(r:V->Hp->VK->Prop):Prop :=
 ∀(pins:List (Addr×Obj))(s:Shared)(σ:St)(H:Hp)(x:V)(v:Value)(Q:VK),Inv X pins σ H s->RelV x v->r x H Q ->
 wpAny (model X.prog X.w) X.A (f v) (EP X pins σ Q) X.xe s
noncomputable def tP (X:Cx)(f:Value)(r:List V->Hp->VK->Prop):Prop :=
 ∀(pins:List (Addr×Obj))(s:Shared)(σ:St)(H:Hp)(xs:List V)(us:List Value)(Q:VK),Inv X pins σ H s->aO xs us->r xs H Q ->
 wpAny (model X.prog X.w) X.A (call f us) (EP X pins σ Q) X.xe s
noncomputable def Gn (X:Cx)(r:V->Hp->(Bool->Hp->Prop)->Prop):Prop :=
 ∀(pins:List (Addr×Obj))(s:Shared)(σ:St)(H:Hp)(x:V)(v:Value)(Q:Bool->Hp->Prop),Inv X pins σ H s->RelV x v->r x H Q ->
 wpAny (model X.prog X.w) X.A (truthy v) (TP X pins σ Q) X.xe s
noncomputable def Au (r:R2)(ta tb:TE):TE:=fun σ H Q=>ta σ H fun x H1=>tb σ H1 fun y H2=>r x y H2 Q
noncomputable def Jv (r:V->Hp->VK->Prop)(ta:TE):TE:=fun σ H Q=>ta σ H fun x H1=>r x H1 Q
noncomputable def rI (C:Int->Int->Prop)(g:Int->Int->V):R2:=fun x y H Q=>∃ i j,x=.int i/\y=.int j/\C i j/\Q (g i j) H
noncomputable def GJ (g:Int->Int->V):R2:=fun x y H Q=>∃ i j,x=.int i/\y=.int j/\Q (g i j) H
noncomputable def rU (g:Int->V):V->Hp->VK->Prop:=fun x H Q=>∃ i,x=.int i/\Q (g i) H
section
variable {X:Cx}{a b c:Expr}{ta tb tc:TE}{pos:Pos}
theorem Ap (ha:PE X a ta)(hb:PE X b tb){pins:List (Addr×Obj)}{s:Shared}{σ:St}{H:Hp}{R:V->V->Hp->Prop}(I:Inv X pins σ H s)
 (h:ta σ H fun x H1=>tb σ H1 fun y H2=>R x y H2){Q:Value->Shared->Prop}{f:Value->Value->Sem Value}
 (hf:∀ v u s2 x y H2,Inv X pins σ H2 s2->RelV x v->RelV y u->R x y H2->wpAny (model X.prog X.w) X.A (f v u) Q X.xe s2):
 wpAny (model X.prog X.w) X.A (eval a X.env) (fun v s₁=>wpAny (model X.prog X.w) X.A (eval b X.env) (fun u s₂=>wpAny (model X.prog X.w) X.A (f v u) Q X.xe s₂) X.xe s₁) X.xe s:=by
 refine aV (ha pins s σ H _ I h) fun v s1 ⟨x,H1,I1,r1,q1⟩=>?_
 refine aV (hb pins s1 σ H1 _ I1 q1) fun u s2 ⟨y,H2,I2,r2,q2⟩=>?_
 exact hf v u s2 x y H2 I2 r1 r2 q2
theorem Ea {op:Operator}{r:R2}(ho:gD X (binaryOp op) r)(ha:PE X a ta)(hb:PE X b tb):PE X (.BinOp a op b pos) (Au r ta tb):=by
 intro pins s σ H Q I h
 exact wpAny_BinOp (Ap ha hb I h fun v u s2 x y H2 I2 rx ry q=>ho pins s2 σ H2 x y v u Q I2 rx ry q)
theorem Ey {op:UnaryOp}{r:V->Hp->VK->Prop}(ho:ZV X (unaryOp op) r)(ha:PE X a ta):PE X (.UnaryOp op a pos) (Jv r ta):=by
 intro pins s σ H Q I h
 exact UnaryOp_ (aV (ha pins s σ H _ I h) fun v s1 ⟨x,H1,I1,r1,q1⟩=>ho pins s1 σ H1 x v Q I1 r1 q1)
theorem SS {f:Value->Value->Sem Value}{C:Int->Int->Prop}{g:Int->Int->Int}
 (rule:∀(i j:Int)(t u:Tok)(s:Shared)(Q:Value->Shared->Prop)(E:Value->Shared->Prop),C i j->Q (.int (g i j) s.toks) { s with toks:=s.toks+1 }->wpAny (model X.prog X.w) X.A (f (.int i t) (.int j u)) Q E s):
 gD X f (rI C fun i j=>.int (g i j)):=by
 intro pins s σ H x y v u Q I rx ry h
 obtain⟨i,j,rfl,rfl,hc,q⟩:=h
 obtain⟨t,rfl⟩:=rx
 obtain⟨t',rfl⟩:=ry
 exact rule i j t t' s _ _ hc ⟨.int (g i j),H,I.tok _,⟨_,rfl⟩,q⟩
theorem XQ {f:Value->Value->Sem Value}{g:Int->Int->Int}
 (rule:∀(i j:Int)(t u:Tok)(s:Shared)(Q:Value->Shared->Prop)(E:Value->Shared->Prop),Q (.int (g i j) s.toks) { s with toks:=s.toks+1 }->wpAny (model X.prog X.w) X.A (f (.int i t) (.int j u)) Q E s):
 gD X f (GJ fun i j=>.int (g i j)):=by
 intro pins s σ H x y v u Q I rx ry h
 obtain⟨i,j,rfl,rfl,q⟩:=h
 obtain⟨t,rfl⟩:=rx
 obtain⟨t',rfl⟩:=ry
 exact rule i j t t' s _ _ ⟨.int (g i j),H,I.tok _,⟨_,rfl⟩,q⟩
noncomputable def W5 (i j:Int):Prop:=0<j/\j<1073741824
noncomputable def Y2 (i j:Int):Prop:=0<=j/\j<=1000000/\i.natAbs<2 ^ 64
noncomputable def KL (i j:Int):Prop:=(-(2 ^ 64)<i/\i<2 ^ 64)∨(-(2 ^ 64)<j/\j<2 ^ 64)
theorem KL.ok {i j:Int}(h:KL i j):IntMulOk i j:=by
 rcases h with⟨h1,h2⟩|⟨h1,h2⟩
 ·exact .of_left (intBits_le_64 h1 h2)
 ·exact .of_right (intBits_le_64 h1 h2)
theorem Ai:gD X (binaryOp .Add) (GJ fun i j=>.int (i+j)):=XQ fun _ _ _ _ _ _ _ q=>add_int q
theorem WY:gD X (binaryOp .Sub) (GJ fun i j=>.int (i-j)):=XQ fun _ _ _ _ _ _ _ q=>sub_int q
theorem ZF:gD X (binaryOp .Mult) (rI KL fun i j=>.int (i*j)):=SS fun _ _ _ _ _ _ _ hc q=>mul_int q hc.ok
theorem VW:gD X (binaryOp .FloorDiv) (rI W5 fun i j=>.int (i / j)):=SS fun i j _ _ _ _ _ hc q=>by
 have h1:(0:Int)<j:=hc.1
 have h2:j<1073741824:=hc.2
 exact floordiv_int (by omega) (by rw[Int.fdiv_eq_ediv_of_nonneg i (by omega)];exact q) (.inl (PyProof.noPylong_small (by omega)))
theorem YT:gD X (binaryOp .Mod) (rI (fun _ j=>0<j) fun i j=>.int (i % j)):=SS fun i j _ _ _ _ _ hc q=>by
 have h1:(0:Int)<j:=hc
 exact mod_int' (by omega) (by rw[Int.fmod_eq_emod_of_nonneg i (by omega)];exact q)
theorem X0:gD X (binaryOp .Pow) (rI Y2 fun i j=>.int (i ^ j.toNat)):=SS fun _ _ _ _ _ _ _ hc q=>pow_int_small hc.1 hc.2.1 hc.2.2 q
theorem Kb {f:Value->Sem Value}{g:Int->Int}
 (rule:∀(i:Int)(t:Tok)(s:Shared)(Q:Value->Shared->Prop)(E:Value->Shared->Prop),Q (.int (g i) s.toks) { s with toks:=s.toks+1 }->wpAny (model X.prog X.w) X.A (f (.int i t)) Q E s):
 ZV X f (rU fun i=>.int (g i)):=by
 intro pins s σ H x v Q I rx h
 obtain⟨i,rfl,q⟩:=h
 obtain⟨t,rfl⟩:=rx
 exact rule i t s _ _ ⟨.int (g i),H,I.tok _,⟨_,rfl⟩,q⟩
theorem YA:ZV X (unaryOp .USub) (rU fun i=>.int (-i)):=Kb fun _ _ _ _ _ q=>neg_int q
end
section
variable {X:Cx}{a b c:Expr}{ta tb tc:TE}{pos:Pos}
theorem Y1 {pins:List (Addr×Obj)}{σ:St}{H:Hp}{s:Shared}{Q:VK}{k k':Bool}(I:Inv X pins σ H s)(q:Q (.bl k) H)(e:k=k'):EP X pins σ Q (.bool k') s:=by
 subst e
 exact⟨.bl k,H,I,rfl,q⟩
theorem NB:gD X (compareOp .In) (fun x y H Q=>∃ i j,x=.str i/\y=.str j/\Q (.bl (!(Builtin.Str.occurrences j i 0 j.length 1).isEmpty)) H):=by
 intro pins s σ H x y v u Q I rx ry h
 obtain⟨i,j,rfl,rfl,q⟩:=h
 obtain⟨t,rfl⟩:=rx
 obtain⟨t',rfl⟩:=ry
 exact in_str (Y1 I q rfl)
theorem gD.or {f:Value->Value->Sem Value}{r r':R2}(h:gD X f r)(h':gD X f r'):gD X f (fun x y H Q=>r x y H Q∨r' x y H Q):=by
 intro pins s σ H x y v u Q I rx ry q
 rcases q with q|q
 ·exact h pins s σ H x y v u Q I rx ry q
 ·exact h' pins s σ H x y v u Q I rx ry q
noncomputable def PK (K:PySem.W.Frag)(x:V)(H:Hp)(k:Bool):Prop :=
 match x with
 |.non=>k=false
 |.bl b=>k=b
 |.int i=>k=(i != 0)
 |.str y=>y.length<=sizeLine/\k=((y.length:Int) != 0)
 |.byt y=>y.size<=sizeLine/\k=((y.size:Int) != 0)
 |.ref p=>(∃ xs,dU K H p xs/\k = !xs.isEmpty)∨(∃ xs,dS K H p xs/\k = !xs.isEmpty)∨∃ gF,H p=some (.dK gF)/\k = !gF.isEmpty
 |_=>False
theorem LV {κ:Type}{gF:List (κ×V)}{vs:List (κ×Value)}(r:KV gF vs):(!vs.isEmpty) = !gF.isEmpty:=by
 cases r<;>rfl
theorem A5 {xs:List V}{aD:List Value}(r:aO xs aD):(!aD.toArray.isEmpty) = !xs.isEmpty:=by
 cases r<;>simp
theorem pE:(sizeLine:Nat)<2 ^ 63:=by rw[sizeLine_eq];decide
theorem zX:Gn X (fun x H Q=>∃ k,PK X.K x H k/\Q k H):=by
 intro pins s σ H x v Q I rx h
 obtain⟨k,e,q⟩:=h
 have hl:=pE
 have hs:sizeLine=16777216:=sizeLine_eq
 cases x with
 |non =>
 cases rx
 have e':k=false:=e
 subst e'
 exact truthy_none ⟨H,I,q⟩
 |bl b =>
 cases rx
 have e':k=b:=e
 subst e'
 exact wpAny_truthy_bool ⟨H,I,q⟩
 |int i =>
 obtain⟨t,rfl⟩:=rx
 have e':k=(i != 0):=e
 subst e'
 exact PySem.P.truthy_int ⟨H,I,q⟩
 |str y =>
 obtain⟨t,rfl⟩:=rx
 obtain⟨hy,e'⟩:y.length<=sizeLine/\k=((y.length:Int) != 0):=e
 subst e'
 exact PySem.P.truthy_str (by omega) ⟨H,I.tok _,q⟩
 |byt y =>
 obtain⟨t,rfl⟩:=rx
 obtain⟨hy,e'⟩:y.size<=sizeLine/\k=((y.size:Int) != 0):=e
 subst e'
 exact PySem.W.truthy_bytes (by omega) ⟨H,I.tok _,q⟩
 |ref p =>
 cases rx
 have e':(∃ xs,dU X.K H p xs/\k = !xs.isEmpty)∨(∃ xs,dS X.K H p xs/\k = !xs.isEmpty)∨∃ gF,H p=some (.dK gF)/\k = !gF.isEmpty:=e
 rcases e' with⟨xs,hx,e'⟩|⟨xs,hx,e'⟩|⟨gF,hx,e'⟩
 ·subst e'
  obtain⟨aD,r,pl,hz⟩:=I.list hx
  have hlen:=r.length
  exact wpAny_truthy_list pl.isList (by simp only[List.size_toArray];omega) ⟨H,I.tok _,by rw[A5 r];exact q⟩
 ·subst e'
  obtain⟨aD,r,pl,hz⟩:=I.tuple hx
  have hlen:=r.length
  exact truthy_tuple pl (by simp only[List.size_toArray];omega) ⟨H,I.tok _,by rw[A5 r];exact q⟩
 ·subst e'
  obtain⟨hz,hS,vs,r,m⟩:gF.length<=sizeLine/\(p==sysModules)=false/\∃ vs,KV gF vs/\s.heap.DictOf (BX X.prog X.w) p vs:=I.bJ p _ hx
  have hlen:gF.length=vs.length:=Paired.length r
  exact wpAny_truthy_dict hS m (by omega) ⟨H,I.tok _,by rw[LV r];exact q⟩
 |_=>exact(show False from e).elim
theorem P9 (ha:PE X a ta)(he:∀ whole,isTrue a X.env whole=(do let v <-whole;standAt a.pos;holding [v] (truthy v))):
 PT X a (fun σ H Q=>ta σ H fun x H'=>∃ k,PK X.K x H' k/\Q k H'):=by
 intro pins s σ H Q I h
 exact isTrue_plain (aV (ha pins s σ H _ I h) fun v s1 ⟨x,H1,I1,r1,q1⟩=>zX pins s1 σ H1 x v Q I1 r1 q1) (he _)
theorem LF:gD X (binaryOp .Add) (fun x y H Q=>∃ i j,x=.str i/\y=.str j/\i.length+j.length<=sizeLine/\Q (.str (i++j)) H):=by
 intro pins s σ H x y v u Q I rx ry h
 obtain⟨i,j,rfl,rfl,hz,q⟩:=h
 obtain⟨t,rfl⟩:=rx
 obtain⟨t',rfl⟩:=ry
 exact add_str (fun t' tk=>⟨.str (i++j),H,I.tok _,⟨_,rfl⟩,q⟩) hz
theorem vals1 {x:V}{us:List Value}(r:aO [x] us):∃ u,us=[u]/\RelV x u:=by
 cases r with
 |cons r1 r2=>cases r2;exact⟨_,rfl,r1⟩
noncomputable def W0 (K:PySem.W.Frag)(x:V)(H:Hp)(n:Nat):Prop :=
 match x with
 |.str y=>y.length<=sizeLine/\n=y.length
 |.byt y=>y.size<=sizeLine/\n=y.size
 |.ref p=>(∃ xs,dU K H p xs/\n=xs.length)∨∃ xs,dS K H p xs/\n=xs.length
 |_=>False
theorem QI:tP X (.builtin "len") (fun xs H Q=>∃ x n,xs=[x]/\W0 X.K x H n/\Q (.int n) H):=by
 intro pins s σ H xs us Q I r h
 obtain⟨x,n,rfl,e,q⟩:=h
 obtain⟨u,rfl,rx⟩:=vals1 r
 have hl:=pE
 have hs:sizeLine=16777216:=sizeLine_eq
 cases x with
 |str y =>
 obtain⟨t,rfl⟩:=rx
 obtain⟨hy,e'⟩:y.length<=sizeLine/\n=y.length:=e
 subst e'
 exact len_str (by omega) ⟨.int _,H,I.tok _,⟨_,rfl⟩,q⟩
 |byt y =>
 obtain⟨t,rfl⟩:=rx
 obtain⟨hy,e'⟩:y.size<=sizeLine/\n=y.size:=e
 subst e'
 exact PySem.W.len_bytes (by omega) ⟨.int _,H,I.tok _,⟨_,rfl⟩,q⟩
 |ref p =>
 cases rx
 have e':(∃ xs,dU X.K H p xs/\n=xs.length)∨∃ xs,dS X.K H p xs/\n=xs.length:=e
 rcases e' with⟨xs,hx,e'⟩|⟨xs,hx,e'⟩
 ·subst e'
  obtain⟨aD,r',pl,hz⟩:=I.list hx
  have hlen:=r'.length
  exact Calls.call_len_list pl.isList (by simp only[List.size_toArray];omega) ⟨.int xs.length,H,I.tok _,⟨_,by simp only[List.size_toArray];rw[hlen]⟩,q⟩
 ·subst e'
  obtain⟨aD,r',pl,hz⟩:=I.tuple hx
  have hlen:=r'.length
  exact len_tuple pl (by simp only[List.size_toArray];omega) ⟨.int xs.length,H,I.tok _,⟨_,by simp only[List.size_toArray];rw[hlen]⟩,q⟩
 |_=>exact(show False from e).elim
end
end L2
namespace L2
open PySem PySem.Spec PyProof.Rows
structure yZ (h:Heap)(x dx C:Addr)(mA:Str->Option Value):Prop where
 obj:h.get? x=some (PySem.W.instObj C dx)
 ns:h.Ns1 dx mA
 ne:dx≠x
theorem O2 {h:Heap}{dx:Addr}{mA:Str->Option Value}(n:h.Ns1 dx mA):∃ od,h.get? dx=some od/\∀ name,PySem.W.lookIn name od=some (mA name):=by
 obtain⟨o,es,ep,ho,hd,hk,_,hm⟩:=n
 refine⟨o,ho,fun name=>?_⟩
 have e:=hm name
 unfold nsFind findBy at e
 rw[<-Array.find?_toList]at e
 unfold PySem.W.lookIn
 rw[hd]
 dsimp only
 split
 ·rename_i y q
  rw[q]at e
  exact congrArg some e
 ·rename_i q
  rw[q]at e
  have a:es.toList.any (·.refKey)=false:=by
   rw[List.any_eq_false]
   intro y hy
   obtain⟨z,t,hkey⟩:=hk y (Array.mem_toList_iff.mp hy)
   simp [DictEntry.refKey,hkey]
  have a':¬es.toList.any (·.refKey)=true:=by rw[a];exact Bool.false_ne_true
  rw[if_neg a']
  exact congrArg some e
theorem yZ.look {h:Heap}{x dx C:Addr}{mA:Str->Option Value}(I:yZ h x dx C mA):∃ od,PySem.W.InstAt h x (PySem.W.instObj C dx) C (some od)/\∀ name,PySem.W.lookIn name od=some (mA name) :=
 let⟨od,ho,hl⟩:=O2 I.ns
 ⟨od,⟨I.obj,rfl,rfl,ho⟩,hl⟩
section
variable {prog:Program}{w:World}{A:Around}{E:Value->Shared->Prop}{s:Shared}{K:PySem.W.Frag}{x dx C f:Addr}{mA:Str->Option Value}{name:Str}{v:Value}
theorem get_map {expr:Bool}{Q:Value->Shared->Prop}(X:K.In s.heap)(I:yZ s.heap x dx C mA)(hg:PySem.W.plainGet K C name=true)(hh:PySem.W.hasDictIn K C=true)
 (ha:PySem.W.findIn K (.ref C) name=some none)(hv:mA name=some v)(hv':PySem.W.handedIn v=true)(h:Q v { s with toks:=s.toks+1 }):
 wpAny (model prog w) A (getAttr (.ref x) name expr) Q E s:=by
 obtain⟨od,J,hl⟩:=I.look
 exact PySem.W.get_value X J (PySem.W.plainGet_of hg).1 (PySem.W.findObj_own hh ha rfl (by rw[hl,hv])) hv' h
theorem QZ {pl:Sem Bool}{Q:Value×List Value->Shared->Prop}(X:K.In s.heap)(I:yZ s.heap x dx C mA)(hg:PySem.W.plainGet K C name=true)
 (hf:PySem.W.findIn K (.ref C) name=some (some (.ref f)))(ht:PySem.W.isFn K (.ref f)=true)(hv:mA name=none)(h:Q (.ref f,[.ref x]) s):
 wpAny (model prog w) A (getMethod (.ref x) name pl) Q E s:=by
 obtain⟨od,J,hl⟩:=I.look
 exact PySem.W.method_fn X J (PySem.W.plainGet_of hg).1 (PySem.W.plainGet_of hg).2 hf (beq_iff_eq.mp ht) (by show(PySem.W.lookIn name od).map (·.isSome)=some false;rw[hl,hv];rfl) h
theorem TM {ns:List Str}{Q:Unit->Shared->Prop}(X:K.In s.heap)(I:yZ s.heap x dx C mA)
 (hs:PySem.W.findIn K (.ref C) "__setattr__" = some (some (.builtin "object.__setattr__")))(hp:PySem.W.plainOver K C=true)(ht:PySem.W.takerIn K C name=some none)(hh:PySem.W.hasDictIn K C=true)
 (hw:PySem.Within mA ns)(jK:ns.length<=sizeLine)
 (h:∀ h',yZ h' x dx C (fun y=>if y=name then some v else mA y)->Heap.SameBut dx s.heap h'->Q () { s with heap:=h',toks:=s.toks+2 }):
 wpAny (model prog w) A (setAttr (.ref x) name v) Q E s:=by
 obtain⟨od,J,hl⟩:=I.look
 refine PySem.W.set_plain X J hs (PySem.W.osa_open (s:={ s with toks:=s.toks+1 }) (r:=none) X J hp ht fun b=>?_)
 obtain⟨cd,hc,hd'⟩:=PySem.W.any_some hh
 have hx:s.heap.get? x=some ⟨.ref C,some dx,.plain,#[]⟩:=I.obj
 refine wpAny_bind (wpAny_pure (wpAny_bind (wpAny_bind (wpAny_loadPart hx (wpAny_bind (PySem.W.Looks.here (s:={ s with toks:=s.toks+1 }) (PySem.W.looks_clsIn X hc) ?_))))))
 rw[hd']
 refine wpAny_pure (a:=some dx) (wpAny_bind (wpAny_pure (wpAny_bind ?_)))
 refine wpAny_nsSet1 (s:={ s with toks:=s.toks+1 }) I.ns fun h' hn2 hs2=>?_
 obtain⟨oD,esD,epD,hoD,hdD,hcD⟩:=hn2.count (PySem.Within.cons name v hw)
 refine wpAny_bind (wpAny_lookBehind hoD (by rw[hdD];exact pastItsLine_dict (Nat.le_trans hcD (by rw[List.length_cons];omega))) ?_)
 exact wpAny_pure (h _ ⟨(hs2.2 _ (Ne.symm I.ne)).trans I.obj,hn2,I.ne⟩ hs2)
theorem PX {R:Result->Shared->Prop}{vs:List Value}{kw:List (Str×Value)}(X:K.In s.heap)(hm:PySem.W.makesIn K C=true)
 (hi:PySem.W.findIn K (.ref C) "__init__" = some (some (.ref f)))(hf:PySem.W.typeIn K (.ref f)=some (.type "function"))
 (h:codeAny (model prog w) (A.under (.builtin "type.__call__" ⟨.ref C::vs,kw⟩)) (.call (.ref f) ⟨.ref (s.heap.objs.size+1)::vs,kw⟩) (PySem.W.InitBack (s.heap.objs.size+1) R)
  { s with heap:=(s.heap.push PySem.W.emptyDict).push (PySem.W.instObj C s.heap.objs.size) }):
 codeAny (model prog w) A (.call (.ref C) ⟨vs,kw⟩) R s:=by
 obtain⟨hh,g,d,t,os⟩:=s
 exact PySem.W.make_core (PySem.W.makes_of X hm) (PySem.W.looks_findIn X hi) (fun self=>PySem.W.bind_fn X self hf) (.inl rfl) h
end
noncomputable def hZ (f:Str)(v:V):List (Str×V)->List (Str×V)
 |[]=>[(f,v)]
 |(g,x)::r=>if g=f then(g,v)::r else(g,x)::hZ f v r
theorem yS (f g:Str)(v:V):∀ fs:List (Str×V),(hZ f v fs).lookup g=if g=f then some v else fs.lookup g
 |[]=>by
  show List.lookup g [(f,v)]=_
  by_cases h:g=f
  ·have hb:(g==f)=true:=beq_iff_eq.mpr h
   simp only[List.lookup,hb,if_pos h]
  ·have hb:(g==f)=false:=beq_eq_false_iff_ne.mpr h
   simp only[List.lookup,hb,if_neg h]
 |(k,x)::r=>by
  have ih:=yS f g v r
  rw[show hZ f v ((k,x)::r)=(if k=f then(k,v)::r else(k,x)::hZ f v r)from rfl]
  by_cases hk:k=f
  ·rw[if_pos hk]
   by_cases h:g=k
   ·have hb:(g==k)=true:=beq_iff_eq.mpr h
    simp only[List.lookup,hb,if_pos (h.trans hk)]
   ·have hb:(g==k)=false:=beq_eq_false_iff_ne.mpr h
    simp only[List.lookup,hb,if_neg (fun e:g=f=>h (e.trans hk.symm))]
  ·rw[if_neg hk]
   by_cases h:g=k
   ·have hb:(g==k)=true:=beq_iff_eq.mpr h
    simp only[List.lookup,hb,if_neg (fun e:g=f=>hk (h.symm.trans e))]
   ·have hb:(g==k)=false:=beq_eq_false_iff_ne.mpr h
    simp only[List.lookup,hb]
    exact ih
theorem wD (f:Str)(v:V):∀ fs:List (Str×V),f∈(hZ f v fs).map (·.1)/\∀ g,g∈fs.map (·.1)->g∈(hZ f v fs).map (·.1)
 |[]=>⟨by simp [hZ],fun g h=>by simp at h⟩
 |(k,x)::r=>by
  obtain⟨i1,i2⟩:=wD f v r
  rw[show hZ f v ((k,x)::r)=(if k=f then(k,v)::r else(k,x)::hZ f v r)from rfl]
  by_cases hk:k=f
  ·rw[if_pos hk]
   subst hk
   exact⟨by simp,fun g h=>by simpa using h⟩
  ·rw[if_neg hk]
   refine⟨?_,fun g h=>?_⟩
   ·rw[List.map_cons]
    exact List.mem_cons_of_mem _ i1
   ·rw[List.map_cons]at h ⊢
    rcases List.mem_cons.mp h with e|e
    ·exact List.mem_cons.mpr (.inl e)
    ·exact List.mem_cons_of_mem _ (i2 g e)
theorem yD (f:Str)(v:V):∀ fs:List (Str×V),(hZ f v fs).length<=fs.length+1
 |[]=>by simp [hZ]
 |(k,x)::r=>by
  have ih:=yD f v r
  rw[show hZ f v ((k,x)::r)=(if k=f then(k,v)::r else(k,x)::hZ f v r)from rfl]
  by_cases hk:k=f
  ·rw[if_pos hk,List.length_cons,List.length_cons];omega
  ·rw[if_neg hk,List.length_cons,List.length_cons];omega
theorem rA.some_of {v:V}{o:Option Value}(r:rA (some v) o):∃ u,o=some u/\RelV v u:=by
 cases o with
 |none=>exact(show False from r).elim
 |some u=>exact⟨u,rfl,r⟩
theorem rA.none_of {o:Option Value}(r:rA none o):o=none:=by
 cases o with
 |none=>rfl
 |some u=>exact(show False from r).elim
theorem NI {v:V}{u:Value}(r:RelV v u):PySem.W.handedIn u=true:=by
 cases v with
 |non=>cases (show u=Value.none from r);rfl
 |bl b=>cases (show u=Value.bool b from r);rfl
 |int i=>obtain⟨t,e⟩:=(show ∃ t,u=Value.int i t from r);cases e;rfl
 |str x=>obtain⟨t,e⟩:=(show ∃ t,u=Value.str x t from r);cases e;rfl
 |byt b=>obtain⟨t,e⟩:=(show ∃ t,u=Value.bytes b t from r);cases e;rfl
 |flt b=>obtain⟨t,e⟩:=(show ∃ t,u=Value.float b t from r);cases e;rfl
 |ref a=>cases (show u=Value.ref a from r);rfl
 |ty n=>cases (show u=Value.type n from r);rfl
section
variable {P:Program}{w:World}{H H':Hp}{h h':Heap}{a C dx:Addr}{fs fs':List (Str×V)}
theorem BV (bJ:fT P w H h)(e:H a=some (.ins C dx fs)):∃ mA,yZ h a dx C mA/\(∀ f,rA (fs.lookup f) (mA f))/\PySem.Within mA (fs.map (·.1))/\fs.length<=1000/\H dx=some (.own a):=by
 obtain⟨d,z,ne,ob,mA,n,r,q⟩:=(show iT P w H h a (.ins C dx fs)from bJ a _ e)
 exact⟨mA,⟨ob,n,ne⟩,r,q,z,d⟩
end
structure sL (K:PySem.W.Frag)(C:Addr):Prop where
 pg:PySem.W.plainGet K C Str.empty=true
 hd:PySem.W.hasDictIn K C=true
 po:PySem.W.plainOver K C=true
 sa:PySem.W.findIn K (.ref C) "__setattr__" = some (some (.builtin "object.__setattr__"))
theorem sL.get {K:PySem.W.Frag}{C:Addr}(c:sL K C)(f:Str):PySem.W.plainGet K C f=true:=c.pg
noncomputable def pX (K:PySem.W.Frag)(C:Addr)(f:Str):Prop:=PySem.W.findIn K (.ref C) f=some none
theorem pX.Dk {K:PySem.W.Frag}{C:Addr}{f:Str}(n:pX K C f):PySem.W.takerIn K C f=some none:=by
 unfold PySem.W.takerIn
 rw[show PySem.W.findIn K (.ref C) f=some none from n]
 rfl
structure BH (K:PySem.W.Frag)(C:Addr)(m:Str)(f:Addr):Prop where
 at_:PySem.W.findIn K (.ref C) m=some (some (.ref f))
 fn:PySem.W.isFn K (.ref f)=true
 kp:PySem.W.keepIn K (.ref f)=true
section
variable {X:Cx}{pins:List (Addr×Obj)}{σ:St}{H:Hp}{s:Shared}{a C dx:Addr}{fs:List (Str×V)}{f:Str}{v:V}{A:Around}{E:Value->Shared->Prop}
theorem L1 {b:Bool}{Q:Value->Shared->Prop}(I:Inv X pins σ H s)(e:H a=some (.ins C dx fs))(c:sL X.K C)(n:pX X.K C f)(l:fs.lookup f=some v)
 (h:∀ u s',Inv X pins σ H s'->RelV v u->Q u s'):wpAny (model X.prog X.w) A (getAttr (.ref a) f b) Q E s:=by
 obtain⟨mA,O,r,_,_,_⟩:=BV I.bJ e
 obtain⟨u,hu,ru⟩:=rA.some_of (v:=v) (o:=mA f) (by rw[<-l];exact r f)
 exact get_map I.iA O (c.get f) c.hd n hu (NI ru) (h u _ (I.tok _) ru)
theorem A0 {m:Str}{g:Addr}{pl:Sem Bool}{Q:Value×List Value->Shared->Prop}(I:Inv X pins σ H s)(e:H a=some (.ins C dx fs))(c:sL X.K C)(k:BH X.K C m g)(l:fs.lookup m=none)
 (h:Q (.ref g,[.ref a]) s):wpAny (model X.prog X.w) A (getMethod (.ref a) m pl) Q E s:=by
 obtain⟨mA,O,r,_,_,_⟩:=BV I.bJ e
 have hn:mA m=none:=rA.none_of (by rw[<-l];exact r m)
 exact QZ I.iA O (c.get m) k.at_ k.fn hn h
theorem K4 {y:V}{u:Value}{Q:Unit->Shared->Prop}(I:Inv X pins σ H s)(e:H a=some (.ins C dx fs))(c:sL X.K C)(n:pX X.K C f)(hl:fs.length<1000)(ry:RelV y u)
  (h:∀ s',Inv X pins σ (upd H a (.ins C dx (hZ f y fs))) s'->Q () s'):wpAny (model X.prog X.w) A (setAttr (.ref a) f u) Q E s:=by
 obtain⟨mA,O,r,wi,_,ho⟩:=BV I.bJ e
 have hz:(fs.map (·.1)).length<=sizeLine:=by rw[List.length_map,sizeLine_eq];omega
 refine TM I.iA O c.sa c.po n.Dk c.hd wi hz fun h' O' sb=>h _ ?_
 have hd:∃ o,h'.get? dx=some o:=let⟨o,_,_,e',_⟩:=O'.ns;⟨o,e'⟩
 refine I.write (x:=a) (e:=dx) (by rw[e];exact True.intro) (.inr ho) (fun b q hb z=>(sb.2 b hb).trans z) hd ?_
 refine⟨by rw[aY O.ne];exact ho,?_,O.ne,O'.obj,_,O'.ns,fun g=>?_,fun g hg=>?_⟩
 ·have:=yD f y fs;omega
 ·show rA ((hZ f y fs).lookup g) (if g=f then some u else mA g)
  rw[yS]
  by_cases q:g=f
  ·rw[if_pos q,if_pos q];exact ry
  ·rw[if_neg q,if_neg q];exact r g
 ·by_cases q:g=f
  ·rw[q];exact(wD f y fs).1
  ·refine(wD f y fs).2 g (wi g fun z=>hg ?_)
   show(if g=f then some u else mA g)=none
   rw[if_neg q];exact z
theorem Inv.made (I:Inv X pins σ H s):Inv X pins σ (upd (upd H s.heap.objs.size (.own (s.heap.objs.size+1))) (s.heap.objs.size+1) (.ins C s.heap.objs.size []))
  { s with heap:=(s.heap.push PySem.W.emptyDict).push (PySem.W.instObj C s.heap.objs.size) }:=by
 have e1:(s.heap.push PySem.W.emptyDict).get? s.heap.objs.size=some PySem.W.emptyDict:=Heap.get?_push_size s.heap rfl
 have e2:((s.heap.push PySem.W.emptyDict).push (PySem.W.instObj C s.heap.objs.size)).get? (s.heap.objs.size+1)=some (PySem.W.instObj C s.heap.objs.size):=by
  have:=Heap.get?_push_size (s.heap.push PySem.W.emptyDict) (o:=PySem.W.instObj C s.heap.objs.size) rfl
  rwa [Heap.size_push]at this
 have e3:(s.heap.push PySem.W.emptyDict).Ns s.heap.objs.size (fun _=>none):=⟨PySem.W.emptyDict,#[],_,e1,rfl,(fun e he=>absurd he (by simp)),fun _=>rfl⟩
 have I1:=I.laid (a:=s.heap.objs.size) (o:=.own (s.heap.objs.size+1)) (h':=s.heap.push PySem.W.emptyDict) (t':=s.toks) (fun b u q=>Heap.get?_push_of_some _ q) (Nat.le_refl _) ⟨_,e1⟩
 refine I1.laid (a:=s.heap.objs.size+1) (o:=.ins C s.heap.objs.size []) (t':=s.toks) (fun b u q=>Heap.get?_push_of_some _ q) (Nat.le_of_eq (Heap.size_push _ _)) ?_
 have ne:s.heap.objs.size≠s.heap.objs.size+1:=Nat.ne_of_lt (Nat.lt_succ_self _)
 refine⟨by rw[aY ne,cZ],Nat.zero_le _,ne,e2,fun _=>none,(Heap.Ns1.of_empty e3).at fun o q=>Heap.get?_push_of_some _ q,fun _=>True.intro,fun y hy=>absurd rfl hy⟩
theorem UU {prog:Program}{w:World}{env:Env}{e:Expr}{f:Str}{pos:Pos}{s:Shared}{Q:Value->Shared->Prop}(hb:attributeBase e f env (eval e env)=eval e env)
 (h:wpAny (model prog w) A (eval e env) (fun o s₁=>wpAny (model prog w) A (getAttr o f true) Q E s₁) E s):wpAny (model prog w) A (eval (.Attribute e f pos) env) Q E s :=
 Attribute_any_ h (by rw[arm_eval_Attribute,hb])
end
noncomputable def Hi (K:PySem.W.Frag)(ta:TE)(f:Str):TE:=fun σ H Q=>ta σ H fun x H1=>∃ a C dx fs v,x=.ref a/\H1 a=some (.ins C dx fs)/\sL K C/\pX K C f/\fs.lookup f=some v/\Q v H1
noncomputable def Je (K:PySem.W.Frag)(ta tv:TE)(f:Str):TS:=fun D σ H=>tv σ H fun y H1=>ta σ H1 fun x H2=>∃ a C dx fs,x=.ref a/\H2 a=some (.ins C dx fs)/\sL K C/\pX K C f/\fs.length<1000 /\
 D.nx σ (upd H2 a (.ins C dx (hZ f y fs)))
section
variable {X:Cx}{o e value:Expr}{f:Str}{pos pos' tpos:Pos}{ta tv:TE}
theorem YV (he:PE X e ta)(hb:attributeBase e f X.env (eval e X.env)=eval e X.env):PE X (.Attribute e f pos) (Hi X.K ta f):=by
 intro pins s σ H Q I h
 refine UU hb (aV (he pins s σ H _ I h) fun u s1 ⟨x,H1,I1,rx,a,C,dx,fs,v,ex,ea,c,n,l,q⟩=>?_)
 subst ex
 obtain rfl:u=Value.ref a:=rx
 exact L1 I1 ea c n l fun u' s2 I2 ru=>⟨v,H1,I2,ru,q⟩
theorem YZ (ha:PE X o ta)(hv:PE X value tv)(hs:swapsWith value (some (.Attribute o f pos')) pos.line X.env=pure false):PS X (.Assign [.Attribute o f pos'] value pos) (Je X.K ta tv f):=by
 intro pins s σ H D I h
 refine plainObj_wpAny_Assign_Attribute (aV (hv pins s σ H _ I h) fun u s1 ⟨y,H1,I1,ry,q⟩=>aV (ha pins s1 σ H1 _ I1 q) fun ov s2 ⟨x,H2,I2,rx,a,C,dx,fs,ex,ea,c,n,l,q2⟩=>?_) hs
 subst ex
 obtain rfl:ov=Value.ref a:=rx
 exact K4 I2 ea c n l ry fun s3 I3=>⟨σ,_,I3,q2⟩
theorem Bc {pl:Sem Bool}{m:Str}{apos:Pos}{args:List Expr}{pins:List (Addr×Obj)}{s:Shared}{σ:St}{H:Hp}{Q:Value->Shared->Prop}{te:TE}(he:PE X e te)(I:Inv X pins σ H s)
 (h:te σ H fun x H1=>∃ a C dx fs g,x=.ref a/\H1 a=some (.ins C dx fs)/\sL X.K C/\BH X.K C m g/\fs.lookup m=none /\
  ∀ s1,Inv X pins σ H1 s1->wpAny (model X.prog X.w) X.A (callWith pos (.ref g) [.ref a] (backTo pos (starEach args X.env)) (backToKw pos (keywordEach [] X.env))) Q X.xe s1)
 (ht:eval (.Call (.Attribute e m apos) args [] pos) X.env=(do
  let ov <-eval e X.env
  standAt apos.atName
  let(f,first) <-holding [ov] (getMethod ov m pl)
  callWith pos f first (backTo pos (starEach args X.env)) (backToKw pos (keywordEach [] X.env)))):
 wpAny (model X.prog X.w) X.A (eval (.Call (.Attribute e m apos) args [] pos) X.env) Q X.xe s:=by
 refine PySem.W.methodCall_KW (pl:=pl) (aV (he pins s σ H _ I h) fun u s1 ⟨x,H1,I1,rx,a,C,dx,fs,g,ex,ea,c,k,l,q⟩=>?_) ht
 subst ex
 obtain rfl:u=Value.ref a:=rx
 exact A0 I1 ea c k l (q s1 I1)
end
end L2
namespace L2
open PySem PySem.Spec PyProof.Rows
structure cL (k:Nat)(A:Around):Prop where
 hd:A.handled=none
 dp:A.depth+3*k+5<recursionLimit
 un:A.units+16*k+200<cLine
theorem cL.mono {j k:Nat}{A:Around}(r:cL k A)(h:j<=k):cL j A:=⟨r.hd,by have:=r.dp;omega,by have:=r.un;omega⟩
theorem cL.deeper {k:Nat}{A:Around}(r:cL (k+1) A)(env:Env):cL k (A.deeper env) :=
 ⟨r.hd,by have:=r.dp;show A.depth+1+3*k+5<_;omega,by have:=r.un;show A.units+3+16*k+200<_;omega⟩
theorem KW {A:Around}{C:Addr}{us:List Value}{kw:List (Str×Value)}:(A.under (.builtin "type.__call__" ⟨.ref C::us,kw⟩)).depth=A.depth+1:=by
 first|rfl|simp [Around.under,Code.weight,Code.isCreation,Code.isGuard,Code.isCaller,Code.frames,Code.isFrame,guardIds]
theorem KZ {A:Around}{C:Addr}{us:List Value}{kw:List (Str×Value)}:(A.under (.builtin "type.__call__" ⟨.ref C::us,kw⟩)).units=A.units+1:=by
 first|rfl|simp [Around.under,Code.cUnits,Code.frames,Code.isFrame]
theorem cL.make {k:Nat}{A:Around}(r:cL (k+1) A)(C:Addr)(us:List Value)(kw:List (Str×Value)):cL k (A.under (.builtin "type.__call__" ⟨.ref C::us,kw⟩)) :=
 ⟨r.hd,by have:=r.dp;rw[KW];omega,by have:=r.un;rw[KZ];omega⟩
theorem cL.depth {k:Nat}{A:Around}(r:cL k A):A.depth<recursionLimit:=by have:=r.dp;omega
noncomputable def Iv:TA:=fun _ H Q=>Q [] H
noncomputable def Fs (ta:TE)(tr:TA):TA:=fun σ H Q=>ta σ H fun x H1=>tr σ H1 fun xs H2=>Q (x::xs) H2
section
variable {X:Cx}{e:Expr}{es:List Expr}{te:TE}{t:TA}{pos:Pos}
theorem ON:PA X [] Iv:=fun _ _ _ _ H Q I h=>Calls.spliced_nil ⟨[],H,I,.nil,h⟩
theorem BW (ha:PE X e te)(hr:PA X es t)(hs:starEach (e::es) X.env=(false,eval e X.env)::starEach es X.env:=by rfl):PA X (e::es) (Fs te t):=by
 intro pos pins s σ H Q I h
 rw[hs]
 show wpAny _ _ (spliced ((false,eval e X.env)::backTo pos (starEach es X.env))) _ _ s
 refine Calls.spliced_cons (aV (ha pins s σ H _ I h) fun u s1 ⟨x,H1,I1,r1,q1⟩=>?_)
 exact aV (hr pos pins s1 σ H1 _ I1 q1) fun us s2 ⟨xs,H2,I2,r2,q2⟩=>⟨x::xs,H2,I2,.cons r1 r2,q2⟩
noncomputable def Hj (t:TA):TE:=fun σ H Q=>t σ H fun xs H1=>xs.length<=sizeLine/\∀ p,H1 p=none->Q (.ref p) (upd H1 p (.tup xs))
noncomputable def Ii (t:TA):TE:=fun σ H Q=>t σ H fun xs H1=>xs.length<=sizeLine/\∀ p,H1 p=none->Q (.ref p) (upd H1 p (.lst xs))
theorem ZP {x1}(h:PA X es t):PE X (.Tuple es x1 pos) (Hj t):=by
 intro pins s σ H Q I hq
 refine wpAny_Tuple_spliced (aV (h pos pins s σ H _ I hq) fun us s1 ⟨xs,H1,I1,r,z,q⟩=>⟨by rw[<-r.length];exact z,?_⟩)
 have hf:H1 s1.heap.objs.size=none:=I1.bJ.fresh (Nat.le_refl _)
 refine⟨.ref s1.heap.objs.size,upd H1 s1.heap.objs.size (.tup xs),I1.laid (t':=s1.toks) (fun b u e=>Heap.get?_push_of_some _ e) (Nat.le_refl _) ?_,rfl,q _ hf⟩
 exact⟨z,us,r,nZ.new _ _⟩
theorem XN (h:PA X es t):PE X (.List es pos) (Ii t):=by
 intro pins s σ H Q I hq
 refine wpAny_List_spliced (aV (h pos pins s σ H _ I hq) fun us s1 ⟨xs,H1,I1,r,z,q⟩=>⟨by rw[<-r.length];exact z,?_⟩)
 have hf:H1 s1.heap.objs.size=none:=I1.bJ.fresh (Nat.le_refl _)
 refine⟨.ref s1.heap.objs.size,upd H1 s1.heap.objs.size (.lst xs),I1.laid (t':=s1.toks) (fun b u e=>Heap.get?_push_of_some _ e) (Nat.le_refl _) ?_,rfl,q _ hf⟩
 exact⟨z,us,0,r,Heap.get?_push_size _ rfl⟩
end
noncomputable abbrev Sp:=List V->Hp->VK->XK->Prop
noncomputable abbrev yN:=List Env->Hp->Shared->XK->Value->Shared->Prop
structure rJ (P:Program)(w:World)(K:PySem.W.Frag)(mg:Str->Option Value)(base:Heap)(A:Around)(outer:List Env)(s:Shared)(H:Hp):Prop where
 frames:A.frames=some outer
 mod:Mod K mg base
 bs:∀ b o,base.get? b=some o->s.heap.get? b=some o/\H b=none
 bsz:base.objs.size<=s.heap.objs.size
 kC:s.heap.FunFrames base outer
 frf:∀ b∈sG outer,H b=none
 bJ:fT P w H s.heap
 bare:AllBare s.gens
inductive CE (outer:List Env)(P:Program)(w:World)(H:Hp)(s:Shared)(Q:VK)(u:Value)(s':Shared):Prop
 |mk (v:V)(H':Hp)(a:s'.os=s.os)(b:AllBare s'.gens)(c:Un (sG outer) [] H H' s.heap s'.heap)(d:fT P w H' s'.heap)(r:RelV v u)(q:Q v H')
noncomputable def CR (CX:yN)(outer:List Env)(P:Program)(w:World)(H:Hp)(s:Shared)(Q:VK)(E:XK)(r:Result)(s':Shared):Prop :=
 match r with
 |.ok (.ret u)=>CE outer P w H s Q u s'
 |.ok _=>False
 |.error e=>CX outer H s E e s'
structure eI (P:Program)(w:World)(K:PySem.W.Frag)(mg:Str->Option Value)(base:Heap)(CX:yN)(k:Nat)(f:Addr)(fd:FuncData)(ps:List Str)(sp:Sp):Prop where
 len:∀ vs H Q E,sp vs H Q E->vs.length=ps.length
 run:∀(A:Around)(outer:List Env)(s:Shared)(H:Hp)(args:Args)(us:List Value)(vs:List V)(Q:VK)(E:XK),cL k A->rJ P w K mg base A outer s H->BindsTo s fd args (ps.zip us)->aO vs us->sp vs H Q E ->
 codeAny (model P w) A (.call (.ref f) args) (CR CX outer P w H s Q E) s
theorem rJ.make {P:Program}{w:World}{K:PySem.W.Frag}{mg:Str->Option Value}{base:Heap}{A:Around}{outer:List Env}{s:Shared}{H:Hp}(e:rJ P w K mg base A outer s H)(C:Addr)(us:List Value)(kw:List (Str×Value)):
 rJ P w K mg base (A.under (.builtin "type.__call__" ⟨.ref C::us,kw⟩)) outer s H:=⟨by first|exact e.frames|(simpa [Around.under,Code.envs,Code.isFrame,pushEnvs]using e.frames),e.mod,e.bs,e.bsz,e.kC,e.frf,e.bJ,e.bare⟩
section
variable {X:Cx}{pins:List (Addr×Obj)}{σ:St}{H:Hp}{s s':Shared}
theorem Inv.KP (I:Inv X pins σ H s):rJ X.prog X.w X.K X.mg X.base X.A X.stack s H :=
 ⟨I.ok.frames,I.ok.mod,I.bs,Nat.le_trans I.ok.bsz I.sz,I.stack,I.J4,I.bJ,I.bare⟩
theorem Inv.after {Q:VK}{u:Value}(I:Inv X pins σ H s)(h:CE X.stack X.prog X.w H s Q u s'):EP X pins σ Q u s':=by
 obtain⟨v,H',os,bare,un,bJ,r,q⟩:=h
 obtain⟨hh,g,d,t,os'⟩:=s'
 obtain rfl:os'=s.os:=os
 exact⟨v,H',I.call (h':=hh) (g':=g) (d':=d) (t':=t) (ch:=[]) un bJ bare (fun b z=>absurd z (by simp)),r,q⟩
end
noncomputable def Cq (sp:Sp)(dvs:List V)(E:XK)(t:TA):TE:=fun σ H Q=>t σ H fun vs H1=>sp (vs++dvs) H1 Q E
noncomputable def Bn (C:Addr)(m:Str)(sp:Sp)(dvs:List V)(E:XK)(ta:TE)(t:TA):TE:=fun σ H Q=>ta σ H fun x H1=>∃ a dx fs,x=.ref a/\H1 a=some (.ins C dx fs)/\fs.lookup m=none /\
 t σ H1 fun vs H2=>sp (x::(vs++dvs)) H2 Q E
noncomputable def Ew (C:Addr)(sp:Sp)(dvs:List V)(E:XK)(t:TA):TE:=fun σ H Q=>t σ H fun vs H1=>∀ x dx,H1 x=none->H1 dx=none->dx≠x ->
 sp (.ref x::(vs++dvs)) (upd (upd H1 dx (.own x)) x (.ins C dx [])) (fun v H2=>v=.non/\Q (.ref x) H2) E
noncomputable def Binds (K:PySem.W.Frag)(fd:FuncData)(ps:List Str)(ds:List Value):Prop :=
 ∀(s:Shared)(us:List Value),K.In s.heap->(us++ds).length=ps.length->BindsTo s fd ⟨us,[]⟩ (ps.zip (us++ds))
theorem Binds.all {K:PySem.W.Frag}{fd:FuncData}{ps:List Str}(h:∀ us:List Value,us.length=ps.length->bindArgs fd ⟨us,[]⟩=pure (ps.zip us)):Binds K fd ps []:=fun s us _ hl=>by
 rw[List.append_nil]at hl ⊢
 exact .of_eq (h us hl)
noncomputable def nG (CX:yN)(X:Cx)(E:XK):Prop:=∀(pins:List (Addr×Obj))(σ:St)(H:Hp)(s:Shared)(e:Value)(s':Shared),Inv X pins σ H s->CX X.stack H s E e s'->X.xe e s'
section
variable {X:Cx}{CX:yN}{k:Nat}{f C:Addr}{fd:FuncData}{ps:List Str}{sp:Sp}{dvs:List V}{ds:List Value}{E:XK}{x m:Str}{p pos apos:Pos}{e o:Expr}{es:List Expr}{ta:TE}{t:TA}
theorem MN {pins:List (Addr×Obj)}{σ:St}{H:Hp}{s:Shared}{Q:VK}{us:List Value}{vs:List V}(F:eI X.prog X.w X.K X.mg X.base CX k f fd ps sp)(hr:cL k X.A)(hb:Binds X.K fd ps ds)(hd:aO dvs ds)(hx:nG CX X E)
 (I:Inv X pins σ H s)(r:aO vs us)(h:sp (vs++dvs) H Q E):wpAny (model X.prog X.w) X.A (call (.ref f) us) (EP X pins σ Q) X.xe s:=by
 have r2:aO (vs++dvs) (us++ds):=r.append hd
 have hl:(us++ds).length=ps.length:=by rw[<-r2.length];exact F.len _ _ _ _ h
 refine wpAny_call (codeAny_mono (F.run X.A X.stack s H ⟨us,[]⟩ (us++ds) (vs++dvs) Q E hr I.KP (hb s us I.iA hl) r2 h) fun r s' hq=>?_)
 cases r with
 |error e=>exact hx pins σ H s e s' I hq
 |ok fl =>
 cases fl with
 |ret u=>exact I.after hq
 |next=>exact False.elim hq
 |brk=>exact False.elim hq
 |cont=>exact False.elim hq
theorem UG (F:eI X.prog X.w X.K X.mg X.base CX k f fd ps sp)(hr:cL k X.A)(hg:Gl X x)(hm:X.mg x=some (.ref f))(hk:PySem.W.keepIn X.K (.ref f)=true)(hb:Binds X.K fd ps ds)(hd:aO dvs ds)(hx:nG CX X E)
 (ha:PA X (e::es) t)(hdb:(x==("__debug__" : Str))=false:=by decide)(he:starEach (e::es) X.env=(false,eval e X.env)::starEach es X.env:=by rfl)(cT:(backTo pos (starEach es X.env)).any (·.1)=false:=by rfl):
 PE X (.Call (.Name x p) (e::es) [] pos) (Cq sp dvs E t):=by
 intro pins s σ H Q I h
 refine wpAny_Call_Name_kw (xG I hg hm ?_ hdb)
 refine PySem.W.callWith_K (h₀:=X.base) I.ok.mod.kin hk (aV (ha pos pins s σ H _ I h) fun us s1 ⟨vs,H1,I1,r,q⟩=>⟨I1.iA,?_⟩) he cT
 exact MN F hr hb hd hx I1 r q
theorem SW {pl:Sem Bool}(he:PE X o ta)(c:sL X.K C)(hm:BH X.K C m f)(F:eI X.prog X.w X.K X.mg X.base CX k f fd ps sp)(hr:cL k X.A)(hb:Binds X.K fd ps ds)(hd:aO dvs ds)(hx:nG CX X E)(ha:PA X (e::es) t)
 (eB:starEach (e::es) X.env=(false,eval e X.env)::starEach es X.env:=by rfl)(cT:(backTo pos (starEach es X.env)).any (·.1)=false:=by rfl)
 (ht:eval (.Call (.Attribute o m apos) (e::es) [] pos) X.env=(do
  let ov <-eval o X.env
  standAt apos.atName
  let(f,first) <-holding [ov] (getMethod ov m pl)
  callWith pos f first (backTo pos (starEach (e::es) X.env)) (backToKw pos (keywordEach [] X.env))):=by rfl):
 PE X (.Call (.Attribute o m apos) (e::es) [] pos) (Bn C m sp dvs E ta t):=by
 intro pins s σ H Q I h
 refine PySem.W.methodCall_KW (pl:=pl) (aV (he pins s σ H _ I h) fun u s1 ⟨x,H1,I1,rx,a,dx,fs,ex,ea,l,q⟩=>?_) ht
 subst ex
 obtain rfl:u=Value.ref a:=rx
 refine A0 I1 ea c hm l ?_
 refine PySem.W.callWith_K (first:=[.ref a]) (h₀:=X.base) I.ok.mod.kin hm.kp (aV (ha pos pins s1 σ H1 _ I1 q) fun us s2 ⟨vs,H2,I2,r,q2⟩=>⟨I2.iA,?_⟩) eB cT
 exact MN (us:=.ref a::us) (vs:=.ref a::vs) F hr hb hd hx I2 (.cons rfl r) q2
structure Mk (K:PySem.W.Frag)(C f:Addr):Prop where
 makes:PySem.W.makesIn K C=true
 init:PySem.W.findIn K (.ref C) "__init__" = some (some (.ref f))
 fn:PySem.W.isFn K (.ref f)=true
 kp:PySem.W.keepIn K (.ref C)=true
theorem Q4 {pins:List (Addr×Obj)}{σ:St}{H:Hp}{s:Shared}{Q:VK}{us:List Value}{vs:List V}(M:Mk X.K C f)(F:eI X.prog X.w X.K X.mg X.base CX k f fd ps sp)(hr:cL (k+1) X.A)(hb:Binds X.K fd ps ds)(hd:aO dvs ds)
  (hx:nG CX X E)(I:Inv X pins σ H s)(r:aO vs us)
  (h:∀ x dx,H x=none->H dx=none->dx≠x->sp (.ref x::(vs++dvs)) (upd (upd H dx (.own x)) x (.ins C dx [])) (fun v H2=>v=.non/\Q (.ref x) H2) E):
  wpAny (model X.prog X.w) X.A (call (.ref C) us) (EP X pins σ Q) X.xe s:=by
 have hq:=h (s.heap.objs.size+1) s.heap.objs.size (I.bJ.fresh (Nat.le_succ _)) (I.bJ.fresh (Nat.le_refl _)) (Nat.ne_of_lt (Nat.lt_succ_self _))
 have I2:=Inv.made (C:=C) I
 have r2:aO (V.ref (s.heap.objs.size+1)::(vs++dvs)) (Value.ref (s.heap.objs.size+1)::(us++ds)):=.cons rfl (r.append hd)
 have hl:(Value.ref (s.heap.objs.size+1)::us++ds).length=ps.length:=by
  have e:=r2.length
  rw[F.len _ _ _ _ hq]at e
  exact e.symm
 refine wpAny_call (PX (f:=f) I.iA M.makes M.init (beq_iff_eq.mp M.fn) (codeAny_mono (F.run _ X.stack _ _ ⟨Value.ref (s.heap.objs.size+1)::us,[]⟩ (Value.ref (s.heap.objs.size+1)::(us++ds)) _ _ E (hr.make C us [])
  (I2.KP.make C us []) (hb _ (Value.ref (s.heap.objs.size+1)::us) I2.iA hl) r2 hq) fun r s' hq'=>?_))
 cases r with
 |error e=>exact hx pins σ _ _ e s' I2 hq'
 |ok fl =>
  cases fl with
  |ret u =>
   obtain⟨v,H',I3,rv,ev,q3⟩:=I2.after hq'
   subst ev
   exact⟨rv,⟨V.ref (s.heap.objs.size+1),H',I3,rfl,q3⟩⟩
  |next=>exact False.elim hq'
  |brk=>exact False.elim hq'
  |cont=>exact False.elim hq'
theorem S5 (M:Mk X.K C f)(F:eI X.prog X.w X.K X.mg X.base CX k f fd ps sp)(hr:cL (k+1) X.A)(hg:Gl X x)(hm:X.mg x=some (.ref C))(hb:Binds X.K fd ps ds)(hd:aO dvs ds)(hx:nG CX X E)
 (ha:PA X (e::es) t)(hdb:(x==("__debug__" : Str))=false:=by decide)(he:starEach (e::es) X.env=(false,eval e X.env)::starEach es X.env:=by rfl)(cT:(backTo pos (starEach es X.env)).any (·.1)=false:=by rfl):
 PE X (.Call (.Name x p) (e::es) [] pos) (Ew C sp dvs E t):=by
 intro pins s σ H Q I h
 refine wpAny_Call_Name_kw (xG I hg hm ?_ hdb)
 refine PySem.W.callWith_K (h₀:=X.base) I.ok.mod.kin M.kp (aV (ha pos pins s σ H _ I h) fun us s1 ⟨vs,H1,I1,r,q⟩=>⟨I1.iA,?_⟩) he cT
 exact Q4 M F hr hb hd hx I1 r q
end
structure lF (N P:List Str)(sc:Scope):Prop where
 kind:sc.kind=.function
 co:sc.isCoroutine=false
 gen:sc.isGenerator=false
 nd:N.Nodup
 pre:N.take P.length=P
 par:∀ x∈P,sc.names.lookup x=some .local∨sc.names.lookup x=some .cell
 nofree:∀ y∈sc.names,y.2≠.free
theorem CU {kindOf:Str->Option NameKind}{x:Str}:∀{binds:List (Str×Value)}{m:Str->Option Value},(∀ v,(x,v)∉binds)->bindL kindOf binds m x=m x
 |[],_,_=>rfl
 |(n,v)::r,m,h=>by
  unfold bindL
  rw[CU fun w hw=>h w (List.mem_cons_of_mem _ hw)]
  split
  ·have:x≠n:=by rintro rfl;exact h v List.mem_cons_self
   simp [this]
  ·rfl
theorem DM {kindOf:Str->Option NameKind}{x:Str}:∀{binds:List (Str×Value)}{m:Str->Option Value},(∀ v,(x,v)∉binds)->bindC kindOf binds m x=m x
 |[],_,_=>rfl
 |(n,v)::r,m,h=>by
  unfold bindC
  rw[DM fun w hw=>h w (List.mem_cons_of_mem _ hw)]
  split
  ·rfl
  ·have:x≠n:=by rintro rfl;exact h v List.mem_cons_self
   simp [this]
theorem CO {kindOf:Str->Option NameKind}{x:Str}{v:Value}:∀{P:List Str}{vs:List Value}{i:Nat}{m:Str->Option Value},P.Nodup->P[i]? = some x->vs[i]? = some v->kindOf x=some .local ->
  bindL kindOf (P.zip vs) m x=some v
 |[],_,_,_,_,h,_,_=>by simp at h
 |_::_,[],_,_,_,_,h,_=>by simp at h
 |p::P,w::vs,0,m,nd,h1,h2,hk=>by
  simp at h1 h2;subst h1;subst h2
  show bindL kindOf ((p,w)::P.zip vs) m p=_
  unfold bindL
  rw[CU fun v hv=>(List.nodup_cons.mp nd).1 (List.of_mem_zip hv).1,if_pos hk]
  simp
 |p::P,w::vs,i+1,m,nd,h1,h2,hk=>by
  show bindL kindOf ((p,w)::P.zip vs) m x=_
  unfold bindL
  exact CO (i:=i) (List.nodup_cons.mp nd).2 (by simpa using h1) (by simpa using h2) hk
theorem DN {kindOf:Str->Option NameKind}{x:Str}{v:Value}:∀{P:List Str}{vs:List Value}{i:Nat}{m:Str->Option Value},P.Nodup->P[i]? = some x->vs[i]? = some v->kindOf x≠some .local ->
  bindC kindOf (P.zip vs) m x=some v
 |[],_,_,_,_,h,_,_=>by simp at h
 |_::_,[],_,_,_,_,h,_=>by simp at h
 |p::P,w::vs,0,m,nd,h1,h2,hk=>by
  simp at h1 h2;subst h1;subst h2
  show bindC kindOf ((p,w)::P.zip vs) m p=_
  unfold bindC
  rw[DM fun v hv=>(List.nodup_cons.mp nd).1 (List.of_mem_zip hv).1,if_neg hk]
  simp
 |p::P,w::vs,i+1,m,nd,h1,h2,hk=>by
  show bindC kindOf ((p,w)::P.zip vs) m x=_
  unfold bindC
  exact DN (i:=i) (List.nodup_cons.mp nd).2 (by simpa using h1) (by simpa using h2) hk
noncomputable def start (N:List Str)(vs:List V):St:=vs.map some++List.replicate (N.length-vs.length) none
noncomputable def dZ (CX:yN)(P:Program)(w:World)(K:PySem.W.Frag)(mg:Str->Option Value)(base:Heap)(N:List Str)(qual:Str)(scope:Scope)(f:Addr)(cd:Value)(A:Around)(outer:List Env)(s:Shared)(H:Hp)(E:XK):Cx where
 prog:=P
 w:=w
 K:=K
 mg:=mg
 base:=base
 A:=A.deeper (envOfC qual scope s.heap.objs.size f cd)
 N:=N
 s₀:=s
 H₀:=H
 env:=envOfC qual scope s.heap.objs.size f cd
 outer:=outer
 stack:=envOfC qual scope s.heap.objs.size f cd::outer
 ex:=[]
 calm:=true
 fn:=fun _=>true
 pn:=[]
 xe:=fun e s'=>wpAny (model P w) (A.deeper (envOfC qual scope s.heap.objs.size f cd)) (leaving (envOfC qual scope s.heap.objs.size f cd) e) (fun _ s''=>CX outer H s E e s'') (fun e' s''=>CX outer H s E e' s'') s'
theorem FH {sc:Scope}{n:Nat}{x:Str}(h:sc.names.lookup x=some .cell):∃ c,(cellsFrom n sc.names []).lookup x=some c:=by
 have q:=PySem.W.cellsFrom_some sc.names n [] (.inl h)
 exact Option.isSome_iff_exists.mp q
theorem NC {CX:yN}{P:Program}{w:World}{K:PySem.W.Frag}{mg:Str->Option Value}{base:Heap}{N ps:List Str}{qual:Str}{scope:Scope}{f:Addr}{cd:Value}{A:Around}{outer:List Env}{s s1:Shared}{H:Hp}{E:XK}{us:List Value}{vs:List V}
  (S:lF N ps scope)(hd:A.handled=none)(e0:rJ P w K mg base A outer s H)(hl:vs.length=ps.length)(r:aO vs us)
  (x:InCallC s s.heap.objs.size (bindL (envOfC qual scope s.heap.objs.size f cd).kindOf (ps.zip us) fun _=>none) (cellsFrom (s.heap.objs.size+1) scope.names []) (bindC (envOfC qual scope s.heap.objs.size f cd).kindOf (ps.zip us) fun _=>none) s1):
  Inv (dZ CX P w K mg base N qual scope f cd A outer s H E) [] (start N vs) H s1:=by
 have cT:ps.length<=N.length:=by have:=congrArg List.length S.pre;rw[List.length_take]at this;omega
 obtain⟨h1,tk,rfl,hk⟩:=x.done
 have noA:∀ b:Addr,b∉(dZ CX P w K mg base N qual scope f cd A outer s H E).ex:=fun b z=>absurd (show b∈([]:List Addr)from z) (by simp)
 refine⟨⟨e0.mod,S.kind,rfl,rfl,Nat.le_refl _,fun y z c h1 h2=>?_,fun y hy=>?_,fun y c _ h=>?_,fun _=>hd,Around.frames_deeper e0.frames,.inr ⟨rfl,rfl⟩,fun b z=>absurd z (noA b),e0.bs,e0.bsz,fun b _ _=>noA b,fun b z=>absurd z (noA b),e0.kC,e0.frf⟩,
  rfl,e0.bare,Un.kept hk,⟨_,x.toInCall.ns,fun i y v h1 h2 h3=>?_⟩,fun y c h=>⟨_,x.cell y c h⟩,e0.bJ.fresh (Nat.le_refl _),fun y c h=>?_,fun p hp=>absurd (show p∈([]:List (Addr×Obj))from hp) (by simp),e0.bJ.kept hk,?_⟩
 ·exact name_of_addr x.apart (PySem.mem_of_lookup h1) (PySem.mem_of_lookup h2)
 ·have hy:scope.names.lookup y=some .cell∨scope.names.lookup y=some .free:=hy
  rcases hy with hy|hy
  ·exact FH hy
  ·exact absurd rfl (S.nofree _ (PySem.mem_of_lookup hy))
 ·exact Nat.le_of_lt (x.above y c (PySem.mem_of_lookup h))
 ·have hi:i<vs.length:=by
   unfold start at h2
   by_cases hi:i<vs.length
   ·exact hi
   ·rw[List.getElem?_append_right (by simpa using hi)]at h2
    rw[List.getElem?_replicate]at h2
    split at h2<;>cases h2
  have ha:vs[i]? = some v:=by
   unfold start at h2
   rw[List.getElem?_append_left (by simpa using hi),List.getElem?_map]at h2
   cases e:vs[i]? with
   |none=>rw[e]at h2;cases h2
   |some a=>rw[e]at h2;cases h2;rfl
  obtain⟨u,hu,rv⟩:=r.get ha
  have hp:ps[i]? = some y:=by
   rw[<-S.pre,List.getElem?_take_of_lt (by omega)];exact h1
  have ndP:ps.Nodup:=by rw[<-S.pre];exact S.nd.sublist (List.take_sublist _ _)
  refine⟨u,rv,?_⟩
  rcases S.par y (List.mem_of_getElem? hp)with k|k
  ·exact .inl ⟨k,CO ndP hp hu k⟩
  ·obtain⟨c,e⟩:=FH (n:=s.heap.objs.size+1) k
   refine .inr ⟨.inl k,c,e,?_⟩
   have q:=x.cell y c e
   rw[DN ndP hp hu (by show scope.names.lookup y≠_;rw[k];decide)]at q
   exact q
 ·exact e0.bJ.fresh (Nat.le_of_lt (x.above y c (PySem.mem_of_lookup h)))
 ·unfold start
  show _=N.length
  rw[List.length_append,List.length_map,List.length_replicate]
  omega
theorem R7 {CX:yN}{P:Program}{w:World}{K:PySem.W.Frag}{mg:Str->Option Value}{base:Heap}{k:Nat}{f:Addr}{name qual:Str}{params:Arguments}{body:List Stmt}{scope:Scope}{dV kV doc pm bD ct oc:Value}{an od:Option Addr}
  {osl:Array (Option Value)}{N ps:List Str}{sp:Sp}(lk:K.lookup f=some ⟨oc,od,.func (PySem.W.fnOf name qual params body scope dV kV doc pm an bD ct),osl⟩)(hcd:PySem.W.codeIn K bD qual=true)(S:lF N ps scope)
  (len:∀ vs H Q E,sp vs H Q E->vs.length=ps.length)
  (hbody:∀(A:Around)(outer:List Env)(s:Shared)(H:Hp)(vs:List V)(Q:VK)(E:XK),cL k (A.deeper (envOfC qual scope s.heap.objs.size f bD))->sp vs H Q E ->
   ∃ t,jP (dZ CX P w K mg base N qual scope f bD A outer s H E) body t/\t { nx:=fun _ H'=>Q .non H',rt:=Q } (start N vs) H):
  eI P w K mg base CX (k+1) f (PySem.W.fnOf name qual params body scope dV kV doc pm an bD ct) ps sp:=by
 refine⟨len,fun A outer s H args us vs Q E hr e0 hb r hsp=>?_⟩
 have hl:=len _ _ _ _ hsp
 have KX:K.In s.heap:=e0.mod.kin.keeps fun b o e=>(e0.bs b o e).1
 have lim:s.heap.NoLimit:=e0.mod.nolimit.keeps fun b o e=>(e0.bs b o e).1
 have hkind:∀ y∈ps.zip us,scope.names.lookup y.1=some .local∨(scope.names.lookup y.1=some .cell/\((cellsFrom (s.heap.objs.size+1) scope.names []).lookup y.1).isSome=true):=fun⟨n,v⟩ hy=>by
  rcases S.par n (List.of_mem_zip hy).1 with q|q
  ·exact .inl q
  ·exact .inr ⟨q,PySem.W.cellsFrom_some _ _ _ (.inl q)⟩
 refine codeAny_call_function hr.depth (KX _ _ lk) rfl S.co S.gen rfl (PySem.W.codeRec_of KX hcd) (hb _ _ _ _ ?_)
 refine wpAny_newFunctionEnv_cells S.kind hkind fun env he s1 x=>?_
 subst he
 refine⟨lim.keeps x.toInCall.keep,codeAny_func ?_⟩
 obtain⟨t,ht,hq⟩:=hbody A outer s H vs Q E (hr.deeper _) hsp
 have I:Inv (dZ CX P w K mg base N qual scope f bD A outer s H E) [] (start N vs) H s1:=NC S hr.hd e0 hl r x
 refine wpAny_mono (ht [] s1 (start N vs) H _ I hq) (fun fl s' hs=>?_) fun e s' hs=>hs
 have fin:∀{σ':St}{H':Hp}{v:V}{u:Value},Inv (dZ CX P w K mg base N qual scope f bD A outer s H E) [] σ' H' s'->RelV v u->Q v H'->CE outer P w H s Q u s' :=
  fun{σ' H' v u} J rv q=>⟨v,H',J.os,J.bare,J.base,J.bJ,rv,q⟩
 cases fl with
 |ret u =>
  obtain⟨v,σ',H',J,rv,q⟩:=hs
  exact fin J rv q
 |next =>
  obtain⟨σ',H',J,q⟩:=hs
  exact fin (v:=V.non) (u:=Value.none) J rfl q
 |brk =>
  obtain⟨_,_,_,q⟩:=hs
  exact False.elim q
 |cont =>
  obtain⟨_,_,_,q⟩:=hs
  exact False.elim q
end L2
namespace L2
open PySem PySem.Spec PyProof.Rows
section
variable {X:Cx}{x:Str}{p pos:Pos}{e:Expr}{es:List Expr}{t:TA}{id T:String}{r:List V->Hp->VK->Prop}
noncomputable def YK (r:List V->Hp->VK->Prop)(t:TA):TE:=fun σ H Q=>t σ H fun vs H1=>r vs H1 Q
theorem FX (hc:tP X (.builtin id) r)(hg:Gl X x)(hm:X.mg x=none)(hv:bootBuiltins x=some (.builtin id))(ha:PA X (e::es) t)(hn:x ≠"__name__":=by decide)(hdb:(x==("__debug__" : Str))=false:=by decide)
 (he:starEach (e::es) X.env=(false,eval e X.env)::starEach es X.env:=by rfl)(cT:(backTo pos (starEach es X.env)).any (·.1)=false:=by rfl):PE X (.Call (.Name x p) (e::es) [] pos) (YK r t):=by
 intro pins s σ H Q I h
 refine wpAny_Call_Name_kw (kL I hg hm hv ?_ hn hdb)
 exact PyProof.Rows.callWith_builtin1 (aV (ha pos pins s σ H _ I h) fun us s1 ⟨vs,H1,I1,r1,q1⟩=>hc pins s1 σ H1 vs us Q I1 r1 q1) he cT
theorem MS (hc:tP X (.type T) r)(hg:Gl X x)(hm:X.mg x=none)(hv:bootBuiltins x=some (.type T))(ha:PA X (e::es) t)(hn:x ≠"__name__":=by decide)(hdb:(x==("__debug__" : Str))=false:=by decide)
 (he:starEach (e::es) X.env=(false,eval e X.env)::starEach es X.env:=by rfl)(cT:(backTo pos (starEach es X.env)).any (·.1)=false:=by rfl):PE X (.Call (.Name x p) (e::es) [] pos) (YK r t):=by
 intro pins s σ H Q I h
 refine wpAny_Call_Name_kw (kL I hg hm hv ?_ hn hdb)
 exact PyProof.Rows.callWith_type1 (aV (ha pos pins s σ H _ I h) fun us s1 ⟨vs,H1,I1,r1,q1⟩=>hc pins s1 σ H1 vs us Q I1 r1 q1) he cT
end
end L2
namespace HT
open PySem PyProof.Rows
section
variable {prog:Program}{w:World}{A:Around}{E:Value->Shared->Prop}{s:Shared}
theorem TY {t b:Addr}{vs ws:List Value}{Q:Value->Shared->Prop}(ht:IsTup s.heap t vs.toArray)(hb:IsTup s.heap b ws.toArray)(hv:vs≠[])
  (h1:ws=[]->Q (.ref t) s)(h2:ws≠[]->Q (.ref s.heap.objs.size) { s with heap:=s.heap.push { cls:=.type "tuple", data:=.seq (vs++ws).toArray } })
  (jK:vs.length+ws.length<=sizeLine):wpAny (model prog w) A (binaryOp .Add (.ref t) (.ref b)) Q E s:=by
 obtain⟨⟨cls,dd,data,sl⟩,ho,hc,n,hd⟩:=id ht
 obtain⟨⟨cls2,dd2,data2,sl2⟩,ho2,hc2,n2,hd2⟩:=id hb
 simp only at hc hd hc2 hd2
 subst hc hd hc2 hd2
 have e:vs.toArray++ws.toArray=(vs++ws).toArray:=by simp
 by_cases hw:ws=[]
 ·exact concat_meets ⟨_,ho,rfl⟩ ⟨_,ho2,rfl⟩ noFill_tuple_add seq_tuple_add PySem.F.slot_tuple_add PySem.F.entry_tuple_add (PySem.F.args_tuple_add_2 _ _)
   (tuple_addW1 t b vs.toArray ws.toArray n n2 dd dd2 sl sl2 (by simpa using hv) (by simp [hw])) ⟨ho,ho2,h1 hw⟩
 ·refine concat_meets ⟨_,ho,rfl⟩ ⟨_,ho2,rfl⟩ noFill_tuple_add seq_tuple_add PySem.F.slot_tuple_add PySem.F.entry_tuple_add (PySem.F.args_tuple_add_2 _ _)
   (tuple_addW2 t b vs.toArray ws.toArray n n2 dd dd2 sl sl2 (by simpa using hv) (by simpa using hw) (by rw[List.size_toArray,List.size_toArray];exact jK)) ⟨ho,ho2,?_⟩
  rw[e]
  exact h2 hw
noncomputable def bX (n d:Nat):Option Int->Nat
 |none=>d
 |some v=>if v<0 then(v+(n:Int)).toNat else min v.toNat n
theorem X5 (n d:Nat)(hd:d<=n)(o:Option Int):bX n d o<=n:=by
 cases o with
 |none=>exact hd
 |some v =>
 show(if v<0 then(v+(n:Int)).toNat else min v.toNat n)<=n
 by_cases hv:v<0
 ·rw[if_pos hv];omega
 ·rw[if_neg hv];exact Nat.min_le_right _ _
theorem J6 (v:Int)(n d:Nat):(if v<0 then max (v+(n:Int)) 0 else min v (n:Int))=((bX n d (some v):Nat):Int):=by
 show(if v<0 then max (v+(n:Int)) 0 else min v (n:Int))=(((if v<0 then(v+(n:Int)).toNat else min v.toNat n):Nat):Int)
 by_cases hv:v<0
 ·simp only[if_pos hv];omega
 ·simp only[if_neg hv];omega
theorem K3 (lo hi:Option Int)(n:Nat):Builtin.Slice.sliceAdjust lo hi 1 (n:Int)=(((bX n 0 lo:Nat):Int),((bX n n hi:Nat):Int)):=by
 have h1:¬((1:Int)<0):=by omega
 unfold Builtin.Slice.sliceAdjust
 simp only[h1,if_false]
 refine Prod.ext ?_ ?_
 ·cases lo with
 |none=>rfl
 |some v=>exact J6 v n 0
 ·cases hi with
 |none=>rfl
 |some v=>exact J6 v n n
theorem K9 (i j:Nat):Builtin.Slice.slicePlaces (i:Int) (j:Int) 1=j-i:=by
 unfold Builtin.Slice.slicePlaces
 have h1:(1:Int)>0:=by omega
 simp only[h1,if_true,Int.ediv_one]
 split<;>omega
theorem AZ {v:Value}{o:Option Int}{Q:Option Int->Shared->Prop}(p:IsPart v o)(h:Q o s):wpAny (model prog w) A (Builtin.Slice.slicePartIndex v) Q E s:=by
 cases p with
 |none=>exact slicePart_none h
 |int i t=>exact slicePart_int h
theorem pB {sl:Addr}{vl vu:Value}{lo hi:Option Int}{n:Nat}{Q:Int×Int×Nat->Shared->Prop}(hs:s.heap.IsSliceOf sl vl vu .none)(pl:IsPart vl lo)(pu:IsPart vu hi)
 (h:Q (((bX n 0 lo:Nat):Int),1,bX n n hi-bX n 0 lo) s):wpAny (model prog w) A (Builtin.Slice.sliceApplied (.ref sl) (pure (n:Int))) Q E s:=by
 obtain⟨os,hos,hcs,hds⟩:=id hs
 unfold Builtin.Slice.sliceApplied Builtin.Slice.sliceFields
 refine wpAny_bind (wpAny_bind (wpAny_field hos hds (x:=vl) rfl (wpAny_bind (wpAny_field hos hds (x:=vu) rfl (wpAny_bind (wpAny_field hos hds (x:=.none) rfl (wpAny_pure ?_)))))))
 refine wpAny_bind (slicePart_none ?_)
 show wpAny _ _ (if((1:Int)==0)=true then _ else _) _ _ s
 rw[if_neg (by decide)]
 refine wpAny_bind (AZ pl (wpAny_bind (AZ pu (wpAny_bind (wpAny_pure ?_)))))
 show wpAny _ _ (match Builtin.Slice.sliceAdjust lo hi 1 (n:Int)with|(lo,hi)=>pure (lo,(1:Int),Builtin.Slice.slicePlaces lo hi 1)) _ _ s
 rw[K3 lo hi n]
 show wpAny _ _ (pure (((bX n 0 lo:Nat):Int),(1:Int),Builtin.Slice.slicePlaces ((bX n 0 lo:Nat):Int) ((bX n n hi:Nat):Int) 1)) _ _ s
 rw[K9]
 exact wpAny_pure h
theorem P4 (xs:Array Value)(i k:Nat):((List.range k).filterMap fun(m:Nat)=>xs[((i:Int)+(m:Int)*1).toNat]?).toArray=((xs.toList.drop i).take k).toArray:=by
 have e:(fun(m:Nat)=>xs[((i:Int)+(m:Int)*1).toNat]?)=fun m=>xs[i+m]?:=by
  funext m
  have:((i:Int)+(m:Int)*1).toNat=i+m:=by omega
  rw[this]
 rw[e]
 have:=pick_run xs i k
 rw[List.filterMap_map]at this
 have e2:((fun x=>xs[x]?)∘fun x=>i+x)=fun m=>xs[i+m]?:=rfl
 rw[e2]at this
 rw[this]
theorem xZ {t sl:Addr}{items:Array Value}{vl vu:Value}{lo hi:Option Int}{Q:Value->Shared->Prop}(ht:IsTup s.heap t items)(hs:s.heap.IsSliceOf sl vl vu .none)(pl:IsPart vl lo)(pu:IsPart vu hi)
  (hw:¬(bX items.size 0 lo=0/\bX items.size items.size hi=items.size))
  (h:Q (.ref s.heap.objs.size) { s with heap:=s.heap.push { cls:=.type "tuple", data:=.seq ((items.toList.drop (bX items.size 0 lo)).take (bX items.size items.size hi-bX items.size 0 lo)).toArray } })
  (jK:items.size<=sizeLine):wpAny (model prog w) A (getItem (.ref t) (.ref sl)) Q E s:=by
 have htake:sizeOk (.seq ((items.toList.drop (bX items.size 0 lo)).take (bX items.size items.size hi-bX items.size 0 lo)).toArray):=by
  show((items.toList.drop (bX items.size 0 lo)).take (bX items.size items.size hi-bX items.size 0 lo)).toArray.size<=sizeLine
  rw[List.size_toArray,List.length_take,List.length_drop,Array.length_toList]
  omega
 have hj:bX items.size items.size hi<=items.size:=X5 _ _ (Nat.le_refl _) hi
 obtain⟨os,hos,hcs,hds⟩:=id hs
 have hTs:s.TypeIs (.ref sl) "slice":=⟨os,hos,hcs⟩
 unfold getItem
 try with_reducible refine wpAny_holding ?_
 first|refine wpAny_bind (wpAny_pure ?_)|skip
 refine wpAny_bind (wpAny_sequenceKey ht.typeIs (by decide) ?_)
 refine wpAny_bind (wpAny_callSpecial?_slot (name:=Str.ofString "__getitem__") ht.typeIs PyProof.Rows.slot_tuple_getitem
  (wpAny_call_entry PyProof.Rows.slot_tuple_getitem ht.typeIs entry_tuple_getitem ?_ (args_tuple_getitem _ _)))
 show wpAny _ _ (Builtin.Tuple.tupleItemsOf (.ref t) >>= _) _ _ s
 refine wpAny_bind (tupleItemsOf_ ht ?_)
 refine wpAny_bind (wpAny_typeOf hTs ?_)
 rw[if_pos (by decide)]
 refine wpAny_bind (pB hs pl pu ?_)
 have hno:¬((((bX items.size 0 lo:Nat):Int)==0&&(1:Int)==1&&(bX items.size items.size hi-bX items.size 0 lo)==items.size)=true):=by
  intro q
  rw[Bool.and_eq_true,Bool.and_eq_true]at q
  have q1:((bX items.size 0 lo:Nat):Int)=0:=eq_of_beq q.1.1
  have q2:bX items.size items.size hi-bX items.size 0 lo=items.size:=eq_of_beq q.2
  exact hw ⟨by omega,by omega⟩
 show wpAny _ _ (if(((bX items.size 0 lo:Nat):Int)==0&&(1:Int)==1&&(bX items.size items.size hi-bX items.size 0 lo)==items.size)=true then _ else _) _ _ s
 rw[if_neg hno,P4]
 first
  |exact wpAny_bind (m:=Builtin.Tuple.tupleExact _) (wpAny_newObj_type (wpAny_pure ⟨_,rfl,wpAny_pure h⟩) htake)
  |exact wpAny_bind (m:=Builtin.Tuple.tupleExact _) (wpAny_newObj_type (wpAny_bind (wpAny_pure (wpAny_pure ⟨_,rfl,wpAny_pure h⟩))) htake)
  |exact wpAny_bind (wpAny_bind (m:=Builtin.Tuple.tupleExact _) (wpAny_newObj_type (wpAny_pure (wpAny_pure ⟨_,rfl,wpAny_pure h⟩)) htake))
  |exact wpAny_bind (wpAny_bind (m:=Builtin.Tuple.tupleExact _) (wpAny_newObj_type (wpAny_pure ⟨_,rfl,wpAny_pure h⟩) htake))
end
end HT
namespace L2
open PySem PySem.Spec PyProof.Rows
noncomputable abbrev TO:=St->Hp->(Option Int->Hp->Prop)->Prop
noncomputable def PO (X:Cx)(e:Option Expr)(t:TO):Prop :=
 ∀(pins:List (Addr×Obj))(s:Shared)(σ:St)(H:Hp)(Q:Option Int->Hp->Prop),Inv X pins σ H s->t σ H Q ->
 wpAny (model X.prog X.w) X.A (evalPart e X.env) (fun u s'=>∃ o H',Inv X pins σ H' s'/\IsPart u o/\Q o H') X.xe s
noncomputable def TH:TO:=fun _ H Q=>Q none H
noncomputable def Em (t:TE):TO:=fun σ H Q=>t σ H fun x H1=>∃ i,x=.int i/\Q (some i) H1
section
variable {X:Cx}{e:Expr}{te:TE}{lo hi:Option Expr}{tl th:TO}{pos p2:Pos}
theorem VI:PO X none TH:=by
 intro pins s σ H Q I h
 rw[evalPart_none]
 exact wpAny_pure ⟨none,H,I,.none,h⟩
theorem VG (h:PE X e te):PO X (some e) (Em te):=by
 intro pins s σ H Q I hw
 rw[evalPart_some]
 refine aV (h pins s σ H _ I hw) fun u s1 ⟨x,H1,I1,r1,q1⟩=>?_
 obtain⟨i,rfl,q⟩:=q1
 obtain⟨t,rfl⟩:=r1
 exact⟨some i,H1,I1,.int i t,q⟩
noncomputable def vO (X:Cx)(r:V->Option Int->Option Int->Hp->VK->Prop):Prop :=
 ∀(pins:List (Addr×Obj))(s:Shared)(σ:St)(H:Hp)(x:V)(v vl vu:Value)(lo hi:Option Int)(sl:Addr)(Q:VK),Inv X pins σ H s->RelV x v->s.heap.IsSliceOf sl vl vu .none->IsPart vl lo->IsPart vu hi->r x lo hi H Q ->
 ∃ T id,typeLookup (.type T) "__getitem__" = pure (some (.builtin id))/\s.TypeIs v T/\wpAny (model X.prog X.w) X.A (getItem v (.ref sl)) (EP X pins σ Q) X.xe s
theorem vO.or {r r':V->Option Int->Option Int->Hp->VK->Prop}(h:vO X r)(h':vO X r'):vO X (fun x lo hi H Q=>r x lo hi H Q∨r' x lo hi H Q):=by
 intro pins s σ H x v vl vu lo hi sl Q I rx hs pl pu q
 rcases q with q|q
 ·exact h pins s σ H x v vl vu lo hi sl Q I rx hs pl pu q
 ·exact h' pins s σ H x v vl vu lo hi sl Q I rx hs pl pu q
noncomputable def Ka (r:V->Option Int->Option Int->Hp->VK->Prop)(te:TE)(tl th:TO):TE:=fun σ H Q=>te σ H fun x H1=>tl σ H1 fun l H2=>th σ H2 fun u H3=>r x l u H3 Q
theorem QG {r:V->Option Int->Option Int->Hp->VK->Prop}(hr:vO X r)(he:PE X e te)(hl:PO X lo tl)(hu:PO X hi th):PE X (.Subscript e (.Slice lo hi none p2) pos) (Ka r te tl th):=by
 intro pins s σ H Q I h
 refine Subscript_ (aV (he pins s σ H _ I h) fun v s1 ⟨x,H1,I1,r1,q1⟩=>?_)
 refine wpAny_Slice (aV (hl pins s1 σ H1 _ I1 q1) fun vl s2 ⟨l,H2,I2,pl,q2⟩=>aV (hu pins s2 σ H2 _ I2 q2) fun vu s3 ⟨u,H3,I3,pu,q3⟩=>?_)
 rw[evalPart_none]
 refine wpAny_pure ?_
 have I4:Inv X pins σ H3 { s3 with heap:=s3.heap.push { cls:=.type "slice", data:=.fields #[vl,vu,.none] } }:=I3.kept (t':=s3.toks) fun b ob q=>Heap.get?_push_of_some _ q
 obtain⟨T,id,hT,ht,hg⟩:=hr pins { s3 with heap:=s3.heap.push { cls:=.type "slice", data:=.fields #[vl,vu,.none] } } σ H3 x v vl vu l u s3.heap.objs.size Q I4 r1 (Heap.IsSliceOf.new ..) pl pu q3
 show wpAny (model X.prog X.w) X.A (subscriptTail e (.Slice lo hi none p2) v (.ref s3.heap.objs.size)) (EP X pins σ Q) X.xe { s3 with heap:=s3.heap.push { cls:=.type "slice", data:=.fields #[vl,vu,.none] } }
 exact tail_any (ops:=[.ref s3.heap.objs.size,v]) ht hT hg (by with_unfolding_all rfl)
noncomputable def BJ (xs:List V)(lo hi:Option Int):List V:=(xs.drop (HT.bX xs.length 0 lo)).take (HT.bX xs.length xs.length hi-HT.bX xs.length 0 lo)
theorem yH (xs:List V)(lo hi:Option Int):(BJ xs lo hi).length<=xs.length:=by
 unfold BJ
 rw[List.length_take,List.length_drop]
 omega
noncomputable def Am (K:PySem.W.Frag):V->Option Int->Option Int->Hp->VK->Prop:=fun x lo hi H Q=>∃ a xs,x=.ref a/\dS K H a xs /\
 ¬(HT.bX xs.length 0 lo=0/\HT.bX xs.length xs.length hi=xs.length)/\∀ p,H p=none->Q (.ref p) (upd H p (.tup (BJ xs lo hi)))
theorem GD:vO X (Am X.K):=by
 intro pins s σ H x v vl vu lo hi sl Q I rx hs pl pu h
 obtain⟨a,xs,rfl,hx,hw,q⟩:=h
 cases rx
 obtain⟨aD,r,ht,hz⟩:=I.tuple hx
 have hlen:aD.toArray.size=xs.length:=by rw[List.size_toArray];exact r.length.symm
 refine⟨"tuple", _,PyProof.Rows.slot_tuple_getitem.lookup,ht.typeIs,?_⟩
 refine HT.xZ ht hs pl pu (by rw[hlen];exact hw) ?_ (by rw[hlen];exact hz)
 rw[hlen]
 refine⟨.ref s.heap.objs.size,_,I.laid (t':=s.toks) (o:=.tup (BJ xs lo hi)) (fun b ob q=>Heap.get?_push_of_some _ q) (Nat.le_refl _) ?_,rfl,q _ (I.bJ.fresh (Nat.le_refl _))⟩
 exact⟨Nat.le_trans (yH xs lo hi) hz,_,(r.drop (HT.bX xs.length 0 lo)).take (HT.bX xs.length xs.length hi-HT.bX xs.length 0 lo),nZ.new _ _⟩
noncomputable def RS (K:PySem.W.Frag):R2:=fun x y H Q=>∃ a b xs ys,x=.ref a/\y=.ref b/\dS K H a xs/\dS K H b ys/\xs≠[]/\xs.length+ys.length<=sizeLine /\
 (ys=[]->Q (.ref a) H)/\(ys≠[]->∀ p,H p=none->Q (.ref p) (upd H p (.tup (xs++ys))))
theorem aO.xJ {xs:List V}{us:List Value}(r:aO xs us):us=[]↔xs=[]:=by
 cases r with
 |nil=>simp
 |cons _ _=>simp
theorem S6:gD X (binaryOp .Add) (RS X.K):=by
 intro pins s σ H x y v u Q I rx ry h
 obtain⟨a,b,xs,ys,rfl,rfl,ha,hb,hx,hz,q1,q2⟩:=h
 cases rx
 cases ry
 obtain⟨aD,r1,p1,_⟩:=I.tuple ha
 obtain⟨mH,r2,p2,_⟩:=I.tuple hb
 refine HT.TY p1 p2 (fun z=>hx (r1.xJ.mp z)) (fun z=>⟨.ref a,H,I,rfl,q1 (r2.xJ.mp z)⟩) (fun z=>?_) (by rw[<-r1.length,<-r2.length];exact hz)
 refine⟨.ref s.heap.objs.size,_,I.laid (t':=s.toks) (o:=.tup (xs++ys)) (fun b ob q=>Heap.get?_push_of_some _ q) (Nat.le_refl _) ?_,rfl,q2 (fun w=>z (r2.xJ.mpr w)) _ (I.bJ.fresh (Nat.le_refl _))⟩
 exact⟨by rw[List.length_append];exact hz,_,r1.append r2,nZ.new _ _⟩
end
end L2
namespace L2
open PySem PySem.Spec PyProof.Rows
noncomputable def lZ (n:Nat)(i:Int):Option Nat:=if 0<=i then(if i<n then some i.toNat else none)else if -(n:Int)<=i then some (i+n).toNat else none
noncomputable def eO {α:Type}(xs:List α)(i:Int):Option α:=(lZ xs.length i).bind fun j=>xs[j]?
theorem KA {n:Nat}{i:Int}{j:Nat}(h:lZ n i=some j):seqIndex? i n=some j/\j<n/\-(n:Int)<=i/\i<n:=by
 unfold lZ at h
 by_cases h0:0<=i
 ·rw[if_pos h0]at h
  by_cases h1:i<n
  ·rw[if_pos h1]at h
   have e:i.toNat=j:=Option.some.inj h
   exact⟨by rw[seqIndex_of h0 h1,e],by omega,by omega,h1⟩
  ·rw[if_neg h1]at h;cases h
 ·rw[if_neg h0]at h
  by_cases h1 : -(n:Int)<=i
  ·rw[if_pos h1]at h
   have e:(i+n).toNat=j:=Option.some.inj h
   exact⟨by rw[seqIndex_neg (by omega) h1,e],by omega,h1,by omega⟩
  ·rw[if_neg h1]at h;cases h
theorem B8 {α:Type}{xs:List α}{i:Int}{v:α}(h:eO xs i=some v):∃ j,seqIndex? i xs.length=some j/\xs[j]? = some v/\j<xs.length/\-(xs.length:Int)<=i/\i<xs.length:=by
 unfold eO at h
 cases e:lZ xs.length i with
 |none=>rw[e]at h;cases h
 |some j =>
 rw[e]at h
 obtain⟨h1,h2,h3,h4⟩:=KA e
 exact⟨j,h1,h,h2,h3,h4⟩
theorem dY {α:Type}{xs:List α}{j:Nat}{v:α}(h:xs[j]? = some v):eO xs (j:Int)=some v:=by
 have hj:j<xs.length:=(List.getElem?_eq_some_iff.mp h).1
 have e:lZ xs.length (j:Int)=some j:=by
  unfold lZ
  rw[if_pos (by omega),if_pos (by omega)];simp
 unfold eO;rw[e];exact h
noncomputable def sD (b:Expr):Prop:=∀ o i,subscripted b false o i=operate [o,i] (getItem o i)
noncomputable def uL (X:Cx)(r:R2):Prop :=
 ∀(value slice:Expr)(pins:List (Addr×Obj))(s:Shared)(σ:St)(H:Hp)(x y:V)(v u:Value)(Q:VK),Inv X pins σ H s->RelV x v->RelV y u->r x y H Q ->
 subscripted slice false v u=operate [v,u] (getItem v u)->wpAny (model X.prog X.w) X.A (subscriptTail value slice v u) (EP X pins σ Q) X.xe s
noncomputable def SA (X:Cx)(id:String)(r:V->List V->Hp->VK->Prop):Prop :=
 ∀(pins:List (Addr×Obj))(s:Shared)(σ:St)(H:Hp)(x:V)(xs:List V)(v:Value)(us:List Value)(Q:VK),Inv X pins σ H s->RelV x v->aO xs us->r x xs H Q ->
 wpAny (model X.prog X.w) X.A (call (.builtin id) (v::us)) (EP X pins σ Q) X.xe s
section
variable {X:Cx}{a b:Expr}{ta tb:TE}{pos:Pos}
theorem uL.or {r r':R2}(h:uL X r)(h':uL X r'):uL X (fun x y H Q=>r x y H Q∨r' x y H Q):=by
 intro value slice pins s σ H x y v u Q I rx ry q hs
 rcases q with q|q
 ·exact h value slice pins s σ H x y v u Q I rx ry q hs
 ·exact h' value slice pins s σ H x y v u Q I rx ry q hs
theorem RU {r:R2}(hr:uL X r)(ha:PE X a ta)(hb:PE X b tb)(hs:sD b):PE X (.Subscript a b pos) (Au r ta tb):=by
 intro pins s σ H Q I h
 exact Subscript_ (Ap ha hb I h fun v u s2 x y H2 I2 rx ry q=>hr a b pins s2 σ H2 x y v u Q I2 rx ry q (hs _ _))
noncomputable def XO (K:PySem.W.Frag):R2:=fun x y H Q=>∃ p xs i v,x=.ref p/\y=.int i/\dU K H p xs/\eO xs i=some v/\Q v H
noncomputable def ZE (K:PySem.W.Frag):R2:=fun x y H Q=>∃ p xs i v,x=.ref p/\y=.int i/\dS K H p xs/\eO xs i=some v/\Q v H
noncomputable def XR:R2:=fun x y H Q=>∃ z i c,x=.str z/\y=.int i/\z.length<=sizeLine/\eO z.cps.toList i=some c/\Q (.str ⟨#[c]⟩) H
theorem V1:uL X (XO X.K):=by
 intro value slice pins s σ H x y v u Q I rx ry h hs
 obtain⟨p,xs,i,z,rfl,rfl,hq,he,q⟩:=h
 cases rx
 obtain⟨t,rfl⟩:=ry
 obtain⟨aD,r,pl,hz⟩:=I.list hq
 obtain⟨j,h1,h2,h3,h4,h5⟩:=B8 he
 obtain⟨w,ew,rw'⟩:=r.get h2
 have hl:=r.length
 have hn:=pE
 have fin:EP X pins σ Q w s:=⟨z,H,I,rw',q⟩
 by_cases h0:0<=i
 ·have hj:i.toNat=j:=by
   rw[seqIndex_of h0 h5]at h1
   exact Option.some.inj h1
  exact item_listR pl.isList h0 (by omega) (by rw[hj];simpa using ew) fin hs
 ·have hj:(i+(aD.toArray.size:Int)).toNat=j:=by
   rw[seqIndex_neg (by omega) h4]at h1
   rw[List.size_toArray,<-hl]
   exact Option.some.inj h1
  exact subscriptTail_builtinR (x:=w) pl.isList.typeIs slot_list_getitem.lookup
   (wpAny_getItem_list_neg (Q:=fun r s'=>r=w/\EP X pins σ Q r s') pl.isList (by omega) (by rw[List.size_toArray]<;>omega) (by omega) (by rw[hj];simpa using ew) ⟨rfl,fin⟩) hs
theorem jO:uL X (ZE X.K):=by
 intro value slice pins s σ H x y v u Q I rx ry h hs
 obtain⟨p,xs,i,z,rfl,rfl,hq,he,q⟩:=h
 cases rx
 obtain⟨t,rfl⟩:=ry
 obtain⟨aD,r,pl,hz⟩:=I.tuple hq
 obtain⟨j,h1,h2,h3,h4,h5⟩:=B8 he
 obtain⟨w,ew,rw'⟩:=r.get h2
 have hl:=r.length
 have hn:=pE
 have fin:EP X pins σ Q w s:=⟨z,H,I,rw',q⟩
 exact subscriptTail_builtinR (x:=w) pl.typeIs slot_tuple_getitem.lookup
  (getItem_tuple (j:=j) (Q:=fun r s'=>r=w/\EP X pins σ Q r s') pl (by omega) (by omega) (by rw[List.size_toArray,<-hl];exact h1) (by simpa using ew) ⟨rfl,fin⟩) hs
theorem FN:uL X XR:=by
 intro value slice pins s σ H x y v u Q I rx ry h hs
 obtain⟨z,i,c,rfl,rfl,hz,he,q⟩:=h
 obtain⟨t,rfl⟩:=rx
 obtain⟨t',rfl⟩:=ry
 obtain⟨j,h1,h2,h3,h4,h5⟩:=B8 he
 have hl:z.cps.toList.length=z.length:=by simp [Str.length]
 rw[hl]at h1 h4 h5
 have hn:=pE
 exact tail_any (typeIs_str s z t) slot_str_getitem.lookup (getItem_str (c:=c) (by
 have e1:decide (i < -(2 ^ 63:Int))=false:=decide_eq_false (by omega)
 have e2:decide (i ≥ 2 ^ 63)=false:=decide_eq_false (by omega)
 rw[e1,e2,Bool.or_false]) (by rw[h1];simpa using h2) ⟨.str ⟨#[c]⟩,H,I.tok _,⟨_,rfl⟩,q⟩) hs
noncomputable def Fx (K:PySem.W.Frag):R2:=fun x y H Q=>XO K x y H Q∨ZE K x y H Q∨XR x y H Q
theorem YD:uL X (Fx X.K):=V1.or (jO.or FN)
theorem KI (aD:List Value)(n j:Nat)(u:Value):Obj.mapSeq (·.setIfInBounds j u) { cls:=.type "list", data:=.seq aD.toArray n } = { cls:=.type "list", data:=.seq (aD.set j u).toArray n }:=by
 simp [Obj.mapSeq]
theorem Inv.lst {pins:List (Addr×Obj)}{σ:St}{H:Hp}{s:Shared}{p:Addr}{xs:List V}(I:Inv X pins σ H s)(h:H p=some (.lst xs)):
 ∃(aD:List Value)(n:Nat),aO xs aD/\s.heap.get? p=some { cls:=.type "list", data:=.seq aD.toArray n }/\xs.length<=sizeLine:=by
 obtain⟨z,aD,n,r,e⟩:=I.bJ p _ h
 exact⟨aD,n,r,e,z⟩
theorem Inv.ZD {pins:List (Addr×Obj)}{σ:St}{H:Hp}{s:Shared}{p:Addr}{xs ys:List V}{aD kD:List Value}{n n':Nat}{f:Obj->Obj}(I:Inv X pins σ H s)(h:H p=some (.lst xs))
  (ho:s.heap.get? p=some { cls:=.type "list", data:=.seq aD.toArray n })(hf:f { cls:=.type "list", data:=.seq aD.toArray n } = { cls:=.type "list", data:=.seq kD.toArray n' })(r:aO ys kD)(hz:ys.length<=sizeLine)(t:Nat):
  Inv X pins σ (upd H p (.lst ys)) { s with heap:=s.heap.update p f,toks:=t }:=by
 have e:(s.heap.update p f).get? p=some { cls:=.type "list", data:=.seq kD.toArray n' }:=by
  rw[Heap.get?_update_self f ho (by rw[hf]<;>rfl),hf]
 refine I.write (x:=p) (e:=p) (by rw[h];trivial) (.inl rfl) (fun b u hb q=>(Heap.get?_update_other _ _ (Ne.symm hb)).trans q) ⟨_,e⟩ ?_
 exact⟨hz,kD,n',r,e⟩
noncomputable def Cm:V->V->V->Hp->(Hp->Prop)->Prop:=fun o i v H Q=>∃ p xs k j,o=.ref p/\i=.int k/\H p=some (.lst xs)/\lZ xs.length k=some j/\Q (upd H p (.lst (xs.set j v)))
theorem set_list:YO X Cm:=by
 intro pins s σ H o i v ov iv u Q I ro ri rv h
 obtain⟨p,xs,k,j,rfl,rfl,hp,hj,q⟩:=h
 cases ro
 obtain⟨t,rfl⟩:=ri
 obtain⟨aD,n,r,ho,hz⟩:=I.lst hp
 obtain⟨h1,h2,h3,h4⟩:=KA hj
 have hl:=r.length
 have hn:=pE
 have I':Inv X pins σ (upd H p (.lst (xs.set j v))) { s with heap:=s.heap.update p (Obj.mapSeq (·.setIfInBounds j u)) } :=
  I.ZD hp ho (KI aD n j u) (r.set rv j) (by rw[List.length_set];exact hz) s.toks
 by_cases h0:0<=k
 ·have hk:k.toNat=j:=by
   rw[seqIndex_of h0 h4]at h1
   exact Option.some.inj h1
  exact PySem.W.ki_setAt ho h0 (by omega) (by rw[List.size_toArray,<-hl];exact h4) (by rw[hk];exact⟨_,I',q⟩)
 ·have hk:(k+(aD.toArray.size:Int)).toNat=j:=by
   rw[seqIndex_neg (by omega) h3]at h1
   rw[List.size_toArray,<-hl]
   exact Option.some.inj h1
  exact PySem.W.ki_setBack ho (by omega) (by rw[List.size_toArray,<-hl];exact h3) (by omega) (by rw[hk];exact⟨_,I',q⟩)
theorem GS (lo hi:Option Int)(n:Nat):(sliceBounds lo hi none n).1=((HT.bX n 0 lo:Nat):Int)/\(sliceBounds lo hi none n).2.1=((HT.bX n n hi:Nat):Int)/\(sliceBounds lo hi none n).2.2=1:=by
 refine⟨?_,?_,rfl⟩
 ·cases lo with
 |none=>simp [sliceBounds,HT.bX]
 |some i =>
  simp only[sliceBounds,HT.bX,Option.getD_none,show(1:Int)>0 by decide,if_true]
  by_cases h:i<0
  ·simp only[h,if_true]<;>omega
  ·simp only[h,if_false]<;>omega
 ·cases hi with
 |none=>simp [sliceBounds,HT.bX]
 |some i =>
  simp only[sliceBounds,HT.bX,Option.getD_none,show(1:Int)>0 by decide,if_true]
  by_cases h:i<0
  ·simp only[h,if_true]<;>omega
  ·simp only[h,if_false]<;>omega
theorem EA (aD:List Value)(lo hi:Option Int):slicePick aD.toArray lo hi none=((aD.drop (HT.bX aD.length 0 lo)).take (HT.bX aD.length aD.length hi-HT.bX aD.length 0 lo)).toArray:=by
 obtain⟨h1,h2,h3⟩:=GS lo hi aD.toArray.size
 unfold slicePick
 rw[h1,h2,h3]
 simp only[sliceRange_one,pick_run,List.size_toArray]<;>rfl
noncomputable def Y3 (K:PySem.W.Frag):V->Option Int->Option Int->Hp->VK->Prop:=fun x lo hi H Q=>∃ a xs,x=.ref a/\dU K H a xs/\∀ p,H p=none->Q (.ref p) (upd H p (.lst (BJ xs lo hi)))
theorem S7:vO X (Y3 X.K):=by
 intro pins s σ H x v vl vu lo hi sl Q I rx hs pl pu h
 obtain⟨a,xs,rfl,hx,q⟩:=h
 cases rx
 obtain⟨aD,r,ht,hz⟩:=I.list hx
 have hlen:=r.length
 refine⟨"list", _,slot_list_getitem.lookup,ht.isList.typeIs,?_⟩
 refine wpAny_getItem_list_slice ht.isList hs pl pu .none (by simp) ?_ (by rw[List.size_toArray]<;>omega)
 rw[EA,<-hlen]
 refine⟨.ref s.heap.objs.size,_,I.laid (t':=s.toks) (o:=.lst (BJ xs lo hi)) (fun b ob q=>Heap.get?_push_of_some _ q) (Nat.le_refl _) ?_,rfl,q _ (I.bJ.fresh (Nat.le_refl _))⟩
 exact⟨Nat.le_trans (yH xs lo hi) hz,_,0,(r.drop (HT.bX xs.length 0 lo)).take (HT.bX xs.length xs.length hi-HT.bX xs.length 0 lo),Heap.get?_push_size _ rfl⟩
theorem E2:gD X (compareOp .NotIn) (fun x y H Q=>∃ i j,x=.str i/\y=.str j/\Q (.bl (!(!(Builtin.Str.occurrences j i 0 j.length 1).isEmpty))) H):=by
 intro pins s σ H x y v u Q I rx ry h
 obtain⟨i,j,rfl,rfl,q⟩:=h
 obtain⟨t,rfl⟩:=rx
 obtain⟨t',rfl⟩:=ry
 exact notIn_str ⟨.bl _,H,I,rfl,q⟩
theorem HG:tP X (.type "list") (fun xs H Q=>∃ p ys,xs=[.ref p]/\(dU X.K H p ys∨dS X.K H p ys)/\∀ l,H l=none->Q (.ref l) (upd H l (.lst ys))):=by
 intro pins s σ H xs us Q I r h
 obtain⟨p,ys,rfl,hq,q⟩:=h
 obtain⟨u,rfl,rx⟩:=vals1 r
 cases rx
 have fin:∀(aD:List Value),aO ys aD->ys.length<=sizeLine->∀(h':Heap)(c':Nat),(∀ b o',s.heap.get? b=some o'->h'.get? b=some o') ->
   h'.get? s.heap.objs.size=some { cls:=.type "list", dict:=none,data:=.seq aD.toArray c',slots:=#[] }->EP X pins σ Q (.ref s.heap.objs.size) { s with heap:=h' }:=fun aD r' hz h' c' kp e =>
  ⟨.ref s.heap.objs.size,_,I.laid (t':=s.toks) kp (Nat.le_refl _) (show iT X.prog X.w _ h' _ (.lst ys)from⟨hz,aD,c',r',e⟩),rfl,q _ (I.bJ.fresh (Nat.le_refl _))⟩
 rcases hq with hq|hq
 ·obtain⟨aD,r',pl,hz⟩:=I.list hq
  have hlen:=r'.length
  obtain⟨o,ho,hc,n,hd⟩:=pl.isList
  exact call_list_seq p (.inl rfl) ho hc hd (fun h' c' kp e=>fin aD r' hz h' c' kp e) (by simp only[List.size_toArray]<;>omega)
 ·obtain⟨aD,r',pl,hz⟩:=I.tuple hq
  have hlen:=r'.length
  obtain⟨o,ho,hc,n,hd⟩:=pl
  exact call_list_seq p (.inr rfl) ho hc hd (fun h' c' kp e=>fin aD r' hz h' c' kp e) (by simp only[List.size_toArray]<;>omega)
theorem uI:tP X (.type "tuple") (fun xs H Q=>∃ p ys,xs=[.ref p]/\((dU X.K H p ys/\∀ l,H l=none->Q (.ref l) (upd H l (.tup ys)))∨(dS X.K H p ys/\Q (.ref p) H))):=by
 intro pins s σ H xs us Q I r h
 obtain⟨p,ys,rfl,h⟩:=h
 obtain⟨u,rfl,rx⟩:=vals1 r
 cases rx
 rcases h with⟨hq,q⟩|⟨hq,q⟩
 ·obtain⟨aD,r',pl,hz⟩:=I.list hq
  have hlen:=r'.length
  refine call_tuple_list pl.isList (fun h' kp=>?_) (by simp only[List.size_toArray]<;>omega)
  have I1:Inv X pins σ H { s with heap:=h' }:=I.kept (t':=s.toks) kp
  have I2:Inv X pins σ (upd H h'.objs.size (.tup ys)) { s with heap:=h'.push { cls:=.type "tuple", data:=.seq aD.toArray } } :=
   I1.laid (t':=s.toks) (fun b o e=>Heap.get?_push_of_some _ e) (Nat.le_refl _) (show iT X.prog X.w _ _ _ (.tup ys)from⟨hz,aD,r',nZ.new _ _⟩)
  exact⟨.ref h'.objs.size,_,I2,rfl,q _ (I1.bJ.fresh (Nat.le_refl _))⟩
 ·obtain⟨aD,r',pl,hz⟩:=I.tuple hq
  exact call_tuple_same pl ⟨.ref p,H,I,rfl,q⟩
noncomputable def NG (K:PySem.W.Frag)(T:String)(x:V)(H:Hp):Prop:=match x with
 |.str _=>T ="str"
 |.int _=>T ="int"
 |.ref p=>(T ="list" /\ ∃ xs,dU K H p xs)∨(T ="tuple" /\ ∃ o,K.lookup p=some o/\o.cls=.type "tuple" /\ o.dict=none) ∨
  (T ="dict" /\ ((∃ gF,H p=some (.dK gF))∨∃ gF,H p=some (.dT gF)))∨(T ="set" /\ ∃ S n,H p=some (.set S n))
 |_=>False
theorem MF {pins:List (Addr×Obj)}{σ:St}{H:Hp}{s:Shared}{T:String}{x:V}{v:Value}(I:Inv X pins σ H s)(r:RelV x v)(ty:NG X.K T x H):
  s.TypeIs v T/\∀ a,v=.ref a->∃ ob,s.heap.get? a=some ob/\ob.dict=none:=by
 cases x with
 |str z =>
  obtain⟨t,rfl⟩:=r
  cases (show T ="str" from ty)
  exact⟨typeIs_str s z t,fun _ e=>nomatch e⟩
 |int i =>
  obtain⟨t,rfl⟩:=r
  cases (show T ="int" from ty)
  exact⟨typeIs_int s i t,fun _ e=>nomatch e⟩
 |ref p =>
  cases r
  rcases ty with⟨rfl,xs,hq⟩|⟨rfl,o,hk,hc,hd⟩|⟨rfl,hk⟩|⟨rfl,S,n,hk⟩
  ·obtain⟨aD,_,pl,_⟩:=I.list hq
   refine⟨pl.isList.typeIs,fun a e=>?_⟩
   cases e
   obtain⟨o,n,e,c,hd,_⟩:=pl
   exact⟨o,e,hd⟩
  ·refine⟨⟨o,I.iA p o hk,hc⟩,fun a e=>?_⟩
   cases e
   exact⟨o,I.iA _ o hk,hd⟩
  ·have z:∃ o,s.heap.get? p=some o/\o.ExactDict:=by
    rcases hk with⟨gF,hk⟩|⟨gF,hk⟩
    ·obtain⟨_,_,_,_,o,_,_,e,ex,_⟩:=I.bJ p _ hk
     exact⟨o,e,ex⟩
    ·obtain⟨_,_,_,_,o,_,_,e,ex,_⟩:=I.bJ p _ hk
     exact⟨o,e,ex⟩
   obtain⟨o,e,ex⟩:=z
   refine⟨⟨o,e,ex.1⟩,fun a e2=>?_⟩
   cases e2
   exact⟨o,e,ex.2.1⟩
  ·obtain⟨o,_,_,_,e,ex,_⟩:=I.bJ p _ hk
   refine⟨⟨o,e,ex.1⟩,fun a e2=>?_⟩
   cases e2
   exact⟨o,e,ex.2.1⟩
 |_=>exact False.elim ty
noncomputable def Hy (K:PySem.W.Frag)(T:String)(r:V->List V->Hp->VK->Prop)(to:TE):TE:=fun σ H Q=>to σ H fun x H1=>NG K T x H1/\r x [] H1 Q
noncomputable def Jx (K:PySem.W.Frag)(T:String)(r:V->List V->Hp->VK->Prop)(to:TE)(t:TA):TE:=fun σ H Q=>to σ H fun x H1=>NG K T x H1/\t σ H1 fun xs H2=>r x xs H2 Q
variable {o e:Expr}{es:List Expr}{to:TE}{t:TA}{name:Str}{apos jD:Pos}{T id:String}{r:V->List V->Hp->VK->Prop}
theorem X1 (pa:PlainAttrs T)(slot:Slot T name id)(hty:typeOf (.builtin id)=pure (.type "method_descriptor"))(hm:SA X id r)(ho:PE X o to)
 (iU:attributeBase o name X.env (eval o X.env)=eval o X.env:=by rfl)(iV:(apos.endLine==jD.line)=true:=by rfl):PE X (.Call (.Attribute o name apos) [] [] jD) (Hy X.K T r to):=by
 intro pins s σ H Q I h
 refine wpAny_Call_method0_late iU iV (aV (ho pins s σ H _ I h) fun v s1 ⟨x,H1,I1,r1,ty,q1⟩=>?_)
 obtain⟨h1,h2⟩:=MF I1 r1 ty
 exact⟨T,id,pa,slot,hty,h1,h2,Calls.callWith_builtin rfl (PySem.evalArgs_none (hm pins s1 σ H1 x [] v [] Q I1 r1 .nil q1))⟩
theorem Di (pa:PlainAttrs T)(slot:Slot T name id)(hty:typeOf (.builtin id)=pure (.type "method_descriptor"))(hm:SA X id r)(ho:PE X o to)(ha:PA X (e::es) t)
 (iU:attributeBase o name X.env (eval o X.env)=eval o X.env:=by rfl)
 (tX:((backTo jD (starEach (e::es) X.env)).all (fun x=>!x.1)&&(backToKw jD (keywordEach [] X.env)).all (fun x=>x.1.isSome)
  && decide ((e::es).length+([]:List Keyword).length+(if([]:List Keyword).isEmpty then 0 else 1)<30))=true:=by rfl)
 (iV:(apos.endLine==jD.line)=true:=by rfl)(hs:starEach (e::es) X.env=(false,eval e X.env)::starEach es X.env:=by rfl)(qA:(backTo jD (starEach es X.env)).any (·.1)=false:=by rfl):
 PE X (.Call (.Attribute o name apos) (e::es) [] jD) (Jx X.K T r to t):=by
 intro pins s σ H Q I h
 refine wpAny_Call_method_late iU tX iV rfl (aV (ho pins s σ H _ I h) fun v s1 ⟨x,H1,I1,r1,ty,q1⟩=>?_)
 obtain⟨h1,h2⟩:=MF I1 r1 ty
 refine⟨T,id,pa,slot,hty,h1,h2,?_⟩
 have hA:=ha jD pins s1 σ H1 _ I1 q1
 rw[hs]at hA ⊢
 refine Calls.callWith_builtin (by show(false||(backTo jD (starEach es X.env)).any (·.1))=false;rw[qA]<;>rfl) (Calls.evalArgs_plain ?_)
 exact aV hA fun us s2 ⟨vs,H2,I2,r2,q2⟩=>hm pins s2 σ H2 x vs v us Q I2 r1 r2 q2
end
end L2
namespace L2
open PySem PySem.Spec PyProof.Rows
noncomputable def WT (X:Cx)(id:String)(r:V->List V->Hp->VK->Prop):Prop :=
 ∀(pins:List (Addr×Obj))(s:Shared)(σ:St)(H:Hp)(x:V)(xs:List V)(v:Value)(us:List Value)(Q:VK),Inv X pins σ H s->RelV x v->aO xs us->r x xs H Q ->
 wpAny (model X.prog X.w) X.A (call (.builtin id) (v::us)) (EP X pins σ Q) X.xe s
theorem aO.one:∀{x:V}{us:List Value},aO [x] us->∃ u,us=[u]/\RelV x u
 |_,_,.cons r .nil=>⟨_,rfl,r⟩
theorem aO.zero:∀{us:List Value},aO [] us->us=[]
 |_,.nil=>rfl
theorem aO.dropLast {xs:List V}{us:List Value}(h:aO xs us):aO xs.dropLast us.dropLast:=by
 induction h with
 |nil=>exact .nil
 |cons r t ih =>
 cases t with
 |nil=>exact .nil
 |cons q t'=>exact .cons r ih
theorem aO.reverse {xs:List V}{us:List Value}(h:aO xs us):aO xs.reverse us.reverse:=by
 induction h with
 |nil=>exact .nil
 |cons r t ih=>rw[List.reverse_cons,List.reverse_cons];exact aO.append ih (.cons r .nil)
theorem aO.rep {xs:List V}{us:List Value}(h:aO xs us):∀ k:Nat,aO (List.replicate k xs).flatten (List.replicate k us).flatten
 |0=>.nil
 |k+1=>by
  rw[List.replicate_succ,List.replicate_succ,List.flatten_cons,List.flatten_cons]
  exact aO.append h (aO.rep h k)
theorem LS {α:Type}(l:List α):l.eraseIdx (l.length-1)=l.dropLast:=by
 induction l with
 |nil=>rfl
 |cons a r ih =>
  cases r with
  |nil=>rfl
  |cons b r =>
   have e:(a::b::r).length-1=((b::r).length-1)+1:=by
    have h1:(a::b::r).length=r.length+2:=rfl
    have h2:(b::r).length=r.length+1:=rfl
    omega
   rw[e,List.eraseIdx_cons_succ,ih]
   all_goals rfl
theorem foldl_rep (aD:List Value):∀(k:Nat)(acc:List Value),
  List.foldl (fun x1 x2=>x1++x2) acc.toArray (List.replicate k aD.toArray)=(acc++(List.replicate k aD).flatten).toArray
 |0,acc=>by simp
 |k+1,acc=>by
  have e:acc.toArray++aD.toArray=(acc++aD).toArray:=by simp
  have e2:(acc++aD)++(List.replicate k aD).flatten=acc++(List.replicate (k+1) aD).flatten:=by
   rw[List.replicate_succ,List.flatten_cons,List.append_assoc]
  rw[<-e2,<-foldl_rep aD k (acc++aD),<-e,List.replicate_succ,List.foldl_cons]
section
variable {X:Cx}{pins:List (Addr×Obj)}{σ:St}{H:Hp}{s:Shared}{l b:Addr}{xs ys zs:List V}
theorem Inv.LW {aD kD:List Value}{n:Nat}{f:Array Value->Array Value}{t':Nat}(I:Inv X pins σ H s)(hH:H l=some (.lst xs))
 (e:s.heap.get? l=some { cls:=.type "list", data:=.seq aD.toArray n })(hf:f aD.toArray=kD.toArray)(hv:aO ys kD)(hz:ys.length<=sizeLine):
 Inv X pins σ (upd H l (.lst ys)) { s with heap:=s.heap.update l (Obj.mapSeq f),toks:=t' }:=by
 have q:=PySem.IsL.update e f
 rw[hf]at q
 refine I.write (x:=l) (e:=l) (by rw[hH];exact trivial) (.inl rfl) (fun b' u hb hu=>(Heap.get?_update_other s.heap (Obj.mapSeq f) (Ne.symm hb)).trans hu) ⟨_,q⟩ ?_
 exact⟨hz,kD,_,hv,q⟩
theorem Inv.QP {aD:List Value}{t':Nat}(I:Inv X pins σ H s)(hv:aO ys aD)(hz:ys.length<=sizeLine):
 Inv X pins σ (upd H s.heap.objs.size (.lst ys)) { s with heap:=s.heap.push { cls:=.type "list", data:=.seq aD.toArray },toks:=t' } :=
 I.laid (fun _ _ q=>Heap.get?_push_of_some _ q) (Nat.le_refl _) ⟨hz,aD,0,hv,Heap.get?_push_size _ rfl⟩
theorem Inv.fresh (I:Inv X pins σ H s):H s.heap.objs.size=none:=I.bJ.fresh (Nat.le_refl _)
theorem Inv.tQ (I:Inv X pins σ H s)(hH:H l=some (.lst xs)):xs.length<=sizeLine/\∃(aD:List Value)(n:Nat),aO xs aD/\xs.length=aD.length/\s.heap.get? l=some { cls:=.type "list", data:=.seq aD.toArray n }:=by
 obtain⟨z,aD,n,r,e⟩:=I.bJ l _ hH
 exact⟨z,aD,n,r,r.length,e⟩
theorem zE {n:Nat}(h:n<=sizeLine):Builtin.List.listTooLong n=false:=by
 unfold Builtin.List.listTooLong
 exact decide_eq_false (by omega)
end
section
variable {X:Cx}
noncomputable def TN:V->List V->Hp->VK->Prop:=fun x vs H Q=>∃ l xs y,x=.ref l/\vs=[y]/\H l=some (.lst xs)/\xs.length<sizeLine/\Q .non (upd H l (.lst (xs++[y])))
theorem qV:WT X "list.append" TN:=by
 intro pins s σ H x vs v us Q I rx rv h
 obtain⟨l,xs,y,rfl,rfl,hH,hz,q⟩:=h
 cases rx
 obtain⟨u,rfl,ru⟩:=rv.one
 obtain⟨z,aD,n,r,hl,e⟩:=I.tQ hH
 refine call_meets F.slot_list_append ⟨_,e,rfl⟩ F.entry_list_append (F.args_list_append_2 _ _) (PySem.list_append l aD.toArray n u (by rw[List.size_toArray];omega)) ⟨e,?_⟩
 refine⟨.non,_,I.LW (kD:=aD++[u]) hH e (by simp) (r.append (.cons ru .nil)) ?_,rfl,q⟩
 rw[List.length_append,List.length_singleton]
 omega
noncomputable def UR:V->List V->Hp->VK->Prop:=fun x vs H Q=>∃ l b xs zs,x=.ref l/\vs=[.ref b]/\H l=some (.lst xs)/\H b=some (.lst zs)/\xs.length+zs.length<=sizeLine/\Q .non (upd H l (.lst (xs++zs)))
theorem wB:WT X "list.extend" UR:=by
 intro pins s σ H x vs v us Q I rx rv h
 obtain⟨l,b,xs,zs,rfl,rfl,hH,hB,hz,q⟩:=h
 cases rx
 obtain⟨u,rfl,ru⟩:=rv.one
 cases ru
 obtain⟨z,aD,n,r,hl,e⟩:=I.tQ hH
 obtain⟨z2,mH,n2,r2,hl2,e2⟩:=I.tQ hB
 have jK:aD.toArray.size+mH.toArray.size<=sizeLine:=by rw[List.size_toArray,List.size_toArray];omega
 have hlong:¬(!aD.toArray.isEmpty&&Builtin.List.listTooLong (aD.toArray.size+mH.toArray.size))=true:=by
  rw[zE jK,Bool.and_false]
  exact Bool.false_ne_true
 refine call_meets F.slot_list_extend ⟨_,e,rfl⟩ F.entry_list_extend (F.args_list_extend_2 _ _)
  (AutoSeq1.list_extend_list_list_0 l aD.toArray n b mH.toArray n2 hlong (by rw[List.size_toArray];omega) (by omega)) ⟨e,e2,?_⟩
 refine⟨.non,_,I.LW (kD:=aD++mH) hH e (by simp) (r.append r2) ?_,rfl,q⟩
 rw[List.length_append]
 omega
noncomputable def Ji:V->List V->Hp->VK->Prop:=fun x vs H Q=>∃ l xs y,x=.ref l/\vs=[]/\H l=some (.lst xs)/\xs[xs.length-1]? = some y/\Q y (upd H l (.lst xs.dropLast))
theorem HH:WT X "list.pop" Ji:=by
 intro pins s σ H x vs v us Q I rx rv h
 obtain⟨l,xs,y,rfl,rfl,hH,hy,q⟩:=h
 cases rx
 have hus:=rv.zero
 subst hus
 obtain⟨z,aD,n,r,hl,e⟩:=I.tQ hH
 obtain⟨u,hu,ru⟩:=r.get hy
 have hy':aD.toArray[aD.toArray.size-1]? = some u:=by
  show aD.toArray[aD.length-1]? = some u
  rw[<-Array.getElem?_toList,<-hl]
  exact hu
 refine call_meets F.slot_list_pop ⟨_,e,rfl⟩ F.entry_list_pop (F.args_list_pop_1 _) (MeetsSeq.list_pop_last l aD.toArray n u hy' (by rw[List.size_toArray];omega)) ⟨e,?_⟩
 refine⟨y,_,I.LW (kD:=aD.dropLast) hH e ?_ r.dropLast ?_,ru,q⟩
 ·show aD.toArray.eraseIdxIfInBounds (aD.toArray.size-1)=aD.dropLast.toArray
  rw[List.size_toArray,List.eraseIdxIfInBounds_toArray,LS]
 ·rw[List.length_dropLast]
  omega
noncomputable def Z0:R2:=fun x y H Q=>∃ l b xs zs,x=.ref l/\y=.ref b/\H l=some (.lst xs)/\H b=some (.lst zs)/\xs.length+zs.length<=sizeLine/\∀ p,H p=none->Q (.ref p) (upd H p (.lst (xs++zs)))
theorem X7:gD X (binaryOp .Add) Z0:=by
 intro pins s σ H x y v u Q I rx ry h
 obtain⟨l,b,xs,zs,rfl,rfl,hH,hB,hz,q⟩:=h
 cases rx
 cases ry
 obtain⟨z,aD,n,r,hl,e⟩:=I.tQ hH
 obtain⟨z2,mH,n2,r2,hl2,e2⟩:=I.tQ hB
 refine PySem.P.add_list e e2 ?_ (by rw[List.size_toArray,List.size_toArray];omega)
 have ea:aD.toArray++mH.toArray=(aD++mH).toArray:=by simp
 rw[ea]
 exact⟨.ref _,_,I.QP (t':=s.toks) (r.append r2) (by rw[List.length_append];omega),rfl,q _ I.fresh⟩
noncomputable def Z1:R2:=fun x y H Q=>∃ l k xs,x=.ref l/\y=.int k/\H l=some (.lst xs)/\-(2 ^ 63)<=k/\k<2 ^ 63/\xs.length*k.toNat<=sizeLine /\
 ∀ p,H p=none->Q (.ref p) (upd H p (.lst (List.replicate k.toNat xs).flatten))
theorem len_rep {α:Type}(xs:List α)(k:Nat):(List.replicate k xs).flatten.length=k*xs.length:=by
 induction k with
 |zero=>simp
 |succ k ih=>rw[List.replicate_succ,List.flatten_cons,List.length_append,ih,Nat.succ_mul,Nat.add_comm]
theorem XA:gD X (binaryOp .Mult) Z1:=by
 intro pins s σ H x y v u Q I rx ry h
 obtain⟨l,k,xs,rfl,rfl,hH,h1,h2,hz,q⟩:=h
 cases rx
 obtain⟨t,rfl⟩:=ry
 obtain⟨z,aD,n,r,hl,e⟩:=I.tQ hH
 have hlen:aD.toArray.size*k.toNat<=sizeLine:=by rw[List.size_toArray,<-hl];exact hz
 have hcap:¬aD.toArray.size*k.toNat>(2 ^ 63-1) / 8:=by
  have:(sizeLine:Nat)<=(2 ^ 63-1) / 8:=by decide
  omega
 have mI:¬(!Builtin.List.listFitsIndex k)=true:=by
  rw[fitsIndex_both h1 h2]
  exact Bool.false_ne_true
 have hlong:¬Builtin.List.listTooLong (aD.toArray.size*k.toNat)=true:=by
  rw[zE hlen]
  exact Bool.false_ne_true
 have hnew:List.foldl (fun x1 x2=>x1++x2) #[] (List.replicate (if aD.toArray.isEmpty=true then 0 else k.toNat) aD.toArray)=(List.replicate k.toNat aD).flatten.toArray:=by
  have f0:∀ m:Nat,List.foldl (fun x1 x2=>x1++x2) #[] (List.replicate m aD.toArray)=(List.replicate m aD).flatten.toArray:=fun m=>by
   have:=foldl_rep aD m []
   rw[List.nil_append]at this
   exact this
  rw[f0]
  cases aD with
  |nil=>simp
  |cons a r'=>rw[if_neg (by simp)]
 refine wpAny_binaryOp_repeat_ref (T :="list") (U :="int") (by decide) ⟨_,e,rfl⟩ (fun s'=>typeIs_int s' k t) noFill_list_mul F.fills_int_mul F.slot_int_rmul repeat_list F.slot_int_index.lookup
  (call_meets F.slot_int_rmul (typeIs_int s k t) F.entry_int_rmul (F.args_int_rmul_2 _ _) (int___rmul___int_list k t l aD.toArray n)
   ⟨e,rfl,⟨_,e,rfl⟩,call_meets F.slot_list_mul ⟨_,e,rfl⟩ F.entry_list_mul (F.args_list_mul_2 _ _) (AutoListH.list___mul___list_int_3 l aD.toArray n k t mI hcap hlong) ⟨e,?_⟩⟩)
 rw[hnew]
 exact⟨.ref _,_,I.QP (t':=s.toks) (r.rep k.toNat) (by rw[len_rep,Nat.mul_comm];exact hz),rfl,q _ I.fresh⟩
end
end L2
namespace Att
open PySem PySem.W PySem.Calls PyProof.Rows
theorem BF {P:Params}{h:Heap}:∀(ns:List Int)(vs:List Value),WellAll P h vs (ns.map WData.int)->IntsAre vs ns:=by
 intro ns
 induction ns with
 |nil =>
 intro vs w
 rw[List.map_nil]at w
 cases w
 exact .nil
 |cons n ns ih =>
 intro vs w
 rw[List.map_cons]at w
 cases w with
 |cons a b =>
  cases a
  exact .cons _ _ (ih _ b)
theorem OC {l:OpenLaw}{n:Nat}(hn:l.most=some n){P:Params}{h:Heap}{args:List WData}{vals:List Value}
  (hpre:l.row.toRowW.claim.pre args=true)(hwl:WellAll P h vals args):
  ∃ a vs ns,vals=[Value.ref a]/\args=[WData.list (ns.map WData.int)]/\h.get? a=some { cls:=.type "list", data:=.seq vs.toArray }/\IntsAre vs ns/\ns.length<=n:=by
 have hsh:WShape.hasAll [] args [.list .int]=true:=(pre_splitW hpre).1
 have hc:l.pre.holds [] { args:=args }=true:=(pre_splitW hpre).2
 obtain⟨d,r,rfl,h1,h2⟩:=hasAllW_cons hsh
 obtain rfl:=hasAllW_nil h2
 obtain⟨xs,rfl,h3⟩:=hasW_list h1
 obtain⟨ns,rfl⟩:=items_int h3
 have hlen:ns.length<=n:=by
  unfold OpenLaw.pre at hc
  have h4:(WTm.not (.lt (.lit (.int (n:Int))) (.len (.arg 0)))).holds [] { args:=[.list (ns.map .int)] }=true:=by
   have h4:=(holds_andW hc).1
   rw[hn]at h4
   exact h4
  have h5:=condW_of h4 (w_not (w_lt w_lit (w_len_list (w_arg rfl))))
  rw[List.length_map]at h5
  refine Nat.le_of_not_lt fun q=>?_
  have q':(n:Int)<((ns.length:Nat):Int):=by omega
  first
   |(rw[decide_eq_true q']at h5;exact absurd h5 (by decide))
   |(simp at h5;omega)
 cases hwl with
 |cons w1 w2 =>
  cases w2
  cases w1 with
  |list ho zP=>exact⟨_,_,ns,rfl,rfl,ho,BF ns _ zP,hlen⟩
theorem OU (l:OpenLaw)(args:List WData):l.row.toRowW.claim.post args (.bool true) args=true :=
 postW_of (r:=l.row.toRowW) (X:=(true==true))
 (show WShape.has [] (.bool true) .bool=true by first|rfl|decide|simp [WShape.has,WShape.arms,WShape.armsAll])
 (show(WTm.eq .res (.lit (.bool true))).value [] { args:=args,res:=some (.bool true),after:=args }=some (.bool (true==true))from w_eq_bool (w_res rfl) w_lit) rfl
theorem II {l:OpenLaw}{n:Nat}{q:Program}{loose:List Str}{XP:(Str->Option Value)->Heap->Prop}{YP:World->Heap->Prop}{d:DefRec}
 (hn:l.most=some n)(hdf:d.params.defaults=[])
 (call:∀(w:World)(s₀ s₁:Shared)(mg mb:Str->Option Value)(fa:Addr)(o:Obj)(pm cd doc:Value)(a:Addr)(vs:List Value)(ns:List Int),
  Ground q loose [] XP w s₀ mg mb s₁.heap->YP w s₁.heap ->
  s₁.heap.get? fa=some o->o.data=.func (docDef d.name d.params d.body d.scope pm cd doc)->s₁.heap.CodeRec cd d.name->mg d.name=some (.ref fa) ->
  s₁.heap.get? a=some { cls:=.type "list", data:=.seq vs.toArray }->IntsAre vs ns->ns.length<=n->s₁.gens = #[] ->
  codeAny (model l.prog w) callerA (.call (.ref fa) ⟨[.ref a],[]⟩) (fun r s'=>r=.ok (.ret (.bool true))/\OldK s₁.heap s'.heap/\s'.os=s₁.os/\AllBare s'.gens) s₁):
 WalkO q loose XP YP l.row.toRowW d [] (fun f vs=>PySem.call f vs):=by
 intro w s₀ s₁ mg mb G Y fa o pm cd doc dV kV ho hd hcd hD hmg hg args vals as hpre hlay hrd hwl hlo
 obtain rfl:dV=.none:=Dflts.none hD hdf
 obtain rfl:kV=.none:=Dflts.noKw hD
 obtain⟨a,vs,ns,rfl,rfl,hobj,hints,hlen⟩:=OC hn hpre hwl
 refine enter_call (codeAny_mono (call w s₀ s₁ mg mb fa o pm cd doc a vs ns G Y ho (fd_plain hd) hcd hmg hobj hints hlen hg) fun r s' hq=>?_)
 obtain⟨rfl,h2,h3,h4⟩:=hq
 exact⟨.inl ⟨.bool true,.bool true,[],rfl,fun _=>rfl,.bool true,OU l _,fun _=>⟨List.Pairwise.nil,fun _ hm=>(nomatch hm)⟩⟩,h2,h3,h4⟩
end Att
namespace L2
open PySem PySem.Spec PyProof.Rows
theorem D2:∀{vs:List Value}{ns:List Int},IntsAre vs ns->aO (ns.map V.int) vs
 |_,_,.nil=>.nil
 |_,_,.cons n t h=>.cons ⟨t,rfl⟩ (D2 h)
end L2
namespace L2
open PySem PySem.Spec PyProof.Rows
noncomputable def jY (s:Stmt):Arguments:=match s with
 |.FunctionDef _ a _ _ _ _ _ _ _ _=>a
 |_=>{ posonlyargs:=[],args:=[],vararg:=none,kwonlyargs:=[],kw_defaults:=[],kwarg:=none,defaults:=[] }
noncomputable def eG (s:Stmt):List Stmt:=match s with
 |.FunctionDef _ _ b _ _ _ _ _ _ _=>b
 |_=>[]
noncomputable def aI (s:Stmt):Scope:=match s with
 |.FunctionDef _ _ _ _ _ _ sc _ _ _=>sc
 |_=>{ kind:=.function,names:=[],isGenerator:=false,isCoroutine:=false }
noncomputable abbrev dD:yN:=fun _ _ _ _ _ _=>False
noncomputable abbrev E0:XK:=fun _ _ _=>False
theorem EJ {X:Cx}:nG dD X E0:=fun _ _ _ _ _ _ _ h=>h.elim
structure vH (K:PySem.W.Frag)(x qual:Str)(st:Stmt)(f:Addr)(fd:FuncData):Prop where
 ex:∃(oc:Value)(od:Option Addr)(kV doc pm:Value)(an:Option Addr)(bD ct:Value)(osl:Array (Option Value)),
 fd=PySem.W.fnOf x qual (jY st) (eG st) (aI st) .none kV doc pm an bD ct/\K.lookup f=some ⟨oc,od,.func fd,osl⟩/\PySem.W.codeIn K bD qual=true
 kp:PySem.W.keepIn K (.ref f)=true
section
variable {P:Program}{w:World}{K:PySem.W.Frag}{mg:Str->Option Value}{base:Heap}
theorem vH.ok {x qual:Str}{st:Stmt}{f:Addr}{fd:FuncData}{N ps:List Str}{k:Nat}{sp:Sp}(F:vH K x qual st f fd)(S:lF N ps (aI st))(len:∀ vs H Q E,sp vs H Q E->vs.length=ps.length)
 (hbody:∀(bD:Value)(A:Around)(outer:List Env)(s:Shared)(H:Hp)(vs:List V)(Q:VK)(E:XK),cL k (A.deeper (envOfC qual (aI st) s.heap.objs.size f bD))->sp vs H Q E ->
  ∃ t,jP (dZ dD P w K mg base N qual (aI st) f bD A outer s H E).gT (eG st) t/\t { nx:=fun _ H'=>Q .non H',rt:=Q } (start N vs) H):eI P w K mg base dD (k+1) f fd ps sp:=by
 obtain⟨oc,od,kV,doc,pm,an,bD,ct,osl,rfl,lk,hcd⟩:=F.ex
 refine R7 lk hcd S len fun A outer s H vs Q E hr hsp=>?_
 obtain⟨t,h,q⟩:=hbody bD A outer s H vs Q E hr hsp
 exact⟨t,h.gT,q⟩
theorem vH.binds {x qual:Str}{st:Stmt}{f:Addr}{fd:FuncData}{ps:List Str}(F:vH K x qual st f fd)
 (h:∀(kV doc pm:Value)(an:Option Addr)(bD ct:Value)(us:List Value),us.length=ps.length->bindArgs (PySem.W.fnOf x qual (jY st) (eG st) (aI st) .none kV doc pm an bD ct) ⟨us,[]⟩=pure (ps.zip us)):Binds K fd ps []:=by
 obtain⟨oc,od,kV,doc,pm,an,bD,ct,osl,rfl,lk,hcd⟩:=F.ex
 exact .all (h kV doc pm an bD ct)
theorem zS {x qual:Str}{st:Stmt}{f:Addr}{oc:Value}{od an:Option Addr}{osl:Array (Option Value)}{kV doc pm bD ct:Value}(l:K.lookup f=some ⟨oc,od,.func (PySem.W.fnOf x qual (jY st) (eG st) (aI st) .none kV doc pm an bD ct),osl⟩)
 (c:PySem.W.codeIn K bD qual=true)(k:PySem.W.keepIn K (.ref f)=true):vH K x qual st f (PySem.W.fnOf x qual (jY st) (eG st) (aI st) .none kV doc pm an bD ct):=⟨⟨oc,od,kV,doc,pm,an,bD,ct,osl,rfl,l,c⟩,k⟩
end
theorem OZ {n:Nat}(h:n<=1000):n<sizeLine:=Nat.lt_of_le_of_lt h (by decide)
section
variable {X:Cx}
theorem pv (i:Nat){x:Str}{pos:Pos}(hN:X.N[i]? = some x:=by rfl)(hv:SI X.env.scope x:=by first|exact Or.inl rfl|exact Or.inr (Or.inl rfl)|exact Or.inr (Or.inr rfl))(hd:(x==("__debug__" : Str))=false:=by decide)
 (hcd:(x==("__classdict__" : Str))=false:=by decide):PE X (.Name x pos) (QE i):=MB hN hv hd hcd
end
end L2
end
section
namespace L3
inductive D where
 |non|bl (b:Bool)|int (i:Int)|str (x:List Nat)|tup (ds:List D)|ref (a:Nat)|cO (ks vs:List D)|bF (ds:List D)|exc (c:Nat)
structure CK where
 c:Nat
 ln:Nat
 col:Nat
 q:List Nat
inductive MO where
 |lst (ds:List D)
 |dic (ks vs:List D)
 /-- an instance of the class of this name: aD attributes -/
 |ins (c:List Nat)(fs:List (List Nat×D))
 /-- a dict that is filled: aD keys are tuples of texts and of such tuples -/
 |tab (ks vs:List D)
 /-- a def that was made in a def: aD number, what it caught -/
 |fn (f:Nat)(cs:List D)
 /-- the table of a code -/
 |cod (κ:CK)
noncomputable abbrev aA:=Nat->Option MO
noncomputable def put (st:aA)(a:Nat)(o:MO):aA:=fun b=>if b=a then some o else st b
inductive rS where
 |add|sub|mul|fdiv|mod|pow
inductive oY where
 |eq|ne|lt|le|gt|ge|is_|isnot|in_|iW
inductive Ty where
 |int|str|bool|list|tuple|dict|err (c:Nat)
inductive BI where
 |len|all|any|max|min|sum|abs|list|tuple|int|str|bool|qB|sorted
inductive MT where
 |append|extend|pop|index|count|join|split|get|insert|remove
inductive IK where
 |range|zip|enum|rev|items|keys|values
inductive Ex where
 |c (d:D)|v (i:Nat)
 |tup (es:List Ex)|lst (es:List Ex)
 |bin (op:rS)(a b:Ex)|neg (a:Ex)
 |cmp (op:oY)(a b:Ex)|chain (op op':oY)(a b c:Ex)
 |and_ (a b:Ex)|or_ (a b:Ex)|not_ (a:Ex)|ite (c a b:Ex)
 |call (f:Nat)(es:List Ex)|bi (f:BI)(es:List Ex)|isi (a:Ex)(ts:List Ty)
 |cD (m:MT)(o:Ex)(es:List Ex)
 |ix (a b:Ex)|sl (a:Ex)(lo hi:List Ex)
 /-- f(g(..)), g what is walked on the spot -/
 |bit (f:BI)(k:IK)(es:List Ex)
 |comp (n:Nat)(aL:List Nat)(tg:List Nat)(one:Bool)(k:Option IK)(aD:List Ex)(ifs:List Ex)(elt:Ex)
 |dic (ks vs:List Ex)
 /-- o.f of an instance of the class c; C(..), f aD __init__; o.m(..), f the def -/
 |fld (c f:List Nat)(o:Ex)|mk (c:List Nat)(f:Nat)(es:List Ex)|mcl (c m:List Nat)(f:Nat)(o:Ex)(es:List Ex)
 /-- {}; k in d; d[k] -/
 |cv (i:Nat)(es:List Ex)|callL (f:Nat)(es:List Ex)(g:Nat)(aL:List Nat)(κ:CK)
 |dnew|d1 (k v:Ex)|din (neg:Bool)(k d:Ex)|dix (d k:Ex)
inductive Tg where
 |nm (i:Nat)|tp (is:List Nat)|ix (o i:Ex)|fl (c f:List Nat)(o:Ex)|dk (o i:Ex)
inductive Sx where
 |ex (e:Ex)|asg (t:Tg)(e:Ex)|aug (i:Nat)(op:rS)(e:Ex)
 |iff (c:Ex)(a b:List Sx)|whl (c:Ex)(b:List Sx)|gJ (t:Tg)(k:Option IK)(aD:List Ex)(b:List Sx)
 |ret (e:Ex)|brk|cnt|pass|rais (c:Nat)(es:List Ex)
 |tryy (b:List Sx)(c:Nat)(n:Option Nat)(h:List Sx)
structure Fn where
 np:Nat
 nl:Nat
 body:List Sx
structure Prog where
 fns:Nat->Option Fn
 /-- class c is class c' or stands under it -/
 sub:Nat->Nat->Bool
noncomputable abbrev St:=List (Option D)
noncomputable abbrev VK:=D->aA->Prop
noncomputable abbrev XK:=Nat->aA->Prop
noncomputable abbrev aX:=Nat->List D->aA->VK->XK->Prop
noncomputable abbrev bG:Nat:=16777216
noncomputable abbrev kS:Nat:=80
def W (x:String):List Nat:=x.toList.map Char.toNat
noncomputable def Ext (st aB:aA):Prop:=∀ a o,st a=some o->aB a=some o
noncomputable def dP (σ:St)(i:Nat)(Q:D->Prop):Prop:=match σ[i]? with
 |some (some d)=>Q d
 |_=>False
noncomputable def oM (σ:St):List Nat->(List D->Prop)->Prop
 |[],Q=>Q []
 |i::is,Q=>dP σ i fun d=>oM σ is fun ds=>Q (d::ds)
noncomputable def wF:D->aA->(Nat->Nat->List D->Prop)->Prop
 |.ref a,st,K=>match st a with
  |some (.fn f cs)=>K a f cs
  |_=>False
 |_,_,_=>False
noncomputable def del (st:aA)(a:Nat):aA:=fun b=>if b=a then none else st b
mutual
noncomputable def bH:D->D->Bool
 |.non,.non=>true
 |.bl a,.bl b=>a==b
 |.bl a,.int b=>(if a then 1 else 0)==b
 |.int a,.bl b=>a==(if b then 1 else 0)
 |.int a,.int b=>a==b
 |.str a,.str b=>a==b
 |.tup as,.tup bs=>gI as bs
 |_,_=>false
noncomputable def gI:List D->List D->Bool
 |[],[]=>true
 |a::as,b::bs=>bH a b&&gI as bs
 |_,_=>false
end
mutual
noncomputable def bS:D->Bool
 |.non=>true
 |.bl _=>true
 |.int _=>true
 |.str _=>true
 |.tup ds=>bQ ds
 |_=>false
noncomputable def bQ:List D->Bool
 |[]=>true
 |d::ds=>bS d&&bQ ds
end
mutual
noncomputable def cM:D->Nat
 |.tup ds=>cK ds+1
 |_=>0
noncomputable def cK:List D->Nat
 |[]=>0
 |d::ds=>max (cM d) (cK ds)
end
noncomputable def plain (d:D):Prop:=bS d=true/\cM d<=kS
noncomputable def rR (ds:List D):Prop:=bQ ds=true/\cK ds<=kS
noncomputable def N1:Option MO->Bool
 |some (.lst ds)=>bQ ds&&decide (cK ds<=kS)
 |_=>false
mutual
noncomputable def fJ (st:aA):D->Bool
 |.non=>true
 |.bl _=>true
 |.int _=>true
 |.str _=>true
 |.tup ds=>fY st ds
 |.ref a=>N1 (st a)
 |.bF ds=>bQ ds&&decide (cK ds<=kS)
 |_=>false
noncomputable def fY (st:aA):List D->Bool
 |[]=>true
 |d::ds=>fJ st d&&fY st ds
end
noncomputable def AA:Option MO->Option MO->Bool
 |some (.lst xs),some (.lst ys)=>gI xs ys
 |_,_=>false
mutual
noncomputable def bM (st:aA):D->D->Bool
 |.non,.non=>true
 |.bl a,.bl b=>a==b
 |.bl a,.int b=>(if a then 1 else 0)==b
 |.int a,.bl b=>a==(if b then 1 else 0)
 |.int a,.int b=>a==b
 |.str a,.str b=>a==b
 |.tup as,.tup bs=>iO st as bs
 |.ref a,.ref b=>AA (st a) (st b)
 |.bF xs,.ref b=>AA (some (.lst xs)) (st b)
 |.ref a,.bF ys=>AA (st a) (some (.lst ys))
 |.bF xs,.bF ys=>gI xs ys
 |_,_=>false
noncomputable def iO (st:aA):List D->List D->Bool
 |[],[]=>true
 |a::as,b::bs=>bM st a b&&iO st as bs
 |_,_=>false
end
noncomputable def plainS (st:aA)(d:D):Prop:=fJ st d=true/\cM d<=kS
noncomputable def dM (st:aA)(ds:List D):Prop:=fY st ds=true/\cK ds<=kS
noncomputable def SM (x y:D)(st:aA)(P:Bool->Prop):Prop:=plainS st x/\plainS st y/\P (bM st x y)
noncomputable def occurs (x:List Nat):List Nat->Bool
 |[]=>x.isEmpty
 |c::r=>x.isPrefixOf (c::r)||occurs x r
noncomputable def bZ (st:aA)(a:Nat)(K:List D->Prop):Prop:=match st a with
 |some (.lst ds)=>K ds
 |_=>False
noncomputable def cV {α:Type}(o:Option α)(K:α->Prop):Prop:=match o with
 |some x=>K x
 |none=>False
noncomputable def dH (st:aA)(a:Nat)(K:List D->Prop)(M:List D->List D->Prop):Prop:=match st a with
 |some (.lst ds)=>K ds
 |some (.dic ks vs)=>M ks vs
 |_=>False
noncomputable def FW:D->D->aA->(Bool->Prop)->Prop
 |x,.tup ds,st,P=>plainS st x/\dM st ds/\P (ds.any fun d=>bM st d x)
 |x,.ref a,st,P=>dH st a (fun ds=>plainS st x/\dM st ds/\P (ds.any fun d=>bM st d x)) fun ks _=>plain x/\rR ks/\P (ks.any fun d=>bH d x)
 |.str w,.cO ks _,_,P=>P (ks.any fun d=>bH d (.str w))
 |x,.bF ds,st,P=>plainS st x/\dM st ds/\P (ds.any fun d=>bM st d x)
 |.str w,.str z,_,P=>P (occurs w z)
 |_,_,_,_=>False
noncomputable def sV (f:Int->Int->Bool):D->D->(Bool->Prop)->Prop
 |.int i,.int j,P=>P (f i j)
 |_,_,_=>False
noncomputable def ED:D->Bool
 |.non=>true
 |_=>false
noncomputable def P5 (b:Bool):D->Bool
 |.bl c=>c==b
 |_=>false
noncomputable def AS:D->D->(Bool->Prop)->Prop
 |x,.non,P=>P (ED x)
 |x,.bl b,P=>P (P5 b x)
 |_,_,_=>False
noncomputable def cW:oY->D->D->aA->(Bool->Prop)->Prop
 |.eq,x,y,st,P=>SM x y st P
 |.ne,x,y,st,P=>SM x y st fun b=>P (!b)
 |.lt,x,y,_,P=>sV (fun i j=>decide (i<j)) x y P
 |.le,x,y,_,P=>sV (fun i j=>decide (i<=j)) x y P
 |.gt,x,y,_,P=>sV (fun i j=>decide (j<i)) x y P
 |.ge,x,y,_,P=>sV (fun i j=>decide (j<=i)) x y P
 |.is_,x,y,_,P=>AS x y P
 |.isnot,x,y,_,P=>AS x y fun b=>P (!b)
 |.in_,x,y,st,P=>FW x y st P
 |.iW,x,y,st,P=>FW x y st fun b=>P (!b)
noncomputable def nH (i:Int):Prop:=-18446744073709551616<i/\i<18446744073709551616
noncomputable def fZ (ds:List D)(st:aA)(Q:VK):Prop:=ds.length<=bG/\∀ p,st p=none->Q (.ref p) (put st p (.lst ds))
noncomputable def hU:rS->D->D->aA->VK->Prop
 |.add,.int i,.int j,st,Q=>Q (.int (i+j)) st
 |.add,.str a,.str b,st,Q=>a.length+b.length<=bG/\Q (.str (a++b)) st
 |.add,.tup a,.tup b,st,Q=>a.length+b.length<=bG/\Q (.tup (a++b)) st
 |.add,.ref a,.ref b,st,Q=>bZ st a fun xs=>bZ st b fun ys=>fZ (xs++ys) st Q
 |.sub,.int i,.int j,st,Q=>Q (.int (i-j)) st
 |.mul,.int i,.int j,st,Q=>(nH i∨nH j)/\Q (.int (i*j)) st
 |.mul,.ref a,.int k,st,Q=>bZ st a fun xs=>xs.length*k.toNat<=bG/\(-9223372036854775808<=k/\k<9223372036854775808)/\fZ (List.replicate k.toNat xs).flatten st Q
 |.mul,.tup xs,.int k,st,Q=>(0<xs.length/\xs.length<=1000/\1<=k/\k<1000)/\Q (.tup (List.replicate k.toNat xs).flatten) st
 |.fdiv,.int i,.int j,st,Q=>(0<j/\j<1073741824)/\Q (.int (i / j)) st
 |.mod,.int i,.int j,st,Q=>0<j/\Q (.int (i % j)) st
 |.pow,.int i,.int j,st,Q=>(0<=j/\j<=1000000/\i.natAbs<18446744073709551616)/\Q (.int (i ^ j.toNat)) st
 |_,_,_,_,_=>False
noncomputable def wO:D->aA->VK->Prop
 |.int i,st,Q=>Q (.int (-i)) st
 |_,_,_=>False
noncomputable def dA:List (List Nat×D)->List Nat->Option D
 |[],_=>none
 |(g,d)::r,f=>if g=f then some d else dA r f
noncomputable def oW (f:List Nat)(d:D):List (List Nat×D)->List (List Nat×D)
 |[]=>[(f,d)]
 |(g,x)::r=>if g=f then(g,d)::r else(g,x)::oW f d r
noncomputable def mD (st:aA)(a:Nat)(K:List Nat->List (List Nat×D)->Prop):Prop:=match st a with
 |some (.ins c fs)=>K c fs
 |_=>False
noncomputable def tabAt (st:aA)(a:Nat)(K:List D->List D->Prop):Prop:=match st a with
 |some (.tab ks vs)=>K ks vs
 |_=>False
noncomputable def rG (c f:List Nat):D->aA->VK->Prop
 |.ref a,st,Q=>mD st a fun c' fs=>c'=c/\cV (dA fs f) fun d=>Q d st
 |_,_,_=>False
noncomputable def zT (c f:List Nat)(v:D):D->aA->(aA->Prop)->Prop
 |.ref a,st,Q=>mD st a fun c' fs=>c'=c/\fs.length<900/\Q (put st a (.ins c (oW f v fs)))
 |_,_,_=>False
mutual
noncomputable def iG:D->Bool
 |.str _=>true
 |.bl _=>true
 |.tup ds=>iS ds
 |_=>false
noncomputable def iS:List D->Bool
 |[]=>true
 |d::ds=>iG d&&iS ds
end
noncomputable def keyed:D->Prop
 |.tup ds=>iS ds=true/\cK ds<=7
 |_=>False
noncomputable def kQ:List D->List D->D->Option D
 |k::ks,v::vs,x=>if bH k x then some v else kQ ks vs x
 |_,_,_=>none
noncomputable def tD (x:D):D->aA->(Bool->Prop)->Prop
 |.ref a,st,P=>tabAt st a fun ks _=>keyed x/\P (ks.any fun k=>bH k x)
 |_,_,_=>False
noncomputable def rH (x:D):D->aA->VK->Prop
 |.ref a,st,Q=>tabAt st a fun ks vs=>keyed x/\cV (kQ ks vs x) fun d=>Q d st
 |_,_,_=>False
noncomputable def yA (x v:D):D->aA->(aA->Prop)->Prop
 |.ref a,st,Q=>tabAt st a fun ks vs=>keyed x/\(ks.any fun k=>bH k x)=false/\ks.length<10000/\Q (put st a (.tab (ks++[x]) (vs++[v])))
 |_,_,_=>False
noncomputable def CG (c m:List Nat):D->aA->Prop
 |.ref a,st=>mD st a fun c' fs=>c'=c/\dA fs m=none
 |_,_=>False
noncomputable def dQ:D->aA->(Bool->Prop)->Prop
 |.non,_,P=>P false
 |.bl b,_,P=>P b
 |.int i,_,P=>P (i != 0)
 |.str x,_,P=>x.length<=bG/\P (!x.isEmpty)
 |.tup ds,_,P=>P (!ds.isEmpty)
 |.ref a,st,P=>dH st a (fun ds=>P (!ds.isEmpty)) fun ks _=>P (!ks.isEmpty)
 |.bF ds,_,P=>P (!ds.isEmpty)
 |_,_,_=>False
noncomputable def gS (sub:Nat->Nat->Bool):D->aA->Ty->(Bool->Prop)->Prop
 |.non,_,_,P=>P false
 |.bl _,_,.bool,P=>P true
 |.bl _,_,.int,P=>P true
 |.bl _,_,_,P=>P false
 |.int _,_,.int,P=>P true
 |.int _,_,_,P=>P false
 |.str _,_,.str,P=>P true
 |.str _,_,_,P=>P false
 |.tup _,_,.tuple,P=>P true
 |.tup _,_,_,P=>P false
 |.ref a,st,.list,P=>dH st a (fun _=>P true) fun _ _=>P false
 |.ref a,st,.dict,P=>dH st a (fun _=>P false) fun _ _=>P true
 |.ref a,st,_,P=>dH st a (fun _=>P false) fun _ _=>P false
 |.bF _,_,.list,P=>P true
 |.bF _,_,_,P=>P false
 |.exc c,_,.err c',P=>P (sub c c')
 |_,_,_,_=>False
noncomputable def tW (sub:Nat->Nat->Bool)(d:D)(st:aA):List Ty->(Bool->Prop)->Prop
 |[],_=>False
 |[t],P=>gS sub d st t P
 |t::u::ts,P=>gS sub d st t fun b=>if b=true then P true else tW sub d st (u::ts) P
noncomputable def lZ (n:Nat)(i:Int):Option Nat:=if 0<=i then(if i<n then some i.toNat else none)else if -(n:Int)<=i then some (i+n).toNat else none
noncomputable def eO {α:Type}(xs:List α)(i:Int):Option α:=(lZ xs.length i).bind fun j=>xs[j]?
noncomputable def sY:List D->List D->D->Option D
 |k::ks,v::vs,x=>if bH k x then some v else sY ks vs x
 |_,_,_=>none
noncomputable def lS:D->D->aA->VK->Prop
 |.tup ds,.int i,st,Q=>cV (eO ds i) fun d=>Q d st
 |.bF ds,.int i,st,Q=>cV (eO ds i) fun d=>Q d st
 |.str z,.int i,st,Q=>z.length<=bG/\cV (eO z i) fun c=>Q (.str [c]) st
 |.cO ks vs,.str w,st,Q=>cV (sY ks vs (.str w)) fun d=>Q d st
 |.ref a,y,st,Q=>dH st a (fun ds=>match y with
  |.int i=>cV (eO ds i) fun d=>Q d st
  |_=>False) fun ks vs=>plain y/\rR ks/\cV (sY ks vs y) fun d=>Q d st
 |_,_,_,_=>False
noncomputable def bX (n d:Nat):Option Int->Nat
 |none=>d
 |some v=>if v<0 then(v+(n:Int)).toNat else min v.toNat n
noncomputable def cut {α:Type}(xs:List α)(lo hi:Option Int):List α:=(xs.drop (bX xs.length 0 lo)).take (bX xs.length xs.length hi-bX xs.length 0 lo)
noncomputable def nB:List D->(Option Int->Prop)->Prop
 |[],P=>P none
 |[.int i],P=>P (some i)
 |_,_=>False
noncomputable def AN:D->Option Int->Option Int->aA->VK->Prop
 |.tup ds,lo,hi,st,Q=>Q (.tup (cut ds lo hi)) st
 |.ref a,lo,hi,st,Q=>bZ st a fun ds=>∀ p,st p=none->Q (.ref p) (put st p (.lst (cut ds lo hi)))
 |_,_,_,_,_=>False
noncomputable def dN:D->aA->(List Nat->List D->Prop)->Prop
 |.tup ds,_,K=>K [] ds
 |.ref a,st,K=>bZ st a fun ds=>K [a] ds
 |.bF ds,_,K=>K [] ds
 |_,_,_=>False
noncomputable def nA:D->aA->(List Nat->List D->Prop)->Prop
 |.tup ds,_,K=>K [] ds
 |.str x,_,K=>x.length<=bG/\K [] (x.map fun c=>.str [c])
 |.ref a,st,K=>bZ st a fun ds=>K [a] ds
 |.bF ds,_,K=>K [] ds
 |_,_,_=>False
noncomputable def zip2:List D->List D->List D
 |x::xs,y::ys=>.tup [x,y]::zip2 xs ys
 |_,_=>[]
noncomputable def SE:Nat->List D->List D
 |_,[]=>[]
 |i,x::xs=>.tup [.int i,x]::SE (i+1) xs
noncomputable def jR (lo:Int)(n:Nat):List D:=(List.range n).map fun k=>.int (lo+(k:Nat))
noncomputable def mT (hi:Int)(n:Nat):List D:=(List.range n).map fun k=>.int (hi-(k:Nat))
noncomputable def dE (i:Int):Prop:=-4611686018427387904<=i/\i<4611686018427387904
noncomputable def fD:Option IK->List D->aA->(List Nat->List D->Prop)->Prop
 |none,[x],st,P=>nA x st P
 |some .range,[.int j],_,P=>dE j/\P [] (jR 0 j.toNat)
 |some .range,[.int i,.int j],_,P=>dE i/\dE j/\P [] (jR i (j-i).toNat)
 |some .range,[.int i,.int j,.int c],_,P=>c = -1/\dE i/\dE j/\P [] (mT i (i-j).toNat)
 |some .zip,[.ref a,.ref b],st,P=>bZ st a fun xs=>bZ st b fun ys=>P [a,b] (zip2 xs ys)
 |some .enum,[.ref a],st,P=>bZ st a fun xs=>P [a] (SE 0 xs)
 |some .rev,[x],st,P=>dN x st fun as xs=>P as xs.reverse
 |_,_,_,_=>False
noncomputable def boolsOf:List D->Option (List Bool)
 |[]=>some []
 |.bl b::r=>(boolsOf r).map (b :: ·)
 |_=>none
noncomputable def intsOf:List D->Option (List Int)
 |[]=>some []
 |.int i::r=>(intsOf r).map (i :: ·)
 |_=>none
noncomputable def nV:D->aA->(Nat->Prop)->Prop
 |.tup ds,_,P=>P ds.length
 |.str x,_,P=>x.length<=bG/\P x.length
 |.ref a,st,P=>dH st a (fun ds=>P ds.length) fun ks _=>P ks.length
 |.bF ds,_,P=>P ds.length
 |_,_,_=>False
noncomputable def Ah:Int->List Int->Int
 |m,[]=>m
 |m,i::r=>Ah (if i>m then i else m) r
noncomputable def Aw:Int->List Int->Int
 |m,[]=>m
 |m,i::r=>Aw (if i<m then i else m) r
noncomputable def eD:BI->List D->aA->VK->Prop
 |.all,xs,st,Q=>cV (boolsOf xs) fun bs=>Q (.bl (bs.all id)) st
 |.any,xs,st,Q=>cV (boolsOf xs) fun bs=>Q (.bl (bs.any id)) st
 |.max,xs,st,Q=>cV (intsOf xs) fun is=>match is with
  |i::r=>Q (.int (Ah i r)) st
  |[]=>False
 |.min,xs,st,Q=>cV (intsOf xs) fun is=>match is with
  |i::r=>Q (.int (Aw i r)) st
  |[]=>False
 |.sum,xs,st,Q=>cV (intsOf xs) fun is=>Q (.int is.sum) st
 |.list,xs,st,Q=>fZ xs st Q
 |.tuple,xs,st,Q=>xs.length<=bG/\Q (.tup xs) st
 |_,_,_,_=>False
noncomputable def strsOf:List D->Option (List (List Nat))
 |[]=>some []
 |.str w::r=>(strsOf r).map (w :: ·)
 |_=>none
noncomputable def vP:List (List Nat)->List (List Nat)->Nat
 |_,[]=>0
 |seen,w::r=>(if seen.any (·== w)then 0 else 1)+vP (seen++[w]) r
noncomputable def gE:BI->List D->aA->VK->Prop
 |.len,[d],st,Q=>nV d st fun n=>Q (.int (n:Nat)) st
 |.qB,[.tup ds],st,Q=>cV (strsOf ds) fun ws=>ws.length<4000/\Q (.int (vP [] ws:Nat)) st
 |.max,[.int i,.int j],st,Q=>Q (.int (if j>i then j else i)) st
 |.min,[.int i,.int j],st,Q=>Q (.int (if j<i then j else i)) st
 |.abs,[.int i],st,Q=>Q (.int (if i<0 then -i else i)) st
 |.int,[.int i],st,Q=>Q (.int i) st
 |.int,[.bl b],st,Q=>Q (.int (if b then 1 else 0)) st
 |.bool,[.int i],st,Q=>Q (.bl (i != 0)) st
 |.bool,[.bl b],st,Q=>Q (.bl b) st
 |f,[d],st,Q=>dN d st fun _ xs=>eD f xs st Q
 |_,_,_,_=>False
noncomputable def wA:D->aA->(List D->Prop)->Prop
 |.tup ds,_,K=>K ds
 |.ref a,st,K=>bZ st a K
 |_,_,_=>False
noncomputable def findD (st:aA)(d:D):List D->Option Nat
 |[]=>none
 |e::r=>if bM st e d=true then some 0 else(findD st d r).map (·+ 1)
noncomputable def iR:MT->D->List D->aA->VK->Prop
 |.append,.ref a,[d],st,Q=>bZ st a fun xs=>xs.length<bG/\Q .non (put st a (.lst (xs++[d])))
 |.extend,.ref a,[d],st,Q=>bZ st a fun xs=>wA d st fun ys=>xs.length+ys.length<=bG/\Q .non (put st a (.lst (xs++ys)))
 |.pop,.ref a,[],st,Q=>bZ st a fun xs=>cV (xs[xs.length-1]?) fun d=>Q d (put st a (.lst xs.dropLast))
 |.index,x,[d],st,Q=>dN x st fun _ ds=>plainS st d/\dM st ds/\cV (findD st d ds) fun i=>Q (.int (i:Nat)) st
 |_,_,_,_,_=>False
noncomputable def vJ:MT->D->aA->Prop
 |.append,.ref a,st=>bZ st a fun _=>True
 |.extend,.ref a,st=>bZ st a fun _=>True
 |.pop,.ref a,st=>bZ st a fun _=>True
 |.index,x,st=>dN x st fun _ _=>True
 |_,_,_=>False
noncomputable def jG:Bool->List Nat->D->St->(St->Prop)->Prop
 |true,[i],x,σ,P=>P (σ.set i (some x))
 |false,is,.tup ds,σ,P=>ds.length=is.length/\P ((is.zip ds).foldl (fun σ p=>σ.set p.1 (some p.2)) σ)
 |_,_,_,_,_=>False
noncomputable def iN (g:aA->Prop)(turn:D->aA->(Option D->aA->Prop)->Prop):List D->List D->aA->(List D->aA->Prop)->Prop
 |[],acc,st,R=>g st/\R acc st
 |x::xs,acc,st,R=>g st/\acc.length<bG/\turn x st fun o aB=>iN g turn xs (match o with|none=>acc|some d=>acc++[d]) aB R
noncomputable def same (as:List Nat)(st aB:aA):Prop:=∀ a∈as,aB a=st a
mutual
noncomputable def aG (C:aX)(sub:Nat->Nat->Bool)(E:XK):Ex->St->aA->VK->Prop
 |.c d,_,st,Q=>Q d st
 |.v i,σ,st,Q=>dP σ i fun d=>Q d st
 |.tup es,σ,st,Q=>bE C sub E es σ st fun ds aB=>Q (.tup ds) aB
 |.lst es,σ,st,Q=>bE C sub E es σ st fun ds aB=>fZ ds aB Q
 |.bin op a b,σ,st,Q=>aG C sub E a σ st fun x aC=>aG C sub E b σ aC fun y aF=>hU op x y aF Q
 |.neg a,σ,st,Q=>aG C sub E a σ st fun x aC=>wO x aC Q
 |.cmp op a b,σ,st,Q=>aG C sub E a σ st fun x aC=>aG C sub E b σ aC fun y aF=>cW op x y aF fun k=>Q (.bl k) aF
 |.chain op op' a b c,σ,st,Q=>aG C sub E a σ st fun x aC=>aG C sub E b σ aC fun y aF=>cW op x y aF fun k =>
  if k=true then aG C sub E c σ aF fun z bC=>cW op' y z bC fun k=>Q (.bl k) bC else Q (.bl false) aF
 |.and_ a b,σ,st,Q=>aG C sub E a σ st fun x aC=>dQ x aC fun k=>if k=true then aG C sub E b σ aC Q else Q x aC
 |.or_ a b,σ,st,Q=>aG C sub E a σ st fun x aC=>dQ x aC fun k=>if k=true then Q x aC else aG C sub E b σ aC Q
 |.not_ a,σ,st,Q=>aG C sub E a σ st fun x aC=>dQ x aC fun k=>Q (.bl (!k)) aC
 |.ite c a b,σ,st,Q=>aG C sub E c σ st fun x aC=>dQ x aC fun k=>if k=true then aG C sub E a σ aC Q else aG C sub E b σ aC Q
 |.call f es,σ,st,Q=>bE C sub E es σ st fun ds aB=>C f ds aB Q E
 |.bi f es,σ,st,Q=>bE C sub E es σ st fun ds aB=>gE f ds aB Q
 |.isi a ts,σ,st,Q=>aG C sub E a σ st fun x aC=>tW sub x aC ts fun k=>Q (.bl k) aC
 |.cD m o es,σ,st,Q=>aG C sub E o σ st fun x aC=>vJ m x aC/\bE C sub E es σ aC fun ds aF=>iR m x ds aF Q
 |.ix a b,σ,st,Q=>aG C sub E a σ st fun x aC=>aG C sub E b σ aC fun y aF=>lS x y aF Q
 |.sl a lo hi,σ,st,Q=>aG C sub E a σ st fun x aC=>bE C sub E lo σ aC fun ls aF=>nB ls fun l=>bE C sub E hi σ aF fun hs bC=>nB hs fun h=>AN x l h bC Q
 |.bit f k es,σ,st,Q=>bE C sub E es σ st fun ds aC=>fD (some k) ds aC fun _ xs=>eD f xs aC Q
 |.comp n aL tg one k aD ifs elt,σ,st,Q=>bE C sub E aD σ st fun ds aC=>fD k ds aC fun as xs =>
  iN (same as aC) (fun x aF K=>jG one tg x (List.replicate n none++aL.map fun i=>(σ[i]?).getD none) fun σ' =>
  gG C sub E ifs σ' aF fun b bC=>if b=true then aG C sub E elt σ' bC fun d dR=>K (some d) dR else K none bC) xs [] aC fun ds gB=>fZ ds gB Q
 |.dic _ _,_,_,_=>False
 |.fld c f o,σ,st,Q=>aG C sub E o σ st fun x aC=>rG c f x aC Q
 |.mk c f es,σ,st,Q=>bE C sub E es σ st fun ds aC=>∀ p,aC p=none->C f (.ref p::ds) (put aC p (.ins c [])) (fun d aF=>d=.non/\Q (.ref p) aF) E
 |.mcl c m f o es,σ,st,Q=>aG C sub E o σ st fun x aC=>CG c m x aC/\bE C sub E es σ aC fun ds aF=>C f (x::ds) aF Q E
 |.cv i es,σ,st,Q=>dP σ i fun d=>wF d st (fun _ _ _=>True)/\bE C sub E es σ st fun ds aB=>wF d aB fun a f cs=>C f (cs++ds) (del aB a) (fun d2 aF=>Q d2 (put aF a (.fn f cs))) (fun c aF=>E c (put aF a (.fn f cs)))
 |.callL f es g aL κ,σ,st,Q=>bE C sub E es σ st fun ds aC=>(∃ P,aC P=some (.cod κ))/\oM σ aL fun cs=>∀ a,aC a=none->C f (ds++[.ref a]) (put aC a (.fn g cs)) (fun d aF=>Q d (del aF a)) (fun c aF=>E c (del aF a))
 |.dnew,σ,st,Q=>∀ p,st p=none->Q (.ref p) (put st p (.tab [] []))
 |.d1 k v,σ,st,Q=>∀ p,st p=none->aG C sub E k σ (put st p (.tab [] [])) fun x aC=>aG C sub E v σ aC fun y aF=>yA x y (.ref p) aF fun bC=>Q (.ref p) bC
 |.din neg k d,σ,st,Q=>aG C sub E k σ st fun x aC=>aG C sub E d σ aC fun y aF=>tD x y aF fun b=>Q (.bl (if neg=true then !b else b)) aF
 |.dix d k,σ,st,Q=>aG C sub E d σ st fun y aC=>aG C sub E k σ aC fun x aF=>rH x y aF Q
noncomputable def bE (C:aX)(sub:Nat->Nat->Bool)(E:XK):List Ex->St->aA->(List D->aA->Prop)->Prop
 |[],_,st,Q=>Q [] st
 |e::es,σ,st,Q=>aG C sub E e σ st fun d aB=>bE C sub E es σ aB fun ds aU=>Q (d::ds) aU
/-- all tests, one after another -/
noncomputable def gG (C:aX)(sub:Nat->Nat->Bool)(E:XK):List Ex->St->aA->(Bool->aA->Prop)->Prop
 |[],_,st,Q=>Q true st
 |e::es,σ,st,Q=>aG C sub E e σ st fun d aB=>dQ d aB fun k=>if k=true then gG C sub E es σ aB Q else Q false aB
end
structure fV where
 nx:St->aA->Prop
 rt:D->aA->Prop
 bk:St->aA->Prop
 ct:St->aA->Prop
 ex:Nat->St->aA->Prop
noncomputable def notRef:D->Prop
 |.ref _=>False
 |_=>True
noncomputable def zF:D->D->D->aA->(aA->Prop)->Prop
 |.ref a,.int k,v,st,Q=>bZ st a fun xs=>cV (lZ xs.length k) fun j=>Q (put st a (.lst (xs.set j v)))
 |_,_,_,_,_=>False
noncomputable def lO (C:aX)(sub:Nat->Nat->Bool)(E:XK):Tg->D->St->aA->(St->aA->Prop)->Prop
 |.nm i,d,σ,st,Q=>Q (σ.set i (some d)) st
 |.tp is,d,σ,st,Q=>jG false is d σ fun σ'=>Q σ' st
 |.ix o i,d,σ,st,Q=>aG C sub E o σ st fun x aC=>aG C sub E i σ aC fun y aF=>zF x y d aF fun bC=>Q σ bC
 |.fl c f o,d,σ,st,Q=>aG C sub E o σ st fun x aC=>zT c f d x aC fun aF=>Q σ aF
 |.dk o i,d,σ,st,Q=>aG C sub E o σ st fun x aC=>aG C sub E i σ aC fun y aF=>yA y d x aF fun bC=>Q σ bC
noncomputable def vA (g:aA->Prop)(turn:D->(St->aA->Prop)->St->aA->Prop)(N:St->aA->Prop):List D->St->aA->Prop
 |[],σ,st=>g st/\N σ st
 |x::xs,σ,st=>g st/\turn x (vA g turn N xs) σ st
noncomputable def nM (turn:(St->aA->Prop)->St->aA->Prop):Nat->St->aA->Prop
 |0,_,_=>False
 |n+1,σ,st=>turn (nM turn n) σ st
noncomputable def G4 (n:Option Nat)(o:Option D)(σ:St):St:=match n with
 |some i=>σ.set i o
 |none=>σ
noncomputable def Ja (sub:Nat->Nat->Bool)(c:Nat)(n:Option Nat)(P:fV)(h:fV->St->aA->Prop):fV :=
 ⟨P.nx,P.rt,P.bk,P.ct,fun c' σ' aB=>if sub c' c=true then
 h ⟨fun σ2 aF=>P.nx (G4 n none σ2) aF,P.rt,fun _ _=>False,fun _ _=>False,fun _ _ _=>False⟩ (G4 n (some (.exc c')) σ') aB else P.ex c' σ' aB⟩
noncomputable def GA:aX:=fun _ _ _ _ _=>False
mutual
noncomputable def wpS (C:aX)(sub:Nat->Nat->Bool):Sx->fV->St->aA->Prop
 |.ex e,P,σ,st=>aG C sub (fun c aB=>P.ex c σ aB) e σ st fun _ aB=>P.nx σ aB
 |.asg t e,P,σ,st=>aG C sub (fun c aB=>P.ex c σ aB) e σ st fun d aB=>lO C sub (fun c aB=>P.ex c σ aB) t d σ aB P.nx
 |.aug i op e,P,σ,st=>dP σ i fun x=>aG C sub (fun c aB=>P.ex c σ aB) e σ st fun y aB=>notRef x/\hU op x y aB fun d aU=>P.nx (σ.set i (some d)) aU
 |.iff c a b,P,σ,st=>aG C sub (fun c aB=>P.ex c σ aB) c σ st fun d aB=>dQ d aB fun k=>if k=true then cN C sub a P σ aB else cN C sub b P σ aB
 |.whl c b,P,σ,st=>∃ n,nM (fun next σ st=>aG C sub (fun c aB=>P.ex c σ aB) c σ st fun d aB=>dQ d aB fun k =>
  if k=true then cN C sub b { P with nx:=next,ct:=next,bk:=P.nx } σ aB else P.nx σ aB) n σ st
 |.gJ t k aD b,P,σ,st=>bE C sub (fun c aB=>P.ex c σ aB) aD σ st fun ds aC=>fD k ds aC fun as xs=>vA (same as aC) (fun x next σ st=>lO C sub (fun c aB=>P.ex c σ aB) t x σ st fun σ' aB=>cN C sub b { P with nx:=next,ct:=next,bk:=P.nx } σ' aB) P.nx xs σ aC
 |.ret e,P,σ,st=>aG C sub (fun c aB=>P.ex c σ aB) e σ st P.rt
 |.brk,P,σ,st=>P.bk σ st
 |.cnt,P,σ,st=>P.ct σ st
 |.pass,P,σ,st=>P.nx σ st
 |.rais c es,P,σ,st=>bE C sub (fun c aB=>P.ex c σ aB) es σ st fun _ aB=>P.ex c σ aB
 |.tryy b c n h,P,σ,st=>cN C sub b (Ja sub c n P fun P' σ' aB=>cN GA sub h P' σ' aB) σ st
noncomputable def cN (C:aX)(sub:Nat->Nat->Bool):List Sx->fV->St->aA->Prop
 |[],P,σ,st=>P.nx σ st
 |s::ss,P,σ,st=>wpS C sub s { P with nx:=cN C sub ss P } σ st
end
noncomputable def start (np nl:Nat)(ds:List D):St:=ds.map some++List.replicate (nl-np) none
noncomputable def aM (G:Prog):Nat->aX
 |0=>fun _ _ _ _ _=>False
 |k+1=>fun f ds st Q E=>match G.fns f with
 |none=>False
 |some fn=>ds.length=fn.np/\cN (aM G k) G.sub fn.body ⟨fun _ aB=>Q .non aB,Q,fun _ _=>False,fun _ _=>False,fun c _ aB=>E c aB⟩ (start fn.np fn.nl ds) st
end L3
end
section
namespace L3
theorem qF {σ:St}{i:Nat}{Q Q':D->Prop}(h:∀ d,Q d->Q' d):dP σ i Q->dP σ i Q':=by
 unfold dP;split
 ·exact h _
 ·exact id
theorem zZ {σ:St}:∀{is:List Nat}{Q Q':List D->Prop},(∀ d,Q d->Q' d)->oM σ is Q->oM σ is Q'
 |[],_,_,h=>h _
 |_::_,_,_,h=>qF fun _=>zZ fun _=>h _
theorem PQ {d:D}{st:aA}{K K':Nat->Nat->List D->Prop}(h:∀ a f cs,K a f cs->K' a f cs):wF d st K->wF d st K':=by
 cases d<;>first|exact id|skip
 unfold wF
 simp only
 split
 ·exact h _ _ _
 ·exact id
theorem mE {st:aA}{a:Nat}{K K':List D->Prop}{M M':List D->List D->Prop}(h:∀ ds,K ds->K' ds)(h':∀ ks vs,M ks vs->M' ks vs):dH st a K M->dH st a K' M':=by
 unfold dH;split
 ·exact h _
 ·exact h' _ _
 ·exact id
theorem dB {st:aA}{a:Nat}{K K':List D->Prop}(h:∀ ds,K ds->K' ds):bZ st a K->bZ st a K':=by
 unfold bZ;split
 ·exact h _
 ·exact id
theorem dX {α:Type}{o:Option α}{K K':α->Prop}(h:∀ x,K x->K' x):cV o K->cV o K':=by
 unfold cV;split
 ·exact h _
 ·exact id
theorem iJ {d:D}{st:aA}{P P':Bool->Prop}(h:∀ b,P b->P' b):dQ d st P->dQ d st P':=by
 unfold dQ;split
 all_goals first|exact h _|exact id|exact(fun x=>⟨x.1,h _ x.2⟩)|exact mE (fun _=>h _) fun _ _=>h _
theorem nI {ds:List D}{st:aA}{Q Q':VK}(h:∀ d st,Q d st->Q' d st):fZ ds st Q->fZ ds st Q':=fun x=>⟨x.1,fun p hp=>h _ _ (x.2 p hp)⟩
theorem C5 {op:rS}{x y:D}{st:aA}{Q Q':VK}(h:∀ d st,Q d st->Q' d st):hU op x y st Q->hU op x y st Q':=by
 unfold hU
 split
 all_goals first|exact h _ _|exact id|exact(fun z=>⟨z.1,h _ _ z.2⟩)|exact dB (fun _=>dB fun _=>nI h)|exact dB (fun _ z=>⟨z.1,z.2.1,nI h z.2.2⟩)
theorem NF {x:D}{st:aA}{Q Q':VK}(h:∀ d st,Q d st->Q' d st):wO x st Q->wO x st Q':=by
 unfold wO;split
 ·exact h _ _
 ·exact id
theorem HN {x y:D}{st:aA}{P P':Bool->Prop}(h:∀ b,P b->P' b):SM x y st P->SM x y st P':=fun z=>⟨z.1,z.2.1,h _ z.2.2⟩
theorem EO {x y:D}{st:aA}{P P':Bool->Prop}(h:∀ b,P b->P' b):FW x y st P->FW x y st P':=by
 unfold FW
 split
 all_goals first|exact(fun z=>⟨z.1,z.2.1,h _ z.2.2⟩)|exact h _|exact id|exact mE (fun _ z=>⟨z.1,z.2.1,h _ z.2.2⟩) fun _ _ z=>⟨z.1,z.2.1,h _ z.2.2⟩
theorem qG {f:Int->Int->Bool}{x y:D}{P P':Bool->Prop}(h:∀ b,P b->P' b):sV f x y P->sV f x y P':=by
 unfold sV;split
 ·exact h _
 ·exact id
theorem G1 {x y:D}{P P':Bool->Prop}(h:∀ b,P b->P' b):AS x y P->AS x y P':=by
 unfold AS
 split
 all_goals first|exact h _|exact id
theorem wG {op:oY}{x y:D}{st:aA}{P P':Bool->Prop}(h:∀ b,P b->P' b):cW op x y st P->cW op x y st P':=by
 cases op
 ·exact HN h
 ·exact HN fun b=>h (!b)
 ·exact qG h
 ·exact qG h
 ·exact qG h
 ·exact qG h
 ·exact G1 h
 ·exact G1 fun b=>h (!b)
 ·exact EO h
 ·exact EO fun b=>h (!b)
theorem AR {sub:Nat->Nat->Bool}{x:D}{st:aA}{t:Ty}{P P':Bool->Prop}(h:∀ b,P b->P' b):gS sub x st t P->gS sub x st t P':=by
 unfold gS
 split
 all_goals first|exact h _|exact id|exact mE (fun _=>h _) fun _ _=>h _
theorem DR {sub:Nat->Nat->Bool}{x:D}{st:aA}{P P':Bool->Prop}(h:∀ b,P b->P' b):∀{ts:List Ty},tW sub x st ts P->tW sub x st ts P'
 |[]=>id
 |[t]=>AR h
 |t::u::ts=>by
  unfold tW
  refine AR fun b=>?_
  split
  ·exact h _
  ·exact DR h
theorem PC {x y:D}{st:aA}{Q Q':VK}(h:∀ d st,Q d st->Q' d st):lS x y st Q->lS x y st Q':=by
 unfold lS
 split
 all_goals first|exact id|exact dX (fun _=>h _ _)|exact(fun z=>⟨z.1,dX (fun _=>h _ _) z.2⟩)|exact(fun z=>⟨z.1,z.2.1,dX (fun _=>h _ _) z.2.2⟩)|skip
 refine mE (fun _=>?_) (fun _ _ z=>⟨z.1,z.2.1,dX (fun _=>h _ _) z.2.2⟩)
 split
 ·exact dX fun _=>h _ _
 ·exact id
theorem AV {ds:List D}{P P':Option Int->Prop}(h:∀ o,P o->P' o):nB ds P->nB ds P':=by
 unfold nB;split
 all_goals first|exact h _|exact id
theorem O7 {x:D}{lo hi:Option Int}{st:aA}{Q Q':VK}(h:∀ d st,Q d st->Q' d st):AN x lo hi st Q->AN x lo hi st Q':=by
 unfold AN
 split
 ·exact h _ _
 ·exact dB fun _ z p hp=>h _ _ (z p hp)
 ·exact id
theorem LQ {d:D}{st:aA}{K K':List Nat->List D->Prop}(h:∀ as xs,K as xs->K' as xs):nA d st K->nA d st K':=by
 unfold nA
 split
 all_goals first|exact h _ _|exact id|exact(fun z=>⟨z.1,h _ _ z.2⟩)|exact dB (fun _=>h _ _)
theorem vC {d:D}{st:aA}{K K':List Nat->List D->Prop}(h:∀ as xs,K as xs->K' as xs):dN d st K->dN d st K':=by
 unfold dN
 split
 all_goals first|exact h _ _|exact id|exact dB (fun _=>h _ _)
theorem wL {k:Option IK}{ds:List D}{st:aA}{P P':List Nat->List D->Prop}(h:∀ as xs,P as xs->P' as xs):fD k ds st P->fD k ds st P':=by
 unfold fD
 split
 ·exact LQ h
 ·exact fun z=>⟨z.1,h _ _ z.2⟩
 ·exact fun z=>⟨z.1,z.2.1,h _ _ z.2.2⟩
 ·exact fun z=>⟨z.1,z.2.1,z.2.2.1,h _ _ z.2.2.2⟩
 ·exact dB fun _=>dB fun _=>h _ _
 ·exact dB fun _=>h _ _
 ·exact vC fun _ _=>h _ _
 ·exact id
theorem NN {d:D}{st:aA}{P P':Nat->Prop}(h:∀ n,P n->P' n):nV d st P->nV d st P':=by
 unfold nV
 split
 all_goals first|exact h _|exact id|exact(fun z=>⟨z.1,h _ z.2⟩)|exact mE (fun _=>h _) fun _ _=>h _
theorem yM {f:BI}{xs:List D}{st:aA}{Q Q':VK}(h:∀ d st,Q d st->Q' d st):eD f xs st Q->eD f xs st Q':=by
 unfold eD
 split
 all_goals first|exact id|exact nI h|exact(fun z=>⟨z.1,h _ _ z.2⟩)|exact dX (fun _=>h _ _)|skip
 all_goals refine dX fun is=>?_
 all_goals cases is
 all_goals first|exact id|exact h _ _
theorem QC {f:BI}{ds:List D}{st:aA}{Q Q':VK}(h:∀ d st,Q d st->Q' d st):gE f ds st Q->gE f ds st Q':=by
 unfold gE
 split
 all_goals first|exact id|exact h _ _|exact NN (fun _=>h _ _)|exact vC (fun _ _=>yM h)|exact dX (fun _ z=>⟨z.1,h _ _ z.2⟩)
theorem NM {d:D}{st:aA}{K K':List D->Prop}(h:∀ xs,K xs->K' xs):wA d st K->wA d st K':=by
 unfold wA
 split
 all_goals first|exact h _|exact id|exact dB h
theorem LO {m:MT}{o:D}{ds:List D}{st:aA}{Q Q':VK}(h:∀ d st,Q d st->Q' d st):iR m o ds st Q->iR m o ds st Q':=by
 unfold iR
 split
 ·exact dB fun _ z=>⟨z.1,h _ _ z.2⟩
 ·exact dB fun _=>NM fun _ z=>⟨z.1,h _ _ z.2⟩
 ·exact dB fun _=>dX fun _=>h _ _
 ·exact vC fun _ _ z=>⟨z.1,z.2.1,dX (fun _=>h _ _) z.2.2⟩
 ·exact id
theorem AI {one:Bool}{tg:List Nat}{x:D}{σ:St}{P P':St->Prop}(h:∀ σ,P σ->P' σ):jG one tg x σ P->jG one tg x σ P':=by
 unfold jG
 split
 ·exact h _
 ·exact fun z=>⟨z.1,h _ z.2⟩
 ·exact id
theorem AK {g:aA->Prop}{turn qX:D->aA->(Option D->aA->Prop)->Prop}{R R':List D->aA->Prop}
 (ht:∀ x st K K',(∀ o st,K o st->K' o st)->turn x st K->qX x st K')(h:∀ ds st,R ds st->R' ds st):∀{xs acc:List D}{st:aA},iN g turn xs acc st R->iN g qX xs acc st R'
 |[],_,_,z=>⟨z.1,h _ _ z.2⟩
 |_::_,_,_,z=>⟨z.1,z.2.1,ht _ _ _ _ (fun _ _ y=>AK ht h y) z.2.2⟩
theorem A4 {st:aA}{a:Nat}{K K':List Nat->List (List Nat×D)->Prop}(h:∀ c fs,K c fs->K' c fs):mD st a K->mD st a K':=by
 unfold mD;split
 ·exact h _ _
 ·exact id
theorem tJ {st:aA}{a:Nat}{K K':List D->List D->Prop}(h:∀ c fs,K c fs->K' c fs):tabAt st a K->tabAt st a K':=by
 unfold tabAt;split
 ·exact h _ _
 ·exact id
theorem OI {c f:List Nat}{x:D}{st:aA}{Q Q':VK}(h:∀ d st,Q d st->Q' d st):rG c f x st Q->rG c f x st Q':=by
 unfold rG;split
 ·exact A4 fun _ _ z=>⟨z.1,dX (fun _=>h _ _) z.2⟩
 ·exact id
theorem QM {c f:List Nat}{v x:D}{st:aA}{Q Q':aA->Prop}(h:∀ st,Q st->Q' st):zT c f v x st Q->zT c f v x st Q':=by
 unfold zT;split
 ·exact A4 fun _ _ z=>⟨z.1,z.2.1,h _ z.2.2⟩
 ·exact id
theorem L9 {x y:D}{st:aA}{P P':Bool->Prop}(h:∀ b,P b->P' b):tD x y st P->tD x y st P':=by
 unfold tD;split
 ·exact tJ fun _ _ z=>⟨z.1,h _ z.2⟩
 ·exact id
theorem NW {x y:D}{st:aA}{Q Q':VK}(h:∀ d st,Q d st->Q' d st):rH x y st Q->rH x y st Q':=by
 unfold rH;split
 ·exact tJ fun _ _ z=>⟨z.1,dX (fun _=>h _ _) z.2⟩
 ·exact id
theorem EW {x v y:D}{st:aA}{Q Q':aA->Prop}(h:∀ st,Q st->Q' st):yA x v y st Q->yA x v y st Q':=by
 unfold yA;split
 ·exact tJ fun _ _ z=>⟨z.1,z.2.1,z.2.2.1,h _ z.2.2.2⟩
 ·exact id
noncomputable def bI (C C':aX):Prop:=∀ f ds st Q Q' E E',(∀ d st,Q d st->Q' d st)->(∀ c st,E c st->E' c st)->C f ds st Q E->C' f ds st Q' E'
mutual
theorem aS {C C':aX}{sub}{E E':XK}(hC:bI C C')(hE:∀ c st,E c st->E' c st):∀(e:Ex){σ:St}{st:aA}{Q Q':VK},(∀ d st,Q d st->Q' d st)->aG C sub E e σ st Q->aG C' sub E' e σ st Q'
 |.c d,σ,st,Q,Q',h=>by exact h _ _
 |.v i,σ,st,Q,Q',h=>by exact qF fun d=>h _ _
 |.tup es,σ,st,Q,Q',h=>by exact cG hC hE es fun _ _=>h _ _
 |.lst es,σ,st,Q,Q',h=>by exact cG hC hE es fun _ _=>nI h
 |.bin op a b,σ,st,Q,Q',h=>by exact aS hC hE a fun _ _=>aS hC hE b fun _ _=>C5 h
 |.neg a,σ,st,Q,Q',h=>by
  exact aS hC hE a fun _ _=>NF h
 |.cmp op a b,σ,st,Q,Q',h=>by exact aS hC hE a fun _ _=>aS hC hE b fun _ _=>wG fun _=>h _ _
 |.chain op op' a b c,σ,st,Q,Q',h=>by
  refine aS hC hE a fun _ _=>aS hC hE b fun _ _=>wG fun k=>?_
  split
  ·exact aS hC hE c fun _ _=>wG fun _=>h _ _
  ·exact h _ _
 |.and_ a b,σ,st,Q,Q',h=>by
  refine aS hC hE a fun _ _=>iJ fun k=>?_
  split
  ·exact aS hC hE b h
  ·exact h _ _
 |.or_ a b,σ,st,Q,Q',h=>by
  refine aS hC hE a fun _ _=>iJ fun k=>?_
  split
  ·exact h _ _
  ·exact aS hC hE b h
 |.not_ a,σ,st,Q,Q',h=>by exact aS hC hE a fun _ _=>iJ fun k=>h _ _
 |.ite c a b,σ,st,Q,Q',h=>by
  refine aS hC hE c fun _ _=>iJ fun k=>?_
  split
  ·exact aS hC hE a h
  ·exact aS hC hE b h
 |.call f es,σ,st,Q,Q',h=>by exact cG hC hE es fun _ _=>hC _ _ _ _ _ _ _ h hE
 |.bi f es,σ,st,Q,Q',h=>by exact cG hC hE es fun _ _=>QC h
 |.isi a ts,σ,st,Q,Q',h=>by exact aS hC hE a fun _ _=>DR fun _=>h _ _
 |.cD m o es,σ,st,Q,Q',h=>by exact aS hC hE o fun _ _ z=>⟨z.1,cG hC hE es (fun _ _=>LO h) z.2⟩
 |.ix a b,σ,st,Q,Q',h=>by exact aS hC hE a fun _ _=>aS hC hE b fun _ _=>PC h
 |.sl a lo hi,σ,st,Q,Q',h=>by exact aS hC hE a fun _ _=>cG hC hE lo fun _ _=>AV fun _=>cG hC hE hi fun _ _=>AV fun _=>O7 h
 |.bit f k es,σ,st,Q,Q',h=>by exact cG hC hE es fun _ _=>wL fun _ _=>yM h
 |.comp n aL tg one k aD ifs elt,σ,st,Q,Q',h=>by
  refine cG hC hE aD fun d aC=>wL fun as xs=>?_
  intro z
  refine AK (fun x st K K' hK=>?_) (fun _ _=>nI h) z
  refine AI fun σ'=>CM hC hE ifs fun b st=>?_
  split
  ·exact aS hC hE elt fun _ _=>hK _ _
  ·exact hK _ _
 |.dic _ _,σ,st,Q,Q',h=>by exact id
 |.fld c f o,σ,st,Q,Q',h=>by exact aS hC hE o fun _ _=>OI h
 |.mk c f es,σ,st,Q,Q',h=>by exact cG hC hE es fun _ _ z p hp=>hC _ _ _ _ _ _ _ (fun _ _ y=>⟨y.1,h _ _ y.2⟩) hE (z p hp)
 |.mcl c m f o es,σ,st,Q,Q',h=>by exact aS hC hE o fun _ _ z=>⟨z.1,cG hC hE es (fun _ _=>hC _ _ _ _ _ _ _ h hE) z.2⟩
 |.cv i es,σ,st,Q,Q',h=>by exact qF fun _ z=>⟨z.1,cG hC hE es (fun _ _=>PQ fun _ _ _=>hC _ _ _ _ _ _ _ (fun _ _=>h _ _) (fun _ _=>hE _ _)) z.2⟩
 |.callL f es g aL κ,σ,st,Q,Q',h=>by exact cG hC hE es fun _ _ z=>⟨z.1,zZ (fun _ y a ha=>hC _ _ _ _ _ _ _ (fun _ _=>h _ _) (fun _ _=>hE _ _) (y a ha)) z.2⟩
 |.dnew,σ,st,Q,Q',h=>by exact fun z p hp=>h _ _ (z p hp)
 |.d1 k v,σ,st,Q,Q',h=>by exact fun z p hp=>aS hC hE k (fun _ _=>aS hC hE v fun _ _=>EW fun _=>h _ _) (z p hp)
 |.din neg k d,σ,st,Q,Q',h=>by exact aS hC hE k fun _ _=>aS hC hE d fun _ _=>L9 fun _=>h _ _
 |.dix d k,σ,st,Q,Q',h=>by exact aS hC hE d fun _ _=>aS hC hE k fun _ _=>NW h
theorem cG {C C':aX}{sub}{E E':XK}(hC:bI C C')(hE:∀ c st,E c st->E' c st):∀(es:List Ex){σ:St}{st:aA}{Q Q':List D->aA->Prop},(∀ d st,Q d st->Q' d st)->bE C sub E es σ st Q->bE C' sub E' es σ st Q'
 |[],σ,st,Q,Q',h=>by exact h _ _
 |e::es,σ,st,Q,Q',h=>by exact aS hC hE e fun _ _=>cG hC hE es fun _ _=>h _ _
theorem CM {C C':aX}{sub}{E E':XK}(hC:bI C C')(hE:∀ c st,E c st->E' c st):∀(es:List Ex){σ:St}{st:aA}{Q Q':Bool->aA->Prop},(∀ d st,Q d st->Q' d st)->gG C sub E es σ st Q->gG C' sub E' es σ st Q'
 |[],σ,st,Q,Q',h=>by exact h _ _
 |e::es,σ,st,Q,Q',h=>by
  refine aS hC hE e fun _ _=>iJ fun k=>?_
  split
  ·exact CM hC hE es h
  ·exact h _ _
end
structure fV.Le (P P':fV):Prop where
 nx:∀ σ st,P.nx σ st->P'.nx σ st
 rt:∀ d st,P.rt d st->P'.rt d st
 bk:∀ σ st,P.bk σ st->P'.bk σ st
 ct:∀ σ st,P.ct σ st->P'.ct σ st
 ex:∀ c σ st,P.ex c σ st->P'.ex c σ st
theorem MW {o i v:D}{st:aA}{Q Q':aA->Prop}(h:∀ st,Q st->Q' st):zF o i v st Q->zF o i v st Q':=by
 unfold zF
 split
 ·exact dB fun _=>dX fun _=>h _
 ·exact id
theorem tB {C C':aX}{sub}{E E':XK}(hC:bI C C')(hE:∀ c st,E c st->E' c st){d:D}{Q Q':St->aA->Prop}(h:∀ σ st,Q σ st->Q' σ st):∀(t:Tg){σ:St}{st:aA},lO C sub E t d σ st Q->lO C' sub E' t d σ st Q'
 |.nm i,_,_=>by exact h _ _
 |.tp is,_,_=>by exact AI fun _=>h _ _
 |.ix o i,_,_=>by exact aS hC hE o fun _ _=>aS hC hE i fun _ _=>MW fun _=>h _ _
 |.fl c f o,_,_=>by exact aS hC hE o fun _ _=>QM fun _=>h _ _
 |.dk o i,_,_=>by exact aS hC hE o fun _ _=>aS hC hE i fun _ _=>EW fun _=>h _ _
theorem DP {g:aA->Prop}{turn qX:D->(St->aA->Prop)->St->aA->Prop}{N N':St->aA->Prop}
 (ht:∀ x M M' σ st,(∀ σ st,M σ st->M' σ st)->turn x M σ st->qX x M' σ st)(h:∀ σ st,N σ st->N' σ st):∀{xs:List D}{σ:St}{st:aA},vA g turn N xs σ st->vA g qX N' xs σ st
 |[],_,_,z=>⟨z.1,h _ _ z.2⟩
 |_::_,_,_,z=>⟨z.1,ht _ _ _ _ _ (fun _ _=>DP ht h) z.2⟩
theorem yE {turn qX:(St->aA->Prop)->St->aA->Prop}(ht:∀ M M' σ st,(∀ σ st,M σ st->M' σ st)->turn M σ st->qX M' σ st):∀{n:Nat}{σ:St}{st:aA},nM turn n σ st->nM qX n σ st
 |0,_,_,z=>z
 |n+1,_,_,z=>ht _ _ _ _ (fun _ _=>yE ht) z
theorem HR:bI GA GA:=fun _ _ _ _ _ _ _ _ _ x=>x
mutual
theorem wpS_mono {C C':aX}{sub}(hC:bI C C'):∀(s:Sx){P P':fV}{σ:St}{st:aA},P.Le P'->wpS C sub s P σ st->wpS C' sub s P' σ st
 |.ex e,P,P',σ,st,h=>by exact aS hC (fun _ _=>h.ex _ _ _) e fun _ _=>h.nx _ _
 |.asg t e,P,P',σ,st,h=>by exact aS hC (fun _ _=>h.ex _ _ _) e fun _ _=>tB hC (fun _ _=>h.ex _ _ _) h.nx t
 |.aug i op e,P,P',σ,st,h=>by
  exact qF fun x=>aS hC (fun _ _=>h.ex _ _ _) e fun _ _ z=>⟨z.1,C5 (fun _ _=>h.nx _ _) z.2⟩
 |.iff c a b,P,P',σ,st,h=>by
  refine aS hC (fun _ _=>h.ex _ _ _) c fun _ _=>iJ fun k=>?_
  split
  ·exact gU hC a h
  ·exact gU hC b h
 |.whl c b,P,P',σ,st,h=>by
  rintro⟨n,z⟩
  refine⟨n,yE (fun M M' σ st hM=>aS hC (fun _ _=>h.ex _ _ _) c fun _ _=>iJ fun k=>?_) z⟩
  split
  ·exact gU hC b ⟨hM,h.rt,h.nx,hM,h.ex⟩
  ·exact h.nx _ _
 |.gJ t k aD b,P,P',σ,st,h=>by
  refine cG hC (fun _ _=>h.ex _ _ _) aD fun _ _=>wL fun as xs=>?_
  exact DP (fun x M M' σ st hM=>tB hC (fun _ _=>h.ex _ _ _) (fun _ _=>gU hC b (P:={ P with nx:=M,ct:=M,bk:=P.nx }) (P':={ P' with nx:=M',ct:=M',bk:=P'.nx }) ⟨hM,h.rt,h.nx,hM,h.ex⟩) t) h.nx
 |.ret e,P,P',σ,st,h=>by exact aS hC (fun _ _=>h.ex _ _ _) e h.rt
 |.brk,P,P',σ,st,h=>by exact h.bk _ _
 |.cnt,P,P',σ,st,h=>by exact h.ct _ _
 |.pass,P,P',σ,st,h=>by exact h.nx _ _
 |.rais c es,P,P',σ,st,h=>by exact cG hC (fun _ _=>h.ex _ _ _) es fun _ _=>h.ex _ _ _
 |.tryy b c n hh,P,P',σ,st,h=>by
  refine gU hC b ⟨h.nx,h.rt,h.bk,h.ct,fun c' σ st=>?_⟩
  show(if sub c' c=true then _ else _)->(if sub c' c=true then _ else _)
  split
  ·exact gU HR hh ⟨fun _ _=>h.nx _ _,h.rt,fun _ _=>id,fun _ _=>id,fun _ _ _=>id⟩
  ·exact h.ex _ _ _
theorem gU {C C':aX}{sub}(hC:bI C C'):∀(ss:List Sx){P P':fV}{σ:St}{st:aA},P.Le P'->cN C sub ss P σ st->cN C' sub ss P' σ st
 |[],P,P',σ,st,h=>by exact h.nx _ _
 |s::ss,P,P',σ,st,h=>by exact wpS_mono hC s ⟨fun _ _=>gU hC ss h,h.rt,h.bk,h.ct,h.ex⟩
end
theorem lC (G:Prog):∀{j k:Nat},j<=k->bI (aM G j) (aM G k)
 |0,k,_=>fun _ _ _ _ _ _ _ _ _ x=>x.elim
 |j+1,0,h=>by omega
 |j+1,k+1,h=>fun f ds st Q Q' E E' hQ hE=>by
  simp only[aM]
  split
  ·exact id
  ·have hj:j<=k:=by omega
   exact fun z=>⟨z.1,gU (lC G hj) _ (P:=⟨fun _ aB=>Q .non aB,Q,fun _ _=>False,fun _ _=>False,fun c _ aB=>E c aB⟩) (P':=⟨fun _ aB=>Q' .non aB,Q',fun _ _=>False,fun _ _=>False,fun c _ aB=>E' c aB⟩) ⟨fun _ _=>hQ _ _,hQ,fun _ _=>id,fun _ _=>id,fun _ _ _=>hE _ _⟩ z.2⟩
end L3
end
section
namespace L3
section
variable {C:aX}{sub:Nat->Nat->Bool}{E:XK}{σ:St}{st:aA}{Q:VK}{P:Bool->Prop}{e a b c:Ex}{es:List Ex}{x y:D}{i j:Int}{u v:List Nat}{ds xs ys ks vs:List D}{p q:Nat}{K:List D->Prop}{M:List D->List D->Prop}
theorem aE {R:fV}:cN C sub [] R σ st=R.nx σ st:=rfl
theorem OE {R:fV}{s:Sx}{ss:List Sx}:cN C sub (s::ss) R σ st=wpS C sub s { R with nx:=cN C sub ss R } σ st:=rfl
theorem fM {R:fV}{s:Sx}{ss:List Sx}(h:wpS C sub s { R with nx:=cN C sub ss R } σ st):cN C sub (s::ss) R σ st:=h
theorem gQ (h:st p=some (.lst ds)):dH st p K M=K ds:=by unfold dH;rw[h]
theorem aK (h:st p=some (.lst ds)):bZ st p K=K ds:=by unfold bZ;rw[h]
theorem bR {α:Type}{x:α}{K:α->Prop}:cV (some x) K=K x:=rfl
theorem NU {α:Type}{K:α->Prop}:cV none K=False:=rfl
theorem XS {d:D}{r:St}{R:D->Prop}:dP (some d::r) 0 R=R d:=rfl
theorem XZ {o:Option D}{r:St}{n:Nat}{R:D->Prop}:dP (o::r) (n+1) R=dP r n R:=rfl
theorem bB {o:MO}:put st p o p=some o:=by unfold put;rw[if_pos rfl]
theorem bL {o:MO}(h:q≠p):put st p o q=st q:=by unfold put;rw[if_neg h]
theorem CI {o u:MO}(h:st p=none)(h':st q=some u):put st p o q=some u:=by
 rw[bL];exact h'
 intro e;rw[e,h]at h';cases h'
theorem UQ:dQ .non st P=P false:=rfl
theorem ZW {k:Bool}:dQ (.bl k) st P=P k:=rfl
theorem SV:dQ (.int i) st P=P (i != 0):=rfl
theorem S0:dQ (.tup ds) st P=P (!ds.isEmpty):=rfl
theorem KD:dQ (.ref p) st P=dH st p (fun ds=>P (!ds.isEmpty)) fun ks _=>P (!ks.isEmpty):=rfl
theorem RM:dQ (.bF ds) st P=P (!ds.isEmpty):=rfl
theorem Z3:cW .eq x y st P=(plainS st x/\plainS st y/\P (bM st x y)):=rfl
theorem Af:cW .ne x y st P=(plainS st x/\plainS st y/\P (!bM st x y)):=rfl
theorem Ad:cW .lt (.int i) (.int j) st P=P (decide (i<j)):=rfl
theorem ZX:cW .le (.int i) (.int j) st P=P (decide (i<=j)):=rfl
theorem cmp_gt:cW .gt (.int i) (.int j) st P=P (decide (j<i)):=rfl
theorem XT:cW .ge (.int i) (.int j) st P=P (decide (j<=i)):=rfl
theorem TJ:cW .is_ x .non st P=P (ED x):=rfl
theorem V5 {k:Bool}:cW .is_ x (.bl k) st P=P (P5 k x):=rfl
theorem QU:cW .isnot x .non st P=P (!ED x):=rfl
theorem O6 {k:Bool}:cW .isnot x (.bl k) st P=P (!P5 k x):=rfl
theorem L0:cW .in_ x (.tup ds) st P=(plainS st x/\dM st ds/\P (ds.any fun d=>bM st d x)):=rfl
theorem IC {w:List Nat}:cW .in_ (.str w) (.cO ks vs) st P=P (ks.any fun d=>bH d (.str w)):=rfl
theorem LR:cW .in_ (.str u) (.str v) st P=P (occurs u v):=rfl
theorem IG:cW .iW x (.tup ds) st P=(plainS st x/\dM st ds/\P (!ds.any fun d=>bM st d x)):=rfl
theorem IB:cW .iW x (.ref p) st P=dH st p (fun ds=>plainS st x/\dM st ds/\P (!ds.any fun d=>bM st d x)) fun ks _=>plain x/\rR ks/\P (!ks.any fun d=>bH d x):=rfl
theorem E7 {w:List Nat}:cW .iW (.str w) (.cO ks vs) st P=P (!ks.any fun d=>bH d (.str w)):=rfl
theorem IA:cW .iW (.str u) (.str v) st P=P (!occurs u v):=rfl
theorem add_int:hU .add (.int i) (.int j) st Q=Q (.int (i+j)) st:=rfl
theorem add_str:hU .add (.str u) (.str v) st Q=(u.length+v.length<=bG/\Q (.str (u++v)) st):=rfl
theorem VR:hU .add (.tup xs) (.tup ys) st Q=(xs.length+ys.length<=bG/\Q (.tup (xs++ys)) st):=rfl
theorem JJ:hU .add (.ref p) (.ref q) st Q=bZ st p fun xs=>bZ st q fun ys=>fZ (xs++ys) st Q:=rfl
theorem sub_int:hU .sub (.int i) (.int j) st Q=Q (.int (i-j)) st:=rfl
theorem mul_int:hU .mul (.int i) (.int j) st Q=((nH i∨nH j)/\Q (.int (i*j)) st):=rfl
theorem VD:hU .mul (.tup xs) (.int i) st Q=((0<xs.length/\xs.length<=1000/\1<=i/\i<1000)/\Q (.tup (List.replicate i.toNat xs).flatten) st):=rfl
theorem PJ:hU .fdiv (.int i) (.int j) st Q=((0<j/\j<1073741824)/\Q (.int (i / j)) st):=rfl
theorem mod_int:hU .mod (.int i) (.int j) st Q=(0<j/\Q (.int (i % j)) st):=rfl
theorem pow_int:hU .pow (.int i) (.int j) st Q=((0<=j/\j<=1000000/\i.natAbs<18446744073709551616)/\Q (.int (i ^ j.toNat)) st):=rfl
theorem neg_int:wO (.int i) st Q=Q (.int (-i)) st:=rfl
theorem TX {t:Ty}:tW sub x st [t] P=gS sub x st t P:=rfl
theorem VB {t t':Ty}{ts:List Ty}:tW sub x st (t::t'::ts) P=gS sub x st t fun b=>if b=true then P true else tW sub x st (t'::ts) P:=rfl
theorem jO:lS (.tup ds) (.int i) st Q=cV (eO ds i) fun d=>Q d st:=rfl
theorem IY:lS (.bF ds) (.int i) st Q=cV (eO ds i) fun d=>Q d st:=rfl
theorem FN:lS (.str u) (.int i) st Q=(u.length<=bG/\cV (eO u i) fun c=>Q (.str [c]) st):=rfl
theorem VZ {w:List Nat}:lS (.cO ks vs) (.str w) st Q=cV (sY ks vs (.str w)) fun d=>Q d st:=rfl
theorem gY (h:st p=some (.lst ds)):lS (.ref p) (.int i) st Q=cV (eO ds i) fun d=>Q d st:=by
 show dH st p _ _=_
 rw[gQ h]
theorem dY {α:Type}{xs:List α}{n:Nat}(h:n<xs.length):eO xs (n:Int)=xs[n]?:=by
 unfold eO lZ
 rw[if_pos (by omega),if_pos (by omega)]
 simp
theorem Jh {α:Type}{x:α}{r:List α}:eO (x::r) 0=some x:=dY (n:=0) (by simp)
theorem Ht {α:Type}{x y:α}{r:List α}:eO (x::y::r) 1=some y:=dY (n:=1) (by simp)
theorem Hl {α:Type}{x y z:α}{r:List α}:eO (x::y::z::r) 2=some z:=dY (n:=2) (by simp)
theorem Jb {α:Type}{x y z w:α}{r:List α}:eO (x::y::z::w::r) 3=some w:=dY (n:=3) (by simp)
theorem Gj {α:Type}{x y z w t:α}{r:List α}:eO (x::y::z::w::t::r) 4=some t:=dY (n:=4) (by simp)
theorem YS {R:Option Int->Prop}:nB [] R=R none:=rfl
theorem Y9 {R:Option Int->Prop}:nB [.int i] R=R (some i):=rfl
theorem GD {lo hi:Option Int}:AN (.tup ds) lo hi st Q=Q (.tup (cut ds lo hi)) st:=rfl
theorem Z9 {lo hi:Option Int}:AN (.ref p) lo hi st Q=bZ st p fun ds=>∀ p,st p=none->Q (.ref p) (put st p (.lst (cut ds lo hi))):=rfl
theorem Dm {α:Type}{d:α}{ds:List α}:cut (d::ds) (some 1) none=ds:=by simp [cut,bX]
theorem xV {α:Type}{xs:List α}{lo hi:Option Int}:(cut xs lo hi).length<=xs.length:=by simp only[cut,List.length_take,List.length_drop];omega
theorem U9 {R:List Nat->List D->Prop}:fD none [x] st R=nA x st R:=rfl
theorem QR {R:List Nat->List D->Prop}:nA (.tup ds) st R=R [] ds:=rfl
theorem PZ {R:List Nat->List D->Prop}:nA (.str u) st R=(u.length<=bG/\R [] (u.map fun c=>.str [c])):=rfl
theorem pY {R:List Nat->List D->Prop}:nA (.ref p) st R=bZ st p fun ds=>R [p] ds:=rfl
theorem OB {R:List Nat->List D->Prop}:nA (.bF ds) st R=R [] ds:=rfl
theorem rO {R:List Nat->List D->Prop}:dN (.tup ds) st R=R [] ds:=rfl
theorem B6 {R:List Nat->List D->Prop}:dN (.ref p) st R=bZ st p fun ds=>R [p] ds:=rfl
theorem QH {R:List Nat->List D->Prop}:dN (.bF ds) st R=R [] ds:=rfl
theorem K6 {R:List Nat->List D->Prop}:fD (some .range) [.int j] st R=(dE j/\R [] (jR 0 j.toNat)):=rfl
theorem LJ {R:List Nat->List D->Prop}:fD (some .range) [.int i,.int j] st R=(dE i/\dE j/\R [] (jR i (j-i).toNat)):=rfl
theorem A9 {R:List Nat->List D->Prop}{c:Int}:fD (some .range) [.int i,.int j,.int c] st R=(c = -1/\dE i/\dE j/\R [] (mT i (i-j).toNat)):=rfl
theorem SY {R:List Nat->List D->Prop}:fD (some .rev) [x] st R=dN x st fun as xs=>R as xs.reverse:=rfl
theorem OJ:gE .len [x] st Q=nV x st fun n=>Q (.int (n:Nat)) st:=rfl
theorem U1 {R:Nat->Prop}:nV (.tup ds) st R=R ds.length:=rfl
theorem E4 {R:Nat->Prop}:nV (.bF ds) st R=R ds.length:=rfl
theorem len_str {R:Nat->Prop}:nV (.str u) st R=(u.length<=bG/\R u.length):=rfl
theorem IX {R:Nat->Prop}:nV (.ref p) st R=dH st p (fun ds=>R ds.length) fun ks _=>R ks.length:=rfl
theorem NK:gE .all [x] st Q=dN x st fun _ xs=>eD .all xs st Q:=rfl
theorem OA:gE .any [x] st Q=dN x st fun _ xs=>eD .any xs st Q:=rfl
theorem YM:gE .max [x] st Q=dN x st fun _ xs=>eD .max xs st Q:=by cases x<;>rfl
theorem XM:gE .min [x] st Q=dN x st fun _ xs=>eD .min xs st Q:=by cases x<;>rfl
theorem WC:gE .sum [x] st Q=dN x st fun _ xs=>eD .sum xs st Q:=by cases x<;>rfl
theorem J3:gE .list [x] st Q=dN x st fun _ xs=>eD .list xs st Q:=rfl
theorem FK:gE .tuple [x] st Q=dN x st fun _ xs=>eD .tuple xs st Q:=rfl
theorem DB {ds:List D}:gE .qB [.tup ds] st Q=cV (strsOf ds) fun ws=>ws.length<4000/\Q (.int (vP [] ws:Nat)) st:=rfl
theorem TV:gE .max [.int i,.int j] st Q=Q (.int (if j>i then j else i)) st:=rfl
theorem Ac:gE .int [.int i] st Q=Q (.int i) st:=rfl
theorem V4 {k:Bool}:gE .int [.bl k] st Q=Q (.int (if k then 1 else 0)) st:=rfl
theorem XB:eD .all xs st Q=cV (boolsOf xs) fun bs=>Q (.bl (bs.all id)) st:=rfl
theorem V8:eD .any xs st Q=cV (boolsOf xs) fun bs=>Q (.bl (bs.any id)) st:=rfl
theorem ZC:eD .sum xs st Q=cV (intsOf xs) fun is=>Q (.int is.sum) st:=rfl
theorem VA:eD .list xs st Q=fZ xs st Q:=rfl
theorem QY:eD .tuple xs st Q=(xs.length<=bG/\Q (.tup xs) st):=rfl
theorem U6:wA (.tup ds) st K=K ds:=rfl
theorem VX:wA (.ref p) st K=bZ st p K:=rfl
theorem zV:vJ .append (.ref p) st=bZ st p fun _=>True:=rfl
theorem LG:vJ .extend (.ref p) st=bZ st p fun _=>True:=rfl
theorem VQ:vJ .pop (.ref p) st=bZ st p fun _=>True:=rfl
theorem vK {x:D}:vJ .index x st=dN x st fun _ _=>True:=rfl
theorem zN {x d:D}:iR .index x [d] st Q=dN x st fun _ ds=>plainS st d/\dM st ds/\cV (findD st d ds) fun i=>Q (.int (i:Nat)) st:=rfl
theorem qV:iR .append (.ref p) [x] st Q=bZ st p fun xs=>xs.length<bG/\Q .non (put st p (.lst (xs++[x]))):=rfl
theorem wB:iR .extend (.ref p) [x] st Q=bZ st p fun xs=>wA x st fun ys=>xs.length+ys.length<=bG/\Q .non (put st p (.lst (xs++ys))):=rfl
theorem HH:iR .pop (.ref p) [] st Q=bZ st p fun xs=>cV (xs[xs.length-1]?) fun d=>Q d (put st p (.lst xs.dropLast)):=rfl
theorem IS {R:aA->Prop}:zF (.ref p) (.int i) x st R=bZ st p fun xs=>cV (lZ xs.length i) fun j=>R (put st p (.lst (xs.set j x))):=rfl
theorem WK {n:Nat}{R:St->Prop}:jG true [n] x σ R=R (σ.set n (some x)):=rfl
theorem NX {is:List Nat}{R:St->Prop}:jG false is (.tup ds) σ R=(ds.length=is.length/\R ((is.zip ds).foldl (fun σ p=>σ.set p.1 (some p.2)) σ)):=by cases is<;>rfl
end
theorem Ext.refl {st:aA}:Ext st st:=fun _ _ h=>h
theorem Ext.trans {a b c:aA}(h:Ext a b)(h':Ext b c):Ext a c:=fun x o e=>h' x o (h x o e)
theorem Ext.new {st:aA}{p:Nat}{o:MO}(h:st p=none):Ext st (put st p o):=fun a u e=>CI h e
end L3
end
section
namespace L3
theorem FJ {st aB:aA}:same [] st aB:=fun _ h=>nomatch h
theorem comp_map {g:aA->Prop}{turn:D->aA->(Option D->aA->Prop)->Prop}{R:List D->aA->Prop}(f:D->D):∀(xs acc:List D)(st:aA),
  (∀ aB,Ext st aB->g aB)->(∀ x∈xs,∀ aB (K:Option D->aA->Prop),Ext st aB->(∀ aU,Ext aB aU->K (some (f x)) aU)->turn x aB K) ->
  acc.length+xs.length<=bG->(∀ aB,Ext st aB->R (acc++xs.map f) aB)->iN g turn xs acc st R
 |[],acc,st,hg,_,_,hR=>⟨hg st .refl,by simpa using hR st .refl⟩
 |x::xs,acc,st,hg,ht,hl,hR=>by
  refine⟨hg st .refl,by simp at hl;omega,ht x (by simp) st _ .refl fun aU h''=>?_⟩
  refine comp_map f xs (acc++[f x]) aU (fun aB h=>hg aB (h''.trans h)) (fun y hy aB K h=>ht y (by simp [hy]) aB K (h''.trans h)) (by simp at hl ⊢;omega) fun aB h=>?_
  simpa using hR aB (h''.trans h)
mutual
theorem yV {st:aA}:∀ d:D,bS d=true->fJ st d=true
 |.non,_=>rfl
 |.bl _,_=>rfl
 |.int _,_=>rfl
 |.str _,_=>rfl
 |.tup ds,h=>by simp only[bS]at h;simp only[fJ];exact qS ds h
 |.ref _,h=>by simp [bS]at h
 |.cO _ _,h=>by simp [bS]at h
 |.bF _,h=>by simp [bS]at h
 |.exc _,h=>by simp [bS]at h
theorem qS {st:aA}:∀ ds:List D,bQ ds=true->fY st ds=true
 |[],_=>rfl
 |d::ds,h=>by
  simp only[bQ,Bool.and_eq_true]at h
  simp only[fY,Bool.and_eq_true]
  exact⟨yV d h.1,qS ds h.2⟩
end
theorem plain.s {d:D}(h:plain d){st:aA}:plainS st d:=⟨yV d h.1,h.2⟩
theorem rR.s {ds:List D}(h:rR ds){st:aA}:dM st ds:=⟨qS ds h.1,h.2⟩
theorem DA {x:List Nat}:plain (.str x):=⟨rfl,Nat.zero_le _⟩
theorem DK {i:Int}:plain (.int i):=⟨rfl,Nat.zero_le _⟩
theorem HA {b:Bool}:plain (.bl b):=⟨rfl,Nat.zero_le _⟩
theorem DL:plain .non:=⟨rfl,Nat.zero_le _⟩
theorem sS {x:List Nat}{st:aA}:plainS st (.str x):=DA.s
theorem KR {i:Int}{st:aA}:plainS st (.int i):=DK.s
theorem NO {b:Bool}{st:aA}:plainS st (.bl b):=HA.s
theorem L7 {st:aA}:plainS st .non:=DL.s
theorem mZ:∀ xs:List (List Nat),rR (xs.map .str)
 |[]=>⟨rfl,Nat.zero_le _⟩
 |x::xs=>by
  have h:=mZ xs
  exact⟨by simp only[List.map_cons,bQ,bS,Bool.true_and];exact h.1,by simp only[List.map_cons,cK,cM];exact Nat.max_le.mpr ⟨Nat.zero_le _,h.2⟩⟩
theorem gM {st:aA}{x y:List Nat}:bM st (.str x) (.str y)=(x==y):=by simp only[bM]
theorem TZ {st:aA}{x y:Int}:bM st (.int x) (.int y)=(x==y):=by simp only[bM]
theorem ZQ {st:aA}{x y:Bool}:bM st (.bl x) (.bl y)=(x==y):=by simp only[bM]
theorem TQ {x y:List Nat}:bH (.str x) (.str y)=(x==y):=by simp only[bH]
theorem tE {st:aA}(x:List Nat):∀ xs:List (List Nat),((xs.map D.str).any fun d=>bM st d (.str x))=xs.contains x
 |[]=>rfl
 |y::xs=>by
  simp only[List.map_cons,List.any_cons,gM,tE x xs,List.contains_cons]
  congr 1
  exact Bool.beq_comm
end L3
end
section
namespace L3
open PySem PySem.Spec PyProof.Rows L2
mutual
noncomputable def oO (w:World):D->Int
 |.str x=>hashStr w ⟨x.toArray⟩
 |.bl b=>reduceHash (if b=true then 1 else 0)
 |.tup ds=>reduceHash (Builtin.Tuple.tupleHashOf (fW w ds))
 |_=>0
noncomputable def fW (w:World):List D->List Int
 |[]=>[]
 |d::ds=>oO w d::fW w ds
end
mutual
noncomputable def qQ:D->Nat
 |.tup ds=>iY ds+1
 |_=>1
noncomputable def iY:List D->Nat
 |[]=>0
 |d::ds=>qQ d+iY ds
end
noncomputable def Ig (w:World)(x:D×Addr×Value):DictEntry:=⟨oO w x.1,.ref x.2.1,x.2.2⟩
noncomputable def L4 (a:Addr)(xs:List (D×Addr×Value))(w:World)(h:Heap):Prop:=∃ o es ep,h.get? a=some o/\o.ExactDict/\o.data=.dict es ep/\es.toList=xs.map (Ig w)
noncomputable def EX (a:Addr)(xs:List (D×Addr×Value)):HO:=.ext fun _ w h=>L4 a xs w h
noncomputable def clsAt (K:PySem.W.Frag)(c:List Nat)(C:Addr):Prop:=PySem.W.nsIn K mainGlobals ⟨c.toArray⟩=some (some (.ref C))
theorem clsAt.inj {K:PySem.W.Frag}{c:List Nat}{C C':Addr}(h:clsAt K c C)(h':clsAt K c C'):C=C':=by
 have:=h.symm.trans h'
 injection this with e;injection e with e;injection e
end L3
end
section
namespace L3
open PySem PySem.Spec PyProof.Rows L2
structure jI where
 params:Arguments
 body:Expr
 scope:Scope
 aL:List Str
 ps:List Str
 q:Str
noncomputable def Fh (e:Expr)(aL ps:List Str)(q:Str):jI:=match e with
 |.Lambda params body scope _=>⟨params,body,scope,aL,ps,q⟩
 |e=>⟨{ posonlyargs:=[],args:=[],vararg:=none,kwonlyargs:=[],kw_defaults:=[],kwarg:=none,defaults:=[] },e,{ kind:=.function,names:=[],isGenerator:=false,isCoroutine:=false },aL,ps,q⟩
noncomputable def Fl (s:Stmt):Expr:=match s with
 |.Return (some (.Subscript (.Call _ as _ _) _ _)) _=>as.getD 2 (.Name "" ⟨0,0,0,0⟩)
 |.Return (some (.Call _ as _ _)) _=>as.getD 2 (.Name "" ⟨0,0,0,0⟩)
 |.Assign _ (.Call _ as _ _) _=>as.getD 2 (.Name "" ⟨0,0,0,0⟩)
 |_=>.Name "" ⟨0,0,0,0⟩
noncomputable abbrev bd (n:Nat):Stmt:=PySem.Challenge.pw_leastloss_k04_whole_waiting.main.body.getD n (.Pass ⟨0,0,0,0⟩)
noncomputable def gN:jI:=Fh (Fl ((eG (bd 44)).getD 7 (.Pass ⟨0,0,0,0⟩))) ["row"] ["held"] "holds.<locals>.<lambda>"
noncomputable def LT:Nat->Option jI
 |38=>some gN
 |_=>none
end L3
end
section
namespace L3
open PySem PySem.Spec PyProof.Rows L2
noncomputable def kR (K:PySem.W.Frag)(H:Hp)(a:Addr)(vs:List V):Prop :=
 (∃ o,H a=some (.frz o (.lst vs)))∨∃(o:Obj)(aD:Array Value)(n:Nat),K.lookup a=some o/\o.cls=.type "list" /\ o.dict=none/\o.data=.seq aD n/\aD.size<=sizeLine/\aO vs aD.toList
theorem kR.sq {K:PySem.W.Frag}{H:Hp}{a:Addr}{vs:List V}:kR K H a vs->dU K H a vs
 |.inl ⟨o,h⟩=>.inl (.inr ⟨o,h⟩)
 |.inr h=>.inr h
noncomputable def qH:PyData->D
 |.bool b=>.bl b
 |.int i=>.int i
 |.str x=>.str x.cps.toList
 |_=>.non
noncomputable def mN:PyData->Bool
 |.none=>true
 |.bool _=>true
 |.int _=>true
 |.str _=>true
 |_=>false
noncomputable def W3 (K:PySem.W.Frag)(a:Addr)(ks vs:List D):Prop:=∃ T:List (Str×PyData),KTD.tabLook KTD.flatLooks (fun b=>K.lookup b) a T=true/\(T.all fun p=>mN p.2)=true/\ks=T.map (fun p=>.str p.1.cps.toList)/\vs=T.map (fun p=>qH p.2)
mutual
inductive Rep (K:PySem.W.Frag)(H:Hp):D->V->Prop where
 |non:Rep K H .non .non
 |bl (b:Bool):Rep K H (.bl b) (.bl b)
 |int (i:Int):Rep K H (.int i) (.int i)
 |str (x:List Nat):Rep K H (.str x) (.str ⟨x.toArray⟩)
 |tup {ds:List D}{a:Addr}{vs:List V}(h:dS K H a vs)(r:aJ K H ds vs):Rep K H (.tup ds) (.ref a)
 |ref (a:Addr):Rep K H (.ref a) (.ref a)
 |bF {ds:List D}{a:Addr}{vs:List V}(h:kR K H a vs)(r:aJ K H ds vs):Rep K H (.bF ds) (.ref a)
 |cO {ks vs:List D}{a:Addr}(h:W3 K a ks vs):Rep K H (.cO ks vs) (.ref a)
inductive aJ (K:PySem.W.Frag)(H:Hp):List D->List V->Prop where
 |nil:aJ K H [] []
 |cons {d:D}{v:V}{ds:List D}{vs:List V}(h:Rep K H d v)(r:aJ K H ds vs):aJ K H (d::ds) (v::vs)
end
noncomputable def gX (K:PySem.W.Frag)(H:Hp)(fs:List (List Nat×D))(ws:List (Str×V)):Prop:=ws.map (·.1)=fs.map (fun p=>(⟨p.1.toArray⟩:Str))/\aJ K H (fs.map (·.2)) (ws.map (·.2))
noncomputable def bears:HO->Bool
 |.lst _=>true
 |.ins _ _ _=>true
 |.ext _=>true
 |.tbl _=>true
 |.frz _ (.frz _ _)=>true
 |_=>false
noncomputable def L5 (oc:Obj)(q:Str):Prop:=∃ vs t,oc.data=.fields vs/\vs[1]? = some (.str q t)
inductive iE (H:Hp)(a:Addr)(clos:List (Str×Addr)):List Str->List V->Prop where
 |nil:iE H a clos [] []
 |cons {x:Str}{xs:List Str}{v:V}{vs:List V}(cl:Addr)(o:Obj)(u:Value)(l:clos.lookup x=some cl)(k:H cl=some (.frz o (.own a))) (d:o.data=.cell (some u)) (r:RelV v u) (t:iE H a clos xs vs):iE H a clos (x::xs) (v::vs)
theorem iE.of {H H':Hp}{a:Addr}{clos:List (Str×Addr)}{xs:List Str}{vs:List V}(h:iE H a clos xs vs)(k:∀ b o,H b=some (.frz o (.own a))->H' b=some (.frz o (.own a))):iE H' a clos xs vs:=by
 induction h with
 |nil=>exact .nil
 |cons cl o u l q d r t ih=>exact .cons cl o u l (k _ _ q) d r ih
inductive SH (H:Hp)(a:Addr)(f:Nat)(vs:List V):Prop where
 |mk (T:jI)(clos:List (Str×Addr))(pm ctv:Value)(c':Addr)(oc:Obj)(ne:a≠0)(t:LT f=some T)(e:H a=some (.frz (PySem.W.kla_obj "<lambda>" T.q T.params T.body T.scope clos pm c' ctv) (.frz (PySem.W.kla_obj "<lambda>" T.q T.params T.body T.scope clos pm c' ctv) (.own a))))(ec:H c'=some (.frz oc (.own 0)))(co:L5 oc T.q)
 (inj:∀ x y c,clos.lookup x=some c->clos.lookup y=some c->x=y)(dom:∀ x c,clos.lookup x=some c->x∈T.aL)(cap:iE H a clos T.aL vs):SH H a f vs
noncomputable def LY (K:PySem.W.Frag)(H:Hp)(a:Addr)(κ:CK):Prop :=
 PySem.W.codeHdIn K κ.c a=true/\(H a=some (.tbl #[])∨∃ c' oc,H a=some (.tbl #[rawInt κ.ln,rawInt κ.col,.ref c'])/\H c'=some (.frz oc (.own 0))/\L5 oc ⟨κ.q.toArray⟩)
noncomputable def rD (K:PySem.W.Frag)(H:Hp)(a:Addr):MO->Prop
 |.lst ds=>∃ vs,H a=some (.lst vs)/\aJ K H ds vs
 |.dic _ _=>False
 |.ins c fs=>∃ C dx ws,clsAt K c C/\H a=some (.ins C dx ws)/\gX K H fs ws
 |.tab ks vs=>∃(xs:List (D×Addr×Value))(ws:List V),H a=some (EX a xs)/\(a==sysModules)=false/\xs.map (·.1)=ks/\(xs.map (·.1)).Nodup/\aJ K H ks (xs.map fun x=>.ref x.2.1)/\(∀ x∈xs,keyed x.1)/\aO ws (xs.map (·.2.2))/\aJ K H vs ws
 |.fn f cs=>∃ vs,SH H a f vs/\aJ K H cs vs
 |.cod κ=>LY K H a κ
noncomputable def aQ (K:PySem.W.Frag)(st:aA)(H:Hp):Prop:=∀ a o,st a=some o->rD K H a o
noncomputable def Step (H:Hp)(st:aA)(H':Hp)(aB:aA):Prop:=∀ a o,H a=some o->st a=none->H' a=some o/\aB a=none
theorem Step.refl {H:Hp}{st:aA}:Step H st H st:=fun _ _ h n=>⟨h,n⟩
theorem Step.trans {H H1 H2:Hp}{st aC aF:aA}(a:Step H st H1 aC)(b:Step H1 aC H2 aF):Step H st H2 aF:=fun x o h n=>let⟨h1,n1⟩:=a x o h n;b x o h1 n1
section
variable {K:PySem.W.Frag}{H H' H1:Hp}{st aB aC:aA}{a p:Addr}{d:D}{v:V}{ds:List D}{vs:List V}
theorem rD.bears {m:MO}(h:rD K H a m):∃ o,H a=some o/\L3.bears o=true:=by
 cases m with
 |lst ds=>obtain⟨vs,q,_⟩:=h;exact⟨_,q,rfl⟩
 |dic _ _=>exact h.elim
 |ins c fs=>obtain⟨_,_,_,_,q,_⟩:=h;exact⟨_,q,rfl⟩
 |tab ks vs=>obtain⟨_,_,q,_⟩:=h;exact⟨_,q,rfl⟩
 |fn f cs=>obtain⟨_,⟨_,_,_,_,_,_,_,_,q⟩,_⟩:=h;exact⟨_,q,rfl⟩
 |cod κ=>obtain⟨_,q|⟨_,_,q,_⟩⟩:=h<;>exact⟨_,q,rfl⟩
theorem aQ.sO (ok:aQ K st H){o:HO}(h:H a=some o)(n:L3.bears o=false):st a=none:=by
 cases e:st a with
 |none=>rfl
 |some u =>
 obtain⟨o',e1,e2⟩:=(ok a u e).bears
 rw[h]at e1;cases e1
 rw[n]at e2;cases e2
theorem aQ.fresh (ok:aQ K st H)(h:H a=none):st a=none:=by
 cases e:st a with
 |none=>rfl
 |some u =>
 obtain⟨o',e1,e2⟩:=(ok a u e).bears
 rw[h]at e1;cases e1
theorem tU (ok:aQ K st H)(s:Step H st H' aB)(h:dS K H a vs):dS K H' a vs:=by
 rcases h with(h|⟨o,h⟩)|h
 ·exact .inl (.inl (s a _ h (ok.sO h rfl)).1)
 ·exact .inl (.inr ⟨o,(s a _ h (ok.sO h rfl)).1⟩)
 ·exact .inr h
theorem qM (ok:aQ K st H)(s:Step H st H' aB)(h:kR K H a vs):kR K H' a vs:=by
 rcases h with⟨o,h⟩|h
 ·exact .inl ⟨o,(s a _ h (ok.sO h rfl)).1⟩
 ·exact .inr h
mutual
theorem Rep.step (ok:aQ K st H)(s:Step H st H' aB):∀{d:D}{v:V},Rep K H d v->Rep K H' d v
 |_,_,.non=>.non
 |_,_,.bl b=>.bl b
 |_,_,.int i=>.int i
 |_,_,.str x=>.str x
 |_,_,.tup h r=>.tup (tU ok s h) (aJ.step ok s r)
 |_,_,.ref a=>.ref a
 |_,_,.bF h r=>.bF (qM ok s h) (aJ.step ok s r)
 |_,_,.cO h=>.cO h
theorem aJ.step (ok:aQ K st H)(s:Step H st H' aB):∀{ds:List D}{vs:List V},aJ K H ds vs->aJ K H' ds vs
 |_,_,.nil=>.nil
 |_,_,.cons h r=>.cons (Rep.step ok s h) (aJ.step ok s r)
end
theorem MY (ok:aQ K st H)(s:Step H st H' aB){c:Addr}{clos:List (Str×Addr)}{xs:List Str}{vs:List V}(h:iE H c clos xs vs):iE H' c clos xs vs:=by
 induction h with
 |nil=>exact .nil
 |cons cl o u l k d r t ih=>exact .cons cl o u l (s _ _ k (ok.sO k rfl)).1 d r ih
theorem rD.step (ok:aQ K st H)(s:Step H st H' aB){m:MO}(h:rD K H a m)(e:H' a=H a):rD K H' a m:=by
 cases m with
 |lst ds=>obtain⟨vs,q,r⟩:=h;exact⟨vs,e.trans q,r.step ok s⟩
 |dic _ _=>exact h
 |ins c fs=>obtain⟨C,dx,ws,q,q2,q3,r⟩:=h;exact⟨C,dx,ws,q,e.trans q2,q3,r.step ok s⟩
 |tab ks vs=>obtain⟨xs,ws,q,q0,q1,q2,q3,q4,q5,r⟩:=h;exact⟨xs,ws,e.trans q,q0,q1,q2,q3.step ok s,q4,q5,r.step ok s⟩
 |fn f cs =>
 obtain⟨vs,⟨T,clos,pm,ctv,c',oc,ne0,t,q,ec,co,inj,dom,cap⟩,r⟩:=h
 exact⟨vs,⟨T,clos,pm,ctv,c',oc,ne0,t,e.trans q,(s _ _ ec (ok.sO ec rfl)).1,co,inj,dom,MY ok s cap⟩,r.step ok s⟩
 |cod κ =>
 obtain⟨q0,q|⟨c',oc,q,ec,co⟩⟩:=h
 ·exact⟨q0,.inl (e.trans q)⟩
 ·exact⟨q0,.inr ⟨c',oc,e.trans q,(s _ _ ec (ok.sO ec rfl)).1,co⟩⟩
theorem aJ.length:∀{ds:List D}{vs:List V},aJ K H ds vs->ds.length=vs.length
 |_,_,.nil=>rfl
 |_,_,.cons _ r=>by simp [aJ.length r]
theorem aJ.get:∀{ds:List D}{vs:List V}{i:Nat}{d:D},aJ K H ds vs->ds[i]? = some d->∃ v,vs[i]? = some v/\Rep K H d v
 |_,_,_,_,.nil,e=>by simp at e
 |_,_,0,_,.cons h _,e=>by simp at e;subst e;exact⟨_,rfl,h⟩
 |_,_,i+1,d,.cons _ r,e=>by
  obtain⟨v,e1,e2⟩:=aJ.get (i:=i) (d:=d) r (by simpa using e)
  exact⟨v,by simpa using e1,e2⟩
theorem aJ.append:∀{ds es:List D}{vs us:List V},aJ K H ds vs->aJ K H es us->aJ K H (ds++es) (vs++us)
 |_,_,_,_,.nil,s=>s
 |_,_,_,_,.cons h r,s=>.cons h (aJ.append r s)
theorem aJ.take:∀{ds:List D}{vs:List V}(n:Nat),aJ K H ds vs->aJ K H (ds.take n) (vs.take n)
 |_,_,0,_=>by simp;exact .nil
 |_,_,_+1,.nil=>by simp;exact .nil
 |_,_,n+1,.cons h r=>by simp only[List.take_succ_cons];exact .cons h (aJ.take n r)
theorem aJ.drop:∀{ds:List D}{vs:List V}(n:Nat),aJ K H ds vs->aJ K H (ds.drop n) (vs.drop n)
 |_,_,0,r=>by simpa using r
 |_,_,_+1,.nil=>by simp;exact .nil
 |_,_,n+1,.cons _ r=>by simp only[List.drop_succ_cons];exact aJ.drop n r
theorem aJ.set (h:Rep K H d v):∀{ds:List D}{vs:List V}(i:Nat),aJ K H ds vs->aJ K H (ds.set i d) (vs.set i v)
 |_,_,_,.nil=>by simp;exact .nil
 |_,_,0,.cons _ r=>by simp only[List.set_cons_zero];exact .cons h r
 |_,_,i+1,.cons q r=>by simp only[List.set_cons_succ];exact .cons q (aJ.set h i r)
theorem aJ.dropLast {ds:List D}{vs:List V}(r:aJ K H ds vs):aJ K H ds.dropLast vs.dropLast:=by
 rw[List.dropLast_eq_take,List.dropLast_eq_take,r.length]
 exact r.take _
theorem aJ.reverse:∀{ds:List D}{vs:List V},aJ K H ds vs->aJ K H ds.reverse vs.reverse
 |_,_,.nil=>by simp;exact .nil
 |_,_,.cons h r=>by simp only[List.reverse_cons];exact(aJ.reverse r).append (.cons h .nil)
inductive QD (K:PySem.W.Frag)(H:Hp)(st:aA)(R:VK)(v:V)(H':Hp):Prop where
 |mk (d:D)(aB:aA)(s:Step H st H' aB)(ok:aQ K aB H')(r:Rep K H' d v)(q:R d aB):QD K H st R v H'
inductive Ga (K:PySem.W.Frag)(H:Hp)(st:aA)(R:List D->aA->Prop)(vs:List V)(H':Hp):Prop where
 |mk (ds:List D)(aB:aA)(s:Step H st H' aB)(ok:aQ K aB H')(r:aJ K H' ds vs)(q:R ds aB):Ga K H st R vs H'
inductive QX (K:PySem.W.Frag)(H:Hp)(st:aA)(R:aA->Prop)(H':Hp):Prop where
 |mk (aB:aA)(s:Step H st H' aB)(ok:aQ K aB H')(q:R aB):QX K H st R H'
theorem QD.here {R:VK}(ok:aQ K st H)(r:Rep K H d v)(h:R d st):QD K H st R v H:=⟨d,st,.refl,ok,r,h⟩
theorem QD.after {R:VK}(s:Step H st H1 aC)(h:QD K H1 aC R v H'):QD K H st R v H':=let⟨d,aB,s',ok,r,q⟩:=h;⟨d,aB,s.trans s',ok,r,q⟩
theorem pD {o:HO}(hp:H p=none):Step H st (upd H p o) st:=fun a u h n=>by
 have e:a≠p:=fun e=>by rw[e,hp]at h;cases h
 exact⟨by rw[aY e];exact h,n⟩
theorem nF {o:HO}{m:MO}(hp:H p=none):Step H st (upd H p o) (put st p m):=fun a u h n=>by
 have e:a≠p:=fun e=>by rw[e,hp]at h;cases h
 exact⟨by rw[aY e];exact h,by rw[bL e];exact n⟩
theorem aQ.new {o:HO}(ok:aQ K st H)(hp:H p=none):aQ K st (upd H p o):=fun a u e=>by
 have ne:a≠p:=fun z=>by obtain⟨o',q,_⟩:=(ok a u e).bears;rw[z,hp]at q;cases q
 exact(ok a u e).step ok (pD (st:=st) hp) (aY ne)
theorem aQ.WJ {o:HO}{m:MO}(ok:aQ K st H)(hp:H p=none)(r:rD K (upd H p o) p m):aQ K (put st p m) (upd H p o):=fun a u e=>by
 have s:Step H st (upd H p o) (put st p m):=nF hp
 by_cases ha:a=p
 ·subst ha
  rw[bB]at e;cases e
  exact r
 ·rw[bL ha]at e
  exact(ok a u e).step ok s (aY ha)
theorem aQ.fZ (ok:aQ K st H)(hp:H p=none)(r:aJ K H ds vs):aQ K (put st p (.lst ds)) (upd H p (.lst vs)):=fun a u e=>by
 have s:Step H st (upd H p (.lst vs)) (put st p (.lst ds)):=nF hp
 by_cases ha:a=p
 ·subst ha
  rw[bB]at e;cases e
  exact⟨vs,cZ,r.step ok s⟩
 ·rw[bL ha]at e
  exact(ok a u e).step ok s (aY ha)
theorem QD.EY {R:VK}(ok:aQ K st H)(r:aJ K H ds vs)(hp:H p=none)(h:R (.tup ds) st):QD K H st R (.ref p) (upd H p (.tup vs)) :=
 ⟨.tup ds,st,pD hp,ok.new hp,.tup (dS.of cZ) (r.step ok (pD (st:=st) hp)),h⟩
theorem QD.fZ {R:VK}(ok:aQ K st H)(r:aJ K H ds vs)(hp:H p=none)(h:∀ p,st p=none->R (.ref p) (put st p (.lst ds))):QD K H st R (.ref p) (upd H p (.lst vs)) :=
 ⟨.ref p,put st p (.lst ds),nF hp,ok.fZ hp r,.ref p,h p (ok.fresh hp)⟩
theorem aQ.lst (ok:aQ K st H)(h:st a=some (.lst ds)):∃ vs,H a=some (.lst vs)/\aJ K H ds vs:=ok a _ h
theorem kY {o:HO}{m m':MO}(h:st a=some m):Step H st (upd H a o) (put st a m'):=fun b u hb n=>by
 have e:b≠a:=fun e=>by rw[e,h]at n;cases n
 exact⟨by rw[aY e];exact hb,by rw[bL e];exact n⟩
theorem aQ.set (ok:aQ K st H){m:MO}(h:st a=some m)(r:aJ K H ds vs):aQ K (put st a (.lst ds)) (upd H a (.lst vs)):=fun b u e=>by
 have s:Step H st (upd H a (.lst vs)) (put st a (.lst ds)):=kY h
 by_cases ha:b=a
 ·subst ha
  rw[bB]at e;cases e
  exact⟨vs,cZ,r.step ok s⟩
 ·rw[bL ha]at e
  exact(ok b u e).step ok s (aY ha)
theorem aQ.G4 {o:HO}{m m':MO}(ok:aQ K st H)(h:st a=some m)(r:rD K (upd H a o) a m'):aQ K (put st a m') (upd H a o):=fun b u e=>by
 have s:Step H st (upd H a o) (put st a m'):=kY h
 by_cases ha:b=a
 ·subst ha
  rw[bB]at e;cases e
  exact r
 ·rw[bL ha]at e
  exact(ok b u e).step ok s (aY ha)
theorem QD.set {R:VK}(ok:aQ K st H){m:MO}(h:st a=some m)(r:aJ K H ds vs)(rd:Rep K H d v)(q:R d (put st a (.lst ds))):QD K H st R v (upd H a (.lst vs)) :=
 ⟨d,put st a (.lst ds),kY h,ok.set h r,rd.step ok (kY (m':=.lst ds) h),q⟩
end
noncomputable def cY (K:PySem.W.Frag)(H:Hp)(σd:St)(σ:L2.St):Prop:=σd.length=σ.length/\∀(i:Nat)(d:D),σd[i]? = some (some d)->∃ v,σ[i]? = some (some v)/\Rep K H d v
theorem cY.step {K:PySem.W.Frag}{H H':Hp}{st aB:aA}{σd:St}{σ:L2.St}(r:cY K H σd σ)(ok:aQ K st H)(s:Step H st H' aB):cY K H' σd σ :=
 ⟨r.1,fun i d e=>let⟨v,e1,e2⟩:=r.2 i d e;⟨v,e1,e2.step ok s⟩⟩
theorem cY.set {K:PySem.W.Frag}{H:Hp}{σd:St}{σ:L2.St}{d:D}{v:V}(r:cY K H σd σ)(i:Nat)(h:Rep K H d v):cY K H (σd.set i (some d)) (σ.set i (some v)):=by
 refine⟨by simpa using r.1,fun j e hj=>?_⟩
 by_cases q:j=i
 ·subst q
  by_cases hl:j<σd.length
  ·rw[List.getElem?_set_self hl]at hj
   cases hj
   exact⟨v,by rw[List.getElem?_set_self (by rw[<-r.1];exact hl)],h⟩
  ·rw[List.getElem?_eq_none (by simp;omega)]at hj;cases hj
 ·rw[List.getElem?_set_ne (Ne.symm q)]at hj
  obtain⟨u,e1,e2⟩:=r.2 j e hj
  exact⟨u,by rw[List.getElem?_set_ne (Ne.symm q)];exact e1,e2⟩
noncomputable abbrev ZN:=St->aA->VK->Prop
inductive bN (K:PySem.W.Frag)(te:ZN)(σ:L2.St)(H:Hp)(Q:L2.VK):Prop where
 |mk (σd:St)(st:aA)(R:VK)(r:cY K H σd σ)(ok:aQ K st H)(q:te σd st R)(hq:∀ v H',QD K H st R v H'->Q v H'):bN K te σ H Q
inductive jC (K:PySem.W.Frag)(te:St->aA->(List D->aA->Prop)->Prop)(σ:L2.St)(H:Hp)(Q:List V->Hp->Prop):Prop where
 |mk (σd:St)(st:aA)(R:List D->aA->Prop)(r:cY K H σd σ)(ok:aQ K st H)(q:te σd st R)(hq:∀ vs H',Ga K H st R vs H'->Q vs H'):jC K te σ H Q
inductive iP (K:PySem.W.Frag)(te:ZN)(σ:L2.St)(H:Hp)(Q:Bool->Hp->Prop):Prop where
 |mk (σd:St)(st:aA)(R:Bool->aA->Prop)(r:cY K H σd σ)(ok:aQ K st H)(q:te σd st (fun d aB=>dQ d aB fun b=>R b aB))(hq:∀(b:Bool) H',QX K H st (R b) H'->Q b H'):iP K te σ H Q
theorem _root_.L2.PE.imp {X:Cx}{e:Expr}{t t':L2.TE}(i:∀ σ H Q,t' σ H Q->t σ H Q)(h:PE X e t):PE X e t':=fun pins s σ H Q I q=>h pins s σ H Q I (i σ H Q q)
theorem _root_.L2.PT.imp {X:Cx}{e:Expr}{t t':L2.TT}(i:∀ σ H Q,t' σ H Q->t σ H Q)(h:PT X e t):PT X e t':=fun pins s σ H Q I q=>h pins s σ H Q I (i σ H Q q)
theorem _root_.L2.PW.imp {X:Cx}{e:Expr}{t t':L2.TT}(i:∀ σ H Q,t' σ H Q->t σ H Q)(h:PW X e t):PW X e t':=fun wh pins s σ H Q I q=>h wh pins s σ H Q I (i σ H Q q)
theorem _root_.L2.PA.imp {X:Cx}{es:List Expr}{t t':L2.TA}(i:∀ σ H Q,t' σ H Q->t σ H Q)(h:PA X es t):PA X es t':=fun pos pins s σ H Q I q=>h pos pins s σ H Q I (i σ H Q q)
theorem _root_.L2.PS.imp {X:Cx}{e:Stmt}{t t':L2.TS}(i:∀ D σ H,t' D σ H->t D σ H)(h:PS X e t):PS X e t':=fun pins s σ H D I q=>h pins s σ H D I (i D σ H q)
theorem _root_.L2.jP.imp {X:Cx}{e:List Stmt}{t t':L2.TS}(i:∀ D σ H,t' D σ H->t D σ H)(h:jP X e t):jP X e t':=fun pins s σ H D I q=>h pins s σ H D I (i D σ H q)
end L3
end
section
namespace L3
open PySem PySem.Spec PyProof.Rows L2
theorem fI:sizeLine=bG:=sizeLine_eq
section
variable {X:Cx}{C:aX}{sub:Nat->Nat->Bool}{E:XK}{a b c e:Expr}{x y z:Ex}{pos:Pos}
theorem rQ {d:D}{v:V}(h:PE X e (tC v))(r:∀ H,Rep X.K H d v):PE X e (bN X.K (aG C sub E (.c d))) :=
 h.imp fun σ H Q ⟨σd,st,R,_,ok,q,hq⟩=>by
 exact hq v H (.here ok (r H) q)
theorem K8 {i:Nat}(h:PE X e (QE i)):PE X e (bN X.K (aG C sub E (.v i))) :=
 h.imp fun σ H Q ⟨σd,st,R,r,ok,q,hq⟩=>by
 have q:dP σd i (fun d=>R d st):=q
 unfold dP at q
 split at q
 ·rename_i d ed
  obtain⟨v,e1,e2⟩:=r.2 i d ed
  exact⟨v,e1,hq v H (.here ok e2 q)⟩
 ·exact q.elim
theorem Bv:PA X [] (jC X.K (bE C sub E [])) :=
 ON.imp fun σ H Q ⟨σd,st,R,r,ok,q,hq⟩=>by
 exact hq [] H ⟨[],st,.refl,ok,.nil,q⟩
theorem XI {es:List Expr}{xs:List Ex}(h:PE X e (bN X.K (aG C sub E x)))(hs:PA X es (jC X.K (bE C sub E xs)))
 (eB:starEach (e::es) X.env=(false,eval e X.env)::starEach es X.env):PA X (e::es) (jC X.K (bE C sub E (x::xs))) :=
 (BW h hs eB).imp fun σ H Q ⟨σd,st,R,r,ok,q,hq⟩=>by
 refine⟨σd,st,_,r,ok,q,fun v H1 ⟨d,aC,s1,aN,r1,q1⟩=>?_⟩
 refine⟨σd,aC,_,r.step ok s1,aN,q1,fun vs H2 ⟨ds,aF,s2,bO,r2,q2⟩=>?_⟩
 exact hq _ _ ⟨d::ds,aF,s1.trans s2,bO,.cons (r1.step aN s2) r2,q2⟩
theorem mL:∀(xs:List Ex){σ:St}{st:aA}{R:List D->aA->Prop},bI C C->bE C sub E xs σ st R->bE C sub E xs σ st (fun ds aB=>ds.length=xs.length/\R ds aB)
 |[],σ,st,R,_,h=>by exact⟨rfl,h⟩
 |x::xs,σ,st,R,hC,h=>by
  refine aS hC (fun _ _ z=>z) x (fun d aB h'=>?_) h
  exact cG hC (fun _ _ z=>z) xs (fun ds aU z=>⟨by simp [z.1],z.2⟩) (mL xs hC h')
theorem Bm {es:List Expr}{xs:List Ex}{k:Nat}(hC:bI C C)(hs:PA X es (jC X.K (bE C sub E xs)))(hl:xs.length<=bG):PE X (.Tuple es k pos) (bN X.K (aG C sub E (.tup xs))) :=
 (ZP hs).imp fun σ H Q ⟨σd,st,R,r,ok,q,hq⟩=>by
 refine⟨σd,st,_,r,ok,mL xs hC q,fun vs H1 ⟨ds,aC,s1,aN,r1,l1,q1⟩=>⟨?_,fun p hp=>?_⟩⟩
 ·rw[fI,<-r1.length,l1];exact hl
 ·exact hq _ _ (.after s1 (.EY aN r1 hp q1))
theorem En {es:List Expr}{xs:List Ex}(hs:PA X es (jC X.K (bE C sub E xs))):PE X (.List es pos) (bN X.K (aG C sub E (.lst xs))) :=
 (XN hs).imp fun σ H Q ⟨σd,st,R,r,ok,q,hq⟩=>by
 refine⟨σd,st,_,r,ok,q,fun vs H1 ⟨ds,aC,s1,aN,r1,q1⟩=>⟨?_,fun p hp=>?_⟩⟩
 ·rw[fI,<-r1.length];exact q1.1
 ·exact hq _ _ (.after s1 (.fZ aN r1 hp q1.2))
theorem two {r:R2}{te tf:ZN}{σ:L2.St}{H:Hp}{Q:L2.VK}{σd:St}{st:aA}{W:D->D->aA->Prop}{R:VK}
 (sr:cY X.K H σd σ)(ok:aQ X.K st H)(q:te σd st fun d aC=>tf σd aC fun d' aF=>W d d' aF)(hq:∀ v H',QD X.K H st R v H'->Q v H')
 (op:∀ d d' v v' H2 aF,aQ X.K aF H2->Rep X.K H2 d v->Rep X.K H2 d' v'->W d d' aF->r v v' H2 (QD X.K H2 aF R))
 (mono:∀ v v' H (Q Q':L2.VK),(∀ v H,Q v H->Q' v H)->r v v' H Q->r v v' H Q'):Au r (bN X.K te) (bN X.K tf) σ H Q:=by
 refine⟨σd,st,_,sr,ok,q,fun v H1 ⟨d,aC,s1,aN,r1,q1⟩=>?_⟩
 refine⟨σd,aC,_,sr.step ok s1,aN,q1,fun v' H2 ⟨d',aF,s2,bO,r2,q2⟩=>?_⟩
 refine mono _ _ _ _ _ (fun u H' z=>hq u H' (.after (s1.trans s2) z)) (op d d' v v' H2 aF bO (r1.step aN s2) r2 q2)
theorem GI {g:Int->Int->V}(v v':V)(H:Hp)(Q Q':L2.VK)(h:∀ v H,Q v H->Q' v H)(z:GJ g v v' H Q):GJ g v v' H Q':=let⟨i,j,e,e',q⟩:=z;⟨i,j,e,e',h _ _ q⟩
theorem xE {P:Int->Int->Prop}{g:Int->Int->V}(v v':V)(H:Hp)(Q Q':L2.VK)(h:∀ v H,Q v H->Q' v H)(z:rI P g v v' H Q):rI P g v v' H Q':=let⟨i,j,e,e',p,q⟩:=z;⟨i,j,e,e',p,h _ _ q⟩
end
end L3
end
section
namespace L3
open PySem PySem.Spec PyProof.Rows L2
theorem zK:fillsNumberSlot (.type "tuple") "mul" = pure false:=by kernel_rfl
theorem EU:seqRepeat? (.type "tuple")=pure (some (.builtin "tuple.__mul__")):=by kernel_rfl
theorem CD (a:Int)(t:Tok)(l:Addr)(items:Array Value)(n:Nat)(dd:Option Addr)(sl:Array (Option Value)):
 Meets (Builtin.«int.__rmul__» ⟨[.int a t,.ref l],[]⟩) (fun _ R s=>s.heap.get? l=some { cls:=.type "tuple", dict:=dd,data:=.seq items n,slots:=sl }/\R (.ok (.ret Value.notImplemented)) s) :=
 .of_wp fun prog w A R s h=>by obtain⟨hp,g,d,tk,os⟩:=s;obtain⟨hl,h⟩:=h;wp_walk;exact⟨_,rfl,h⟩
section
variable {prog:Program}{w:World}{A:Around}{E:Value->Shared->Prop}{s:Shared}
theorem FI {l:Addr}{items:Array Value}{n:Nat}{dd:Option Addr}{sl:Array (Option Value)}{k:Int}{t:Tok}{Q:PySem.Fin->Shared->Prop}(hl:s.heap.get? l=some { cls:=.type "tuple", dict:=dd,data:=.seq items n,slots:=sl })
  (h1:1<=k)(h2:k<1000)(hm:0<items.size)(hm2:items.size<=1000)(mV:k=1->Q (.done (.ret (.ref l))) s)
  (h:Q (.done (.ret (.ref s.heap.objs.size))) { s with heap:=s.heap.push { cls:=.type "tuple", data:=.seq ((List.replicate k.toNat items).foldl (·++ ·) #[]) } }):
  wpAny (model prog w) A (Builtin.«tuple.__mul__» ⟨[.ref l,.int k t],[]⟩) Q E s:=by
 have hT:s.TypeIs (.ref l) "tuple":=⟨_,hl,rfl⟩
 unfold Builtin.«tuple.__mul__»
 wp_walk
 rw[if_neg (by simp;omega)]
 show wpAny _ _ (Builtin.Tuple.tupleItemsOf (.ref l) >>= _) _ _ s
 refine wpAny_bind (wpAny_tupleItemsOf hl rfl ?_)
 have hne:items.isEmpty=false:=by
  rw[Array.isEmpty_eq_false_iff];intro z;rw[z]at hm;simp at hm
 have jp:wpAny (model prog w) A (if(decide (k<=0)||items.isEmpty)=true then do
     let __do_lift <-Builtin.Tuple.tupleExact #[]
     ret __do_lift
    else
     have __do_jp:=fun(__r:Unit) =>
      have __do_jp:=fun(__r:Unit)=>do
       let __do_lift <-
        Builtin.Tuple.tupleExact (List.foldl (fun x1 x2=>x1++x2) #[] (List.replicate k.toNat items))
       ret __do_lift;
      if Builtin.Tuple.tupleTooMany (↑items.size*k)=true then do
       let __r <-unsupported "tuple.__mul__:memory"
       __do_jp __r
      else __do_jp ();
     if ↑items.size*k>(2 ^ 63-1) / 8 then do
      rule "tuple.repeat.no-memory"
      let __do_lift <-newExc (Value.type "MemoryError") []
      let __r <-raiseNew __do_lift
      __do_jp __r
     else __do_jp ()) Q E s:=by
  rw[if_neg (by rw[hne];simp;omega)]
  have hmul:(items.size:Int)*k<=1000*1000:=Int.mul_le_mul (by omega) (by omega) (by omega) (by decide)
  have hmul0:0<=(items.size:Int)*k:=Int.mul_nonneg (by omega) (by omega)
  dsimp only
  rw[if_neg (by omega),if_neg (by simp [Builtin.Tuple.tupleTooMany,sizeLine_eq];omega)]
  wp_walk
  have jK:¬(List.foldl (fun x1 x2=>x1++x2) #[] (List.replicate k.toNat items)).size>sizeLine:=by
   have e1:=foldl_rep items.toList k.toNat []
   rw[List.nil_append]at e1
   have e2:List.foldl (fun x1 x2=>x1++x2) #[] (List.replicate k.toNat items)=(List.replicate k.toNat items.toList).flatten.toArray:=by simpa using e1
   rw[e2,List.size_toArray,List.length_flatten,List.map_replicate,List.sum_replicate_nat,Array.length_toList,sizeLine_eq]
   have:k.toNat*items.size<=1000*1000:=Nat.mul_le_mul (by omega) hm2
   omega
  rw[if_neg jK]
  wp_walk
  exact h
 show wpAny _ _ (if(items.isEmpty||k==1)=true then _ else _) _ _ s
 by_cases hk:k=1
 ·subst hk
  rw[if_pos (by simp)]
  wp_walk
  exact mV rfl
 ·rw[if_neg (by rw[hne];simpa using hk)]
  exact jp
end
noncomputable def SF (K:PySem.W.Frag):R2:=fun x y H Q=>∃(a:Addr)(k:Int)(xs:List V),x=.ref a/\y=.int k/\dS K H a xs/\0<xs.length/\xs.length<=1000/\1<=k/\k<1000/\(k=1->Q (.ref a) H)/\∀ p,H p=none->Q (.ref p) (upd H p (.tup (List.replicate k.toNat xs).flatten))
theorem UY {X:Cx}:gD X (binaryOp .Mult) (SF X.K):=by
 intro pins s σ H x y v u Q I rx ry h
 obtain⟨a,k,xs,rfl,rfl,hH,h0,h00,h1,h2,mV,q⟩:=h
 cases rx
 obtain⟨t,rfl⟩:=ry
 obtain⟨aD,r,⟨⟨cls,dd,data,sl⟩,ho,hc,n,hd⟩,z⟩:=I.tuple hH
 simp only at hc hd
 subst hc hd
 have hl:xs.length=aD.length:=r.length
 have hnew:List.foldl (fun x1 x2=>x1++x2) #[] (List.replicate k.toNat aD.toArray)=(List.replicate k.toNat aD).flatten.toArray:=by
  have:=foldl_rep aD k.toNat []
  rw[List.nil_append]at this
  exact this
 refine wpAny_binaryOp_repeat_ref (T :="tuple") (U :="int") (by decide) ⟨_,ho,rfl⟩ (fun s'=>typeIs_int s' k t) zK PySem.F.fills_int_mul PySem.F.slot_int_rmul EU PySem.F.slot_int_index.lookup
  (call_meets PySem.F.slot_int_rmul (typeIs_int s k t) PySem.F.entry_int_rmul (PySem.F.args_int_rmul_2 _ _) (CD k t a aD.toArray n dd sl)
   ⟨ho,rfl,⟨_,ho,rfl⟩,wpAny_call_entry PySem.F.slot_tuple_mul ⟨_,ho,rfl⟩ PySem.F.entry_tuple_mul (FI ho h1 h2 (by simpa [<-hl]using h0) (by simpa [<-hl]using h00) (fun e=>?_) ?_) (PySem.F.args_tuple_mul_2 _ _)⟩)
 ·exact⟨_,rfl,.ref a,H,I,rfl,mV e⟩
 ·refine⟨_,rfl,.ref s.heap.objs.size,_,I.laid (a:=s.heap.objs.size) (o:=.tup (List.replicate k.toNat xs).flatten) (t':=s.toks) (fun b u e=>Heap.get?_push_of_some _ e) (Nat.le_refl _) ?_,rfl,q _ (I.bJ.fresh (Nat.le_refl _))⟩
  refine⟨by rw[len_rep,sizeLine_eq];have:k.toNat*xs.length<=1000*1000:=Nat.mul_le_mul (by omega) h00;omega,_,r.rep k.toNat,?_⟩
  rw[hnew]
  exact nZ.new s.heap _
end L3
end
section
namespace L3
open PySem PySem.Spec PyProof.Rows L2
section
variable {X:Cx}
theorem VS {prog:Program}{w:World}{A:Around}{E:Value->Shared->Prop}{s:Shared}{t b:Addr}{ws:List Value}{Q:Value->Shared->Prop}(ht:IsTup s.heap t #[])(hb:IsTup s.heap b ws.toArray)
  (h:Q (.ref b) s):wpAny (model prog w) A (binaryOp .Add (.ref t) (.ref b)) Q E s:=by
 obtain⟨⟨cls,dd,data,sl⟩,ho,hc,n,hd⟩:=id ht
 obtain⟨⟨cls2,dd2,data2,sl2⟩,ho2,hc2,n2,hd2⟩:=id hb
 simp only at hc hd hc2 hd2
 subst hc hd hc2 hd2
 exact concat_meets ⟨_,ho,rfl⟩ ⟨_,ho2,rfl⟩ noFill_tuple_add seq_tuple_add PySem.F.slot_tuple_add PySem.F.entry_tuple_add (PySem.F.args_tuple_add_2 _ _)
  (tuple_addW0 t b #[] ws.toArray n n2 dd dd2 sl sl2 (by simp)) ⟨ho,ho2,h⟩
noncomputable def R6 (K:PySem.W.Frag):R2:=fun x y H Q=>∃ a b ys,x=.ref a/\y=.ref b/\dS K H a []/\dS K H b ys/\Q (.ref b) H
theorem VY:gD X (binaryOp .Add) (R6 X.K):=by
 intro pins s σ H x y v u Q I rx ry h
 obtain⟨a,b,ys,rfl,rfl,ha,hb,q⟩:=h
 cases rx
 cases ry
 obtain⟨aD,r1,p1,_⟩:=I.tuple ha
 obtain⟨mH,r2,p2,_⟩:=I.tuple hb
 have e:aD=[]:=r1.xJ.mpr rfl
 subst e
 exact VS p1 p2 ⟨.ref b,H,I,rfl,q⟩
noncomputable def Cs:R2:=fun x y H Q=>∃ i j,x=.str i/\y=.str j/\i.length+j.length<=sizeLine/\Q (.str (i++j)) H
noncomputable abbrev R8 (K:PySem.W.Frag):R2:=fun x y H Q=>GJ (fun i j=>.int (i+j)) x y H Q∨Cs x y H Q∨RS K x y H Q∨R6 K x y H Q∨Z0 x y H Q
theorem UK:gD X (binaryOp .Add) (R8 X.K):=gD.or Ai (gD.or LF (gD.or S6 (gD.or VY X7)))
noncomputable abbrev R3 (K:PySem.W.Frag):R2:=fun x y H Q=>rI KL (fun i j=>.int (i*j)) x y H Q∨Z1 x y H Q∨SF K x y H Q
theorem VJ:gD X (binaryOp .Mult) (R3 X.K):=gD.or ZF (gD.or XA UY)
noncomputable def Ab:rS->Operator
 |.add=>.Add|.sub=>.Sub|.mul=>.Mult|.fdiv=>.FloorDiv|.mod=>.Mod|.pow=>.Pow
noncomputable def LH (K:PySem.W.Frag):rS->R2
 |.add=>R8 K
 |.sub=>GJ fun i j=>.int (i-j)
 |.mul=>R3 K
 |.fdiv=>rI W5 fun i j=>.int (i / j)
 |.mod=>rI (fun _ j=>0<j) fun i j=>.int (i % j)
 |.pow=>rI Y2 fun i j=>.int (i ^ j.toNat)
theorem YE:∀ op:rS,gD X (binaryOp (Ab op)) (LH X.K op)
 |.add=>UK
 |.sub=>WY
 |.mul=>VJ
 |.fdiv=>VW
 |.mod=>YT
 |.pow=>X0
theorem OR {K:PySem.W.Frag}:∀(op:rS)(v v':V)(H:Hp)(Q Q':L2.VK),(∀ v H,Q v H->Q' v H)->LH K op v v' H Q->LH K op v v' H Q'
 |.add,v,v',H,Q,Q',h,z=>by
  rcases z with z|⟨i,j,e,e',l,q⟩|⟨a,b,xs,ys,e,e',s,s',n,l,q,q'⟩|⟨a,b,ys,e,e',s,s',q⟩|⟨l,b,xs,zs,e,e',s,s',n,q⟩
  ·exact .inl (GI _ _ _ _ _ h z)
  ·exact .inr (.inl ⟨i,j,e,e',l,h _ _ q⟩)
  ·exact .inr (.inr (.inl ⟨a,b,xs,ys,e,e',s,s',n,l,fun z=>h _ _ (q z),fun z p hp=>h _ _ (q' z p hp)⟩))
  ·exact .inr (.inr (.inr (.inl ⟨a,b,ys,e,e',s,s',h _ _ q⟩)))
  ·exact .inr (.inr (.inr (.inr ⟨l,b,xs,zs,e,e',s,s',n,fun p hp=>h _ _ (q p hp)⟩)))
 |.sub,v,v',H,Q,Q',h,z=>GI _ _ _ _ _ h z
 |.mul,v,v',H,Q,Q',h,z=>by
  rcases z with z|⟨l,k,xs,e,e',s,b1,b2,b3,q⟩|⟨l,k,xs,e,e',s,b1,b2,b3,b4,q0,q⟩
  ·exact .inl (xE _ _ _ _ _ h z)
  ·exact .inr (.inl ⟨l,k,xs,e,e',s,b1,b2,b3,fun p hp=>h _ _ (q p hp)⟩)
  ·exact .inr (.inr ⟨l,k,xs,e,e',s,b1,b2,b3,b4,fun z=>h _ _ (q0 z),fun p hp=>h _ _ (q p hp)⟩)
 |.fdiv,v,v',H,Q,Q',h,z=>xE _ _ _ _ _ h z
 |.mod,v,v',H,Q,Q',h,z=>xE _ _ _ _ _ h z
 |.pow,v,v',H,Q,Q',h,z=>xE _ _ _ _ _ h z
end
section
variable {K:PySem.W.Frag}{H:Hp}{st:aA}{R:VK}
theorem Rep.int_inv {i:Int}{v:V}(r:Rep K H (.int i) v):v=.int i:=by cases r;rfl
theorem Rep.str_inv {x:List Nat}{v:V}(r:Rep K H (.str x) v):v=.str ⟨x.toArray⟩:=by cases r;rfl
theorem Rep.eM {b:Bool}{v:V}(r:Rep K H (.bl b) v):v=.bl b:=by cases r;rfl
theorem Rep.eT {v:V}(r:Rep K H .non v):v=.non:=by cases r;rfl
theorem Rep.cB {a:Addr}{v:V}(r:Rep K H (.ref a) v):v=.ref a:=by cases r;rfl
theorem Rep.bK {ds:List D}{v:V}(r:Rep K H (.tup ds) v):∃ a vs,v=.ref a/\dS K H a vs/\aJ K H ds vs:=by cases r with|tup h r=>exact⟨_,_,rfl,h,r⟩
theorem Rep.FG {ks vs:List D}{v:V}(r:Rep K H (.cO ks vs) v):∃ a,v=.ref a/\W3 K a ks vs:=by cases r with|cO h=>exact⟨_,rfl,h⟩
theorem Rep.jQ {ds:List D}{v:V}(r:Rep K H (.bF ds) v):∃ a vs,v=.ref a/\kR K H a vs/\aJ K H ds vs:=by cases r with|bF h r=>exact⟨_,_,rfl,h,r⟩
theorem dI {a:Nat}{P:List D->Prop}(h:bZ st a P):∃ ds,st a=some (.lst ds)/\P ds:=by
 unfold bZ at h
 split at h
 ·rename_i ds e;exact⟨ds,e,h⟩
 ·exact h.elim
theorem qN {a:Nat}{P:List D->Prop}{M:List D->List D->Prop}(ok:aQ K st H)(h:dH st a P M):∃ ds,st a=some (.lst ds)/\P ds:=by
 unfold dH at h
 split at h
 ·rename_i ds e;exact⟨ds,e,h⟩
 ·rename_i e;exact(ok _ _ e).elim
 ·exact h.elim
theorem eE {α:Type}{o:Option α}{P:α->Prop}(h:cV o P):∃ x,o=some x/\P x:=by
 unfold cV at h
 split at h
 ·exact⟨_,rfl,h⟩
 ·exact h.elim
theorem TL (x y:List Nat):(⟨x.toArray⟩:Str)++⟨y.toArray⟩=⟨(x++y).toArray⟩:=by
 show Str.mk _=Str.mk _
 simp
theorem aJ.nil_inv {vs:List V}(r:aJ K H [] vs):vs=[]:=by cases r;rfl
theorem aJ.flat {ds:List D}{vs:List V}(r:aJ K H ds vs):∀ k:Nat,aJ K H (List.replicate k ds).flatten (List.replicate k vs).flatten
 |0=>.nil
 |k+1=>by simp only[List.replicate_succ,List.flatten_cons];exact r.append (aJ.flat r k)
theorem N3 {op:rS}{d d':D}{v v':V}(ok:aQ K st H)(r:Rep K H d v)(r':Rep K H d' v')(h:hU op d d' st R):LH K op v v' H (QD K H st R):=by
 unfold hU at h
 split at h
 ·cases r.int_inv;cases r'.int_inv
  exact .inl ⟨_,_,rfl,rfl,.here ok (.int _) h⟩
 ·rename_i a b
  cases r.str_inv;cases r'.str_inv
  refine .inr (.inl ⟨_,_,rfl,rfl,?_,?_⟩)
  ·rw[fI];simpa [Str.length]using h.1
  ·rw[TL];exact .here ok (.str _) h.2
 ·rename_i ds es
  obtain⟨a,vs,rfl,s1,q1⟩:=r.bK
  obtain⟨b,us,rfl,s2,q2⟩:=r'.bK
  cases ds with
  |nil =>
   cases q1.nil_inv
   exact .inr (.inr (.inr (.inl ⟨a,b,us,rfl,rfl,s1,s2,.here ok r' (by simpa using h.2)⟩)))
  |cons d ds =>
   refine .inr (.inr (.inl ⟨a,b,vs,us,rfl,rfl,s1,s2,?_,?_,fun e=>?_,fun _ p hp=>.EY ok (q1.append q2) hp h.2⟩))
   ·intro e;subst e;cases q1
   ·rw[fI,<-q1.length,<-q2.length];exact h.1
   ·subst e
    cases q2
    exact .here ok r (by simpa using h.2)
 ·rename_i a b
  cases r.cB;cases r'.cB
  obtain⟨xs,e1,h⟩:=dI h
  obtain⟨ys,e2,h⟩:=dI h
  obtain⟨vs,g1,q1⟩:=ok.lst e1
  obtain⟨us,g2,q2⟩:=ok.lst e2
  refine .inr (.inr (.inr (.inr ⟨a,b,vs,us,rfl,rfl,g1,g2,?_,fun p hp=>.fZ ok (q1.append q2) hp h.2⟩)))
  rw[fI,<-q1.length,<-q2.length];simpa using h.1
 ·cases r.int_inv;cases r'.int_inv
  exact⟨_,_,rfl,rfl,.here ok (.int _) h⟩
 ·cases r.int_inv;cases r'.int_inv
  exact .inl ⟨_,_,rfl,rfl,h.1.imp (fun z=>z) (fun z=>z),.here ok (.int _) h.2⟩
 ·rename_i a k
  cases r.cB;cases r'.int_inv
  obtain⟨xs,e1,h1,h2,h⟩:=dI h
  obtain⟨vs,g1,q1⟩:=ok.lst e1
  refine .inr (.inl ⟨a,k,vs,rfl,rfl,g1,by omega,by omega,?_,fun p hp=>.fZ ok (q1.flat _) hp h.2⟩)
  rw[fI,<-q1.length];exact h1
 ·rename_i xs k
  obtain⟨a,vs,rfl,f,g⟩:=r.bK
  cases r'.int_inv
  obtain⟨⟨c1,c2,c3,c4⟩,h⟩:=h
  refine .inr (.inr ⟨a,k,vs,rfl,rfl,f,by rw[<-g.length];exact c1,by rw[<-g.length];exact c2,c3,c4,fun e=>?_,fun p hp=>.EY ok (g.flat _) hp h⟩)
  subst e
  have e1:(List.replicate (1:Int).toNat xs).flatten=xs:=by simp
  rw[e1]at h
  exact .here ok r h
 ·cases r.int_inv;cases r'.int_inv
  exact⟨_,_,rfl,rfl,h.1,.here ok (.int _) h.2⟩
 ·cases r.int_inv;cases r'.int_inv
  exact⟨_,_,rfl,rfl,h.1,.here ok (.int _) h.2⟩
 ·cases r.int_inv;cases r'.int_inv
  exact⟨_,_,rfl,rfl,h.1,.here ok (.int _) h.2⟩
 ·exact h.elim
end
section
variable {X:Cx}{C:aX}{sub:Nat->Nat->Bool}{E:XK}{a b c e:Expr}{x y z:Ex}{pos:Pos}
theorem Br {op:rS}(ha:PE X a (bN X.K (aG C sub E x)))(hb:PE X b (bN X.K (aG C sub E y))):PE X (.BinOp a (Ab op) b pos) (bN X.K (aG C sub E (.bin op x y))) :=
 (Ea (YE op) ha hb).imp fun σ H Q ⟨σd,st,R,r,ok,q,hq⟩=>by
 exact two (W:=fun d d' aF=>hU op d d' aF R) r ok q hq (fun d d' v v' H2 aF bO r1 r2 h=>N3 bO r1 r2 h) (OR op)
theorem Cd (ha:PE X a (bN X.K (aG C sub E x))):PE X (.UnaryOp .USub a pos) (bN X.K (aG C sub E (.neg x))) :=
 (Ey YA ha).imp fun σ H Q ⟨σd,st,R,r,ok,q,hq⟩=>by
 refine⟨σd,st,_,r,ok,q,fun v H1 ⟨d,aC,s1,aN,r1,q1⟩=>?_⟩
 have q1:wO d aC R:=q1
 unfold wO at q1
 split at q1
 ·cases r1.int_inv
  exact⟨_,rfl,hq _ _ (.after s1 (.here aN (.int _) q1))⟩
 ·exact q1.elim
noncomputable def Iy (d:D)(st:aA):Option Bool:=match d with
 |.non=>some false
 |.bl b=>some b
 |.int i=>some (i != 0)
 |.str x=>if x.length<=bG then some (!x.isEmpty)else none
 |.tup ds=>some (!ds.isEmpty)
 |.ref a=>match st a with
  |some (.lst ds)=>some (!ds.isEmpty)
  |some (.dic ks _)=>some (!ks.isEmpty)
  |some _=>none
  |none=>none
 |.bF ds=>some (!ds.isEmpty)
 |_=>none
theorem tH {d:D}{st:aA}{P:Bool->Prop}:dQ d st P↔∃ k,Iy d st=some k/\P k:=by
 cases d with
 |str x =>
  show(x.length<=bG/\P (!x.isEmpty))↔∃ k,(if x.length<=bG then some (!x.isEmpty)else none)=some k/\P k
  split
  ·rename_i h;exact⟨fun z=>⟨_,rfl,z.2⟩,fun⟨k,e,q⟩=>⟨h,by cases e;exact q⟩⟩
  ·rename_i h;exact⟨fun z=>(h z.1).elim,fun⟨k,e,q⟩=>by cases e⟩
 |ref a =>
  show dH st a _ _↔∃ k,(match st a with|some (.lst ds)=>some (!ds.isEmpty)|some (.dic ks _)=>some (!ks.isEmpty)|some _=>none|none=>none)=some k/\P k
  unfold dH
  cases st a with
  |none=>exact⟨fun z=>z.elim,fun⟨k,e,q⟩=>by cases e⟩
  |some o=>cases o with
   |lst ds=>exact⟨fun z=>⟨_,rfl,z⟩,fun⟨k,e,q⟩=>by cases e;exact q⟩
   |dic ks vs=>exact⟨fun z=>⟨_,rfl,z⟩,fun⟨k,e,q⟩=>by cases e;exact q⟩
   |ins _ _=>exact⟨fun z=>z.elim,fun⟨k,e,q⟩=>by cases e⟩
   |tab _ _=>exact⟨fun z=>z.elim,fun⟨k,e,q⟩=>by cases e⟩
   |fn _ _=>exact⟨fun z=>z.elim,fun⟨k,e,q⟩=>by cases e⟩
   |cod _=>exact⟨fun z=>z.elim,fun⟨k,e,q⟩=>by cases e⟩
 |cO _ _=>exact⟨fun z=>z.elim,fun⟨k,e,q⟩=>by cases e⟩
 |exc _=>exact⟨fun z=>z.elim,fun⟨k,e,q⟩=>by cases e⟩
 |_=>exact⟨fun z=>⟨_,rfl,z⟩,fun⟨k,e,q⟩=>by cases e;exact q⟩
theorem hX {α:Type}(x:List α):(!x.isEmpty)=(((x.length:Nat):Int) != 0):=by
 cases x with
 |nil=>rfl
 |cons a r =>
 simp only[List.isEmpty_cons,Bool.not_false,List.length_cons]
 symm
 rw[bne_iff_ne];omega
theorem qD {K:PySem.W.Frag}{H:Hp}{st:aA}{d:D}{v:V}{P:Bool->Prop}(ok:aQ K st H)(r:Rep K H d v)(h:dQ d st P):∃ k,PK K v H k/\P k:=by
 unfold dQ at h
 split at h
 ·cases r.eT;exact⟨_,rfl,h⟩
 ·cases r.eM;exact⟨_,rfl,h⟩
 ·cases r.int_inv;exact⟨_,rfl,h⟩
 ·rename_i x P
  cases r.str_inv
  refine⟨_,⟨by rw[fI];simpa [Str.length]using h.1,?_⟩,h.2⟩
  rw[hX];simp [Str.length]
 ·obtain⟨a,vs,rfl,s1,q1⟩:=r.bK
  refine⟨_,.inr (.inl ⟨vs,s1,?_⟩),h⟩
  rw[hX,hX,q1.length]
 ·cases r.cB
  obtain⟨ds,e,h⟩:=qN ok h
  obtain⟨vs,g,q⟩:=ok.lst e
  refine⟨_,.inl ⟨vs,dU.of g,?_⟩,h⟩
  rw[hX,hX,q.length]
 ·obtain⟨a,vs,rfl,s1,q1⟩:=r.jQ
  refine⟨_,.inl ⟨vs,s1.sq,?_⟩,h⟩
  rw[hX,hX,q1.length]
 ·exact h.elim
theorem RQ (h:PE X e (bN X.K (aG C sub E x)))(he:∀ whole,isTrue e X.env whole=(do let v <-whole;standAt e.pos;holding [v] (truthy v))):PT X e (iP X.K (aG C sub E x)) :=
 (P9 h he).imp fun σ H Q ⟨σd,st,R,r,ok,q,hq⟩=>by
 refine⟨σd,st,_,r,ok,q,fun v H1 ⟨d,aC,s1,aN,r1,q1⟩=>?_⟩
 obtain⟨k,t,z⟩:=qD aN r1 q1
 exact⟨k,t,hq _ _ ⟨aC,s1,aN,z⟩⟩
theorem An (h:PT X e (iP X.K (aG C sub E x))):PT X (.UnaryOp .Not e pos) (iP X.K (aG C sub E (.not_ x))) :=
 (WN h).imp fun σ H Q ⟨σd,st,R,r,ok,q,hq⟩=>by
 exact⟨σd,st,fun b aB=>R (!b) aB,r,ok,q,fun b H1 z=>hq _ _ z⟩
theorem Eu (h:PE X e (bN X.K (aG C sub E x))):PE X (.UnaryOp .Not e pos) (bN X.K (aG C sub E (.not_ x))):=by
 intro pins s σ H Q I ⟨σd,st,R,r,ok,q,hq⟩
 refine UnaryOp_ (aV (h pins s σ H _ I ⟨σd,st,_,r,ok,q,fun v H' z=>z⟩) fun u s1 ⟨v,H1,I1,rv,d,aC,st1s,aN,r1,q1⟩=>?_)
 obtain⟨k,t,z⟩:=qD aN r1 q1
 exact not_of (aV (zX pins s1 σ H1 v u (fun b H'=>Q (.bl (!b)) H') I1 rv ⟨k,t,hq _ _ (.after st1s (.here aN (.bl _) z))⟩) fun b s2 ⟨H2,I2,w⟩=>⟨.bl (!b),H2,I2,rfl,w⟩)
theorem WR {op:BoolOp}(h:PT X e (iP X.K (aG C sub E x))):PW X (.BoolOp op [e] pos) (iP X.K (aG C sub E x)):=by
 cases op
 ·exact VT h
 ·exact WH h
theorem ZR {rest:List Expr}(hC:bI C C)(ha:PT X a (iP X.K (aG C sub E x)))(hb:PW X (.BoolOp .And (b::rest) pos) (iP X.K (aG C sub E y))):PW X (.BoolOp .And (a::b::rest) pos) (iP X.K (aG C sub E (.and_ x y))) :=
 (Z6 ha hb).imp fun σ H Q ⟨σd,st,R,r,ok,q,hq⟩=>by
 refine⟨σd,st,fun k aC=>if k=true then aG C sub E y σd aC (fun d aB=>dQ d aB fun b=>R b aB)else R false aC,r,ok,aS hC (fun _ _ z=>z) x (fun d aC z=>?_) q,fun k H1 ⟨aC,s1,aN,z⟩=>?_⟩
 ·rw[tH]at z ⊢
  obtain⟨k,t,z⟩:=z
  refine⟨k,t,?_⟩
  cases k with
  |true=>exact z
  |false =>
  have z':dQ d aC fun b=>R b aC:=z
  rw[tH]at z'
  obtain⟨k',t',z'⟩:=z'
  rw[t]at t';cases t'
  exact z'
 ·cases k with
  |true=>exact⟨σd,aC,R,r.step ok s1,aN,z,fun k H2 ⟨aF,s2,bO,w⟩=>hq _ _ ⟨aF,s1.trans s2,bO,w⟩⟩
  |false=>exact hq _ _ ⟨aC,s1,aN,z⟩
theorem Fp {rest:List Expr}(hC:bI C C)(ha:PT X a (iP X.K (aG C sub E x)))(hb:PW X (.BoolOp .Or (b::rest) pos) (iP X.K (aG C sub E y))):PW X (.BoolOp .Or (a::b::rest) pos) (iP X.K (aG C sub E (.or_ x y))) :=
 (Eo ha hb).imp fun σ H Q ⟨σd,st,R,r,ok,q,hq⟩=>by
 refine⟨σd,st,fun k aC=>if k=true then R true aC else aG C sub E y σd aC (fun d aB=>dQ d aB fun b=>R b aB),r,ok,aS hC (fun _ _ z=>z) x (fun d aC z=>?_) q,fun k H1 ⟨aC,s1,aN,z⟩=>?_⟩
 ·rw[tH]at z ⊢
  obtain⟨k,t,z⟩:=z
  refine⟨k,t,?_⟩
  cases k with
  |false=>exact z
  |true =>
  have z':dQ d aC fun b=>R b aC:=z
  rw[tH]at z'
  obtain⟨k',t',z'⟩:=z'
  rw[t]at t';cases t'
  exact z'
 ·cases k with
  |false=>exact⟨σd,aC,R,r.step ok s1,aN,z,fun k H2 ⟨aF,s2,bO,w⟩=>hq _ _ ⟨aF,s1.trans s2,bO,w⟩⟩
  |true=>exact hq _ _ ⟨aC,s1,aN,z⟩
theorem Dt {rest:List Expr}(ha:PE X a (bN X.K (aG C sub E x)))(hb:PE X (.BoolOp .And (b::rest) pos) (bN X.K (aG C sub E y))):PE X (.BoolOp .And (a::b::rest) pos) (bN X.K (aG C sub E (.and_ x y))):=by
 intro pins s σ H Q I ⟨σd,st,R,r,ok,q,hq⟩
 refine BoolOp_and (aV (ha pins s σ H _ I ⟨σd,st,_,r,ok,q,fun v H' z=>z⟩) fun u s1 ⟨v,H1,I1,rv,d,aC,st1s,aN,r1,q1⟩=>?_)
 obtain⟨k,t,z⟩:=qD aN r1 q1
 refine aV (zX pins s1 σ H1 v u (fun b H'=>b=k/\H'=H1) I1 rv ⟨k,t,rfl,rfl⟩) fun b s2 ⟨H2,I2,e,e'⟩=>?_
 subst e e'
 cases b with
 |true=>exact hb pins s2 σ H2 Q I2 ⟨σd,aC,R,r.step ok st1s,aN,z,fun v H' w=>hq _ _ (.after st1s w)⟩
 |false=>exact⟨v,H2,I2,rv,hq _ _ (.after st1s (.here aN r1 z))⟩
theorem Hf {rest:List Expr}(ha:PE X a (bN X.K (aG C sub E x)))(hb:PE X (.BoolOp .Or (b::rest) pos) (bN X.K (aG C sub E y))):PE X (.BoolOp .Or (a::b::rest) pos) (bN X.K (aG C sub E (.or_ x y))):=by
 intro pins s σ H Q I ⟨σd,st,R,r,ok,q,hq⟩
 refine BoolOp_or (aV (ha pins s σ H _ I ⟨σd,st,_,r,ok,q,fun v H' z=>z⟩) fun u s1 ⟨v,H1,I1,rv,d,aC,st1s,aN,r1,q1⟩=>?_)
 obtain⟨k,t,z⟩:=qD aN r1 q1
 refine aV (zX pins s1 σ H1 v u (fun b H'=>b=k/\H'=H1) I1 rv ⟨k,t,rfl,rfl⟩) fun b s2 ⟨H2,I2,e,e'⟩=>?_
 subst e e'
 cases b with
 |false=>exact hb pins s2 σ H2 Q I2 ⟨σd,aC,R,r.step ok st1s,aN,z,fun v H' w=>hq _ _ (.after st1s w)⟩
 |true=>exact⟨v,H2,I2,rv,hq _ _ (.after st1s (.here aN r1 z))⟩
theorem Dy {op:BoolOp}(h:PE X e (bN X.K (aG C sub E x))):PE X (.BoolOp op [e] pos) (bN X.K (aG C sub E x)):=WL h
end
end L3
end
section
namespace L3
open PySem PySem.Spec PyProof.Rows L2 PySem.SeqAt
mutual
theorem tV:∀ d:D,bS d=true->bH d d=true
 |.non,_=>rfl
 |.bl b,_=>by simp [bH]
 |.int i,_=>by simp [bH]
 |.str x,_=>by simp [bH]
 |.tup ds,h=>by simp only[bS]at h;simp only[bH];exact jL ds h
 |.ref _,h=>by simp [bS]at h
 |.cO _ _,h=>by simp [bS]at h
 |.bF _,h=>by simp [bS]at h
 |.exc _,h=>by simp [bS]at h
theorem jL:∀ ds:List D,bQ ds=true->gI ds ds=true
 |[],_=>rfl
 |d::ds,h=>by
  simp only[bQ,Bool.and_eq_true]at h
  simp only[gI,Bool.and_eq_true]
  exact⟨tV d h.1,jL ds h.2⟩
end
theorem mB:∀{ds:List D}{d:D},bQ ds=true->d∈ds->bS d=true
 |e::ds,d,h,m=>by
  simp only[bQ,Bool.and_eq_true]at h
  rcases List.mem_cons.mp m with rfl|m
  ·exact h.1
  ·exact mB h.2 m
theorem iK:∀{ds:List D}{d:D},d∈ds->cM d<=cK ds
 |e::ds,d,m=>by
  simp only[cK]
  rcases List.mem_cons.mp m with rfl|m
  ·omega
  ·have:=iK m;omega
theorem tM:∀{ds es:List D}(e:Nat->Bool),(∀ j d d',ds[j]? = some d->es[j]? = some d'->e j=bH d d')->((List.range (min ds.length es.length)).all e&&ds.length==es.length)=gI ds es
 |[],[],e,h=>by simp [gI]
 |[],_::_,e,h=>by simp [gI]
 |_::_,[],e,h=>by simp [gI]
 |d::ds,d'::es,e,h=>by
  have ih:=tM (fun j=>e (j+1)) fun j x x' e1 e2=>h (j+1) x x' (by simpa using e1) (by simpa using e2)
  have h0:=h 0 d d' rfl rfl
  simp only[gI,List.length_cons,Nat.add_min_add_right,List.range_succ_eq_map,List.all_cons,List.all_map,Function.comp_def]
  rw[<-ih,h0]
  have hl:(ds.length+1==es.length+1)=(ds.length==es.length):=by simp
  rw[hl,Bool.and_assoc]
theorem MG {ds es:List D}(e:Nat->Bool)(hl:ds.length=es.length)(h:∀ j d d',ds[j]? = some d->es[j]? = some d'->e j=bH d d'):(List.range ds.length).all e=gI ds es:=by
 rw[<-tM e h,<-hl];simp
theorem HE:∀{ds es:List D},ds.length≠es.length->gI ds es=false
 |[],[],h=>(h rfl).elim
 |[],_::_,h=>rfl
 |_::_,[],h=>rfl
 |d::ds,d'::es,h=>by simp only[gI,HE (ds:=ds) (es:=es) (by simpa using h),Bool.and_false]
section
variable {X:Cx}{pins:List (Addr×Obj)}{σ:L2.St}{H:Hp}{s:Shared}{st:aA}
theorem aO.at {vs:List V}{aD:List Value}(r:aO vs aD){j:Nat}(h:j<aD.toArray.size):∃ v,vs[j]? = some v/\RelV v aD.toArray[j]:=by
 have hl:=r.length
 have hj:j<vs.length:=by simp at h;omega
 obtain⟨u,e1,e2⟩:=aO.get r (List.getElem?_eq_getElem hj)
 refine⟨vs[j],List.getElem?_eq_getElem hj,?_⟩
 rw[List.getElem?_eq_some_iff]at e1
 obtain⟨h1,e1⟩:=e1
 simp only[List.getElem_toArray,e1]
 exact e2
theorem aJ.get' {K:PySem.W.Frag}:∀{ds:List D}{vs:List V}{i:Nat}{v:V},aJ K H ds vs->vs[i]? = some v->∃ d,ds[i]? = some d/\Rep K H d v
 |_,_,_,_,.nil,e=>by simp at e
 |_,_,0,_,.cons h _,e=>by simp at e;subst e;exact⟨_,rfl,h⟩
 |_,_,i+1,v,.cons _ r,e=>by
  obtain⟨d,e1,e2⟩:=aJ.get' (i:=i) (v:=v) r (by simpa using e)
  exact⟨d,by simpa using e1,e2⟩
theorem xA (I:Inv X pins σ H s):∀(n:Nat){d d':D}{v:V},cM d<=n->bS d=true->bS d'=true->Rep X.K H d v->Rep X.K H d' v->d=d':=by
 intro n
 induction n with
 |zero =>
 intro d d' v hn p p' r r'
 cases r<;>cases r'<;>first|rfl|(simp [bS]at p;done)|(simp [bS]at p';done)|(simp [cM]at hn;done)
 |succ n ih =>
 intro d d' v hn p p' r r'
 cases r<;>cases r'<;>first|rfl|(simp [bS]at p;done)|(simp [bS]at p';done)|skip
 rename_i ds a vs h r es us r' h'
 cases I.qU h h'
 have go:∀(ds es:List D)(vs:List V),cK ds<=n->bQ ds=true->bQ es=true->aJ X.K H ds vs->aJ X.K H es vs->ds=es:=by
  intro ds
  induction ds with
  |nil=>intro es vs _ _ _ r r';cases r;cases r';rfl
  |cons d ds ihs =>
  intro es vs hd pp pp' r r'
  cases r with
  |cons r1 r2=>cases r' with
   |cons r1' r2' =>
   simp only[cK]at hd
   simp only[bQ,Bool.and_eq_true]at pp pp'
   rw[ih (by omega) pp.1 pp'.1 r1 r1',ihs _ _ (by omega) pp.2 pp'.2 r2 r2']
 rw[go ds es vs (by simp only[cM]at hn;omega) (by simpa [bS]using p) (by simpa [bS]using p') r r']
noncomputable def uG (A:Around)(s:Shared)(u u':Value)(b:Bool):Prop:=RcAt A s u u' b/\EqAt A s u u' b/\RcNeAt A s u u' (!b)
noncomputable def mW:D->Bool
 |.non=>true
 |.bl _=>true
 |.int _=>true
 |.str _=>true
 |_=>false
theorem GN (x y:List Nat):((⟨x.toArray⟩:Str)==⟨y.toArray⟩)=(x==y):=by
 rw[<-str_beq]
theorem sT {K:PySem.W.Frag}{H:Hp}{A:Around}{s:Shared}{d d':D}{v v':V}{u u':Value}(p:mW d=true)(p':mW d'=true)(r:Rep K H d v)(rv:RelV v u)(r':Rep K H d' v')(aZ:RelV v' u'):uG A s u u' (bH d d'):=by
 cases d with
 |non=>cases d' with
  |non =>
   cases r.eT;cases rv
   cases r'.eT;cases aZ
   exact⟨RcAt.none_none,EqAt.same _,RcNeAt.none_none⟩
  |bl b' =>
   cases r.eT;cases rv
   cases r'.eM;cases aZ
   simp only[bH]
   exact⟨RcAt.none_bool _,EqAt.none_bool _,RcNeAt.none_bool _⟩
  |int i' =>
   cases r.eT;cases rv
   cases r'.int_inv;obtain⟨_,rfl⟩:=aZ
   simp only[bH]
   exact⟨RcAt.none_int _ _,EqAt.none_int _ _,RcNeAt.none_int _ _⟩
  |str x' =>
   cases r.eT;cases rv
   cases r'.str_inv;obtain⟨_,rfl⟩:=aZ
   simp only[bH]
   exact⟨RcAt.none_str _ _,EqAt.none_str _ _,RcNeAt.none_str _ _⟩
  |_=>cases p'
 |bl b=>cases d' with
  |non =>
   cases r.eM;cases rv
   cases r'.eT;cases aZ
   simp only[bH]
   exact⟨RcAt.bool_none _,EqAt.bool_none _,RcNeAt.bool_none _⟩
  |bl b' =>
   cases r.eM;cases rv
   cases r'.eM;cases aZ
   simp only[bH]
   exact⟨RcAt.bool_bool _ _,EqAt.bool_bool _ _,RcNeAt.bool_bool _ _⟩
  |int i' =>
   cases r.eM;cases rv
   cases r'.int_inv;obtain⟨_,rfl⟩:=aZ
   simp only[bH]
   exact⟨RcAt.bool_int _ _ _,EqAt.bool_int _ _ _,RcNeAt.bool_int _ _ _⟩
  |str x' =>
   cases r.eM;cases rv
   cases r'.str_inv;obtain⟨_,rfl⟩:=aZ
   simp only[bH]
   exact⟨RcAt.bool_str _ _ _,EqAt.bool_str _ _ _,RcNeAt.bool_str _ _ _⟩
  |_=>cases p'
 |int i=>cases d' with
  |non =>
   cases r.int_inv;obtain⟨_,rfl⟩:=rv
   cases r'.eT;cases aZ
   simp only[bH]
   exact⟨RcAt.int_none _ _,EqAt.int_none _ _,RcNeAt.int_none _ _⟩
  |bl b' =>
   cases r.int_inv;obtain⟨_,rfl⟩:=rv
   cases r'.eM;cases aZ
   simp only[bH]
   exact⟨RcAt.int_bool _ _ _,EqAt.int_bool _ _ _,RcNeAt.int_bool _ _ _⟩
  |int i' =>
   cases r.int_inv;obtain⟨_,rfl⟩:=rv
   cases r'.int_inv;obtain⟨_,rfl⟩:=aZ
   simp only[bH]
   exact⟨RcAt.int_int _ _ _ _,EqAt.int_int _ _ _ _,RcNeAt.int_int _ _ _ _⟩
  |str x' =>
   cases r.int_inv;obtain⟨_,rfl⟩:=rv
   cases r'.str_inv;obtain⟨_,rfl⟩:=aZ
   simp only[bH]
   exact⟨RcAt.int_str _ _ _ _,EqAt.int_str _ _ _ _,RcNeAt.int_str _ _ _ _⟩
  |_=>cases p'
 |str x=>cases d' with
  |non =>
   cases r.str_inv;obtain⟨_,rfl⟩:=rv
   cases r'.eT;cases aZ
   simp only[bH]
   exact⟨RcAt.str_none _ _,EqAt.str_none _ _,RcNeAt.str_none _ _⟩
  |bl b' =>
   cases r.str_inv;obtain⟨_,rfl⟩:=rv
   cases r'.eM;cases aZ
   simp only[bH]
   exact⟨RcAt.str_bool _ _ _,EqAt.str_bool _ _ _,RcNeAt.str_bool _ _ _⟩
  |int i' =>
   cases r.str_inv;obtain⟨_,rfl⟩:=rv
   cases r'.int_inv;obtain⟨_,rfl⟩:=aZ
   simp only[bH]
   exact⟨RcAt.str_int _ _ _ _,EqAt.str_int _ _ _ _,RcNeAt.str_int _ _ _ _⟩
  |str x' =>
   cases r.str_inv;obtain⟨_,rfl⟩:=rv
   cases r'.str_inv;obtain⟨_,rfl⟩:=aZ
   have e:bH (.str x) (.str x')=((⟨x.toArray⟩:Str)==⟨x'.toArray⟩):=by rw[GN];simp only[bH]
   rw[e]
   exact⟨RcAt.str_str _ _ _ _,EqAt.str_str _ _ _ _,RcNeAt.str_str _ _ _ _⟩
  |_=>cases p'
 |_=>cases p
theorem fQ {K:PySem.W.Frag}{H:Hp}{A:Around}{s:Shared}{l:Addr}{aD:Array Value}{d':D}{v':V}{u':Value}(hl:s.heap.IsTuple l aD)(hu:A.units<cLine)(p':mW d'=true)(r':Rep K H d' v')(aZ:RelV v' u'):uG A s (.ref l) u' false/\uG A s u' (.ref l) false:=by
 cases d' with
 |non =>
 cases r'.eT;cases aZ
 exact⟨⟨RcAt.tuple_none hl hu,EqAt.tuple_none hl hu,RcNeAt.tuple_none hl hu⟩,⟨RcAt.none_tuple hl hu,EqAt.none_tuple hl hu,RcNeAt.none_tuple hl hu⟩⟩
 |bl b =>
 cases r'.eM;cases aZ
 exact⟨⟨RcAt.tuple_bool _ hl hu,EqAt.tuple_bool _ hl hu,RcNeAt.tuple_bool _ hl hu⟩,⟨RcAt.bool_tuple _ hl hu,EqAt.bool_tuple _ hl hu,RcNeAt.bool_tuple _ hl hu⟩⟩
 |int i =>
 cases r'.int_inv;obtain⟨_,rfl⟩:=aZ
 exact⟨⟨RcAt.tuple_int _ _ hl hu,EqAt.tuple_int _ _ hl hu,RcNeAt.tuple_int _ _ hl hu⟩,⟨RcAt.int_tuple _ _ hl hu,EqAt.int_tuple _ _ hl hu,RcNeAt.int_tuple _ _ hl hu⟩⟩
 |str x =>
 cases r'.str_inv;obtain⟨_,rfl⟩:=aZ
 exact⟨⟨RcAt.tuple_str _ _ hl hu,EqAt.tuple_str _ _ hl hu,RcNeAt.tuple_str _ _ hl hu⟩,⟨RcAt.str_tuple _ _ hl hu,EqAt.str_tuple _ _ hl hu,RcNeAt.str_tuple _ _ hl hu⟩⟩
 |_=>cases p'
theorem kP {K:PySem.W.Frag}{H:Hp}{A:Around}{s:Shared}{l:Addr}{aD:Array Value}{d':D}{v':V}{u':Value}(hl:s.heap.IsList l aD)(hu:A.units<cLine)(p':mW d'=true)(r':Rep K H d' v')(aZ:RelV v' u'):uG A s (.ref l) u' false/\uG A s u' (.ref l) false:=by
 cases d' with
 |non =>
 cases r'.eT;cases aZ
 exact⟨⟨RcAt.list_none hl hu,EqAt.list_none hl hu,RcNeAt.list_none hl hu⟩,⟨RcAt.none_list hl hu,EqAt.none_list hl hu,RcNeAt.none_list hl hu⟩⟩
 |bl b =>
 cases r'.eM;cases aZ
 exact⟨⟨RcAt.list_bool _ hl hu,EqAt.list_bool _ hl hu,RcNeAt.list_bool _ hl hu⟩,⟨RcAt.bool_list _ hl hu,EqAt.bool_list _ hl hu,RcNeAt.bool_list _ hl hu⟩⟩
 |int i =>
 cases r'.int_inv;obtain⟨_,rfl⟩:=aZ
 exact⟨⟨RcAt.list_int _ _ hl hu,EqAt.list_int _ _ hl hu,RcNeAt.list_int _ _ hl hu⟩,⟨RcAt.int_list _ _ hl hu,EqAt.int_list _ _ hl hu,RcNeAt.int_list _ _ hl hu⟩⟩
 |str x =>
 cases r'.str_inv;obtain⟨_,rfl⟩:=aZ
 exact⟨⟨RcAt.list_str _ _ hl hu,EqAt.list_str _ _ hl hu,RcNeAt.list_str _ _ hl hu⟩,⟨RcAt.str_list _ _ hl hu,EqAt.str_list _ _ hl hu,RcNeAt.str_list _ _ hl hu⟩⟩
 |_=>cases p'
theorem HM (I:Inv X pins σ H s){A:Around}{a b:Addr}{vs us:List V}{b0:Bool}(e:Nat->Bool)(ha:dS X.K H a vs)(hb:dS X.K H b us)(hu:A.units<cLine)(hs:a=b->b0=true)
  (he:∀ j v v' u u',vs[j]? = some v->us[j]? = some v'->RelV v u->RelV v' u'->EqAt A.in1 s u u' (e j))(hb0:((List.range (min vs.length us.length)).all e&&vs.length==us.length)=b0):uG A s (.ref a) (.ref b) b0:=by
 obtain⟨aD,r1,p1,_⟩:=I.tuple ha
 obtain⟨jts,r2,p2,_⟩:=I.tuple hb
 have l1:aD.toArray.size=vs.length:=by rw[List.size_toArray];exact r1.length.symm
 have l2:jts.toArray.size=us.length:=by rw[List.size_toArray];exact r2.length.symm
 have hi:∀ j (h1:j<aD.toArray.size)(h2:j<jts.toArray.size),EqAt A.in1 s aD.toArray[j] jts.toArray[j] (e j):=fun j h1 h2=>by
  obtain⟨v,e1,q1⟩:=aO.at r1 h1
  obtain⟨v',e2,q2⟩:=aO.at r2 h2
  exact he j v v' _ _ e1 e2 q1 q2
 have rc:RcAt A s (.ref a) (.ref b) b0:=by
  have:=RcAt.tuples (e:=e) p1 p2 hu hi
  rw[l1,l2,hb0]at this
  exact this
 have rn:RcNeAt A s (.ref a) (.ref b) (!b0):=by
  have:=RcNeAt.tuples (e:=e) p1 p2 hu hi
  rw[l1,l2,hb0]at this
  exact this
 refine⟨rc,?_,rn⟩
 by_cases q:a=b
 ·rw[hs q,q];exact EqAt.same _
 ·exact EqAt.of_refs q rc
theorem PY (I:Inv X pins σ H s){A:Around}{a b:Addr}{vs us:List V}{b0:Bool}(e:Nat->Bool)(ha:dU X.K H a vs)(hb:dU X.K H b us)(hu:A.units<cLine)(hs:a=b->b0=true)
  (he:∀ j v v' u u',vs[j]? = some v->us[j]? = some v'->RelV v u->RelV v' u'->EqAt A.in1 s u u' (e j))(hn:vs.length≠us.length->b0=false)(hb0:vs.length=us.length->(List.range vs.length).all e=b0):uG A s (.ref a) (.ref b) b0:=by
 obtain⟨aD,r1,p1,_⟩:=I.list ha
 obtain⟨jts,r2,p2,_⟩:=I.list hb
 have l1:aD.toArray.size=vs.length:=by rw[List.size_toArray];exact r1.length.symm
 have l2:jts.toArray.size=us.length:=by rw[List.size_toArray];exact r2.length.symm
 have hi:∀ j (h1:j<aD.toArray.size)(h2:j<jts.toArray.size),EqAt A.in1 s aD.toArray[j] jts.toArray[j] (e j):=fun j h1 h2=>by
  obtain⟨v,e1,q1⟩:=aO.at r1 h1
  obtain⟨v',e2,q2⟩:=aO.at r2 h2
  exact he j v v' _ _ e1 e2 q1 q2
 have both:RcAt A s (.ref a) (.ref b) b0/\RcNeAt A s (.ref a) (.ref b) (!b0):=by
  by_cases hl:vs.length=us.length
  ·have:=RcAt.lists (e:=e) p1.isList p2.isList (by rw[l1,l2,hl]) hu hi
   have rn:=RcNeAt.lists (e:=e) p1.isList p2.isList (by rw[l1,l2,hl]) hu hi
   rw[l1,hb0 hl]at this rn
   exact⟨this,rn⟩
  ·rw[hn hl]
   have hz:(aD.toArray.size != jts.toArray.size)=true:=by rw[l1,l2,bne_iff_ne];exact hl
   exact⟨RcAt.lists_lengths p1.isList p2.isList hz hu,RcNeAt.lists_lengths p1.isList p2.isList hz hu⟩
 refine⟨both.1,?_,both.2⟩
 by_cases q:a=b
 ·rw[hs q,q];exact EqAt.same _
 ·exact EqAt.of_refs q both.1
theorem rV {d:D}(p:bS d=true):mW d=true∨∃ ds,d=.tup ds:=by
 cases d<;>first|exact .inl rfl|exact .inr ⟨_,rfl⟩|cases p
theorem Ks (I:Inv X pins σ H s):∀(n:Nat){d d':D}{A:Around}{v v':V}{u u':Value},cM d<=n->bS d=true->bS d'=true->Rep X.K H d v->RelV v u->Rep X.K H d' v'->RelV v' u'->A.units+n+2<cLine ->
  uG A s u u' (bH d d'):=by
 intro n
 induction n with
 |zero =>
  intro d d' A v v' u u' hn p p' r rv r' aZ hu
  have iI:A.units<cLine:=by omega
  rcases rV p with q|⟨ds,rfl⟩
  ·rcases rV p' with q'|⟨iM,rfl⟩
   ·exact sT q q' r rv r' aZ
   ·obtain⟨b,us,rfl,h2,q2⟩:=r'.bK
    cases aZ
    obtain⟨aD,r1,p1,_⟩:=I.tuple h2
    have:=(fQ p1 iI q r rv).2
    have e:bH d (.tup iM)=false:=by cases d<;>first|rfl|cases q
    rw[e];exact this
  ·simp only[cM]at hn;omega
 |succ n ih =>
  intro d d' A v v' u u' hn p p' r rv r' aZ hu
  have iI:A.units<cLine:=by omega
  rcases rV p with q|⟨ds,rfl⟩
  ·rcases rV p' with q'|⟨iM,rfl⟩
   ·exact sT q q' r rv r' aZ
   ·obtain⟨b,us,rfl,h2,q2⟩:=r'.bK
    cases aZ
    obtain⟨aD,r1,p1,_⟩:=I.tuple h2
    have:=(fQ p1 iI q r rv).2
    have e:bH d (.tup iM)=false:=by cases d<;>first|rfl|cases q
    rw[e];exact this
  ·obtain⟨a,vs,rfl,h1,q1⟩:=r.bK
   cases rv
   rcases rV p' with q'|⟨iM,rfl⟩
   ·obtain⟨aD,r1,p1,_⟩:=I.tuple h1
    have:=(fQ p1 iI q' r' aZ).1
    have e:bH (.tup ds) d'=false:=by cases d'<;>first|rfl|cases q'
    rw[e];exact this
   ·obtain⟨b,us,rfl,h2,q2⟩:=r'.bK
    cases aZ
    have pd:bQ ds=true:=by simpa [bS]using p
    have pd':bQ iM=true:=by simpa [bS]using p'
    have e0:bH (.tup ds) (.tup iM)=gI ds iM:=by simp only[bH]
    rw[e0]
    refine HM I (fun j=>match ds[j]?,iM[j]? with|some x,some y=>bH x y|_,_=>true) h1 h2 iI (fun e=>?_) (fun j v v' u u' e1 e2 rv aZ=>?_) ?_
    ·subst e
     have:=xA I (cM (.tup ds)) (Nat.le_refl _) p p' r r'
     cases this
     exact jL ds pd
    ·obtain⟨x,f1,g1⟩:=aJ.get' q1 e1
     obtain⟨y,f2,g2⟩:=aJ.get' q2 e2
     simp only[f1,f2]
     have hx:=iK (List.mem_of_getElem? f1)
     simp only[cM]at hn
     exact(ih (by omega) (mB pd (List.mem_of_getElem? f1)) (mB pd' (List.mem_of_getElem? f2)) g1 rv g2 aZ (by simp only[Around.in1_units];omega)).2.1
    ·rw[<-q1.length,<-q2.length]
     exact tM _ fun j x y e1 e2=>by simp only[e1,e2]
end
end L3
end
section
namespace L3
open PySem PySem.Spec PyProof.Rows L2 PySem.SeqAt
noncomputable def oU (st:aA):D->Option (List D)
 |.ref a=>match st a with
  |some (.lst xs)=>some xs
  |_=>none
 |.bF xs=>some xs
 |_=>none
theorem kinds {st:aA}{d:D}(p:fJ st d=true):mW d=true∨(∃ ds,d=.tup ds/\fY st ds=true)∨∃ xs,oU st d=some xs/\bQ xs=true/\cK xs<=kS:=by
 cases d with
 |tup ds=>exact .inr (.inl ⟨ds,rfl,by simpa [fJ]using p⟩)
 |ref a =>
  simp only[fJ]at p
  cases q:st a with
  |none=>rw[q]at p;cases p
  |some o=>cases o with
   |lst xs =>
    rw[q]at p
    simp only[N1,Bool.and_eq_true,decide_eq_true_eq]at p
    exact .inr (.inr ⟨xs,by simp [oU,q],p⟩)
   |dic _ _=>rw[q]at p;cases p
   |ins _ _=>rw[q]at p;cases p
   |tab _ _=>rw[q]at p;cases p
   |fn _ _=>rw[q]at p;cases p
   |cod _=>rw[q]at p;cases p
 |bF xs =>
  simp only[fJ,Bool.and_eq_true,decide_eq_true_eq]at p
  exact .inr (.inr ⟨xs,rfl,p⟩)
 |cO _ _=>cases p
 |exc _=>cases p
 |_=>exact .inl rfl
theorem AM {st:aA}{d d':D}{xs ys:List D}(h:oU st d=some xs)(h':oU st d'=some ys):bM st d d'=gI xs ys:=by
 cases d with
 |ref a =>
  simp only[oU]at h
  split at h
  ·rename_i zs e
   cases h
   cases d' with
   |ref b =>
    simp only[oU]at h'
    split at h'
    ·rename_i ws e'
     cases h'
     simp only[bM,e,e',AA]
    ·cases h'
   |bF ws=>cases h';simp only[bM,e,AA]
   |_=>cases h'
  ·cases h
 |bF zs =>
  cases h
  cases d' with
  |ref b =>
   simp only[oU]at h'
   split at h'
   ·rename_i ws e'
    cases h'
    simp only[bM,e',AA]
   ·cases h'
  |bF ws=>cases h';simp only[bM]
  |_=>cases h'
 |_=>cases h
theorem AH {st:aA}{d d':D}{xs:List D}(h:oU st d=some xs)(p:mW d'=true):bM st d d'=false/\bM st d' d=false:=by
 cases d<;>first|(cases h;done)|skip
 all_goals (cases d'<;>first|(cases p;done)|exact⟨rfl,rfl⟩|(simp [bM];done))
theorem G9 {st:aA}{d:D}{ds xs:List D}(h:oU st d=some xs):bM st d (.tup ds)=false/\bM st (.tup ds) d=false:=by
 cases d<;>first|(cases h;done)|exact⟨rfl,rfl⟩|(simp [bM];done)
theorem A1 {st:aA}{d d':D}(p:mW d=true)(p':mW d'=true):bM st d d'=bH d d':=by
 cases d<;>first|(cases p;done)|skip
 all_goals (cases d'<;>first|(cases p';done)|rfl|(simp [bM,bH];done))
theorem E6 {st:aA}{d:D}{ds:List D}(p:mW d=true):bM st d (.tup ds)=false/\bM st (.tup ds) d=false:=by
 cases d<;>first|(cases p;done)|exact⟨rfl,rfl⟩|(simp [bM];done)
theorem fO {st:aA}:∀{ds:List D}{d:D},fY st ds=true->d∈ds->fJ st d=true
 |e::ds,d,h,m=>by
  simp only[fY,Bool.and_eq_true]at h
  rcases List.mem_cons.mp m with rfl|m
  ·exact h.1
  ·exact fO h.2 m
theorem GR {st:aA}:∀{ds es:List D}(e:Nat->Bool),(∀ j d d',ds[j]? = some d->es[j]? = some d'->e j=bM st d d')->((List.range (min ds.length es.length)).all e&&ds.length==es.length)=iO st ds es
 |[],[],e,h=>by simp [iO]
 |[],_::_,e,h=>by simp [iO]
 |_::_,[],e,h=>by simp [iO]
 |d::ds,d'::es,e,h=>by
  have ih:=GR (fun j=>e (j+1)) fun j x x' e1 e2=>h (j+1) x x' (by simpa using e1) (by simpa using e2)
  have h0:=h 0 d d' rfl rfl
  simp only[iO,List.length_cons,Nat.add_min_add_right,List.range_succ_eq_map,List.all_cons,List.all_map,Function.comp_def]
  rw[<-ih,h0]
  have hl:(ds.length+1==es.length+1)=(ds.length==es.length):=by simp
  rw[hl,Bool.and_assoc]
section
variable {X:Cx}{pins:List (Addr×Obj)}{σ:L2.St}{H:Hp}{s:Shared}{st:aA}
theorem fG {K:PySem.W.Frag}{d:D}{v:V}{xs:List D}(ok:aQ K st H)(h:oU st d=some xs)(r:Rep K H d v):∃ a vs,v=.ref a/\dU K H a vs/\aJ K H xs vs:=by
 cases r with
 |ref a =>
 simp only[oU]at h
 split at h
 ·rename_i zs e
  cases h
  obtain⟨vs,g,q⟩:=ok.lst e
  exact⟨a,vs,rfl,dU.of g,q⟩
 ·cases h
 |bF f q=>cases h;exact⟨_,_,rfl,f.sq,q⟩
 |_=>cases h
theorem pF (I:Inv X pins σ H s):∀{ds es:List D}{vs:List V},bQ ds=true->bQ es=true->aJ X.K H ds vs->aJ X.K H es vs->ds=es
 |_,_,_,_,_,.nil,.nil=>rfl
 |_,_,_,p,p',.cons h r,.cons h' r'=>by
  simp only[bQ,Bool.and_eq_true]at p p'
  rw[xA I _ (Nat.le_refl _) p.1 p'.1 h h',pF I p.2 p'.2 r r']
theorem CJ (I:Inv X pins σ H s){a:Addr}{vs us:List V}(h:dU X.K H a vs)(h':dS X.K H a us):False:=by
 obtain⟨aD,_,p1,_⟩:=I.list h
 obtain⟨jts,_,p2,_⟩:=I.tuple h'
 exact ne_of_list_tuple p1.isList p2 rfl
theorem UN (I:Inv X pins σ H s)(ok:aQ X.K st H):∀(n:Nat){d d':D}{v:V},cM d<=n->fJ st d=true->fJ st d'=true->Rep X.K H d v->Rep X.K H d' v->bM st d d'=true:=by
 intro n
 induction n with
 |zero =>
  intro d d' v hn p p' r r'
  rcases kinds p with q|⟨ds,rfl,q⟩|⟨xs,q,q1,q2⟩
  ·rcases kinds p' with q'|⟨iM,rfl,q'⟩|⟨ys,q',q1',q2'⟩
   ·rw[A1 q q']
    have pd:bS d=true:=by cases d<;>first|rfl|cases q
    have pd':bS d'=true:=by cases d'<;>first|rfl|cases q'
    rw[xA I _ (Nat.le_refl _) pd pd' r r']
    exact tV d' pd'
   ·obtain⟨a,vs,rfl,_⟩:=r'.bK
    cases r<;>cases q
   ·obtain⟨a,vs,rfl,_⟩:=fG ok q' r'
    cases r<;>cases q
  ·simp only[cM]at hn;omega
  ·obtain⟨a,vs,rfl,f1,g1⟩:=fG ok q r
   rcases kinds p' with q'|⟨iM,rfl,q'⟩|⟨ys,q',q1',q2'⟩
   ·cases r'<;>cases q'
   ·obtain⟨b,us,e,f2,g2⟩:=r'.bK
    cases e
    exact(CJ I f1 f2).elim
   ·obtain⟨b,us,e,f2,g2⟩:=fG ok q' r'
    cases e
    cases I.pG f1 f2
    rw[AM q q',pF I q1 q1' g1 g2]
    exact jL _ q1'
 |succ n ih =>
  intro d d' v hn p p' r r'
  rcases kinds p with q|⟨ds,rfl,q⟩|⟨xs,q,q1,q2⟩
  ·rcases kinds p' with q'|⟨iM,rfl,q'⟩|⟨ys,q',q1',q2'⟩
   ·rw[A1 q q']
    have pd:bS d=true:=by cases d<;>first|rfl|cases q
    have pd':bS d'=true:=by cases d'<;>first|rfl|cases q'
    rw[xA I _ (Nat.le_refl _) pd pd' r r']
    exact tV d' pd'
   ·obtain⟨a,vs,rfl,_⟩:=r'.bK
    cases r<;>cases q
   ·obtain⟨a,vs,rfl,_⟩:=fG ok q' r'
    cases r<;>cases q
  ·obtain⟨a,vs,rfl,f1,g1⟩:=r.bK
   rcases kinds p' with q'|⟨iM,rfl,q'⟩|⟨ys,q',q1',q2'⟩
   ·cases r'<;>cases q'
   ·obtain⟨b,us,e,f2,g2⟩:=r'.bK
    cases e
    cases I.qU f1 f2
    simp only[cM]at hn
    have go:∀(ds es:List D)(vs:List V),cK ds<=n->fY st ds=true->fY st es=true->aJ X.K H ds vs->aJ X.K H es vs->iO st ds es=true:=by
     intro ds
     induction ds with
     |nil=>intro es vs _ _ _ r r';cases r;cases r';rfl
     |cons d ds ihs =>
      intro es vs hd pp pp' r r'
      cases r with
      |cons r1 r2=>cases r' with
       |cons r1' r2' =>
        simp only[cK]at hd
        simp only[fY,Bool.and_eq_true]at pp pp'
        simp only[iO,Bool.and_eq_true]
        exact⟨ih (by omega) pp.1 pp'.1 r1 r1',ihs _ _ (by omega) pp.2 pp'.2 r2 r2'⟩
    simp only[bM]
    exact go ds iM vs (by omega) q q' g1 g2
   ·obtain⟨b,us,e,f2,g2⟩:=fG ok q' r'
    cases e
    exact(CJ I f2 f1).elim
  ·obtain⟨a,vs,rfl,f1,g1⟩:=fG ok q r
   rcases kinds p' with q'|⟨iM,rfl,q'⟩|⟨ys,q',q1',q2'⟩
   ·cases r'<;>cases q'
   ·obtain⟨b,us,e,f2,g2⟩:=r'.bK
    cases e
    exact(CJ I f1 f2).elim
   ·obtain⟨b,us,e,f2,g2⟩:=fG ok q' r'
    cases e
    cases I.pG f1 f2
    rw[AM q q',pF I q1 q1' g1 g2]
    exact jL _ q1'
theorem mS {A:Around}{l b:Addr}{aD jts:Array Value}(hl:s.heap.IsList l aD)(hb:s.heap.IsTuple b jts)(hu:A.units<cLine):uG A s (.ref l) (.ref b) false/\uG A s (.ref b) (.ref l) false :=
 ⟨⟨RcAt.list_tuple hl hb hu,EqAt.list_tuple hl hb hu,RcNeAt.list_tuple hl hb hu⟩,⟨RcAt.tuple_list hb hl hu,EqAt.tuple_list hb hl hu,RcNeAt.tuple_list hb hl hu⟩⟩
theorem M5 (I:Inv X pins σ H s){A:Around}{a b:Addr}{vs us:List V}{xs ys:List D}(f1:dU X.K H a vs)(g1:aJ X.K H xs vs)(f2:dU X.K H b us)(g2:aJ X.K H ys us)(p1:bQ xs=true)(d1:cK xs<=kS)(p2:bQ ys=true)
  (hu:A.units+85<cLine):uG A s (.ref a) (.ref b) (gI xs ys):=by
 refine PY I (fun j=>match xs[j]?,ys[j]? with|some x,some y=>bH x y|_,_=>true) f1 f2 (by omega) (fun e=>?_) (fun j v v' u u' e1 e2 rv aZ=>?_) (fun h=>?_) (fun h=>?_)
 ·subst e
  cases I.pG f1 f2
  rw[pF I p1 p2 g1 g2]
  exact jL _ p2
 ·obtain⟨x,h1,k1⟩:=aJ.get' g1 e1
  obtain⟨y,h2,k2⟩:=aJ.get' g2 e2
  simp only[h1,h2]
  have hx:=iK (List.mem_of_getElem? h1)
  have hD:kS=80:=rfl
  exact(Ks I kS (by omega) (mB p1 (List.mem_of_getElem? h1)) (mB p2 (List.mem_of_getElem? h2)) k1 rv k2 aZ (by simp only[Around.in1_units];omega)).2.1
 ·exact HE (by rw[g1.length,g2.length];exact h)
 ·rw[<-g1.length]
  exact MG _ (by rw[g1.length,g2.length];exact h) fun j x y e1 e2=>by simp only[e1,e2]
theorem LM (I:Inv X pins σ H s)(ok:aQ X.K st H):∀(n:Nat){d d':D}{A:Around}{v v':V}{u u':Value},cM d<=n->fJ st d=true->fJ st d'=true->Rep X.K H d v->RelV v u->Rep X.K H d' v'->RelV v' u'->A.units+n+85<cLine ->
  uG A s u u' (bM st d d'):=by
 intro n
 induction n with
 |zero =>
  intro d d' A v v' u u' hn p p' r rv r' aZ hu
  have iI:A.units<cLine:=by omega
  rcases kinds p with q|⟨ds,rfl,q⟩|⟨xs,q,q1,q2⟩
  ·rcases kinds p' with q'|⟨iM,rfl,q'⟩|⟨ys,q',q1',q2'⟩
   ·rw[A1 q q'];exact sT q q' r rv r' aZ
   ·obtain⟨b,us,rfl,h2,g2⟩:=r'.bK
    cases aZ
    obtain⟨aD,r1,p1,_⟩:=I.tuple h2
    rw[(E6 q).1]
    exact(fQ p1 iI q r rv).2
   ·obtain⟨b,us,rfl,h2,g2⟩:=fG ok q' r'
    cases aZ
    obtain⟨aD,r1,p1,_⟩:=I.list h2
    rw[(AH q' q).2]
    exact(kP p1.isList iI q r rv).2
  ·simp only[cM]at hn;omega
  ·obtain⟨a,vs,rfl,f1,g1⟩:=fG ok q r
   cases rv
   obtain⟨aD,r1,p1,_⟩:=I.list f1
   rcases kinds p' with q'|⟨iM,rfl,q'⟩|⟨ys,q',q1',q2'⟩
   ·rw[(AH q q').1]
    exact(kP p1.isList iI q' r' aZ).1
   ·obtain⟨b,us,rfl,h2,g2⟩:=r'.bK
    cases aZ
    obtain⟨jts,r2,p2,_⟩:=I.tuple h2
    rw[(G9 q).1]
    exact(mS p1.isList p2 iI).1
   ·obtain⟨b,us,rfl,h2,g2⟩:=fG ok q' r'
    cases aZ
    rw[AM q q']
    exact M5 I f1 g1 h2 g2 q1 q2 q1' (by omega)
 |succ n ih =>
  intro d d' A v v' u u' hn p p' r rv r' aZ hu
  have iI:A.units<cLine:=by omega
  rcases kinds p with q|⟨ds,rfl,q⟩|⟨xs,q,q1,q2⟩
  ·rcases kinds p' with q'|⟨iM,rfl,q'⟩|⟨ys,q',q1',q2'⟩
   ·rw[A1 q q'];exact sT q q' r rv r' aZ
   ·obtain⟨b,us,rfl,h2,g2⟩:=r'.bK
    cases aZ
    obtain⟨aD,r1,p1,_⟩:=I.tuple h2
    rw[(E6 q).1]
    exact(fQ p1 iI q r rv).2
   ·obtain⟨b,us,rfl,h2,g2⟩:=fG ok q' r'
    cases aZ
    obtain⟨aD,r1,p1,_⟩:=I.list h2
    rw[(AH q' q).2]
    exact(kP p1.isList iI q r rv).2
  ·obtain⟨a,vs,rfl,f1,g1⟩:=r.bK
   cases rv
   obtain⟨aD,r1,p1,_⟩:=I.tuple f1
   rcases kinds p' with q'|⟨iM,rfl,q'⟩|⟨ys,q',q1',q2'⟩
   ·rw[(E6 q').2]
    exact(fQ p1 iI q' r' aZ).1
   ·obtain⟨b,us,rfl,h2,g2⟩:=r'.bK
    cases aZ
    have e0:bM st (.tup ds) (.tup iM)=iO st ds iM:=by simp only[bM]
    refine HM I (fun j=>match ds[j]?,iM[j]? with|some x,some y=>bM st x y|_,_=>true) f1 h2 iI (fun e=>?_) (fun j v v' u u' e1 e2 rv aZ=>?_) ?_
    ·subst e
     exact UN I ok _ (Nat.le_refl _) p p' r r'
    ·obtain⟨x,k1,l1⟩:=aJ.get' g1 e1
     obtain⟨y,k2,l2⟩:=aJ.get' g2 e2
     simp only[k1,k2]
     have hx:=iK (List.mem_of_getElem? k1)
     simp only[cM]at hn
     exact(ih (by omega) (fO q (List.mem_of_getElem? k1)) (fO q' (List.mem_of_getElem? k2)) l1 rv l2 aZ (by simp only[Around.in1_units];omega)).2.1
    ·rw[<-g1.length,<-g2.length,e0]
     exact GR _ fun j x y e1 e2=>by simp only[e1,e2]
   ·obtain⟨b,us,rfl,h2,g2⟩:=fG ok q' r'
    cases aZ
    obtain⟨jts,r2,p2,_⟩:=I.list h2
    rw[(G9 q').2]
    exact(mS p2.isList p1 iI).2
  ·obtain⟨a,vs,rfl,f1,g1⟩:=fG ok q r
   cases rv
   obtain⟨aD,r1,p1,_⟩:=I.list f1
   rcases kinds p' with q'|⟨iM,rfl,q'⟩|⟨ys,q',q1',q2'⟩
   ·rw[(AH q q').1]
    exact(kP p1.isList iI q' r' aZ).1
   ·obtain⟨b,us,rfl,h2,g2⟩:=r'.bK
    cases aZ
    obtain⟨jts,r2,p2,_⟩:=I.tuple h2
    rw[(G9 q).1]
    exact(mS p1.isList p2 iI).1
   ·obtain⟨b,us,rfl,h2,g2⟩:=fG ok q' r'
    cases aZ
    rw[AM q q']
    exact M5 I f1 g1 h2 g2 q1 q2 q1' (by omega)
end
end L3
end
section
namespace L3
open PySem PySem.Spec PyProof.Rows L2 PySem.SeqAt
mutual
inductive iL (h:Heap):D->Value->Prop where
 |str (x:List Nat)(t:Tok):iL h (.str x) (.str ⟨x.toArray⟩ t)
 |bl (b:Bool):iL h (.bl b) (.bool b)
 |tup {ds:List D}{a:Addr}{o:Obj}{aD:Array Value}{n:Nat}(e:h.get? a=some o)(c:o.cls=.type "tuple")(d:o.data=.seq aD n)(r:fH h ds aD.toList):iL h (.tup ds) (.ref a)
inductive fH (h:Heap):List D->List Value->Prop where
 |nil:fH h [] []
 |cons {d:D}{ds:List D}{v:Value}{vs:List Value}(r:iL h d v)(rs:fH h ds vs):fH h (d::ds) (v::vs)
end
section
variable {h h':Heap}
theorem iL.str_inv {d:D}{x:Str}{t:Tok}(q:iL h d (.str x t)):∃ y,d=.str y/\x=⟨y.toArray⟩:=by
 cases q;exact⟨_,rfl,rfl⟩
theorem iL.eM {d:D}{b:Bool}(q:iL h d (.bool b)):d=.bl b:=by
 cases q;rfl
theorem iL.cB {d:D}{a:Addr}(q:iL h d (.ref a)):∃ ds o aD n,d=.tup ds/\h.get? a=some o/\o.cls=.type "tuple" /\ o.data=.seq aD n/\fH h ds aD.toList:=by
 cases q with|tup e c d r=>exact⟨_,_,_,_,rfl,e,c,d,r⟩
mutual
theorem iL.inj:∀{x y:D}{v:Value},iL h x v->iL h y v->x=y
 |_,y,_,.str x t,q=>by
  obtain⟨z,rfl,e⟩:=q.str_inv
  have:x.toArray=z.toArray:=congrArg Str.cps e
  have:x=z:=by simpa using this
  rw[this]
 |_,y,_,.bl b,q=>q.eM.symm
 |_,y,_,.tup e c d r,q=>by
  obtain⟨ds,o,aD,n,rfl,e',c',d',r'⟩:=q.cB
  rw[e]at e';cases e'
  rw[d]at d'
  injection d' with d1 d2
  subst d1
  rw[fH.inj r r']
theorem fH.inj:∀{xs ys:List D}{vs:List Value},fH h xs vs->fH h ys vs->xs=ys
 |_,_,_,.nil,q=>by cases q;rfl
 |_,_,_,.cons r rs,q=>by cases q with|cons r' rs'=>rw[iL.inj r r',fH.inj rs rs']
end
mutual
theorem iL.keeps {b:Addr}{ob:Obj}{es:Array DictEntry}{ep:Nat}(ho:h.get? b=some ob)(hd:ob.data=.dict es ep)(hs:Heap.SameBut b h h'):∀{x:D}{v:Value},iL h x v->iL h' x v
 |_,_,.str x t=>.str x t
 |_,_,.bl b=>.bl b
 |_,_,@iL.tup _ ds a o aD n e c d r=>.tup (by
  have ne:a≠b:=by
   intro z
   rw[z,ho]at e;cases e
   rw[hd]at d;cases d
  exact(hs.2 a ne).trans e) c d (fH.keeps ho hd hs r)
theorem fH.keeps {b:Addr}{ob:Obj}{es:Array DictEntry}{ep:Nat}(ho:h.get? b=some ob)(hd:ob.data=.dict es ep)(hs:Heap.SameBut b h h'):∀{xs:List D}{vs:List Value},fH h xs vs->fH h' xs vs
 |_,_,.nil=>.nil
 |_,_,.cons r rs=>.cons (iL.keeps ho hd hs r) (fH.keeps ho hd hs rs)
end
theorem fH.length:∀{xs:List D}{vs:List Value},fH h xs vs->xs.length=vs.length
 |_,_,.nil=>rfl
 |_,_,.cons _ rs=>by simp [fH.length rs]
theorem fH.get:∀{xs:List D}{vs:List Value}{j:Nat}{v:Value},fH h xs vs->vs[j]? = some v->∃ x,xs[j]? = some x/\iL h x v
 |_,_,_,_,.nil,e=>by simp at e
 |_,_,0,_,.cons r _,e=>by simp at e;subst e;exact⟨_,rfl,r⟩
 |_,_,j+1,v,.cons _ rs,e=>by
  obtain⟨x,e1,e2⟩:=fH.get (j:=j) (v:=v) rs (by simpa using e)
  exact⟨x,by simpa using e1,e2⟩
end
theorem tZ (w:World):∀ a b:List D,fW w (a++b)=fW w a++fW w b
 |[],b=>by simp [fW]
 |d::a,b=>by simp [fW,tZ w a b]
theorem uK:∀ a b:List D,iY (a++b)=iY a+iY b
 |[],b=>by simp [iY]
 |d::a,b=>by simp [iY,uK a b,Nat.add_assoc]
theorem IV {prog:Program}{w:World}{b:Bool}{A:Around}{E:Value->Shared->Prop}{s:Shared}{Q:Int->Shared->Prop}(hu:A.units<cLine)(h:Q (oO w (.bl b)) { s with toks:=s.toks+qQ (.bl b) }):wpAny (model prog w) A (pyHash (.bool b)) Q E s:=by
 refine PySem.W.pyHash_slot (T :="bool") rfl PySem.F.slot_bool_hash PySem.F.entry_int_hash (PySem.F.args_int_hash_1 _) (beq_builtin_none _) (.inr hu) ?_
 cases b
 ·exact(show wpAny _ _ (do ret (<-mkInt 0)) _ _ s from wpAny_bind (wpAny_mkInt (wpAny_pure ⟨_,_,rfl,h⟩)))
 ·exact(show wpAny _ _ (do ret (<-mkInt 1)) _ _ s from wpAny_bind (wpAny_mkInt (wpAny_pure ⟨_,_,rfl,h⟩)))
theorem VH {prog:Program}{w:World}:∀(n:Nat){d:D}{v:Value}{A:Around}{E:Value->Shared->Prop}{s:Shared}{Q:Int->Shared->Prop},cM d<=n->iL s.heap d v->A.units+n<cLine->Q (oO w d) { s with toks:=s.toks+qQ d } ->
  wpAny (model prog w) A (pyHash v) Q E s:=by
 intro n
 induction n with
 |zero =>
  intro d v A E s Q hn hk hu h
  cases hk with
  |str x t =>
   simp only[oO,qQ]at h
   exact(strKind prog w).pyHash (k:=⟨x.toArray⟩) (strKind_is _ _ _ _) h
  |bl b=>exact IV (by omega) h
  |tup e c dd r=>simp only[cM]at hn;omega
 |succ n ih =>
  intro d v A E s Q hn hk hu h
  cases hk with
  |str x t =>
   simp only[oO,qQ]at h
   exact(strKind prog w).pyHash (k:=⟨x.toArray⟩) (strKind_is _ _ _ _) h
  |bl b=>exact IV (by omega) h
  |@tup ds a o items m ho c hd hi =>
   have hT:s.TypeIs (.ref a) "tuple":=⟨o,ho,c⟩
   simp only[cM]at hn
   simp only[oO,qQ]at h
   unfold pyHash
   first|unfold pyHashByItsType|skip
   first|refine wpAny_bind (wpAny_cRoomFor_or (.inr (by omega)) ?_)|skip
   refine wpAny_bind (wpAny_specialOf hT PySem.F.slot_tuple_hash.lookup ?_)
   show wpAny _ _ (if(some (Value.builtin "tuple.__hash__")==some Value.none)=true then _ else _) Q E s
   rw[if_neg (by rw[beq_builtin_none];exact Bool.false_ne_true)]
   refine wpAny_bind (wpAny_specialOf hT PySem.F.slot_tuple_hash.lookup ?_)
   show wpAny _ _ (callSpecialIfBoundUnlessNone? (.ref a) "__hash__" _ >>= _) Q E s
   refine wpAny_bind (wpAny_callSpecialIfBoundUnlessNone?_slot hT PySem.F.slot_tuple_hash (wpAny_call_entry PySem.F.slot_tuple_hash hT PySem.F.entry_tuple_hash ?_ (PySem.F.args_tuple_hash_1 _)))
   show wpAny _ _ (Builtin.Tuple.tupleItemsOf (.ref a) >>= _) _ _ s
   refine wpAny_bind (wpAny_tupleItemsOf ho hd ?_)
   refine wpAny_bind ?_
   rw[<-Array.forIn_toList]
   refine wpAny_forIn_list _
    (fun rest (b:Array Int) s'=>∃ done left,ds=done++left/\fH s.heap left rest/\b.toList=fW w done/\s' = { s with toks:=s.toks+iY done })
    _ ?_ ?_ _ _ ⟨[],ds,rfl,hi,rfl,rfl⟩
   ·rintro x rest b s' ⟨done,left,e0,hl,hb,rfl⟩
    cases hl with
    |@cons k ks' _ _ h1 hl' =>
     have hdep:cM k<=cK ds:=iK (by rw[e0];simp)
     refine wpAny_bind (ih (s:={ s with toks:=s.toks+iY done }) (d:=k) (by omega) h1 (by simp only[Around.in1_units];omega) ?_)
     have e1:iY (done++[k])=iY done+qQ k:=by rw[uK];simp [iY]
     have e2:fW w (done++[k])=fW w done++[oO w k]:=by rw[tZ];simp [fW]
     first
      |exact wpAny_pure ⟨done++[k],ks',by simp [e0],hl',by simp [hb,e2],by simp [e1,Nat.add_assoc]⟩
      |exact wpAny_bind (wpAny_pure (wpAny_pure ⟨done++[k],ks',by simp [e0],hl',by simp [hb,e2],by simp [e1,Nat.add_assoc]⟩))
   ·rintro b s' ⟨done,left,e0,hl,hb,rfl⟩
    cases hl
    rw[List.append_nil]at e0
    subst e0
    show wpAny _ _ (retInt (Builtin.Tuple.tupleHashOf b.toList)) _ _ _
    rw[hb]
    refine wpAny_ret_mkInt ?_
    show wpAny _ _ (if(decide (-(2:Int) ^ 63<=Builtin.Tuple.tupleHashOf (fW w ds))&&decide (Builtin.Tuple.tupleHashOf (fW w ds)<2 ^ 63))=true then _ else _) Q E _
    unfold reduceHash at h
    by_cases hr:(decide (-(2:Int) ^ 63<=Builtin.Tuple.tupleHashOf (fW w ds))&&decide (Builtin.Tuple.tupleHashOf (fW w ds)<2 ^ 63))=true
    ·rw[if_pos hr]
     rw[if_pos hr]at h
     exact wpAny_pure (by simpa [Nat.add_assoc]using h)
    ·rw[if_neg hr]
     rw[if_neg hr]at h
     exact wpAny_bind (wpAny_rule (wpAny_pure (by simpa [Nat.add_assoc]using h)))
mutual
theorem ER:∀ d:D,iG d=true->bS d=true
 |.str _,_=>rfl
 |.tup ds,h=>by simp only[iG]at h;simp only[bS];exact vY ds h
 |.non,h=>by cases h
 |.bl _,_=>rfl
 |.int _,h=>by cases h
 |.ref _,h=>by cases h
 |.cO _ _,h=>by cases h
 |.bF _,h=>by cases h
 |.exc _,h=>by cases h
theorem vY:∀ ds:List D,iS ds=true->bQ ds=true
 |[],_=>rfl
 |d::ds,h=>by
  simp only[iS,Bool.and_eq_true]at h
  simp only[bQ,Bool.and_eq_true]
  exact⟨ER d h.1,vY ds h.2⟩
end
mutual
theorem OD:∀ x y:D,iG x=true->iG y=true->bH x y=true->x=y
 |.str a,y,_,_,e=>by
  cases y with
  |str b=>simp only[bH,beq_iff_eq]at e;rw[e]
  |_=>simp [bH]at e
 |.bl a,y,_,h',e=>by
  cases y with
  |bl b=>simp only[bH,beq_iff_eq]at e;rw[e]
  |int _=>cases h'
  |_=>simp [bH]at e
 |.tup as,y,h,h',e=>by
  cases y with
  |tup bs=>simp only[bH]at e;simp only[iG]at h h';rw[JU as bs h h' e]
  |_=>simp [bH]at e
 |.non,_,h,_,_=>by cases h
 |.int _,_,h,_,_=>by cases h
 |.ref _,_,h,_,_=>by cases h
 |.cO _ _,_,h,_,_=>by cases h
 |.bF _,_,h,_,_=>by cases h
 |.exc _,_,h,_,_=>by cases h
theorem JU:∀ xs ys:List D,iS xs=true->iS ys=true->gI xs ys=true->xs=ys
 |[],[],_,_,_=>rfl
 |[],_::_,_,_,e=>by cases e
 |_::_,[],_,_,e=>by cases e
 |x::xs,y::ys,h,h',e=>by
  simp only[gI,Bool.and_eq_true]at e
  simp only[iS,Bool.and_eq_true]at h h'
  rw[OD x y h.1 h'.1 e.1,JU xs ys h.2 h'.2 e.2]
end
noncomputable instance decD:DecidableEq D:=fun a b=>Classical.propDecidable (a=b)
theorem BM {x y:D}(h:iG x=true)(h':iG y=true):bH x y=decide (x=y):=by
 by_cases e:x=y
 ·subst e;rw[tV x (ER x h)];simp
 ·rw[decide_eq_false e]
  cases q:bH x y with
  |false=>rfl
  |true=>exact(e (OD x y h h' q)).elim
theorem Es:∀(n:Nat){x y:D}{u v:Value}{A:Around}{s:Shared},cM x<=n->iL s.heap x u->iL s.heap y v->iG x=true->A.units+n+2<cLine->EqAt A s u v (bH x y):=by
 intro n
 induction n with
 |zero =>
  intro x y u v A s hn hx hy ht hu
  have iI:A.units<cLine:=by omega
  cases hx with
  |str a t =>
   cases hy with
   |str b t' =>
    have e:bH (.str a) (.str b)=((⟨a.toArray⟩:Str)==⟨b.toArray⟩):=by rw[GN];simp only[bH]
    rw[e]
    exact EqAt.str_str _ _ _ _
   |tup e c d r =>
    simp only[bH]
    exact EqAt.str_tuple _ _ (show s.heap.IsTuple _ _ from⟨_,e,c,_,d⟩) iI
   |bl b =>
    simp only[bH]
    exact EqAt.str_bool _ _ _
  |bl a =>
   cases hy with
   |str b t' =>
    simp only[bH]
    exact EqAt.bool_str _ _ _
   |bl b=>exact EqAt.bool_bool _ _
   |tup e c d r =>
    simp only[bH]
    exact EqAt.bool_tuple _ (show s.heap.IsTuple _ _ from⟨_,e,c,_,d⟩) iI
  |tup e c d r=>simp only[cM]at hn;omega
 |succ n ih =>
  intro x y u v A s hn hx hy ht hu
  have iI:A.units<cLine:=by omega
  cases hx with
  |str a t =>
   cases hy with
   |str b t' =>
    have e:bH (.str a) (.str b)=((⟨a.toArray⟩:Str)==⟨b.toArray⟩):=by rw[GN];simp only[bH]
    rw[e]
    exact EqAt.str_str _ _ _ _
   |tup e c d r =>
    simp only[bH]
    exact EqAt.str_tuple _ _ (show s.heap.IsTuple _ _ from⟨_,e,c,_,d⟩) iI
   |bl b =>
    simp only[bH]
    exact EqAt.str_bool _ _ _
  |bl a =>
   cases hy with
   |str b t' =>
    simp only[bH]
    exact EqAt.bool_str _ _ _
   |bl b=>exact EqAt.bool_bool _ _
   |tup e c d r =>
    simp only[bH]
    exact EqAt.bool_tuple _ (show s.heap.IsTuple _ _ from⟨_,e,c,_,d⟩) iI
  |@tup ds a o aD m e c d r =>
   have hp1:s.heap.IsTuple a aD:=⟨_,e,c,_,d⟩
   cases hy with
   |str b t' =>
    simp only[bH]
    exact EqAt.tuple_str _ _ hp1 iI
   |bl b =>
    simp only[bH]
    exact EqAt.tuple_bool _ hp1 iI
   |@tup es b o' jts m' e' c' d' r' =>
    have jX:s.heap.IsTuple b jts:=⟨_,e',c',_,d'⟩
    have e0:bH (.tup ds) (.tup es)=gI ds es:=by simp only[bH]
    rw[e0]
    have hts:iS ds=true:=by simpa [iG]using ht
    by_cases q:a=b
    ·subst q
     rw[e]at e';cases e'
     rw[d]at d';injection d' with d1 d2;subst d1
     rw[fH.inj r r',jL es (vY es (by rw[<-fH.inj r r'];exact hts))]
     exact EqAt.same _
    ·refine EqAt.of_refs q ?_
     have l1:aD.size=ds.length:=by rw[<-Array.length_toList];exact r.length.symm
     have l2:jts.size=es.length:=by rw[<-Array.length_toList];exact r'.length.symm
     have:=RcAt.tuples (e:=fun j=>match ds[j]?,es[j]? with|some x,some y=>bH x y|_,_=>true) hp1 jX iI (fun j h1 h2=>by
      obtain⟨x,f1,g1⟩:=r.get (j:=j) (v:=aD[j]) (by simp [h1])
      obtain⟨y,f2,g2⟩:=r'.get (j:=j) (v:=jts[j]) (by simp [h2])
      simp only[f1,f2]
      have hx:=iK (List.mem_of_getElem? f1)
      simp only[cM]at hn
      have htx:iG x=true:=by
       have:∀(l:List D)(x:D),iS l=true->x∈l->iG x=true:=by
        intro l
        induction l with
        |nil=>intro x _ hm;cases hm
        |cons z l ihl =>
         intro x hh hm
         simp only[iS,Bool.and_eq_true]at hh
         rcases List.mem_cons.mp hm with rfl|hm
         ·exact hh.1
         ·exact ihl x hh.2 hm
       exact this ds x hts (List.mem_of_getElem? f1)
      exact ih (by omega) g1 g2 htx (by simp only[Around.in1_units];omega))
     rw[l1,l2,tM _ fun j x y e1 e2=>by simp only[e1,e2]]at this
     exact this
theorem Q7 {prog:Program}{w:World}:∀(n:Nat){d:D}{v:Value}{A:Around}{E:Value->Shared->Prop}{s:Shared}{Q:Bool->Shared->Prop},cM d<=n->iL s.heap d v->Q true s->wpAny (model prog w) A (eqIsQuiet n v) Q E s:=by
 intro n
 induction n with
 |zero =>
  intro d v A E s Q hn hk h
  cases hk with
  |str x t=>rw[eqIsQuiet_byValue _ rfl];exact wpAny_pure h
  |bl b=>rw[eqIsQuiet_byValue _ rfl];exact wpAny_pure h
  |tup e c dd r=>simp only[cM]at hn;omega
 |succ n ih =>
  intro d v A E s Q hn hk h
  cases hk with
  |str x t=>rw[eqIsQuiet_byValue _ rfl];exact wpAny_pure h
  |bl b=>rw[eqIsQuiet_byValue _ rfl];exact wpAny_pure h
  |@tup ds a o items m ho c hd hi =>
   have hT:s.TypeIs (.ref a) "tuple":=⟨o,ho,c⟩
   simp only[cM]at hn
   unfold eqIsQuiet
   refine wpAny_bind (wpAny_specialOf hT PySem.F.slot_tuple_eq.lookup ?_)
   show wpAny _ _ (isInstance (.ref a) (.type "tuple") >>= _) _ _ s
   refine wpAny_bind (wpAny_isInstance hT isSubtype_tuple_tuple ?_)
   simp only[Bool.not_true,Bool.false_eq_true,if_false]
   refine wpAny_bind (wpAny_seqItems ho hd ?_)
   refine wpAny_bind ?_
   show wpAny _ _ (forIn items _ _) _ _ s
   rw[<-Array.forIn_toList]
   refine wpAny_forIn_list _ (fun rest r s'=>r.1=none/\s'=s/\∃ ks,fH s.heap ks rest/\cK ks<=n) _ ?_ ?_ _ _ ⟨rfl,rfl,ds,hi,by omega⟩
   ·rintro v rest r s' ⟨hr,rfl,ks,hks,hdep⟩
    cases hks with
    |@cons k ks' _ _ h1 h2 =>
     simp only[cK]at hdep
     refine wpAny_bind (ih (d:=k) (by omega) h1 ?_)
     simp only[Bool.not_true,Bool.false_eq_true,if_false]
     exact wpAny_pure ⟨rfl,rfl,ks',h2,by omega⟩
   ·rintro⟨r1,r2⟩ s' ⟨hr,rfl,_⟩
    simp only at hr
    subst hr
    exact wpAny_pure h
theorem keyed.aR {d:D}(h:keyed d):cM d<=8:=by
 cases d with
 |tup ds=>have:=h.2;simp only[cM];omega
 |_=>exact h.elim
theorem keyed.txt {d:D}(h:keyed d):iG d=true:=by
 cases d with
 |tup ds=>simp only[iG];exact h.1
 |_=>exact h.elim
noncomputable def xU (prog:Program)(w:World):HeapKind prog w D where
 is:=fun h d a=>keyed d/\iL h d (.ref a)
 hash:=oO w
 draws:=qQ
 room:=fun A=>A.units+12<cLine
 inj:=fun hx hy=>hx.2.inj hy.2
 keeps:=fun x ho hd hs=>⟨x.1,x.2.keeps ho hd hs⟩
 pyHash:=fun hu hk h=>VH 8 hk.1.aR hk.2 (by omega) h
 eqBool:=fun{A E s x y a b Q} hu hx hy h=>by
  have:=Es 8 hx.1.aR hx.2 hy.2 hx.1.txt (A:=A) (by omega) prog w E Q
  rw[BM hx.1.txt hy.1.txt]at this
  exact this h
 quiet:=fun hk h=>Q7 8 hk.1.aR hk.2 h
end L3
end
section
namespace L3
open PySem PySem.Spec PyProof.Rows L2 PySem.SeqAt
noncomputable def mU (X:Cx)(op:CmpOp)(W:D->D->aA->(Bool->Prop)->Prop):Prop :=
 ∀(pins:List (Addr×Obj))(s:Shared)(σ:L2.St)(H:Hp)(st:aA)(d d':D)(v v':V)(u u':Value)(P:Bool->Prop),Inv X pins σ H s->aQ X.K st H->Rep X.K H d v->RelV v u->Rep X.K H d' v'->RelV v' u'->W d d' st P ->
 wpAny (model X.prog X.w) X.A (compareOp op u u') (fun r s'=>∃ k,r=.bool k/\P k/\Inv X pins σ H s') X.xe s
theorem AL (w:List Nat):∀ z:List Nat,occurs w z=true↔∃ i,i+w.length<=z.length/\(z.drop i).take w.length=w
 |[]=>by
  unfold occurs
  constructor
  ·intro h;rw[List.isEmpty_iff]at h;subst h;exact⟨0,by simp,by simp⟩
  ·rintro⟨i,h,_⟩;rw[List.isEmpty_iff];exact List.length_eq_zero_iff.mp (by simp only[List.length_nil]at h;omega)
 |c::r=>by
  unfold occurs
  rw[Bool.or_eq_true,AL w r,List.isPrefixOf_iff_prefix]
  constructor
  ·rintro(h|⟨i,h1,h2⟩)
   ·exact⟨0,by have:=h.length_le;omega,by rw[List.drop_zero];exact(List.prefix_iff_eq_take.mp h).symm⟩
   ·exact⟨i+1,by simp;omega,by simpa using h2⟩
  ·rintro⟨i,h1,h2⟩
   cases i with
   |zero=>exact .inl (by rw[List.drop_zero]at h2;rw[List.prefix_iff_eq_take];exact h2.symm)
   |succ i=>exact .inr ⟨i,by simp at h1;omega,by simpa using h2⟩
theorem DF (w z:List Nat):(!(Builtin.Str.occurrences ⟨z.toArray⟩ ⟨w.toArray⟩ 0 (⟨z.toArray⟩:Str).length 1).isEmpty)=occurs w z:=by
 rw[Bool.eq_iff_iff,PySem.StrLaws.found_iff,AL]
 refine⟨fun⟨i,h1,h2⟩=>⟨i,by simpa [Str.length]using h1,?_⟩,fun⟨i,h1,h2⟩=>⟨i,by simpa [Str.length]using h1,?_⟩⟩
 ·unfold Builtin.Str.subAt at h2
  have:=eq_of_beq h2
  simp only[Str.length,List.size_toArray]at this
  have e:=congrArg Array.toList this
  simp only[Array.toList_extract,List.extract_eq_take_drop,Nat.add_sub_cancel_left]at e
  exact e
 ·unfold Builtin.Str.subAt
  rw[beq_iff_eq]
  simp only[Str.length,List.size_toArray]
  apply Array.toList_inj.mp
  simp only[Array.toList_extract,List.extract_eq_take_drop,Nat.add_sub_cancel_left]
  exact h2
section
variable {X:Cx}{C:aX}{sub:Nat->Nat->Bool}{E:XK}{a b c e:Expr}{x y z:Ex}{pos:Pos}
theorem Il (hu:X.A.units+180<cLine):mU X .Eq (cW .eq):=by
 intro pins s σ H st d d' v v' u u' P I ok r rv r' aZ ⟨p,p',q⟩
 have hD:kS=80:=rfl
 exact(LM I ok 80 (by have:=p.2;omega) p.1 p'.1 r rv r' aZ (by omega)).1 _ _ _ _ ⟨_,rfl,q,I⟩
theorem Hq (hu:X.A.units+180<cLine):mU X .NotEq (cW .ne):=by
 intro pins s σ H st d d' v v' u u' P I ok r rv r' aZ ⟨p,p',q⟩
 have hD:kS=80:=rfl
 exact(LM I ok 80 (by have:=p.2;omega) p.1 p'.1 r rv r' aZ (by omega)).2.2 _ _ _ _ ⟨_,rfl,q,I⟩
theorem EM {op:CmpOp}{o:oY}{f:Int->Int->Bool}(hW:∀ d d' st P,cW o d d' st P=sV f d d' P)
  (rule:∀(i j:Int)(t u:Tok)(Q:Value->Shared->Prop)(s:Shared),Q (.bool (f i j)) s->wpAny (model X.prog X.w) X.A (compareOp op (.int i t) (.int j u)) Q X.xe s):mU X op (cW o):=by
 intro pins s σ H st d d' v v' u u' P I ok r rv r' aZ q
 rw[hW]at q
 unfold sV at q
 split at q
 ·cases r.int_inv;cases r'.int_inv
  obtain⟨t,rfl⟩:=rv
  obtain⟨t',rfl⟩:=aZ
  exact rule _ _ _ _ _ _ ⟨_,rfl,q,I⟩
 ·exact q.elim
theorem Gp:mU X .Lt (cW .lt):=EM (fun _ _ _ _=>rfl) fun _ _ _ _ _ _ h=>lt_int h
theorem Iu:mU X .LtE (cW .le):=EM (fun _ _ _ _=>rfl) fun _ _ _ _ _ _ h=>le_int h
theorem Hn:mU X .Gt (cW .gt):=EM (fun _ _ _ _=>rfl) fun _ _ _ _ _ _ h=>gt_int h
theorem Gu:mU X .GtE (cW .ge):=EM (fun _ _ _ _=>rfl) fun _ _ _ _ _ _ h=>ge_int h
theorem NJ {pins:List (Addr×Obj)}{s:Shared}{σ:L2.St}{H:Hp}{a:Addr}{vs us:List V}(I:Inv X pins σ H s)(h:H a=some (.lst vs))(f:kR X.K H a us):False:=by
 rcases f with⟨o,e⟩|⟨o,_,_,e,_⟩
 ·rw[h]at e;cases e
 ·have:=(I.bs a o (I.ok.mod.kin a o e)).2
  rw[h]at this;cases this
theorem ES {pins:List (Addr×Obj)}{s:Shared}{σ:L2.St}{H:Hp}{st:aA}(I:Inv X pins σ H s)(ok:aQ X.K st H):∀(n:Nat){d d':D}{v:V},cM d<=n->fJ st d=true->fJ st d'=true->Rep X.K H d v->Rep X.K H d' v->d=d':=by
 have lists:∀{d d':D}{v:V}{xs ys:List D},oU st d=some xs->oU st d'=some ys->bQ xs=true->bQ ys=true->Rep X.K H d v->Rep X.K H d' v->d=d':=by
  intro d d' v xs ys q q' p p' r r'
  cases r with
  |ref a=>cases r' with
   |ref _=>rfl
   |bF f g =>
    simp only[oU]at q
    split at q
    ·rename_i e
     obtain⟨vs,h,_⟩:=ok.lst e
     exact(NJ I h f).elim
    ·cases q
   |_=>cases q'
  |bF f g=>cases r' with
   |ref _ =>
    simp only[oU]at q'
    split at q'
    ·rename_i e
     obtain⟨vs,h,_⟩:=ok.lst e
     exact(NJ I h f).elim
    ·cases q'
   |bF f' g' =>
    cases q;cases q'
    cases I.pG f.sq f'.sq
    rw[pF I p p' g g']
   |_=>cases q'
  |_=>cases q
 intro n
 induction n with
 |zero =>
  intro d d' v hn p p' r r'
  rcases kinds p with q|⟨ds,rfl,q⟩|⟨xs,q,q1,q2⟩
  ·cases r<;>cases r'<;>first|rfl|(cases q;done)|skip
  ·simp only[cM]at hn;omega
  ·obtain⟨a,vs,rfl,f1,g1⟩:=fG ok q r
   rcases kinds p' with q'|⟨iM,rfl,q'⟩|⟨ys,q',q1',q2'⟩
   ·cases r'<;>cases q'
   ·obtain⟨b,us,e,f2,g2⟩:=r'.bK
    cases e
    exact(CJ I f1 f2).elim
   ·exact lists q q' q1 q1' r r'
 |succ n ih =>
  intro d d' v hn p p' r r'
  rcases kinds p with q|⟨ds,rfl,q⟩|⟨xs,q,q1,q2⟩
  ·cases r<;>cases r'<;>first|rfl|(cases q;done)|skip
  ·obtain⟨a,vs,rfl,f1,g1⟩:=r.bK
   rcases kinds p' with q'|⟨iM,rfl,q'⟩|⟨ys,q',q1',q2'⟩
   ·cases r'<;>cases q'
   ·obtain⟨b,us,e,f2,g2⟩:=r'.bK
    cases e
    cases I.qU f1 f2
    simp only[cM]at hn
    have go:∀(ds es:List D)(vs:List V),cK ds<=n->fY st ds=true->fY st es=true->aJ X.K H ds vs->aJ X.K H es vs->ds=es:=by
     intro ds
     induction ds with
     |nil=>intro es vs _ _ _ r r';cases r;cases r';rfl
     |cons d ds ihs =>
      intro es vs hd pp pp' r r'
      cases r with
      |cons r1 r2=>cases r' with
       |cons r1' r2' =>
        simp only[cK]at hd
        simp only[fY,Bool.and_eq_true]at pp pp'
        rw[ih (by omega) pp.1 pp'.1 r1 r1',ihs _ _ (by omega) pp.2 pp'.2 r2 r2']
    rw[go ds iM vs (by omega) q q' g1 g2]
   ·obtain⟨b,us,e,f2,g2⟩:=fG ok q' r'
    cases e
    exact(CJ I f2 f1).elim
  ·obtain⟨a,vs,rfl,f1,g1⟩:=fG ok q r
   rcases kinds p' with q'|⟨iM,rfl,q'⟩|⟨ys,q',q1',q2'⟩
   ·cases r'<;>cases q'
   ·obtain⟨b,us,e,f2,g2⟩:=r'.bK
    cases e
    exact(CJ I f1 f2).elim
   ·exact lists q q' q1 q1' r r'
theorem CT {pins:List (Addr×Obj)}{s:Shared}{σ:L2.St}{H:Hp}{st:aA}(I:Inv X pins σ H s)(ok:aQ X.K st H){ds:List D}{vs:List V}{aD:List Value}{d:D}{v:V}{u:Value}{A:Around}
  (g:aJ X.K H ds vs)(r:aO vs aD)(p:dM st ds)(pd:plainS st d)(rd:Rep X.K H d v)(rv:RelV v u)(hu:A.units+178<cLine):
  ∃ e:Value->Bool,(∀ y,y∈aD.toArray->EqAt A.in1 s y u (e y))/\aD.toArray.any e=ds.any fun d'=>bM st d' d:=by
 classical
 have hD:kS=80:=rfl
 have item:∀(d':D)(v':V)(y:Value),d'∈ds->Rep X.K H d' v'->RelV v' y->EqAt A.in1 s y u (bM st d' d):=fun d' v' y m r' aZ=>by
  have h1:=iK m
  have h2:=p.2
  exact(LM I ok 80 (by omega) (fO p.1 m) pd.1 r' aZ rd rv (by simp only[Around.in1_units];omega)).2.1
 let e:Value->Bool:=fun y=>decide (∃ d' v',d'∈ds/\Rep X.K H d' v'/\RelV v' y/\bM st d' d=true)
 have he:∀(d':D)(v':V)(y:Value),d'∈ds->Rep X.K H d' v'->RelV v' y->e y=bM st d' d:=fun d' v' y m r' aZ=>by
  show decide _=_
  cases q:bM st d' d with
  |true=>exact decide_eq_true ⟨d',v',m,r',aZ,q⟩
  |false =>
   refine decide_eq_false fun⟨d2,v2,m2,r2,rv2,q2⟩=>?_
   cases RelV.inj aZ rv2
   have:=ES I ok _ (Nat.le_refl _) (fO p.1 m) (fO p.1 m2) r' r2
   subst this
   rw[q]at q2;cases q2
 refine⟨e,fun y hy=>?_,?_⟩
 ·obtain⟨j,hj,rfl⟩:=Array.mem_iff_getElem.mp hy
  obtain⟨v',e1,e2⟩:=aO.at r hj
  obtain⟨d',e3,e4⟩:=aJ.get' g e1
  rw[he d' v' _ (List.mem_of_getElem? e3) e4 e2]
  exact item d' v' _ (List.mem_of_getElem? e3) e4 e2
 ·have go:∀(es:List D)(vs:List V)(aD:List Value),(∀ d∈es,d∈ds)->aJ X.K H es vs->aO vs aD->aD.any e=es.any fun d'=>bM st d' d:=by
   intro es
   induction es with
   |nil=>intro vs aD _ g r;cases g;cases r;rfl
   |cons d1 es ih =>
    intro vs aD hm g r
    cases g with
    |cons g1 g2=>cases r with
     |cons r1 r2 =>
      simp only[List.any_cons]
      rw[he d1 _ _ (hm d1 (by simp)) g1 r1,ih _ _ (fun d m=>hm d (by simp [m])) g2 r2]
  rw[List.any_toArray]
  exact go ds vs aD (fun _ m=>m) g r
theorem N6 (k x:Str):(decide (k=x))=(x.cps.toList==k.cps.toList):=by
 by_cases h:k=x
 ·subst h;simp
 ·rw[decide_eq_false h]
  symm
  refine beq_eq_false_iff_ne.mpr fun e=>h ?_
  obtain⟨⟨k⟩⟩:=k
  obtain⟨⟨x⟩⟩:=x
  have e:x=k:=e
  subst e;rfl
theorem B3 {pins:List (Addr×Obj)}{s:Shared}{σ:L2.St}{H:Hp}{a:Addr}{T:List (Str×PyData)}(I:Inv X pins σ H s)(h:KTD.tabLook KTD.flatLooks (fun b=>X.K.lookup b) a T=true):KTD.Here s.heap s.heap a (T.map fun p=>(p.1,KTD.Dat.flat p.2)) :=
 ⟨(KTD.tab_of_look (fun d v=>KTD.flat_of_looks) (fun a o e=>I.iA a o e) h).text,fun _ _ e=>e⟩
theorem JP (k:List Nat):∀(T:List (Str×PyData)),KTD.inKeys (⟨k.toArray⟩:Str) (T.map fun p=>(p.1,KTD.Dat.flat p.2))=(T.map fun p=>D.str p.1.cps.toList).any fun d=>bH d (.str k)
 |[]=>rfl
 |(x,d)::T=>by
  show(decide ((⟨k.toArray⟩:Str)=x)||KTD.inKeys _ _)=((x.cps.toList==k)||_)
  rw[JP k T,N6]
theorem V9 (hu:X.A.units+180<cLine):mU X .In (cW .in_)/\mU X .NotIn (cW .iW):=by
 have main:∀(neg:Bool)(pins:List (Addr×Obj))(s:Shared)(σ:L2.St)(H:Hp)(st:aA)(d d':D)(v v':V)(u u':Value)(P:Bool->Prop),Inv X pins σ H s->aQ X.K st H->Rep X.K H d v->RelV v u->Rep X.K H d' v'->RelV v' u' ->
   FW d d' st (fun b=>P (if neg then !b else b))->wpAny (model X.prog X.w) X.A (compareOp (if neg then .NotIn else .In) u u') (fun r s'=>∃ k,r=.bool k/\P k/\Inv X pins σ H s') X.xe s:=by
  intro neg pins s σ H st d d' v v' u u' P I ok r rv r' aZ q
  have lst:∀(a:Addr)(vs:List V)(ds:List D),dU X.K H a vs->aJ X.K H ds vs->plainS st d->dM st ds->P (if neg then !(ds.any fun d'=>bM st d' d)else ds.any fun d'=>bM st d' d) ->
    wpAny (model X.prog X.w) X.A (compareOp (if neg then .NotIn else .In) u (.ref a)) (fun r s'=>∃ k,r=.bool k/\P k/\Inv X pins σ H s') X.xe s:=by
   intro a vs ds f g pd ps q
   obtain⟨aD,r1,p1,_⟩:=I.list f
   obtain⟨e,he,ha⟩:=CT I ok g r1 ps pd r rv (A:=X.A) (by omega)
   rw[<-ha]at q
   cases neg with
   |true=>exact notIn_listAt e p1.isList he ⟨_,rfl,q,I⟩
   |false=>exact in_listAt e p1.isList he ⟨_,rfl,q,I⟩
  unfold FW at q
  split at q
  ·obtain⟨a,vs,rfl,f,g⟩:=r'.bK
   cases aZ
   obtain⟨aD,r1,p1,_⟩:=I.tuple f
   obtain⟨pd,ps,q⟩:=q
   obtain⟨e,he,ha⟩:=CT I ok g r1 ps pd r rv (A:=X.A) (by omega)
   rw[<-ha]at q
   cases neg with
   |true=>exact notIn_tupleAt e p1 he ⟨_,rfl,q,I⟩
   |false=>exact in_tupleAt e p1 he ⟨_,rfl,q,I⟩
  ·cases r'.cB
   cases aZ
   obtain⟨ds,e1,pd,ps,q⟩:=qN ok q
   obtain⟨vs,g1,g2⟩:=ok.lst e1
   exact lst _ vs ds (dU.of g1) g2 pd ps q
  ·obtain⟨a,rfl,T,h1,_,h2,_⟩:=r'.FG
   cases aZ
   cases r.str_inv
   obtain⟨t,rfl⟩:=rv
   rw[h2,<-JP]at q
   cases neg with
   |true=>exact KTD.notin_text (B3 I h1) ⟨_,rfl,q,I.tok _⟩
   |false=>exact KTD.in_text (B3 I h1) ⟨_,rfl,q,I.tok _⟩
  ·obtain⟨a,vs,rfl,f,g⟩:=r'.jQ
   cases aZ
   exact lst a vs _ f.sq g q.1 q.2.1 q.2.2
  ·cases r.str_inv;cases r'.str_inv
   cases neg with
   |true =>
    refine aV (E2 (X:=X) pins s σ H _ _ _ _ (fun v H'=>H'=H/\∃ k,v=.bl k/\P k) I rv aZ ⟨_,_,rfl,rfl,rfl,_,rfl,?_⟩) fun r s1 ⟨v,H',I1,r1,e,k,e',q'⟩=>?_
    ·rw[DF];exact q
    ·subst e e';cases r1;exact⟨k,rfl,q',I1⟩
   |false =>
    refine aV (NB (X:=X) pins s σ H _ _ _ _ (fun v H'=>H'=H/\∃ k,v=.bl k/\P k) I rv aZ ⟨_,_,rfl,rfl,rfl,_,rfl,?_⟩) fun r s1 ⟨v,H',I1,r1,e,k,e',q'⟩=>?_
    ·rw[DF];exact q
    ·subst e e';cases r1;exact⟨k,rfl,q',I1⟩
  ·exact q.elim
 exact⟨fun pins s σ H st d d' v v' u u' P I ok r rv r' aZ q=>main false pins s σ H st d d' v v' u u' P I ok r rv r' aZ q,fun pins s σ H st d d' v v' u u' P I ok r rv r' aZ q=>main true pins s σ H st d d' v v' u u' P I ok r rv r' aZ q⟩
theorem CW {K:PySem.W.Frag}{H:Hp}{d:D}{v:V}{u:Value}(r:Rep K H d v)(rv:RelV v u):(u==Value.none)=ED d:=by
 rw[rv.RN]
 cases r<;>rfl
theorem YH:mU X .Is (cW .is_)/\mU X .IsNot (cW .isnot):=by
 constructor
 ·intro pins s σ H st d d' v v' u u' P I ok r rv r' aZ q
  have q:AS d d' P:=q
  unfold AS at q
  split at q
  ·cases r'.eT;cases aZ
   exact is_none_gen ⟨_,rfl,by rw[CW r rv];exact q,I⟩
  ·rename_i b
   cases r'.eM;cases aZ
   cases r with
   |bl c=>cases rv;exact is_bool ⟨_,rfl,q,I⟩
   |non=>cases rv;exact wpAny_is_other rfl (by intro z;cases z) ⟨_,rfl,q,I⟩
   |int i=>obtain⟨t,rfl⟩:=rv;exact wpAny_is_other rfl (by intro z;cases z) ⟨_,rfl,q,I⟩
   |str z=>obtain⟨t,rfl⟩:=rv;exact wpAny_is_other rfl (by intro z;cases z) ⟨_,rfl,q,I⟩
   |tup _ _=>cases rv;exact wpAny_is_other rfl (by intro z;cases z) ⟨_,rfl,q,I⟩
   |ref _=>cases rv;exact wpAny_is_other rfl (by intro z;cases z) ⟨_,rfl,q,I⟩
   |bF _ _=>cases rv;exact wpAny_is_other rfl (by intro z;cases z) ⟨_,rfl,q,I⟩
   |cO _=>cases rv;exact wpAny_is_other rfl (by intro z;cases z) ⟨_,rfl,q,I⟩
  ·exact q.elim
 ·intro pins s σ H st d d' v v' u u' P I ok r rv r' aZ q
  have q:AS d d' (fun b=>P (!b)):=q
  unfold AS at q
  split at q
  ·cases r'.eT;cases aZ
   exact isnot_none_gen ⟨_,rfl,by rw[CW r rv];exact q,I⟩
  ·rename_i b
   cases r'.eM;cases aZ
   cases r with
   |bl c=>cases rv;exact isnot_bool ⟨_,rfl,q,I⟩
   |non=>cases rv;exact wpAny_isNot_other rfl (by intro z;cases z) ⟨_,rfl,q,I⟩
   |int i=>obtain⟨t,rfl⟩:=rv;exact wpAny_isNot_other rfl (by intro z;cases z) ⟨_,rfl,q,I⟩
   |str z=>obtain⟨t,rfl⟩:=rv;exact wpAny_isNot_other rfl (by intro z;cases z) ⟨_,rfl,q,I⟩
   |tup _ _=>cases rv;exact wpAny_isNot_other rfl (by intro z;cases z) ⟨_,rfl,q,I⟩
   |ref _=>cases rv;exact wpAny_isNot_other rfl (by intro z;cases z) ⟨_,rfl,q,I⟩
   |bF _ _=>cases rv;exact wpAny_isNot_other rfl (by intro z;cases z) ⟨_,rfl,q,I⟩
   |cO _=>cases rv;exact wpAny_isNot_other rfl (by intro z;cases z) ⟨_,rfl,q,I⟩
  ·exact q.elim
noncomputable def nD:oY->CmpOp
 |.eq=>.Eq|.ne=>.NotEq|.lt=>.Lt|.le=>.LtE|.gt=>.Gt|.ge=>.GtE|.is_=>.Is|.isnot=>.IsNot|.in_=>.In|.iW=>.NotIn
theorem EH (hu:X.A.units+180<cLine):∀ o:oY,mU X (nD o) (cW o)
 |.eq=>Il hu
 |.ne=>Hq hu
 |.lt=>Gp
 |.le=>Iu
 |.gt=>Hn
 |.ge=>Gu
 |.is_=>YH.1
 |.isnot=>YH.2
 |.in_=>(V9 hu).1
 |.iW=>(V9 hu).2
theorem Dh {o:oY}(hu:X.A.units+180<cLine)(ha:PE X a (bN X.K (aG C sub E x)))(hb:PE X b (bN X.K (aG C sub E y)))(hm:behindInMarks (nD o) b=false):PE X (.Compare a [nD o] [b] pos) (bN X.K (aG C sub E (.cmp o x y))):=by
 intro pins s σ H Q I ⟨σd,st,R,r,ok,q,hq⟩
 refine wpAny_Compare1 (aV (ha pins s σ H _ I ⟨σd,st,_,r,ok,q,fun v H' z=>z⟩) fun u s1 ⟨v,H1,I1,rv,d,aC,cX,aN,r1,q1⟩ =>
 aV (hb pins s1 σ H1 _ I1 ⟨σd,aC,_,r.step ok cX,aN,q1,fun v H' z=>z⟩) fun u' s2 ⟨v',H2,I2,aZ,d',aF,gZ,bO,r2,q2⟩ =>
 aV (EH hu o pins s2 σ H2 aF d d' v v' u u' _ I2 bO (r1.step aN gZ) rv r2 aZ q2) fun w s3 ⟨k,e,q3,I3⟩=>?_) hm
 subst e
 exact⟨.bl k,H2,I3,rfl,hq _ _ (.after (cX.trans gZ) (.here bO (.bl k) q3))⟩
theorem ZS {o:oY}(hu:X.A.units+180<cLine)(ha:PE X a (bN X.K (aG C sub E x)))(hb:PE X b (bN X.K (aG C sub E y)))(hm:behindInMarks (nD o) b=false):PT X (.Compare a [nD o] [b] pos) (iP X.K (aG C sub E (.cmp o x y))):=by
 intro pins s σ H Q I ⟨σd,st,R,r,ok,q,hq⟩
 refine wpAny_isTrue_Compare1 (aV (ha pins s σ H _ I ⟨σd,st,_,r,ok,q,fun v H' z=>z⟩) fun u s1 ⟨v,H1,I1,rv,d,aC,cX,aN,r1,q1⟩ =>
 aV (hb pins s1 σ H1 _ I1 ⟨σd,aC,_,r.step ok cX,aN,q1,fun v H' z=>z⟩) fun u' s2 ⟨v',H2,I2,aZ,d',aF,gZ,bO,r2,q2⟩ =>
 aV (EH hu o pins s2 σ H2 aF d d' v v' u u' _ I2 bO (r1.step aN gZ) rv r2 aZ q2) fun w s3 ⟨k,e,q3,I3⟩=>?_) hm
 subst e
 exact wpAny_truthy_bool ⟨H2,I3,hq _ _ ⟨aF,cX.trans gZ,bO,q3⟩⟩
theorem VE {o o':oY}(hu:X.A.units+180<cLine)(ha:PE X a (bN X.K (aG C sub E x)))(hb:PE X b (bN X.K (aG C sub E y)))(hc:PE X c (bN X.K (aG C sub E z)))(hm:lastMarks [nD o,nD o'] [b,c]=false):
 PE X (.Compare a [nD o,nD o'] [b,c] pos) (bN X.K (aG C sub E (.chain o o' x y z))):=by
 intro pins s σ H Q I ⟨σd,st,R,r,ok,q,hq⟩
 refine Compare_chain (aV (ha pins s σ H _ I ⟨σd,st,_,r,ok,q,fun v H' z=>z⟩) fun u s1 ⟨v,H1,I1,rv,d,aC,cX,aN,r1,q1⟩ =>
 chain_link (aV (hb pins s1 σ H1 _ I1 ⟨σd,aC,_,r.step ok cX,aN,q1,fun v H' z=>z⟩) fun u' s2 ⟨v',H2,I2,aZ,d',aF,gZ,bO,r2,q2⟩ =>
 aV (EH hu o pins s2 σ H2 aF d d' v v' u u' _ I2 bO (r1.step aN gZ) rv r2 aZ q2) fun w s3 ⟨k,e,q3,I3⟩=>?_)) hm
 subst e
 refine wpAny_truthy_bool ?_
 cases k with
 |false=>exact ite_ff ⟨.bl false,H2,I3,rfl,hq _ _ (.after (cX.trans gZ) (.here bO (.bl _) q3))⟩
 |true =>
 refine ite_tt (chain_last (aV (hc pins s3 σ H2 _ I3 ⟨σd,aF,_,(r.step ok cX).step aN gZ,bO,q3,fun v H' z=>z⟩) fun u3 s4 ⟨v3,H4,I4,rv3,d3,dR,s4s,KH,r4,q4⟩ =>
  aV (EH hu o' pins s4 σ H4 dR d' d3 v' v3 u' u3 _ I4 KH (r2.step bO s4s) aZ r4 rv3 q4) fun w s5 ⟨k,e,q5,I5⟩=>?_))
 subst e
 exact⟨.bl k,H4,I5,rfl,hq _ _ (.after ((cX.trans gZ).trans s4s) (.here KH (.bl k) q5))⟩
end
end L3
end
section
namespace L3
open PySem PySem.Spec PyProof.Rows PyProof.V L2
section
variable {X:Cx}{C:aX}{sub:Nat->Nat->Bool}{E:XK}{a b c e:Expr}{x y z:Ex}{pos:Pos}
theorem YR (n:Nat)(i:Int):L2.lZ n i=lZ n i:=rfl
theorem B2 {K:PySem.W.Frag}{H:Hp}{ds:List D}{vs:List V}{i:Int}{d:D}(r:aJ K H ds vs)(h:eO ds i=some d):∃ v,L2.eO vs i=some v/\Rep K H d v:=by
 unfold eO at h
 unfold L2.eO
 rw[YR,<-r.length]
 cases e:lZ ds.length i with
 |none=>rw[e]at h;cases h
 |some j =>
 rw[e]at h
 obtain⟨v,e1,e2⟩:=r.get (i:=j) h
 exact⟨v,e1,e2⟩
noncomputable def XH (K:PySem.W.Frag):R2:=fun x y H Q=>∃(p:Addr)(T:List (Str×PyData))(k:Str)(d:PyData),x=.ref p/\y=.str k/\KTD.tabLook KTD.flatLooks (fun b=>K.lookup b) p T=true/\KTD.datumAt k T=some d/\mN d=true/\∀ v u,RelV v u->Flat u d->Q v H
noncomputable def LI (K:PySem.W.Frag):R2:=fun x y H Q=>Fx K x y H Q∨XH K x y H Q
theorem sQ {k:Str}{d:PyData}:∀{T:List (Str×PyData)},KTD.datumAt k T=some d->KTD.datumAt k (T.map fun p=>(p.1,KTD.Dat.flat p.2))=some (.flat d)
 |[],h=>by cases h
 |(x,e)::T,h=>by
  show(if decide (k=x)=true then some (KTD.Dat.flat e)else _)=_
  have h:(if decide (k=x)=true then some e else KTD.datumAt k T)=some d:=h
  by_cases c:decide (k=x)=true
  ·rw[if_pos c]at h ⊢;cases h;rfl
  ·rw[if_neg c]at h ⊢;exact sQ h
theorem Ft {X:Cx}:uL X (XH X.K):=by
 intro value slice pins s σ H x y v u Q I rx ry h hs
 obtain⟨p,T,k,d,rfl,rfl,hT,hd,hsd,q⟩:=h
 cases rx
 obtain⟨t,rfl⟩:=ry
 have hh:=B3 I hT
 refine subscriptTail_builtin_flat hh.typeIs slot_dict_getitem.lookup ?_ hs
 unfold getItem
 try with_reducible refine wpAny_holding ?_
 refine wpAny_bind (wpAny_sequenceKey hh.typeIs (by decide) ?_)
 refine wpAny_bind (wpAny_callSpecial?_slot (name:=Str.ofString "__getitem__") hh.typeIs slot_dict_getitem
  (wpAny_call_entry slot_dict_getitem hh.typeIs entry_dict_getitem ?_ (args_dict_getitem _ _)))
 show wpAny _ _ (dictGet p (.str k t) >>= _) _ _ s
 refine wpAny_bind (KTD.dictGet_text hh (fun d' v ha hv=>?_) fun hn=>?_)
 ·rw[sQ hd]at ha
  cases ha
  have hv:Flat v d:=hv
  refine wpAny_pure ⟨v,rfl,wpAny_pure ⟨Flat.notRef hv,?_⟩⟩
  obtain⟨w,rw'⟩:∃ w,RelV w v:=by
   cases d with
   |none=>cases Flat.none_inv hv;exact⟨.non,rfl⟩
   |bool b=>cases Flat.bool_inv hv;exact⟨.bl b,rfl⟩
   |int i=>obtain⟨t,rfl⟩:=Flat.int_inv hv;exact⟨.int i,⟨t,rfl⟩⟩
   |str x=>obtain⟨t,rfl⟩:=Flat.str_inv hv;exact⟨.str x,⟨t,rfl⟩⟩
   |_=>cases hsd
  exact⟨w,H,I.tok _,rw',q w v rw' hv⟩
 ·rw[sQ hd]at hn;cases hn
theorem Ao {X:Cx}:uL X (LI X.K):=YD.or Ft
theorem NH {K:PySem.W.Frag}(v v':V)(H:Hp)(Q Q':L2.VK)(h:∀ v H,Q v H->Q' v H)(z:LI K v v' H Q):LI K v v' H Q':=by
 rcases z with z|⟨p,T,k,d,e,e',e1,e2,e3,q⟩
 ·refine .inl ?_
  rcases z with⟨p,xs,i,v,e,e',s,t,q⟩|⟨p,xs,i,v,e,e',s,t,q⟩|⟨z,i,c,e,e',s,t,q⟩
  ·exact .inl ⟨p,xs,i,v,e,e',s,t,h _ _ q⟩
  ·exact .inr (.inl ⟨p,xs,i,v,e,e',s,t,h _ _ q⟩)
  ·exact .inr (.inr ⟨z,i,c,e,e',s,t,h _ _ q⟩)
 ·exact .inr ⟨p,T,k,d,e,e',e1,e2,e3,fun v u r f=>h _ _ (q v u r f)⟩
theorem GZ {k:List Nat}{d:D}:∀{T:List (Str×PyData)},(T.all fun p=>mN p.2)=true->sY (T.map fun p=>.str p.1.cps.toList) (T.map fun p=>qH p.2) (.str k)=some d->∃ e,KTD.datumAt (⟨k.toArray⟩:Str) T=some e/\mN e=true/\d=qH e
 |[],_,h=>by cases h
 |(x,e)::T,a,h=>by
  simp only[List.all_cons,Bool.and_eq_true]at a
  have h:(if(x.cps.toList==k)=true then some (qH e)else sY (T.map fun p=>.str p.1.cps.toList) (T.map fun p=>qH p.2) (.str k))=some d:=h
  show ∃ e',(if decide ((⟨k.toArray⟩:Str)=x)=true then some e else KTD.datumAt _ T)=some e'/\_
  rw[N6]
  by_cases c:(x.cps.toList==k)=true
  ·rw[if_pos c]at h;cases h
   exact⟨e,if_pos c,a.1,rfl⟩
  ·rw[if_neg c]at h
   obtain⟨e',h1,h2⟩:=GZ a.2 h
   exact⟨e',(if_neg c).trans h1,h2⟩
theorem QF {K:PySem.W.Frag}{H:Hp}{e:PyData}{v:V}{u:Value}(s:mN e=true)(r:RelV v u)(f:Flat u e):Rep K H (qH e) v:=by
 cases e with
 |none=>cases Flat.none_inv f;cases RelV.inj r (show RelV .non .none from rfl);exact .non
 |bool b=>cases Flat.bool_inv f;cases RelV.inj r (show RelV (.bl b) (.bool b)from rfl);exact .bl b
 |int i=>obtain⟨t,rfl⟩:=Flat.int_inv f;cases RelV.inj r (show RelV (.int i) (.int i t)from⟨t,rfl⟩);exact .int i
 |str x=>obtain⟨t,rfl⟩:=Flat.str_inv f;cases RelV.inj r (show RelV (.str x) (.str x t)from⟨t,rfl⟩);exact .str x.cps.toList
 |_=>cases s
theorem PV {K:PySem.W.Frag}{H:Hp}{st:aA}{R:VK}{d d':D}{v v':V}(ok:aQ K st H)(r:Rep K H d v)(r':Rep K H d' v')(h:lS d d' st R):LI K v v' H (QD K H st R):=by
 unfold lS at h
 split at h
 ·obtain⟨a,vs,rfl,f,g⟩:=r.bK
  cases r'.int_inv
  obtain⟨d,e,q⟩:=eE h
  obtain⟨v,e1,e2⟩:=B2 g e
  exact .inl (.inr (.inl ⟨a,vs,_,v,rfl,rfl,f,e1,.here ok e2 q⟩))
 ·obtain⟨a,vs,rfl,f,g⟩:=r.jQ
  cases r'.int_inv
  obtain⟨d,e,q⟩:=eE h
  obtain⟨v,e1,e2⟩:=B2 g e
  exact .inl (.inl ⟨a,vs,_,v,rfl,rfl,f.sq,e1,.here ok e2 q⟩)
 ·cases r.str_inv
  cases r'.int_inv
  obtain⟨l,h⟩:=h
  obtain⟨c,e,q⟩:=eE h
  exact .inl (.inr (.inr ⟨_,_,c,rfl,rfl,by rw[fI];simpa [Str.length]using l,e,.here ok (.str [c]) q⟩))
 ·obtain⟨a,rfl,T,h1,h2,h3,h4⟩:=r.FG
  cases r'.str_inv
  obtain⟨d,e,q⟩:=eE h
  rw[h3,h4]at e
  obtain⟨e',e1,e2,rfl⟩:=GZ h2 e
  exact .inr ⟨a,T,_,e',rfl,rfl,h1,e1,e2,fun v u r f=>.here ok (QF e2 r f) q⟩
 ·cases r.cB
  obtain⟨ds,e,q⟩:=qN ok h
  obtain⟨vs,g1,g2⟩:=ok.lst e
  split at q
  ·cases r'.int_inv
   obtain⟨d,e,q⟩:=eE q
   obtain⟨v,e1,e2⟩:=B2 g2 e
   exact .inl (.inl ⟨_,vs,_,v,rfl,rfl,dU.of g1,e1,.here ok e2 q⟩)
  ·exact q.elim
 ·exact h.elim
theorem Gz (ha:PE X a (bN X.K (aG C sub E x)))(hb:PE X b (bN X.K (aG C sub E y)))(hp:sD b):PE X (.Subscript a b pos) (bN X.K (aG C sub E (.ix x y))) :=
 (RU Ao ha hb hp).imp fun σ H Q ⟨σd,st,R,r,ok,q,hq⟩=>by
 exact two (W:=fun d d' aF=>lS d d' aF R) r ok q hq (fun d d' v v' H2 aF bO r1 r2 h=>PV bO r1 r2 h) NH
theorem uP {prog:Program}{w:World}{A:Around}{E:Value->Shared->Prop}{s:Shared}{t sl:Addr}{items:Array Value}{vl vu:Value}{lo hi:Option Int}{Q:Value->Shared->Prop}(ht:IsTup s.heap t items)(hs:s.heap.IsSliceOf sl vl vu .none)(pl:IsPart vl lo)(pu:IsPart vu hi)
  (hw:HT.bX items.size 0 lo=0/\HT.bX items.size items.size hi=items.size)(h:Q (.ref t) s):wpAny (model prog w) A (getItem (.ref t) (.ref sl)) Q E s:=by
 obtain⟨os,hos,hcs,hds⟩:=id hs
 have hTs:s.TypeIs (.ref sl) "slice":=⟨os,hos,hcs⟩
 unfold getItem
 try with_reducible refine wpAny_holding ?_
 first|refine wpAny_bind (wpAny_pure ?_)|skip
 refine wpAny_bind (wpAny_sequenceKey ht.typeIs (by decide) ?_)
 refine wpAny_bind (wpAny_callSpecial?_slot (name:=Str.ofString "__getitem__") ht.typeIs PyProof.Rows.slot_tuple_getitem
  (wpAny_call_entry PyProof.Rows.slot_tuple_getitem ht.typeIs entry_tuple_getitem ?_ (args_tuple_getitem _ _)))
 show wpAny _ _ (Builtin.Tuple.tupleItemsOf (.ref t) >>= _) _ _ s
 refine wpAny_bind (tupleItemsOf_ ht ?_)
 refine wpAny_bind (wpAny_typeOf hTs ?_)
 rw[if_pos (by decide)]
 refine wpAny_bind (HT.pB hs pl pu ?_)
 have hyes:(((HT.bX items.size 0 lo:Nat):Int)==0&&(1:Int)==1&&(HT.bX items.size items.size hi-HT.bX items.size 0 lo)==items.size)=true:=by
  rw[hw.1,hw.2];simp
 show wpAny _ _ (if(((HT.bX items.size 0 lo:Nat):Int)==0&&(1:Int)==1&&(HT.bX items.size items.size hi-HT.bX items.size 0 lo)==items.size)=true then _ else _) _ _ s
 rw[if_pos hyes]
 have hex:∀{Q:Bool->Shared->Prop},Q true s->wpAny (model prog w) A.in1 (Builtin.Tuple.tupleIsExact (.ref t)) Q E s:=fun h=>by
  unfold Builtin.Tuple.tupleIsExact
  exact wpAny_bind (wpAny_typeOf ht.typeIs (wpAny_pure h))
 refine wpAny_bind (hex ?_)
 rw[if_pos rfl]
 exact wpAny_bind (wpAny_rule (wpAny_pure ⟨_,rfl,wpAny_pure h⟩))
theorem OH (n d:Nat)(o:Option Int):HT.bX n d o=bX n d o:=rfl
theorem aJ.cut {K:PySem.W.Frag}{H:Hp}{ds:List D}{vs:List V}(r:aJ K H ds vs)(lo hi:Option Int):aJ K H (cut ds lo hi) (cut vs lo hi):=by
 unfold L3.cut
 rw[r.length]
 exact(r.drop _).take _
noncomputable def Y0 (K:PySem.W.Frag):V->Option Int->Option Int->Hp->L2.VK->Prop:=fun x lo hi H Q=>∃ a xs,x=.ref a/\dS K H a xs/\(HT.bX xs.length 0 lo=0/\HT.bX xs.length xs.length hi=xs.length)/\Q (.ref a) H
theorem TF:vO X (Y0 X.K):=by
 intro pins s σ H x v vl vu lo hi sl Q I rx hs pl pu h
 obtain⟨a,xs,rfl,hx,hw,q⟩:=h
 cases rx
 obtain⟨aD,r,ht,hz⟩:=I.tuple hx
 have hlen:aD.toArray.size=xs.length:=by rw[List.size_toArray];exact r.length.symm
 refine⟨"tuple", _,PyProof.Rows.slot_tuple_getitem.lookup,ht.typeIs,?_⟩
 exact uP ht hs pl pu (by rw[hlen];exact hw) ⟨.ref a,H,I,rfl,q⟩
noncomputable abbrev YN (K:PySem.W.Frag):V->Option Int->Option Int->Hp->L2.VK->Prop:=fun x lo hi H Q=>Am K x lo hi H Q∨Y0 K x lo hi H Q∨Y3 K x lo hi H Q
theorem ZT:vO X (YN X.K):=vO.or L2.GD (vO.or TF S7)
theorem PH {K:PySem.W.Frag}{H:Hp}{st:aA}{R:VK}{Q:L2.VK}{d:D}{v:V}{lo hi:Option Int}(ok:aQ K st H)(r:Rep K H d v)(h:AN d lo hi st R)(hq:∀ v H',QD K H st R v H'->Q v H'):YN K v lo hi H Q:=by
 unfold AN at h
 split at h
 ·rename_i ds0
  obtain⟨a,vs,rfl,f,g⟩:=r.bK
  by_cases hw:HT.bX vs.length 0 lo=0/\HT.bX vs.length vs.length hi=vs.length
  ·refine .inr (.inl ⟨a,vs,rfl,f,hw,hq _ _ (.here ok r ?_)⟩)
   have e:L3.cut ds0 lo hi=ds0:=by
    unfold L3.cut
    rw[g.length,<-OH,<-OH,hw.1,hw.2,List.drop_zero,Nat.sub_zero,<-g.length,List.take_length]
   rw[e]at h
   exact h
  ·exact .inl ⟨a,vs,rfl,f,hw,fun p hp=>hq _ _ (.EY ok (g.cut lo hi) hp h)⟩
 ·cases r.cB
  obtain⟨ds,e,h⟩:=dI h
  obtain⟨vs,g1,g2⟩:=ok.lst e
  exact .inr (.inr ⟨_,vs,rfl,dU.of g1,fun p hp=>hq _ _ (.fZ ok (g2.cut lo hi) hp h)⟩)
 ·exact h.elim
inductive CC (K:PySem.W.Frag)(te:St->aA->(List D->aA->Prop)->Prop)(σ:L2.St)(H:Hp)(Q:Option Int->Hp->Prop):Prop where
 |mk (σd:St)(st:aA)(R:Option Int->aA->Prop)(r:cY K H σd σ)(ok:aQ K st H)(q:te σd st (fun ds aB=>nB ds fun o=>R o aB))(hq:∀(o:Option Int) H',QX K H st (R o) H'->Q o H'):CC K te σ H Q
theorem _root_.L2.PO.imp {X:Cx}{e:Option Expr}{t t':TO}(i:∀ σ H Q,t' σ H Q->t σ H Q)(h:PO X e t):PO X e t':=fun pins s σ H Q I q=>h pins s σ H Q I (i σ H Q q)
theorem UC:PO X none (CC X.K (bE C sub E [])) :=
 VI.imp fun σ H Q ⟨σd,st,R,r,ok,q,hq⟩=>by
 exact hq _ _ ⟨st,.refl,ok,q⟩
theorem UW (h:PE X e (bN X.K (aG C sub E x))):PO X (some e) (CC X.K (bE C sub E [x])) :=
 (VG h).imp fun σ H Q ⟨σd,st,R,r,ok,q,hq⟩=>by
 refine⟨σd,st,_,r,ok,q,fun v H1 ⟨d,aC,s1,aN,r1,q1⟩=>?_⟩
 cases d with
 |int i=>cases r1.int_inv;exact⟨i,rfl,hq _ _ ⟨aC,s1,aN,q1⟩⟩
 |_=>exact q1.elim
theorem Jg {lo hi:Option Expr}{xl xh:List Ex}{p2:Pos}(ha:PE X a (bN X.K (aG C sub E x)))(hl:PO X lo (CC X.K (bE C sub E xl)))(hh:PO X hi (CC X.K (bE C sub E xh))):
 PE X (.Subscript a (.Slice lo hi none p2) pos) (bN X.K (aG C sub E (.sl x xl xh))) :=
 (QG ZT ha hl hh).imp fun σ H Q ⟨σd,st,R,r,ok,q,hq⟩=>by
 refine⟨σd,st,_,r,ok,q,fun v H1 ⟨d,aC,s1,aN,r1,q1⟩=>?_⟩
 refine⟨σd,aC,_,r.step ok s1,aN,q1,fun lo H2 ⟨aF,s2,bO,q2⟩=>?_⟩
 refine⟨σd,aF,_,(r.step ok s1).step aN s2,bO,q2,fun hi H3 ⟨bC,s3,nS,q3⟩=>?_⟩
 exact PH nS ((r1.step aN s2).step bO s3) q3 fun v H' z=>hq _ _ (.after ((s1.trans s2).trans s3) z)
noncomputable def vZ (X:Cx)(f:Value)(W:List D->aA->VK->Prop):Prop :=
 ∀(pins:List (Addr×Obj))(s:Shared)(σ:L2.St)(H:Hp)(st:aA)(ds:List D)(vs:List V)(us:List Value)(R:VK),Inv X pins σ H s->aQ X.K st H->aJ X.K H ds vs->aO vs us->W ds st R ->
 wpAny (model X.prog X.w) X.A (call f us) (EP X pins σ (QD X.K H st R)) X.xe s
inductive WD (K:PySem.W.Frag)(W:List D->aA->VK->Prop)(vs:List V)(H:Hp)(Q:L2.VK):Prop where
 |mk (ds:List D)(st:aA)(R:VK)(r:aJ K H ds vs)(ok:aQ K st H)(q:W ds st R)(hq:∀ v H',QD K H st R v H'->Q v H'):WD K W vs H Q
theorem vZ.call {f:Value}{W:List D->aA->VK->Prop}(h:vZ X f W):tP X f (WD X.K W):=fun pins s σ H vs us Q I rv ⟨ds,st,R,r,ok,q,hq⟩ =>
 aV (h pins s σ H st ds vs us R I ok r rv q) fun u s' ⟨v,H',I',r',z⟩=>⟨v,H',I',r',hq _ _ z⟩
theorem GU {K:PySem.W.Frag}{W:List D->aA->VK->Prop}{xs:List Ex}{σ:L2.St}{H:Hp}{Q:L2.VK}(h:bN K (fun σ st R=>bE C sub E xs σ st fun ds aB=>W ds aB R) σ H Q):YK (WD K W) (jC K (bE C sub E xs)) σ H Q:=by
 obtain⟨σd,st,R,r,ok,q,hq⟩:=h
 refine⟨σd,st,_,r,ok,q,fun vs H1 ⟨ds,aC,s1,aN,r1,q1⟩=>?_⟩
 exact⟨ds,aC,R,r1,aN,q1,fun v H' z=>hq _ _ (.after s1 z)⟩
theorem Ct {W:List D->aA->VK->Prop}{n:Str}{id:String}{p:Pos}{es:List Expr}{xs:List Ex}(hW:vZ X (.builtin id) W)(hg:Gl X n)(hm:X.mg n=none)(hv:bootBuiltins n=some (.builtin id))(ha:PA X (e::es) (jC X.K (bE C sub E xs)))
 (hn:n ≠"__name__")(hdb:(n==("__debug__" : Str))=false)(he:starEach (e::es) X.env=(false,eval e X.env)::starEach es X.env)(cT:(backTo pos (starEach es X.env)).any (·.1)=false):
 PE X (.Call (.Name n p) (e::es) [] pos) (bN X.K fun σ st R=>bE C sub E xs σ st fun ds aB=>W ds aB R) :=
 (FX hW.call hg hm hv ha hn hdb he cT).imp fun σ H Q h=>GU h
theorem Y5 {W:List D->aA->VK->Prop}{n:Str}{T:String}{p:Pos}{es:List Expr}{xs:List Ex}(hW:vZ X (.type T) W)(hg:Gl X n)(hm:X.mg n=none)(hv:bootBuiltins n=some (.type T))(ha:PA X (e::es) (jC X.K (bE C sub E xs)))
 (hn:n ≠"__name__")(hdb:(n==("__debug__" : Str))=false)(he:starEach (e::es) X.env=(false,eval e X.env)::starEach es X.env)(cT:(backTo pos (starEach es X.env)).any (·.1)=false):
 PE X (.Call (.Name n p) (e::es) [] pos) (bN X.K fun σ st R=>bE C sub E xs σ st fun ds aB=>W ds aB R) :=
 (MS hW.call hg hm hv ha hn hdb he cT).imp fun σ H Q h=>GU h
theorem aJ.one {K:PySem.W.Frag}{H:Hp}{d:D}{vs:List V}(r:aJ K H [d] vs):∃ v,vs=[v]/\Rep K H d v:=by
 cases r with|cons h r=>cases r;exact⟨_,rfl,h⟩
theorem ML {K:PySem.W.Frag}{H:Hp}{st:aA}{d:D}{v:V}{P:Nat->Prop}(ok:aQ K st H)(r:Rep K H d v)(h:nV d st P):∃ n,W0 K v H n/\P n:=by
 unfold nV at h
 split at h
 ·obtain⟨a,vs,rfl,f,g⟩:=r.bK
  exact⟨_,.inr ⟨vs,f,g.length⟩,h⟩
 ·cases r.str_inv
  exact⟨_,⟨by rw[fI];simpa [Str.length]using h.1,by simp [Str.length]⟩,h.2⟩
 ·cases r.cB
  obtain⟨ds,e,h⟩:=qN ok h
  obtain⟨vs,g1,g2⟩:=ok.lst e
  exact⟨_,.inl ⟨vs,dU.of g1,g2.length⟩,h⟩
 ·obtain⟨a,vs,rfl,f,g⟩:=r.jQ
  exact⟨_,.inl ⟨vs,f.sq,g.length⟩,h⟩
 ·exact h.elim
theorem cS:vZ X (.builtin "len") (gE .len):=by
 intro pins s σ H st ds vs us R I ok r rv q
 match ds,q with
 |[d],q =>
 have q:nV d st fun n=>R (.int (n:Nat)) st:=q
 obtain⟨v,rfl,rd⟩:=r.one
 obtain⟨n,l,q⟩:=ML ok rd q
 exact QI pins s σ H _ us _ I rv ⟨v,n,rfl,l,.here ok (.int _) q⟩
 |[],q=>exact(show False from q).elim
 |_::_::_,q=>exact(show False from q).elim
end
end L3
end
section
namespace L3
open PySem PySem.Spec PyProof.Rows L2
section
variable {X:Cx}{pins:List (Addr×Obj)}{σ:L2.St}{H:Hp}{s:Shared}
noncomputable def OQ (K:PySem.W.Frag)(H:Hp)(a:Addr)(vs:List V):Prop:=dU K H a vs∨dS K H a vs
theorem FL {A:Around}{E:Value->Shared->Prop}{a:Addr}{vs:List V}{Q:Value->Shared->Prop}(hh:A.handled=none)(I:Inv X pins σ H s)(h:OQ X.K H a vs)
  (hQ:∀(aD:List Value)(I0:Addr)(fp wr:List Addr)(St:Nat->Heap->Prop)(s₂:Shared),aO vs aD->Walks X.prog X.w A I0 fp wr aD.length (fun i v=>aD[i]? = some v) St->St 0 s₂.heap->(∀ b∈fp,b<s₂.heap.objs.size) ->
   (∀ h' tk,(∀ b o,b∉wr->s₂.heap.get? b=some o->h'.get? b=some o)->Inv X pins σ H { s₂ with heap:=h',toks:=tk })->Q (.ref I0) s₂):wpAny (model X.prog X.w) A (pyIter (.ref a)) Q E s:=by
 rcases h with h|h
 ·obtain⟨aD,r,p,hz⟩:=I.list h
  have hl:=p.isList
  have cQ:a<s.heap.objs.size:=by obtain⟨_,e,_⟩:=hl;exact Heap.lt_size e
  have W:=Walks.list (prog:=X.prog) (w:=X.w) (A:=A) hh s.heap.objs.size a (Nat.ne_of_lt cQ) aD.toArray
  have e1:aD.toArray.size=aD.length:=by simp
  have e2:(fun(i:Nat)(v:Value)=>aD.toArray[i]? = some v)=fun i v=>aD[i]? = some v:=by funext i v;simp
  rw[e1,e2]at W
  refine wpAny_pyIter_list hl (hQ aD s.heap.objs.size _ _ _ _ r W ⟨⟨_,Heap.get?_push_size _ rfl,rfl,rfl⟩,hl.push _⟩ (fun b hb=>?_) fun h' tk hk=>?_)
  ·show b<(s.heap.push _).objs.size
   rw[Heap.size_push]
   rcases List.mem_cons.mp hb with rfl|hb
   ·exact Nat.lt_succ_self _
   ·rcases List.mem_cons.mp hb with rfl|hb
    ·exact Nat.lt_succ_of_lt cQ
    ·cases hb
  ·exact I.kept (t':=tk) (old_kept hk)
 ·obtain⟨aD,r,p,hz⟩:=I.tuple h
  have hl:s.heap.IsTuple a aD.toArray:=p
  have cQ:a<s.heap.objs.size:=by obtain⟨_,e,_⟩:=hl;exact Heap.lt_size e
  have W:=Walks.tuple (prog:=X.prog) (w:=X.w) (A:=A) hh s.heap.objs.size a (Nat.ne_of_lt cQ) aD.toArray
  have e1:aD.toArray.size=aD.length:=by simp
  have e2:(fun(i:Nat)(v:Value)=>aD.toArray[i]? = some v)=fun i v=>aD[i]? = some v:=by funext i v;simp
  rw[e1,e2]at W
  refine wpAny_pyIter_tuple hl (hQ aD s.heap.objs.size _ _ _ _ r W ⟨⟨_,Heap.get?_push_size _ rfl,rfl,rfl⟩,hl.push _⟩ (fun b hb=>?_) fun h' tk hk=>?_)
  ·show b<(s.heap.push _).objs.size
   rw[Heap.size_push]
   rcases List.mem_cons.mp hb with rfl|hb
   ·exact Nat.lt_succ_self _
   ·rcases List.mem_cons.mp hb with rfl|hb
    ·exact Nat.lt_succ_of_lt cQ
    ·cases hb
  ·refine I.kept (t':=tk) fun b o e=>hk b o (fun hm=>?_) (Heap.get?_push_of_some _ e)
   rcases List.mem_cons.mp hm with e1|hm
   ·exact absurd (e1▸Heap.lt_size e) (Nat.lt_irrefl _)
   ·cases hm
theorem nQ {K:PySem.W.Frag}{st:aA}{d:D}{v:V}{P:List Nat->List D->Prop}(ok:aQ K st H)(r:Rep K H d v)(h:dN d st P):∃ a vs as ds,v=.ref a/\OQ K H a vs/\aJ K H ds vs/\P as ds:=by
 unfold dN at h
 split at h
 ·obtain⟨a,vs,rfl,f,g⟩:=r.bK
  exact⟨a,vs,_,_,rfl,.inr f,g,h⟩
 ·cases r.cB
  obtain⟨ds,e,h⟩:=dI h
  obtain⟨vs,g1,g2⟩:=ok.lst e
  exact⟨_,vs,_,ds,rfl,.inl (dU.of g1),g2,h⟩
 ·obtain⟨a,vs,rfl,f,g⟩:=r.jQ
  exact⟨a,vs,_,_,rfl,.inl f.sq,g,h⟩
 ·exact h.elim
theorem zJ {K:PySem.W.Frag}:∀{ds:List D}{vs:List V}{aD:List Value}{bs:List Bool},boolsOf ds=some bs->aJ K H ds vs->aO vs aD->aD=bs.map Value.bool
 |_,_,_,_,h,.nil,.nil=>by cases h;rfl
 |d::ds,_,_,bs,h,.cons r1 r2,.cons v1 v2=>by
  cases d with
  |bl b =>
   simp only[boolsOf,Option.map_eq_some_iff]at h
   obtain⟨bs',e,rfl⟩:=h
   cases r1.eM
   cases v1
   rw[zJ e r2 v2];rfl
  |_=>simp [boolsOf]at h
theorem all_range (bs:List Bool):(List.range bs.length).all (fun i=>(bs[i]?).getD true)=bs.all id:=by
 induction bs with
 |nil=>rfl
 |cons b bs ih =>
 simp only[List.length_cons,List.range_succ_eq_map,List.all_cons,List.all_map,Function.comp_def,List.getElem?_cons_zero,List.getElem?_cons_succ,Option.getD_some,id]
 rw[<-ih]
theorem any_range (bs:List Bool):(List.range bs.length).any (fun i=>(bs[i]?).getD true)=bs.any id:=by
 induction bs with
 |nil=>rfl
 |cons b bs ih =>
 simp only[List.length_cons,List.range_succ_eq_map,List.any_cons,List.any_map,Function.comp_def,List.getElem?_cons_zero,List.getElem?_cons_succ,Option.getD_some,id]
 rw[<-ih]
theorem yB {prog:Program}{w:World}{A:Around}(bs:List Bool):TruthOf prog w A (fun i v=>(bs.map Value.bool)[i]? = some v) (fun i=>(bs[i]?).getD true):=fun i v s Q E hP hQ=>by
 have hP:(bs.map Value.bool)[i]? = some v:=hP
 rw[List.getElem?_map,Option.map_eq_some_iff]at hP
 obtain⟨b,e,rfl⟩:=hP
 simp only[e,Option.getD_some]at hQ
 exact wpAny_truthy_bool hQ
theorem jM (hh:X.A.handled=none):vZ X (.builtin "all") (gE .all):=by
 intro pins s σ H st ds vs us R I ok r rv q
 match ds,q with
 |[d],q =>
 have q:gE .all [d] st R:=q
 rw[NK]at q
 obtain⟨v,rfl,rd⟩:=r.one
 obtain⟨u,rfl,ru⟩:=vals1 rv
 obtain⟨a,ws,as,xs,rfl,sa,g,q⟩:=nQ ok rd q
 cases ru
 obtain⟨bs,e,q⟩:=eE q
 refine call_all_walk (FL (A:=X.A.in1) hh I sa fun aD I0 fp wr St s₂ rr W h0 hfp hk=>?_)
 cases zJ e g rr
 refine⟨I0,fp,wr,_,_,St,_,rfl,W,h0,yB bs,fun h' tk hk'=>⟨.bl _,H,hk h' tk hk',rfl,?_⟩⟩
 rw[List.length_map,all_range]
 exact .here ok (.bl _) q
 |[],q=>exact(show False from q).elim
 |_::_::_,q=>exact(show False from q).elim
theorem DW (hh:X.A.handled=none):vZ X (.builtin "any") (gE .any):=by
 intro pins s σ H st ds vs us R I ok r rv q
 match ds,q with
 |[d],q =>
 have q:gE .any [d] st R:=q
 rw[OA]at q
 obtain⟨v,rfl,rd⟩:=r.one
 obtain⟨u,rfl,ru⟩:=vals1 rv
 obtain⟨a,ws,as,xs,rfl,sa,g,q⟩:=nQ ok rd q
 cases ru
 obtain⟨bs,e,q⟩:=eE q
 refine call_any_walk (FL (A:=X.A.in1) hh I sa fun aD I0 fp wr St s₂ rr W h0 hfp hk=>?_)
 cases zJ e g rr
 refine⟨I0,fp,wr,_,_,St,_,rfl,W,h0,yB bs,fun h' tk hk'=>⟨.bl _,H,hk h' tk hk',rfl,?_⟩⟩
 rw[List.length_map,any_range]
 exact .here ok (.bl _) q
 |[],q=>exact(show False from q).elim
 |_::_::_,q=>exact(show False from q).elim
theorem BA:vZ X (.type "list") (gE .list):=by
 intro pins s σ H st ds vs us R I ok r rv q
 match ds,q with
 |[d],q =>
 have q:gE .list [d] st R:=q
 rw[J3]at q
 obtain⟨v,rfl,rd⟩:=r.one
 obtain⟨a,ws,as,xs,rfl,sa,g,q⟩:=nQ ok rd q
 exact HG pins s σ H _ us _ I rv ⟨a,ws,rfl,sa,fun l hl=>.fZ ok g hl q.2⟩
 |[],q=>exact(show False from q).elim
 |_::_::_,q=>exact(show False from q).elim
theorem kF:vZ X (.type "tuple") (gE .tuple):=by
 intro pins s σ H st ds vs us R I ok r rv q
 match ds,q with
 |[d],q =>
 have q:gE .tuple [d] st R:=q
 rw[FK]at q
 obtain⟨v,rfl,rd⟩:=r.one
 obtain⟨a,ws,as,xs,rfl,sa,g,q⟩:=nQ ok rd q
 rcases sa with sa|sa
 ·exact uI pins s σ H _ us _ I rv ⟨a,ws,rfl,.inl ⟨sa,fun l hl=>.EY ok g hl q.2⟩⟩
 ·exact uI pins s σ H _ us _ I rv ⟨a,ws,rfl,.inr ⟨sa,.here ok (.tup sa g) q.2⟩⟩
 |[],q=>exact(show False from q).elim
 |_::_::_,q=>exact(show False from q).elim
theorem Js {K:PySem.W.Frag}{a:Addr}{vs:List V}(h:H a=some (.lst vs)):NG K "list" (.ref a) H:=.inl ⟨rfl,vs,dU.of h⟩
theorem xY (l:Addr)(items:Array Value)(n:Nat)(b:Addr)(items2:Array Value)(n2:Nat)(dd:Option Addr)(sl:Array (Option Value))(hs0:¬(!items.isEmpty&&Builtin.List.listTooLong (items.size+items2.size))=true)(hs1:items.size<=sizeLine)(hs2:items.size+items2.size<=sizeLine+1):
 Meets (Builtin.«list.extend» ⟨[.ref l,.ref b],[]⟩) (fun _ R s=>s.heap.get? l=some { cls:=.type "list", dict:=none,data:=.seq items n,slots:=#[] }/\s.heap.get? b=some { cls:=.type "tuple", dict:=dd,data:=.seq items2 n2,slots:=sl }/\R (.ok (.ret Value.none)) { s with heap:=s.heap.update l (Obj.mapSeq fun x=>x++items2),toks:=s.toks }) :=
 .of_wp fun prog w A R s h=>by
 obtain⟨hp,g,d,tk,os⟩:=s;obtain⟨hl,hb,h⟩:=h;have f1:=AutoSeq1.idx_int;have f2:=AutoSeq1.sub_tuple_tuple;have f3:=AutoSeq1.sub_list_list;have f4:=AutoSeq1.sub_tuple_list;have f5:=AutoSeq1.sub_list_tuple;
 have hz':(items++items2).size<=sizeLine+1:=by rw[Array.size_append];exact hs2
 wp_walk using(wpAny_updateSeq hl rfl (hz:=hs1) (_hz':=hz')),AutoSeq1.wpAny_loadPart' hl,AutoSeq1.wpAny_loadPart' hb;exact⟨_,rfl,h⟩
noncomputable def Q3 (K:PySem.W.Frag):V->List V->Hp->L2.VK->Prop:=fun x vs H Q=>∃ l b xs zs,x=.ref l/\vs=[.ref b]/\H l=some (.lst xs)/\dS K H b zs/\xs.length+zs.length<=sizeLine/\Q .non (upd H l (.lst (xs++zs)))
theorem LZ:SA X "list.extend" (Q3 X.K):=by
 intro pins s σ H x vs v us Q I rx rv h
 obtain⟨l,b,xs,zs,rfl,rfl,hH,hB,hz,q⟩:=h
 cases rx
 obtain⟨u,rfl,ru⟩:=rv.one
 cases ru
 obtain⟨z,aD,n,r,hl,e⟩:=I.tQ hH
 obtain⟨mH,r2,p2,_⟩:=I.tuple hB
 have hl2:=r2.length
 obtain⟨⟨cls,dd,data,sl⟩,ho,hc,n2,hd⟩:=id p2
 simp only at hc hd
 subst hc hd
 have jK:aD.toArray.size+mH.toArray.size<=sizeLine:=by rw[List.size_toArray,List.size_toArray];omega
 have hlong:¬(!aD.toArray.isEmpty&&Builtin.List.listTooLong (aD.toArray.size+mH.toArray.size))=true:=by
  rw[zE jK,Bool.and_false]
  exact Bool.false_ne_true
 refine call_meets F.slot_list_extend ⟨_,e,rfl⟩ F.entry_list_extend (F.args_list_extend_2 _ _)
  (xY l aD.toArray n b mH.toArray n2 dd sl hlong (by rw[List.size_toArray];omega) (by omega)) ⟨e,ho,?_⟩
 refine⟨.non,_,I.LW (kD:=aD++mH) hH e (by simp) (r.append r2) ?_,rfl,q⟩
 rw[List.length_append]
 omega
noncomputable def GW (X:Cx)(T id:String)(W:D->List D->aA->VK->Prop):Prop :=
 ∀(pins:List (Addr×Obj))(s:Shared)(σ:L2.St)(H:Hp)(st:aA)(d:D)(ds:List D)(v:V)(vs:List V)(u:Value)(us:List Value)(R:VK),Inv X pins σ H s->aQ X.K st H->Rep X.K H d v->RelV v u->aJ X.K H ds vs->aO vs us->W d ds st R ->
 wpAny (model X.prog X.w) X.A (call (.builtin id) (u::us)) (EP X pins σ (QD X.K H st R)) X.xe s
inductive YC (K:PySem.W.Frag)(W:D->List D->aA->VK->Prop)(v:V)(vs:List V)(H:Hp)(Q:L2.VK):Prop where
 |mk (d:D)(ds:List D)(st:aA)(R:VK)(r:Rep K H d v)(rs:aJ K H ds vs)(ok:aQ K st H)(q:W d ds st R)(hq:∀ v H',QD K H st R v H'->Q v H'):YC K W v vs H Q
theorem GW.mt {T id:String}{W:D->List D->aA->VK->Prop}(h:GW X T id W):SA X id (YC X.K W):=fun pins s σ H v vs u us Q I rv rvs ⟨d,ds,st,R,r,rs,ok,q,hq⟩ =>
 aV (h pins s σ H st d ds v vs u us R I ok r rv rs rvs q) fun u s' ⟨v,H',I',r',z⟩=>⟨v,H',I',r',hq _ _ z⟩
theorem NR:GW X "list" "list.append" (iR .append):=by
 intro pins s σ H st d ds v vs u us R I ok r rv rs rvs q
 cases d<;>first|exact(show False from q).elim|skip
 match ds,q with
 |[d],q =>
 cases r.cB
 obtain⟨w,rfl,rd⟩:=rs.one
 obtain⟨xs,e,q⟩:=dI (st:=st) q
 obtain⟨ys,g1,g2⟩:=ok.lst e
 exact L2.qV pins s σ H _ _ u us _ I rv rvs ⟨_,ys,w,rfl,rfl,g1,by rw[fI,<-g2.length];exact q.1,.set ok e (g2.append (.cons rd .nil)) .non q.2⟩
 |[],q=>exact(show False from q).elim
 |_::_::_,q=>exact(show False from q).elim
theorem NL:GW X "list" "list.extend" (iR .extend):=by
 intro pins s σ H st d ds v vs u us R I ok r rv rs rvs q
 cases d<;>first|exact(show False from q).elim|skip
 match ds,q with
 |[d],q =>
 cases r.cB
 obtain⟨w,rfl,rd⟩:=rs.one
 obtain⟨xs,e,q⟩:=dI (st:=st) q
 obtain⟨ys,g1,g2⟩:=ok.lst e
 have q:wA d st fun zs=>xs.length+zs.length<=bG/\R .non (put st _ (.lst (xs++zs))):=q
 cases d<;>first|exact(show False from q).elim|skip
 ·obtain⟨b,ws,rfl,f,g⟩:=rd.bK
  exact LZ pins s σ H _ _ u us _ I rv rvs ⟨_,b,ys,ws,rfl,rfl,g1,f,by rw[fI,<-g2.length,<-g.length];exact q.1,.set ok e (g2.append g) .non q.2⟩
 ·cases rd.cB
  obtain⟨zs,e2,q⟩:=dI (st:=st) q
  obtain⟨ws,k1,k2⟩:=ok.lst e2
  exact L2.wB pins s σ H _ _ u us _ I rv rvs ⟨_,_,ys,ws,rfl,rfl,g1,k1,by rw[fI,<-g2.length,<-k2.length];exact q.1,.set ok e (g2.append k2) .non q.2⟩
 |[],q=>exact(show False from q).elim
 |_::_::_,q=>exact(show False from q).elim
theorem W6:GW X "list" "list.pop" (iR .pop):=by
 intro pins s σ H st d ds v vs u us R I ok r rv rs rvs q
 cases d<;>first|exact(show False from q).elim|skip
 match ds,q with
 |[],q =>
 cases r.cB
 cases rs
 obtain⟨xs,e,q⟩:=dI (st:=st) q
 obtain⟨ys,g1,g2⟩:=ok.lst e
 obtain⟨d,e2,q⟩:=eE q
 obtain⟨w,k1,k2⟩:=g2.get e2
 exact L2.HH pins s σ H _ _ u us _ I rv rvs ⟨_,ys,w,rfl,rfl,g1,by rw[<-g2.length];exact k1,.set ok e g2.dropLast k2 q⟩
 |_::_,q=>exact(show False from q).elim
theorem M3 {K:PySem.W.Frag}{m:MT}{st:aA}{d:D}{v:V}(hm:m≠.index)(ok:aQ K st H)(r:Rep K H d v)(h:vJ m d st):NG K "list" v H:=by
 unfold vJ at h
 split at h
 all_goals first|(exact h.elim;done)|(exact absurd rfl hm;done)|skip
 all_goals
 cases r.cB
 obtain⟨ds,e,_⟩:=dI h
 obtain⟨vs,g,_⟩:=ok.lst e
 exact Js g
end
section
variable {X:Cx}{C:aX}{sub:Nat->Nat->Bool}{E:XK}{a b c e o:Expr}{x y z:Ex}{pos apos jD:Pos}
theorem O0 {m:MT}{name:Str}{id:String}{es:List Expr}{xs:List Ex}(hmi:m≠.index)(slot:Slot "list" name id)(hty:typeOf (.builtin id)=pure (.type "method_descriptor"))(hm:GW X "list" id (iR m))(ho:PE X o (bN X.K (aG C sub E x)))(ha:PA X (e::es) (jC X.K (bE C sub E xs)))
 (iU:attributeBase o name X.env (eval o X.env)=eval o X.env)
 (tX:((backTo jD (starEach (e::es) X.env)).all (fun x=>!x.1)&&(backToKw jD (keywordEach [] X.env)).all (fun x=>x.1.isSome)&&decide ((e::es).length+([]:List Keyword).length+(if([]:List Keyword).isEmpty then 0 else 1)<30))=true)(iV:(apos.endLine==jD.line)=true)
 (hs:starEach (e::es) X.env=(false,eval e X.env)::starEach es X.env)(qA:(backTo jD (starEach es X.env)).any (·.1)=false):
 PE X (.Call (.Attribute o name apos) (e::es) [] jD) (bN X.K (aG C sub E (.cD m x xs))) :=
 (Di PySem.F.plainAttrs_list slot hty hm.mt ho ha iU tX iV hs qA).imp fun σ H Q ⟨σd,st,R,r,ok,q,hq⟩=>by
 refine⟨σd,st,_,r,ok,q,fun v H1 ⟨d,aC,s1,aN,r1,q1⟩=>⟨M3 hmi aN r1 q1.1,?_⟩⟩
 refine⟨σd,aC,_,r.step ok s1,aN,q1.2,fun vs H2 ⟨ds,aF,s2,bO,r2,q2⟩=>?_⟩
 exact⟨d,ds,aF,R,r1.step aN s2,r2,bO,q2,fun v H' z=>hq _ _ (.after (s1.trans s2) z)⟩
theorem UP {m:MT}{name:Str}{id:String}(hmi:m≠.index)(slot:Slot "list" name id)(hty:typeOf (.builtin id)=pure (.type "method_descriptor"))(hm:GW X "list" id (iR m))(ho:PE X o (bN X.K (aG C sub E x)))
 (iU:attributeBase o name X.env (eval o X.env)=eval o X.env)(iV:(apos.endLine==jD.line)=true):
 PE X (.Call (.Attribute o name apos) [] [] jD) (bN X.K (aG C sub E (.cD m x []))) :=
 (X1 PySem.F.plainAttrs_list slot hty hm.mt ho iU iV).imp fun σ H Q ⟨σd,st,R,r,ok,q,hq⟩=>by
 refine⟨σd,st,_,r,ok,q,fun v H1 ⟨d,aC,s1,aN,r1,q1⟩=>⟨M3 hmi aN r1 q1.1,?_⟩⟩
 exact⟨d,[],aC,R,r1,.nil,aN,q1.2,fun v H' z=>hq _ _ (.after s1 z)⟩
inductive eU (K:PySem.W.Frag)(C:aX)(f:Nat)(vs:List V)(H:Hp)(Q:L2.VK)(E:L2.XK):Prop where
 |mk (ds:List D)(st:aA)(R:VK)(r:aJ K H ds vs)(ok:aQ K st H)(q:C f ds st R (fun _ _=>False))(hq:∀ v H',QD K H st R v H'->Q v H'):eU K C f vs H Q E
theorem X4 {CX:yN}{k:Nat}{f:Addr}{fid:Nat}{fd:FuncData}{ps:List Str}{n:Str}{p:Pos}{es:List Expr}{xs:List Ex}(F:eI X.prog X.w X.K X.mg X.base CX k f fd ps (eU X.K C fid))(hr:cL k X.A)(hg:Gl X n)(hm:X.mg n=some (.ref f))
 (hk:PySem.W.keepIn X.K (.ref f)=true)(hb:Binds X.K fd ps [])(hx:nG CX X E0)(ha:PA X (e::es) (jC X.K (bE C sub (fun _ _=>False) xs)))
 (hdb:(n==("__debug__" : Str))=false)(he:starEach (e::es) X.env=(false,eval e X.env)::starEach es X.env)(cT:(backTo pos (starEach es X.env)).any (·.1)=false):
 PE X (.Call (.Name n p) (e::es) [] pos) (bN X.K (aG C sub (fun _ _=>False) (.call fid xs))) :=
 (UG F hr hg hm hk hb .nil hx ha hdb he cT).imp fun σ H Q ⟨σd,st,R,r,ok,q,hq⟩=>by
 refine⟨σd,st,_,r,ok,q,fun vs H1 ⟨ds,aC,s1,aN,r1,q1⟩=>?_⟩
 show eU X.K C fid (vs++[]) H1 Q E0
 rw[List.append_nil]
 exact⟨ds,aC,R,r1,aN,q1,fun v H' z=>hq _ _ (.after s1 z)⟩
end
end L3
end
section
namespace L3
open PySem PySem.Spec PyProof.Rows L2
noncomputable abbrev EF:XK:=fun _ _=>False
structure AD (K:PySem.W.Frag)(H:Hp)(st:aA)(P:fV)(D:Ends):Prop where
 nx:∀ σ' H' dG aB,cY K H' dG σ'->Step H st H' aB->aQ K aB H'->P.nx dG aB->D.nx σ' H'
 rt:∀ v H',QD K H st P.rt v H'->D.rt v H'
 bk:∀ σ' H' dG aB,cY K H' dG σ'->Step H st H' aB->aQ K aB H'->P.bk dG aB->D.bk σ' H'
 ct:∀ σ' H' dG aB,cY K H' dG σ'->Step H st H' aB->aQ K aB H'->P.ct dG aB->D.ct σ' H'
 ex:∀ c σd st,¬P.ex c σd st
theorem AD.after {K:PySem.W.Frag}{H H1:Hp}{st aC:aA}{P:fV}{D:Ends}(h:AD K H st P D)(s:Step H st H1 aC):AD K H1 aC P D :=
 ⟨fun σ' H' dG aB r t ok q=>h.nx σ' H' dG aB r (s.trans t) ok q,fun v H' z=>h.rt v H' (.after s z),fun σ' H' dG aB r t ok q=>h.bk σ' H' dG aB r (s.trans t) ok q,fun σ' H' dG aB r t ok q=>h.ct σ' H' dG aB r (s.trans t) ok q,h.ex⟩
inductive gH (K:PySem.W.Frag)(ts:fV->St->aA->Prop)(D:Ends)(σ:L2.St)(H:Hp):Prop where
 |mk (σd:St)(st:aA)(P:fV)(r:cY K H σd σ)(ok:aQ K st H)(q:ts P σd st)(h:AD K H st P D):gH K ts D σ H
section
variable {X:Cx}{C:aX}{sub:Nat->Nat->Bool}{a b c e:Expr}{x y z:Ex}{pos:Pos}{s:Stmt}{ss:List Stmt}{xs:List Sx}{sx:Sx}
theorem Bf:jP X [] (gH X.K (cN C sub [])) :=
 T9.imp fun D σ H ⟨σd,st,P,r,ok,q,h⟩=>by
 exact h.nx _ _ _ _ r .refl ok q
theorem YB (h1:PS X s (gH X.K (wpS C sub sx)))(h2:jP X ss (gH X.K (cN C sub xs))):jP X (s::ss) (gH X.K (cN C sub (sx::xs))) :=
 (QA h1 h2).imp fun D σ H ⟨σd,st,P,r,ok,q,h⟩=>by
 exact⟨σd,st,_,r,ok,q,⟨fun σ' H' dG aB r' s' eQ q'=>⟨dG,aB,P,r',eQ,q',h.after s'⟩,h.rt,h.bk,h.ct,h.ex⟩⟩
theorem pK {P:fV}{σd:St}{st:aA}{x:Ex}{Q:VK}(hC:bI C C)(he:∀ c σd st,¬P.ex c σd st)(q:aG C sub (fun c aB=>P.ex c σd aB) x σd st Q):aG C sub EF x σd st Q :=
 aS hC (fun c st z=>he _ _ _ z) x (fun _ _ z=>z) q
theorem Bu {P:fV}{σd:St}{st:aA}{xs:List Ex}{Q:List D->aA->Prop}(hC:bI C C)(he:∀ c σd st,¬P.ex c σd st)(q:bE C sub (fun c aB=>P.ex c σd aB) xs σd st Q):bE C sub EF xs σd st Q :=
 cG hC (fun c st z=>he _ _ _ z) xs (fun _ _ z=>z) q
theorem Cu (hC:bI C C)(h:PE X e (bN X.K (aG C sub EF x))):PS X (.Return (some e) pos) (gH X.K (wpS C sub (.ret x))) :=
 (XG h).imp fun D σ H ⟨σd,st,P,r,ok,q,h⟩=>by
 exact⟨σd,st,_,r,ok,pK hC h.ex q,h.rt⟩
theorem WQ:PS X (.Return none pos) (gH X.K (wpS C sub (.ret (.c .non)))) :=
 VM.imp fun D σ H ⟨σd,st,P,r,ok,q,h⟩=>by
 exact h.rt _ _ (.here ok .non q)
theorem Hw (hC:bI C C)(h:PE X e (bN X.K (aG C sub EF x)))(hs:swapsWith e none pos.line X.env=pure false):PS X (.Expr e pos) (gH X.K (wpS C sub (.ex x))) :=
 (UH h hs).imp fun D σ H ⟨σd,st,P,r,ok,q,h⟩=>by
 exact⟨σd,st,_,r,ok,pK hC h.ex q,fun v H' ⟨d,aB,s',eQ,_,q'⟩=>h.nx _ _ _ _ (r.step ok s') s' eQ q'⟩
theorem Gs {as bs:List Stmt}{ax bx:List Sx}(hC:bI C C)(hc:PT X c (iP X.K (aG C sub EF x)))(ha:jP X as (gH X.K (cN C sub ax)))(hb:jP X bs (gH X.K (cN C sub bx))):PS X (.If c as bs pos) (gH X.K (wpS C sub (.iff x ax bx))) :=
 (Dz hc ha hb).imp fun D σ H ⟨σd,st,P,r,ok,q,h⟩=>by
 refine⟨σd,st,fun k aB=>if k=true then cN C sub ax P σd aB else cN C sub bx P σd aB,r,ok,pK hC h.ex q,fun k H' ⟨aB,s',eQ,q'⟩=>?_⟩
 cases k with
 |true=>exact⟨σd,aB,P,r.step ok s',eQ,q',h.after s'⟩
 |false=>exact⟨σd,aB,P,r.step ok s',eQ,q',h.after s'⟩
theorem YU {cl:Nat}{es:List Ex}(hC:bI C C)(hn:∀ σd st,¬bE C sub EF es σd st fun _ _=>False):PS X s (gH X.K (wpS C sub (.rais cl es))) :=
 QK.imp fun D σ H ⟨σd,st,P,r,ok,q,h⟩=>by
 exact hn σd st (cG hC (fun c st z=>(h.ex _ _ _ z).elim) es (fun _ _ z=>(h.ex _ _ _ z).elim) q)
inductive HD (K:PySem.W.Frag)(g:D->St->aA->(St->aA->Prop)->Prop)(v:V)(σ:L2.St)(H:Hp)(Q:L2.St->Hp->Prop):Prop where
 |mk (d:D)(σd:St)(st:aA)(M:St->aA->Prop)(r:Rep K H d v)(sr:cY K H σd σ)(ok:aQ K st H)(q:g d σd st M)(hq:∀ σ' H' dG aB,cY K H' dG σ'->Step H st H' aB->aQ K aB H'->M dG aB->Q σ' H'):HD K g v σ H Q
theorem _root_.L2.PG.imp {X:Cx}{e:Expr}{t t':TG}(i:∀ v σ H Q,t' v σ H Q->t v σ H Q)(h:PG X e t):PG X e t':=fun pins s σ H v u Q I r q=>h pins s σ H v u Q I r (i v σ H Q q)
theorem PL {E:XK}{i:Nat}(h:PG X e (A6 i)):PG X e (HD X.K (lO C sub E (.nm i))) :=
 h.imp fun v σ H Q ⟨d,σd,st,M,rd,r,ok,q,hq⟩=>by
 exact hq _ _ _ _ (r.set i rd) .refl ok q
theorem K7 {tg:Expr}{t:Tg}(hC:bI C C)(he:PE X e (bN X.K (aG C sub EF x)))(hg:PG X tg (HD X.K (lO C sub EF t)))
 (hs:swapsWithSole [tg] e pos.line X.env=pure false)(hw:swappedStores [tg] e X.env=pure none)(h1:(assignEach [tg] X.env).map (·.2)=[assign tg X.env]):PS X (.Assign [tg] e pos) (gH X.K (wpS C sub (.asg t x))) :=
 (ZI he hg hs hw h1).imp fun D σ H ⟨σd,st,P,r,ok,q,h⟩=>by
 refine⟨σd,st,_,r,ok,pK hC h.ex q,fun v H' ⟨d,aB,s',eQ,rd,q'⟩=>?_⟩
 refine⟨d,σd,aB,P.nx,rd,r.step ok s',eQ,tB hC (fun c st z=>h.ex _ _ _ z) (fun _ _ z=>z) t q',fun σ2 H2 qY aF r2 s2 bO q2=>?_⟩
 exact h.nx _ _ _ _ r2 (s'.trans s2) bO q2
theorem UB {bs:List Stmt}{bx:List Sx}(hC:bI C C)(hp:PassesOwn (model X.prog X.w) X.A X.env X.xe)(hc:PT X c (iP X.K (aG C sub EF x)))(hb:jP X bs (gH X.K (cN C sub bx))):PS X (.While c bs [] pos) (gH X.K (wpS C sub (.whl x bx))) :=
 (Q2 hp hc hb).imp fun D σ H ⟨σd,st,P,r,ok,q,h⟩=>by
 obtain⟨n,q⟩:=q
 refine⟨fun m σ' H'=>∃ dG aB,cY X.K H' dG σ'/\Step H st H' aB/\aQ X.K aB H'/\nM _ m dG aB,⟨n,σd,st,r,.refl,ok,q⟩,fun m σ1 H1 ⟨σd1,aC,r1,s1,aN,q1⟩=>?_⟩
 cases m with
 |zero=>exact q1.elim
 |succ m =>
  simp only[nM]at q1
  refine⟨σd1,aC,fun k aB=>if k=true then cN C sub bx _ σd1 aB else P.nx σd1 aB,r1,aN,pK hC h.ex q1,fun k H2 ⟨aF,s2,bO,q2⟩=>?_⟩
  cases k with
  |false=>exact h.nx _ _ _ _ (r1.step aN s2) (s1.trans s2) bO q2
  |true =>
  refine⟨fun σ' H'=>∃ dG aB,cY X.K H' dG σ'/\Step H st H' aB/\aQ X.K aB H'/\nM _ m dG aB,fun σ' H' z=>⟨m,Nat.lt_succ_self _,z⟩,?_⟩
  refine⟨σd1,aF,_,r1.step aN s2,bO,q2,⟨fun σ' H' dG aB r' s' eQ q'=>⟨dG,aB,r',(s1.trans s2).trans s',eQ,q'⟩,fun v H' z=>h.rt _ _ (.after (s1.trans s2) z),fun σ' H' dG aB r' s' eQ q'=>h.nx _ _ _ _ r' ((s1.trans s2).trans s') eQ q',
   fun σ' H' dG aB r' s' eQ q'=>⟨dG,aB,r',(s1.trans s2).trans s',eQ,q'⟩,h.ex⟩⟩
end
end L3
end
section
namespace L3
open PySem PySem.Spec PyProof.Rows L2
noncomputable def SJ (x:Str):It:=⟨fun i _=>i<x.cps.size,fun i H v H'=>H'=H/\∃ c,x.cps[i]? = some c/\v=.str ⟨#[c]⟩,fun i _=>x.cps.size<=i⟩
theorem FA {P:Program}{w:World}{K:PySem.W.Frag}{tg:Expr}(it:Addr)(x:Str)(t:Tok)(ty:String)(hty:["enumerate","zip","dict_itemiterator","dict_reverseitemiterator","odict_iterator","itertools.zip_longest","itertools.pairwise"].contains ty=false)
  (W:∀ A:Around,A.handled=none->Walks P w A it [it] [it] x.cps.size (SignAt x) (fun i h=>h.IsStrIter it ty x t i))
  (hd:∀(A:Around)(i:Nat)(s:Shared)(Q:Option Value->Shared->Prop)(E:Value->Shared->Prop),A.handled=none->s.heap.IsStrIter it ty x t i->x.cps.size<=i->(∀ h',(∀ b o,b≠it->s.heap.get? b=some o->h'.get? b=some o)->Q none { s with heap:=h' })->wpAny (model P w) A (pyNext (.ref it)) Q E s)
  (hself:∀(A:Around)(i:Nat)(s:Shared)(Q:Value->Shared->Prop)(E:Value->Shared->Prop),s.heap.IsStrIter it ty x t i->Q (.ref it) s->wpAny (model P w) A (pyIter (.ref it)) Q E s):Turn P w K tg (SJ x) [it] it (fun i h=>h.IsStrIter it ty x t i) where
 mem:=by simp
 obj:=fun i h st b hb=>by
  have e:b=it:=by simpa using hb
  subst e
  obtain⟨o,e,c,d⟩:=st
  exact⟨o,e,fun v z=>by rw[d]at z;cases z⟩
 keep:=fun i h h' st k=>let⟨o,e,r⟩:=st;⟨o,k it (by simp) o e,r⟩
 item:=by
  intro X hP hw hK hc i pins s σ H E I hf st hg
  subst hP hw hK
  obtain⟨f0,f1,f2,f3,f4,f5⟩:=hf it (by simp)
  refine(W X.A (I.ok.hd hc)).item i s _ _ hg st fun v h' tk hv aB kk=>?_
  obtain⟨c,u,hc',rfl⟩:=hv
  have I1:Inv X pins σ H { s with heap:=h',toks:=tk }:=I.turned (fun b o hb e=>kk b o (by simpa using hb) e) f0 f1 f3 f4 f5
  obtain⟨o,e,c1,d⟩:=id aB
  exact⟨_,rfl,AE (s:={ s with heap:=h',toks:=tk }) e c1 d hty ⟨.str ⟨#[c]⟩,H,I1,⟨u,rfl⟩,⟨rfl,c,hc',rfl⟩,aB,fun b hb=>(hf b hb).1⟩⟩
 done:=by
  intro X hP hw hK hc i pins s σ H E I hf st hg
  subst hP hw hK
  obtain⟨f0,f1,f2,f3,f4,f5⟩:=hf it (by simp)
  exact hd X.A i s _ _ (I.ok.hd hc) st hg fun h' eb=>⟨rfl,I.turned (t':=s.toks) (fun b o hb e=>eb b o hb e) f0 f1 f3 f4 f5⟩
 self:=fun A i s Q E st h=>hself A i s Q E st h
structure yT (K:PySem.W.Frag)(J:It)(as:List Nat)(xs:List D)(H1:Hp)(aC:aA):Prop where
 go:∀ i H st d,Step H1 aC H st->aQ K st H->same as aC st->xs[i]? = some d->J.go i H
 yld:∀ i H st d x H',Step H1 aC H st->aQ K st H->same as aC st->xs[i]? = some d->J.yld i H x H'->Step H st H' st/\aQ K st H'/\Rep K H' d x
 stop:∀ i H st,Step H1 aC H st->aQ K st H->same as aC st->xs.length<=i->J.stop i H
inductive QJ (K:PySem.W.Frag)(H:Hp)(st:aA)(M:List Nat->List D->aA->Prop)(J:It)(H1:Hp):Prop where
 |mk (as:List Nat)(xs:List D)(aC:aA)(s:Step H st H1 aC)(ok:aQ K aC H1)(j:yT K J as xs H1 aC)(q:M as xs aC):QJ K H st M J H1
inductive vE (K:PySem.W.Frag)(te:St->aA->(List Nat->List D->aA->Prop)->Prop)(σ:L2.St)(H:Hp)(R:It->Hp->Prop):Prop where
 |mk (σd:St)(st:aA)(M:List Nat->List D->aA->Prop)(r:cY K H σd σ)(ok:aQ K st H)(q:te σd st M)(hq:∀ J H1,QJ K H st M J H1->R J H1):vE K te σ H R
section
variable {K:PySem.W.Frag}{H1:Hp}{aC:aA}{a:Addr}{xs:List D}{vs:List V}
theorem S1 (aN:aQ K aC H1)(f:dS K H1 a vs)(g:aJ K H1 xs vs):yT K (YG K a) [] xs H1 aC where
 go:=fun i H st d s ok _ e=>let⟨v,e1,_⟩:=g.get e;⟨vs,v,tU aN s f,e1⟩
 yld:=fun i H st d x H' s ok _ e ⟨e',h⟩=>by
  subst e'
  obtain⟨v,e1,e2⟩:=g.get e
  have:=h vs (tU aN s f)
  rw[e1]at this;cases this
  exact⟨.refl,ok,e2.step aN s⟩
 stop:=fun i H st s ok _ l=>⟨vs,tU aN s f,by rw[<-g.length];exact l⟩
theorem QN (aN:aQ K aC H1)(f:kR K H1 a vs)(g:aJ K H1 xs vs):yT K (RW K a) [] xs H1 aC where
 go:=fun i H st d s ok _ e=>let⟨v,e1,_⟩:=g.get e;⟨vs,v,(qM aN s f).sq,e1⟩
 yld:=fun i H st d x H' s ok _ e ⟨e',h⟩=>by
  subst e'
  obtain⟨v,e1,e2⟩:=g.get e
  have:=h vs (qM aN s f).sq
  rw[e1]at this;cases this
  exact⟨.refl,ok,e2.step aN s⟩
 stop:=fun i H st s ok _ l=>⟨vs,(qM aN s f).sq,by rw[<-g.length];exact l⟩
theorem UL (aN:aQ K aC H1)(e0:aC a=some (.lst xs)):yT K (RW K a) [a] xs H1 aC where
 go:=fun i H st d s ok sm e=>by
  have e':st a=some (.lst xs):=(sm a (by simp)).trans e0
  obtain⟨us,g1,g2⟩:=ok.lst e'
  obtain⟨v,e1,_⟩:=g2.get e
  exact⟨us,v,dU.of g1,e1⟩
 yld:=fun i H st d x H' s ok sm e ⟨e',h⟩=>by
  subst e'
  have e':st a=some (.lst xs):=(sm a (by simp)).trans e0
  obtain⟨us,g1,g2⟩:=ok.lst e'
  obtain⟨v,e1,e2⟩:=g2.get e
  have:=h us (dU.of g1)
  rw[e1]at this;cases this
  exact⟨.refl,ok,e2⟩
 stop:=fun i H st s ok sm l=>by
  have e':st a=some (.lst xs):=(sm a (by simp)).trans e0
  obtain⟨us,g1,g2⟩:=ok.lst e'
  exact⟨us,dU.of g1,by rw[<-g2.length];exact l⟩
theorem C3 (lo:Int)(n:Nat):yT K (OV lo n) [] (jR lo n) H1 aC where
 go:=fun i H st d s ok _ e=>by
  have:=(List.getElem?_eq_some_iff.mp e).1
  show i<n
  simpa [jR]using this
 yld:=fun i H st d x H' s ok _ e ⟨e',h⟩=>by
  subst e' h
  simp only[jR,List.getElem?_map,Option.map_eq_some_iff]at e
  obtain⟨k,e1,rfl⟩:=e
  have:k=i:=by
   rw[List.getElem?_eq_some_iff]at e1
   obtain⟨_,e2⟩:=e1
   simp at e2
   exact e2.symm
  subst this
  exact⟨.refl,ok,.int _⟩
 stop:=fun i H st s ok _ l=>by show n<=i;simpa [jR]using l
theorem IZ (x:List Nat):yT K (SJ ⟨x.toArray⟩) [] (x.map fun c=>.str [c]) H1 aC where
 go:=fun i H st d s ok _ e=>by
  have:=(List.getElem?_eq_some_iff.mp e).1
  show i<(⟨x.toArray⟩:Str).cps.size
  simpa using this
 yld:=fun i H st d v H' s ok _ e ⟨e',c,ec,ev⟩=>by
  subst e' ev
  simp only[List.getElem?_map,Option.map_eq_some_iff]at e
  obtain⟨c',e1,rfl⟩:=e
  have:c=c':=by
   have ec:x.toArray[i]? = some c:=ec
   simp at ec
   rw[ec]at e1;exact Option.some.inj e1
  subst this
  exact⟨.refl,ok,.str [c]⟩
 stop:=fun i H st s ok _ l=>by
  show(⟨x.toArray⟩:Str).cps.size<=i
  simpa using l
end
section
variable {X:Cx}{C:aX}{sub:Nat->Nat->Bool}{a b c e tg:Expr}{x y z:Ex}{pos:Pos}
theorem _root_.L2.PI.imp {X:Cx}{tg e:Expr}{t t':TI}(i:∀ σ H Q,t' σ H Q->t σ H Q)(h:PI X tg e t):PI X tg e t':=fun pins s σ H Q I q=>h pins s σ H Q I (i σ H Q q)
theorem XF {E:XK}(h:PE X e (bN X.K (aG C sub E x))):PI X tg e (vE X.K fun σ st M=>bE C sub E [x] σ st fun ds aC=>fD none ds aC fun as xs=>M as xs aC):=by
 intro pins s σ H R I ⟨σd,st,M,r,ok,q,hq⟩
 refine aV (h pins s σ H _ I ⟨σd,st,_,r,ok,q,fun v H' z=>z⟩) fun u s1 ⟨v,H1,I1,rv,d,aC,cX,aN,r1,q1⟩=>?_
 have fresh:∀{b:Addr},b∈[s1.heap.objs.size]->mF X pins H1 b:=fun{b} hb=>by
  have e:b=s1.heap.objs.size:=by simpa using hb
  subst e
  exact I1.GP (Nat.le_refl _) (I1.bJ.fresh (Nat.le_refl _))
 have tup:∀(a:Addr)(vs:List V)(as:List Nat)(xs:List D),v=.ref a->dS X.K H1 a vs->yT X.K (YG X.K a) as xs H1 aC->M as xs aC->wpAny (model X.prog X.w) X.A (pyIter u) (MJ X pins σ tg R) X.xe s1:=by
  intro a vs as xs e f j q
  subst e
  cases rv
  obtain⟨aD,rr,p,hz⟩:=I1.tuple f
  exact wpAny_pyIter_tuple (show s1.heap.IsTuple a aD.toArray from p) ⟨s1.heap.objs.size,[s1.heap.objs.size],_,_,H1,rfl,I1.kept (t':=s1.toks) fun b o e=>Heap.get?_push_of_some _ e,K0 a _,⟨_,Heap.get?_push_size _ rfl,rfl,rfl⟩,fun b hb=>fresh hb,hq _ _ ⟨as,xs,aC,cX,aN,j,q⟩⟩
 have lst:∀(a:Addr)(vs:List V)(as:List Nat)(xs:List D),v=.ref a->dU X.K H1 a vs->yT X.K (RW X.K a) as xs H1 aC->M as xs aC->wpAny (model X.prog X.w) X.A (pyIter u) (MJ X pins σ tg R) X.xe s1:=by
  intro a vs as xs e f j q
  subst e
  cases rv
  obtain⟨aD,rr,p,hz⟩:=I1.list f
  exact wpAny_pyIter_list p.isList ⟨s1.heap.objs.size,[s1.heap.objs.size],_,_,H1,rfl,I1.kept (t':=s1.toks) fun b o e=>Heap.get?_push_of_some _ e,NT a _,⟨_,Heap.get?_push_size _ rfl,rfl,rfl⟩,fun b hb=>fresh hb,hq _ _ ⟨as,xs,aC,cX,aN,j,q⟩⟩
 have q1:nA d aC fun as xs=>M as xs aC:=q1
 cases d with
 |tup ds =>
  obtain⟨a,vs,e,f,g⟩:=r1.bK
  exact tup a vs _ _ e f (S1 aN f g) q1
 |str z =>
  have q1:z.length<=bG/\M [] (z.map fun c=>.str [c]) aC:=q1
  cases r1.str_inv
  obtain⟨t,rfl⟩:=rv
  cases ha:(⟨z.toArray⟩:Str).cps.all (·< 128)
  ·exact wpAny_pyIter_wide ha ⟨s1.heap.objs.size,[s1.heap.objs.size],_,SJ ⟨z.toArray⟩,H1,rfl,I1.kept (t':=s1.toks) fun b o e=>Heap.get?_push_of_some _ e,
   FA s1.heap.objs.size ⟨z.toArray⟩ t "str_iterator" (by decide) (fun A hA=>Walks.strWide hA _ _ t) (fun A i s Q E hA hi hn hQ=>wpAny_pyNext_wide_end hA hi (by simpa using hn) fun h' he=>hQ h' he) (fun A i s Q E hi hQ=>wpAny_pyIter_striter_wide hi hQ),
   ⟨_,Heap.get?_push_size _ rfl,rfl,rfl⟩,fun b hb=>fresh hb,hq _ _ ⟨_,_,aC,cX,aN,IZ z,q1.2⟩⟩
  ·exact wpAny_pyIter_ascii ha ⟨s1.heap.objs.size,[s1.heap.objs.size],_,SJ ⟨z.toArray⟩,H1,rfl,I1.kept (t':=s1.toks) fun b o e=>Heap.get?_push_of_some _ e,
   FA s1.heap.objs.size ⟨z.toArray⟩ t "str_ascii_iterator" (by decide) (fun A hA=>Walks.strAscii hA _ _ t) (fun A i s Q E hA hi hn hQ=>wpAny_pyNext_ascii_end hA hi (by simpa using hn) fun h' he=>hQ h' he) (fun A i s Q E hi hQ=>wpAny_pyIter_striter_ascii hi hQ),
   ⟨_,Heap.get?_push_size _ rfl,rfl,rfl⟩,fun b hb=>fresh hb,hq _ _ ⟨_,_,aC,cX,aN,IZ z,q1.2⟩⟩
 |ref a =>
  cases r1.cB
  obtain⟨ds,e,q1⟩:=dI (st:=aC) q1
  obtain⟨vs,g1,g2⟩:=aN.lst e
  exact lst _ vs _ _ rfl (dU.of g1) (UL aN e) q1
 |bF ds =>
  obtain⟨a,vs,e,f,g⟩:=r1.jQ
  exact lst a vs _ _ e f.sq (QN aN f g) q1
 |_=>exact(show False from q1).elim
theorem T2 {E:XK}{p:Pos}(hC:bI C C)(hg:Gl X "range")(hm:X.mg "range" = none)(ha:PA X [a] (jC X.K (bE C sub E [x])))(hs:starEach [a] X.env=[(false,eval a X.env)]):
 PI X tg (.Call (.Name "range" p) [a] [] pos) (vE X.K fun σ st M=>bE C sub E [x] σ st fun ds aC=>fD (some .range) ds aC fun as xs=>M as xs aC) :=
 (MC hg hm ha hs).imp fun σ H R ⟨σd,st,M,r,ok,q,hq⟩=>by
 refine⟨σd,st,_,r,ok,mL [x] hC q,fun vs H1 ⟨ds,aC,s1,aN,r1,l1,q1⟩=>?_⟩
 match ds,l1,q1 with
 |[d],_,q1 =>
  obtain⟨v,rfl,rd⟩:=r1.one
  have q1:fD (some .range) [d] aC fun as xs=>M as xs aC:=q1
  cases d with
  |int j =>
  cases rd.int_inv
  exact⟨j,rfl,q1.1.1,q1.1.2,hq _ _ ⟨_,_,aC,s1,aN,C3 0 _,q1.2⟩⟩
  |_=>exact(show False from q1).elim
theorem S8 {E:XK}{p:Pos}(hC:bI C C)(hg:Gl X "range")(hm:X.mg "range" = none)(ha:PA X [a,b] (jC X.K (bE C sub E [x,y])))(hs:starEach [a,b] X.env=[(false,eval a X.env),(false,eval b X.env)])(hs2:starEach [b] X.env=[(false,eval b X.env)]):
 PI X tg (.Call (.Name "range" p) [a,b] [] pos) (vE X.K fun σ st M=>bE C sub E [x,y] σ st fun ds aC=>fD (some .range) ds aC fun as xs=>M as xs aC) :=
 (MV hg hm ha hs hs2).imp fun σ H R ⟨σd,st,M,r,ok,q,hq⟩=>by
 refine⟨σd,st,_,r,ok,mL [x,y] hC q,fun vs H1 ⟨ds,aC,s1,aN,r1,l1,q1⟩=>?_⟩
 match ds,l1,q1 with
 |[d,d'],_,q1 =>
  have q1:fD (some .range) [d,d'] aC fun as xs=>M as xs aC:=q1
  cases r1 with|cons r1 r2=>cases r2 with|cons r2 r3 =>
  cases r3
  cases d<;>first|exact(show False from q1).elim|skip
  cases d'<;>first|exact(show False from q1).elim|skip
  cases r1.int_inv;cases r2.int_inv
  exact⟨_,_,rfl,⟨q1.1.1,q1.1.2,q1.2.1.1,q1.2.1.2⟩,hq _ _ ⟨_,_,aC,s1,aN,C3 _ _,q1.2.2⟩⟩
theorem SD {k:Option IK}{aD:List Ex}{iter:Expr}{t:Tg}{bs:List Stmt}{bx:List Sx}(hC:bI C C)(hp:PassesOwn (model X.prog X.w) X.A X.env X.xe)(hc:X.calm=true)
 (hi:PI X tg iter (vE X.K fun σ st M=>bE C sub EF aD σ st fun ds aC=>fD k ds aC fun as xs=>M as xs aC))(hg:PG X tg (HD X.K (lO C sub EF t)))(hb:jP X bs (gH X.K (cN C sub bx)))
 (hs:∀ x,foldedSetIterable iter X.env x=pure x):PS X (.For tg iter bs [] pos) (gH X.K (wpS C sub (.gJ t k aD bx))) :=
 (WZ hp hc hi hg hb hs).imp fun DD σ H ⟨σd,st,P,r,ok,q,h⟩=>by
 refine⟨σd,st,_,r,ok,Bu hC h.ex q,fun J H1 ⟨as,xs,aC,s1,aN,j,q1⟩=>?_⟩
 refine⟨fun i m σ' H'=>∃ dG aB,cY X.K H' dG σ'/\Step H1 aC H' aB/\aQ X.K aB H'/\m+i=xs.length/\vA (same as aC) (fun(x:L3.D) next σ st=>lO C sub (fun c aB=>P.ex c σ aB) t x σ st fun σ' aB=>cN C sub bx { P with nx:=next,ct:=next,bk:=P.nx } σ' aB) P.nx (xs.drop i) dG aB,⟨xs.length,σd,aC,r.step ok s1,.refl,aN,by omega,by simpa using q1⟩,fun i m σ2 H2 ⟨qY,aF,r2,s2,bO,e2,q2⟩=>?_⟩
 by_cases hi':i<xs.length
 ·have ed:xs.drop i=xs[i]::xs.drop (i+1):=List.drop_eq_getElem_cons hi'
  rw[ed]at q2
  obtain⟨g2,q2⟩:=q2
  refine .inr ⟨j.go i H2 aF xs[i] s2 bO g2 (List.getElem?_eq_getElem hi'),fun σ' H'=>∃ dG aB,cY X.K H' dG σ'/\Step H1 aC H' aB/\aQ X.K aB H'/\vA (same as aC) (fun(x:L3.D) next σ st=>lO C sub (fun c aB=>P.ex c σ aB) t x σ st fun σ' aB=>cN C sub bx { P with nx:=next,ct:=next,bk:=P.nx } σ' aB) P.nx (xs.drop (i+1)) dG aB,
  fun σ' H' ⟨dG,aB,r',s',eQ,q'⟩=>⟨m-1,by omega,dG,aB,r',s',eQ,by omega,q'⟩,fun v H3 y3=>?_⟩
  obtain⟨s3,nS,r3⟩:=j.yld i H2 aF xs[i] v H3 s2 bO g2 (List.getElem?_eq_getElem hi') y3
  refine⟨xs[i],qY,aF,_,r3,r2.step bO s3,nS,tB hC (fun c st z=>h.ex _ _ _ z) (fun _ _ z=>z) t q2,fun σ4 H4 σd4 dR r4 s4 KH q4=>?_⟩
  refine⟨σd4,dR,_,r4,KH,q4,⟨fun σ' H' dG aB r' s' eQ q'=>⟨dG,aB,r',((s2.trans s3).trans s4).trans s',eQ,q'⟩,fun v H' z=>h.rt _ _ (.after (((s1.trans s2).trans s3).trans s4) z),
  fun σ' H' dG aB r' s' eQ q'=>h.nx _ _ _ _ r' ((((s1.trans s2).trans s3).trans s4).trans s') eQ q',fun σ' H' dG aB r' s' eQ q'=>⟨dG,aB,r',((s2.trans s3).trans s4).trans s',eQ,q'⟩,h.ex⟩⟩
 ·have ed:xs.drop i=[]:=List.drop_eq_nil_of_le (by omega)
  rw[ed]at q2
  exact .inl ⟨j.stop i H2 aF s2 bO q2.1 (by omega),h.nx _ _ _ _ r2 (s1.trans s2) bO q2.2⟩
end
end L3
end
section
namespace L3
open PySem PySem.Spec PyProof.Rows L2
section
variable {X:Cx}{C:aX}{sub:Nat->Nat->Bool}{a b c e o i tg:Expr}{x y z:Ex}{pos:Pos}
noncomputable def jZ (is:List Nat)(vs:List V)(σ:L2.St):L2.St:=(is.zip vs).foldl (fun σ p=>σ.set p.1 (some p.2)) σ
noncomputable def sE (is:List Nat):CV:=fun vs σ H Q=>vs.length=is.length/\Q (jZ is vs σ) H
theorem Aj:BG X [] (sE []):=fun pins s σ H vs us Q I r h=>by
 have:vs=[]:=List.length_eq_zero_iff.mp h.1
 subst this
 exact VP pins s σ H [] us Q I r ⟨rfl,h.2⟩
theorem U0 {es:List Expr}{i:Nat}{is:List Nat}(h1:PG X e (A6 i))(h2:BG X es (sE is))(hs:(assignEach (e::es) X.env).map (·.2)=assign e X.env::(assignEach es X.env).map (·.2)):BG X (e::es) (sE (i::is)):=fun pins s σ H vs us Q I r h=>by
 obtain⟨hl,h⟩:=h
 cases vs with
 |nil=>simp at hl
 |cons v vs=>exact QS h1 h2 hs pins s σ H (v::vs) us Q I r ⟨v,vs,rfl,by simpa using hl,h⟩
theorem cY.O5 {K:PySem.W.Frag}{H:Hp}:∀(is:List Nat){ds:List D}{vs:List V}{σd:St}{σ:L2.St},cY K H σd σ->aJ K H ds vs->cY K H ((is.zip ds).foldl (fun σ p=>σ.set p.1 (some p.2)) σd) (jZ is vs σ)
 |[],_,_,_,_,r,_=>by simpa [jZ]using r
 |_::_,_,_,_,_,r,.nil=>by simpa [jZ]using r
 |i::is,_,_,_,_,r,.cons h t=>by
  have:=cY.O5 is (r.set i h) t
  simpa [jZ]using this
theorem Hz {E:XK}{es:List Expr}{k:Nat}{is:List Nat}(hc:X.calm=true)(h:BG X es (sE is))(hn:(assignEach es X.env).length=is.length)(eB:(assignEach es X.env).findIdx? (·.1)=none):
 PG X (.Tuple es k pos) (HD X.K (lO C sub E (.tp is))) :=
 (Ak hc h hn eB).imp fun v σ H Q ⟨d,σd,st,M,rd,r,ok,q,hq⟩=>by
 cases d with
 |tup ds0 =>
  have q:ds0.length=is.length/\M _ st:=q
  obtain⟨a,vs,rfl,f,g⟩:=rd.bK
  exact⟨a,vs,rfl,f,by rw[<-g.length];exact q.1,by rw[<-g.length];exact q.1,hq _ _ _ _ (r.O5 is g) .refl ok q.2⟩
 |_=>exact(show False by cases is<;>exact q).elim
theorem He {E:XK}(ho:PE X o (bN X.K (aG C sub E x)))(hi:PE X i (bN X.K (aG C sub E y)))
 (ha:∀ v,assign (.Subscript o i pos) X.env v=(do
  let ov <-holding [v] (eval o X.env)
  let iv <-holding [v,ov] (eval i X.env)
  standAt pos
  holding [v,ov,iv] (setItem ov iv v)
  release [v,ov,iv] [])):PG X (.Subscript o i pos) (HD X.K (lO C sub E (.ix x y))) :=
 (W4 ho hi set_list ha).imp fun v σ H Q ⟨d,σd,st,M,rd,r,ok,q,hq⟩=>by
 refine⟨σd,st,_,r,ok,q,fun v1 H1 ⟨d1,aC,s1,aN,r1,q1⟩=>?_⟩
 refine⟨σd,aC,_,r.step ok s1,aN,q1,fun v2 H2 ⟨d2,aF,s2,bO,r2,q2⟩=>?_⟩
 have r1':=r1.step aN s2
 have rd':=(rd.step ok s1).step aN s2
 have q2:zF d1 d2 d aF fun bC=>M σd bC:=q2
 cases d1<;>first|exact(show False from q2).elim|skip
 cases d2<;>first|exact(show False from q2).elim|skip
 cases r1'.cB
 cases r2.int_inv
 rw[IS]at q2
 obtain⟨xs,e,q2⟩:=dI q2
 obtain⟨j,ej,q2⟩:=eE q2
 obtain⟨vs,g1,g2⟩:=bO.lst e
 refine⟨_,vs,_,j,rfl,rfl,g1,by rw[<-g2.length];exact ej,?_⟩
 have s3:=kY (H:=H2) (st:=aF) (o:=.lst (vs.set j v)) (m':=.lst (xs.set j d)) e
 exact hq _ _ _ _ (((r.step ok s1).step aN s2).step bO s3) ((s1.trans s2).trans s3) (bO.set e (g2.set rd' j)) q2
end
end L3
end
section
namespace L3
open PySem PySem.Spec PyProof.Rows L2
noncomputable def jV (cells:List (Str×Addr)):List (Str×NameKind)->List (Str×Addr)->List (Str×Addr)
 |[],cs=>cs
 |(n,k)::r,cs=>jV cells r (if k == .free then(n,(cells.lookup n).getD 0)::cs else cs)
theorem AY {env:Env}:∀(names:List (Str×NameKind))(cs:List (Str×Addr)),(∀ p∈names,p.2=.free->∃ c,env.cells.lookup p.1=some c) ->
  (forIn names cs fun(p:Str×NameKind)(cs:List (Str×Addr))=>(if p.2 == .free then do let c <-cellOf env p.1;pure (ForInStep.yield ((p.1,c)::cs))else pure (ForInStep.yield cs):Sem (ForInStep (List (Str×Addr)))))=pure (jV env.cells names cs)
 |[],cs,_=>by simp [jV]
 |(n,k)::r,cs,h=>by
  have ih:=fun cs=>AY r cs fun p hp=>h p (List.mem_cons_of_mem _ hp)
  simp only[List.forIn_cons,jV]
  cases e:(k==NameKind.free)with
  |true =>
   obtain⟨c,hc⟩:=h (n,k) (List.mem_cons_self ..) (by simpa using e)
   have hc:env.cells.lookup n=some c:=hc
   simp only[if_true,cellOf,hc,Option.getD_some,pure_bind]
   exact ih _
  |false =>
   simp only[Bool.false_eq_true,if_false,pure_bind]
   exact ih _
theorem nY {env:Env}{scope:Scope}(h:∀ p∈scope.names,p.2=.free->∃ c,env.cells.lookup p.1=some c):closureFor scope env=pure (jV env.cells scope.names []):=by
 rw[<-AY scope.names [] h]
 unfold closureFor
 simp only[bind_pure]
theorem jW {cells:List (Str×Addr)}:∀(names:List (Str×NameKind))(cs:List (Str×Addr)){x:Str}{c:Addr},(∀ p∈names,p.2=.free->∃ c,cells.lookup p.1=some c)->(∀ x c,cs.lookup x=some c->cells.lookup x=some c)->(jV cells names cs).lookup x=some c->cells.lookup x=some c
 |[],cs,x,c,_,h,e=>h x c e
 |(n,k)::r,cs,x,c,hn,h,e=>by
  simp only[jV]at e
  refine jW r _ (fun p hp=>hn p (List.mem_cons_of_mem _ hp)) (fun y d ed=>?_) e
  split at ed
  ·rename_i hk
   obtain⟨c',hc'⟩:=hn (n,k) (List.mem_cons_self ..) (by simpa using hk)
   have hc':cells.lookup n=some c':=hc'
   rw[List.lookup_cons]at ed
   split at ed
   ·rename_i q
    have q:y=n:=by simpa using q
    subst q
    rw[hc']at ed ⊢
    simpa using ed
   ·exact h y d ed
  ·exact h y d ed
theorem DS {cells:List (Str×Addr)}:∀(names:List (Str×NameKind))(cs:List (Str×Addr)){x:Str},(∃ c,cs.lookup x=some c)->∃ c,(jV cells names cs).lookup x=some c
 |[],cs,x,h=>h
 |(n,k)::r,cs,x,h=>by
  simp only[jV]
  refine DS r _ ?_
  split
  ·rw[List.lookup_cons]
   split
   ·exact⟨_,rfl⟩
   ·exact h
  ·exact h
theorem sU {cells:List (Str×Addr)}:∀(names:List (Str×NameKind))(cs:List (Str×Addr)){x:Str},names.lookup x=some .free->∃ c,(jV cells names cs).lookup x=some c
 |[],cs,x,h=>by simp at h
 |(n,k)::r,cs,x,h=>by
  simp only[jV]
  rw[List.lookup_cons]at h
  split at h
  ·rename_i q
   cases h
   refine DS r _ ?_
   simp only[beq_self_eq_true,if_true]
   rw[List.lookup_cons,q]
   exact⟨_,rfl⟩
  ·exact sU r _ h
theorem pJ {env:Env}:∀{names:List (Str×NameKind)}{x:Str}{k:NameKind},(names.map fun(n,k)=>if(k==NameKind.free&&env.scope.kind == .function&&env.kindOf n==some .cell)then(n,NameKind.cell)else(n,k)).lookup x=some k->∃ k',names.lookup x=some k'/\(k'=k∨(k'=.free/\k=.cell))
 |[],x,k,h=>by simp at h
 |(n,k0)::r,x,k,h=>by
  simp only[List.map_cons]at h
  cases q:(x==n)with
  |true =>
   refine⟨k0,by simp only[List.lookup_cons,q],?_⟩
   by_cases hc:(k0==NameKind.free&&env.scope.kind == .function&&env.kindOf n==some .cell)=true
   ·simp only[hc,if_true,List.lookup_cons,q]at h
    cases h
    simp only[Bool.and_eq_true]at hc
    exact .inr ⟨by simpa using hc.1.1,rfl⟩
   ·simp only[hc,if_false,List.lookup_cons,q,Bool.false_eq_true]at h
    cases h
    exact .inl rfl
  |false =>
   simp only[List.lookup_cons,q]
   refine pJ (env:=env) (names:=r) ?_
   by_cases hc:(k0==NameKind.free&&env.scope.kind == .function&&env.kindOf n==some .cell)=true
   ·simp only[hc,if_true,List.lookup_cons,q]at h
    exact h
   ·simp only[hc,if_false,List.lookup_cons,q,Bool.false_eq_true]at h
    exact h
theorem pP {env:Env}:∀{names:List (Str×NameKind)}{x:Str},names.lookup x=some .free->(names.map fun(n,k)=>if(k==NameKind.free&&env.scope.kind == .function&&env.kindOf n==some .cell)then(n,NameKind.cell)else(n,k)).lookup x=some .cell∨(names.map fun(n,k)=>if(k==NameKind.free&&env.scope.kind == .function&&env.kindOf n==some .cell)then(n,NameKind.cell)else(n,k)).lookup x=some .free
 |[],x,h=>by simp at h
 |(n,k0)::r,x,h=>by
  simp only[List.map_cons]
  rw[List.lookup_cons]at h
  split at h
  ·rename_i q;cases h
   split
   ·exact .inl (by rw[List.lookup_cons,q])
   ·exact .inr (by rw[List.lookup_cons,q])
  ·rename_i q
   split
   ·rw[List.lookup_cons,q];exact pP h
   ·rw[List.lookup_cons,q];exact pP h
structure kE (X:Cx)(scope:Scope)(cn:List Str)(aL:List Nat):Prop where
 kind:scope.kind=.function
 nocell:∀ y∈scope.names,y.2≠.cell
 names:∀ y∈scope.names,y.2=.local->scope.names.lookup y.1=some .local
 free:∀ y∈scope.names,y.2=.free->X.env.kindOf y.1=some .cell∨X.env.kindOf y.1=some .free
 len:cn.length=aL.length
 cap:∀(j:Nat)(y:Str),cn[j]? = some y->scope.names.lookup y=some .free/\∃ i,aL[j]? = some i/\X.N[i]? = some y/\(X.env.kindOf y=some .cell∨X.env.kindOf y=some .free)
noncomputable def lG (X:Cx)(scope:Scope)(own cn:List Str)(fp:List Addr)(s:Shared)(H:Hp)(Ca:Addr):Cx :=
 { X with N:=own++cn,s₀:=s,H₀:=H,env:=compEnvC scope (jV X.env.cells scope.names []) Ca X.env,outer:=X.stack,ex:=fp,fn:=fun _=>false,calm:=true,pn:=[],xe:=fun _ _=>False }
noncomputable def oA (aL:List Nat)(σ:L2.St):L2.St:=aL.map fun i=>(σ[i]?).getD none
section
variable {X:Cx}{scope:Scope}{own cn:List Str}{aL:List Nat}{fp:List Addr}{pins:List (Addr×Obj)}{σ:L2.St}{H:Hp}{s:Shared}
theorem kE.cells (S:kE X scope cn aL)(ok:X.Ok):∀ p∈scope.names,p.2=.free->∃ c,X.env.cells.lookup p.1=some c:=fun p hp e=>ok.has p.1 (S.free p hp e)
theorem PF (S:kE X scope cn aL)(hc:X.calm=true)(I:Inv X pins σ H s)(hf:∀ b∈fp,mF X pins H b)(cQ:∀ b∈fp,b<s.heap.objs.size){Ca:Addr}(hC:s.heap.objs.size<=Ca):(lG X scope own cn fp s H Ca).Ok where
 mod:=I.ok.mod
 kind:=S.kind
 glob:=I.ok.glob
 blt:=I.ok.blt
 above:=hC
 inj:=fun x y c h1 h2=>I.ok.inj x y c (jW _ [] (S.cells I.ok) (fun _ _ h=>by simp at h) h1) (jW _ [] (S.cells I.ok) (fun _ _ h=>by simp at h) h2)
 has:=fun x h=>by
  refine sU _ [] ?_
  rcases h with h|h
  ·obtain⟨k,e,r⟩:=pJ (env:=X.env) (show List.lookup x (List.map _ scope.names)=_ from h)
   rcases r with rfl|⟨rfl,_⟩
   ·exact absurd rfl (S.nocell _ (PySem.mem_of_lookup e))
   ·exact e
  ·obtain⟨k,e,r⟩:=pJ (env:=X.env) (show List.lookup x (List.map _ scope.names)=_ from h)
   rcases r with rfl|⟨rfl,r⟩
   ·exact e
   ·cases r
 cab:=fun x c h _=>by cases h
 hd:=fun _=>I.ok.hd hc
 frames:=I.ok.frames
 stk:=.inl rfl
 exf:=fun b hb=>⟨fun e=>absurd (cQ b hb) (by rw[e];exact Nat.not_lt.mpr hC),fun x c h=>(hf b hb).2.2.2.2.1 x c (jW _ [] (S.cells I.ok) (fun _ _ h=>by simp at h) h)⟩
 bs:=I.bs
 bsz:=Nat.le_trans I.ok.bsz I.sz
 noex:=fun b o e hb=>by
  rcases(hf b hb).2.2.2.1 with z|z
  ·exact I.ok.noex b o e z
  ·exact absurd (Nat.lt_of_lt_of_le (Heap.lt_size e) (Nat.le_trans I.ok.bsz z)) (Nat.lt_irrefl _)
 exfs:=fun b hb z=>by
  rcases List.mem_cons.mp (I.BE b z)with e|e
  ·exact(hf b hb).2.1 e
  ·exact(hf b hb).2.2.1 e
 kC:=I.stack
 frf:=I.J4
theorem IJ (S:kE X scope cn aL)(hc:X.calm=true)(I:Inv X pins σ H s)(hf:∀ b∈fp,mF X pins H b)(cQ:∀ b∈fp,b<s.heap.objs.size){Ca:Addr}(hC:s.heap.objs.size<=Ca){h1:Heap}{tk:Nat}
  {m:Str->Option Value}(hn:h1.Ns Ca m)(hk:∀ b o,s.heap.get? b=some o->h1.get? b=some o):
  Inv (lG X scope own cn fp s H Ca) [] (List.replicate own.length none++oA aL σ) H { s with heap:=h1,toks:=tk } where
 ok:=PF S hc I hf cQ hC
 os:=rfl
 bare:=I.bare
 base:=Un.kept hk
 loc:=⟨m,hn,fun i y v h1' h2 h3=>by
  have hi:own.length<=i:=by
   refine Nat.le_of_not_lt fun hi=>?_
   rw[List.getElem?_append_left (by simpa using hi),List.getElem?_replicate]at h2
   split at h2<;>cases h2
  rw[List.getElem?_append_right (by simpa using hi)]at h2
  have h1':(own++cn)[i]? = some y:=h1'
  rw[List.getElem?_append_right hi]at h1'
  simp only[List.length_replicate,oA,List.getElem?_map,Option.map_eq_some_iff]at h2
  obtain⟨k,e1,e2⟩:=h2
  obtain⟨hfr,i',e3,e4,e5⟩:=S.cap _ y h1'
  rw[e1]at e3;cases e3
  cases e6:σ[k]? with
  |none=>rw[e6]at e2;cases e2
  |some u =>
   rw[e6]at e2
   have e2:u=some v:=e2
   subst e2
   obtain⟨m0,hn0,hl0⟩:=I.loc
   obtain⟨w,rw',lk⟩:=hl0 k y v e4 e6 (e5.elim (fun z=>.inr (.inl z)) fun z=>.inr (.inr z))
   refine⟨w,rw',?_⟩
   rcases lk with⟨z,_⟩|⟨_,c,ec,⟨oc,hoc,hdc⟩⟩
   ·rcases e5 with e5|e5
    ·rw[e5]at z;cases z
    ·rw[e5]at z;cases z
   ·obtain⟨c',ec'⟩:=sU (cells:=X.env.cells) scope.names [] hfr
    have:=jW _ [] (S.cells I.ok) (fun _ _ h=>by simp at h) ec'
    rw[ec]at this;cases this
    exact .inr ⟨pP (env:=X.env) hfr,c,ec',⟨oc,hk _ _ hoc,hdc⟩⟩⟩
 cell:=fun x c h=>by
  obtain⟨v,o,ho,hd⟩:=I.cell x c (jW _ [] (S.cells I.ok) (fun _ _ h=>by simp at h) h)
  exact⟨v,o,hk _ _ ho,hd⟩
 free:=I.bJ.fresh hC
 jJ:=fun x c h=>I.jJ x c (jW _ [] (S.cells I.ok) (fun _ _ h=>by simp at h) h)
 pin:=fun p hp=>absurd (show p∈([]:List (Addr×Obj))from hp) (by simp)
 bJ:=I.bJ.kept hk
 len:=by
  show(List.replicate own.length none++oA aL σ).length=(own++cn).length
  simp [oA,S.len]
end
end L3
end
section
namespace L3
open PySem PySem.Spec PyProof.Rows L2
noncomputable def wR (ifs:List Expr)(env:Env):Sem Bool:=forIn ifs true fun c r=>if r=true then do let ok <-isTrue c env (eval c env);pure (ForInStep.yield ok)else pure (ForInStep.yield r)
noncomputable def DJ (X:Cx)(ifs:List Expr)(t:L2.TT):Prop :=
 ∀(pins:List (Addr×Obj))(s:Shared)(σ:L2.St)(H:Hp)(Q:Bool->Hp->Prop),Inv X pins σ H s->t σ H Q->wpAny (model X.prog X.w) X.A (wR ifs X.env) (TP X pins σ Q) X.xe s
inductive tN (K:PySem.W.Frag)(te:St->aA->(Bool->aA->Prop)->Prop)(σ:L2.St)(H:Hp)(Q:Bool->Hp->Prop):Prop where
 |mk (σd:St)(st:aA)(R:Bool->aA->Prop)(r:cY K H σd σ)(ok:aQ K st H)(q:te σd st R)(hq:∀(b:Bool) H',QX K H st (R b) H'->Q b H'):tN K te σ H Q
section
variable {X:Cx}{C:aX}{sub:Nat->Nat->Bool}{E:XK}{a b c e o i tg:Expr}{x y z:Ex}{pos:Pos}
theorem yP (env:Env):∀(ifs:List Expr),(forIn ifs false fun c r=>if r=true then do let ok <-isTrue c env (eval c env);pure (ForInStep.yield ok)else pure (ForInStep.yield r):Sem Bool)=pure false
 |[]=>by simp
 |c::r=>by
  simp only[List.forIn_cons,Bool.false_eq_true,if_false,pure_bind]
  exact yP env r
theorem ZG:DJ X [] (tN X.K (gG C sub E [])):=fun pins s σ H Q I ⟨σd,st,R,r,ok,q,hq⟩=>by
 unfold wR
 simp only[List.forIn_nil]
 exact wpAny_pure ⟨H,I,hq true H ⟨st,.refl,ok,q⟩⟩
theorem UA {es:List Expr}{xs:List Ex}(h:PT X e (iP X.K (aG C sub E x)))(hs:DJ X es (tN X.K (gG C sub E xs))):DJ X (e::es) (tN X.K (gG C sub E (x::xs))):=fun pins s σ H Q I ⟨σd,st,R,r,ok,q,hq⟩=>by
 unfold wR
 simp only[List.forIn_cons,if_true]
 refine wpAny_bind (wpAny_bind (aV (h pins s σ H _ I ⟨σd,st,fun k aB=>if k=true then gG C sub E xs σd aB R else R false aB,r,ok,q,fun b H' z=>z⟩) fun k s1 ⟨H1,I1,aC,cX,aN,q1⟩=>wpAny_pure ?_))
 cases k with
 |true =>
 have q1:gG C sub E xs σd aC R:=q1
 refine hs pins s1 σ H1 _ I1 ⟨σd,aC,R,r.step ok cX,aN,q1,fun b H' ⟨aB,s',eQ,q'⟩=>hq b H' ⟨aB,cX.trans s',eQ,q'⟩⟩
 |false =>
 show wpAny _ _ (forIn es false _) _ _ _
 rw[yP]
 exact wpAny_pure ⟨H1,I1,hq false H1 ⟨aC,cX,aN,q1⟩⟩
end
theorem E8 {prog:Program}{w:World}{A:Around}{s:Shared}{R:Result->Shared->Prop}{elt target iter:Expr}{ifs:List Expr}{scope:Scope}{pos:Pos}{it acc:Value}{env:Env}(I:Nat->Shared->Prop)
 (turn:∀ n s,I n s->wpAny (model prog w) A (pyNext it) (fun r s₁=>match r with
  |none=>R (.ok .next) s₁
  |some v=>wpAny (model prog w) A (letOwnedTupleGo target it v) (fun _ s₁'=>wpAny (model prog w) A (assign target env v) (fun _ s₂ =>
   wpAny (model prog w) A (wR ifs env) (fun ok s₃ =>
   if ok=true then wpAny (model prog w) A (eval elt env) (fun x s₄ =>
    wpAny (model prog w) A (call (.builtin "list.append") [acc,x]) (fun _ s₅=>∃ m,m<n/\I m s₅) (fun _ _=>False) s₄) (fun _ _=>False) s₃
   else ∃ m,m<n/\I m s₃) (fun _ _=>False) s₂) (fun _ _=>False) s₁') (fun _ _=>False) s₁) (fun _ _=>False) s)
 (n:Nat)(h:I n s):
 codeAny (model prog w) A (.compLoop (.ListComp elt [⟨target,iter,ifs,0⟩] scope pos) 0 it acc env) R s:=by
 refine codeAny_loop rfl I (fun n s hI=>?_) n h
 show wpAny _ A ((compTurn (.ListComp elt [⟨target,iter,ifs,0⟩] scope pos) 0 it acc env).onRaise (fun x=>do noteFrame x env;theTreesLotGoes x)) _ _ s
 refine wpAny_noted ?_
 rw[compTurn_list]
 refine wpAny_bind (wpAny_standAt (wpAny_bind (wpAny_mono (turn n s hI) (fun r s₁ h₁=>?_) fun _ _ h'=>h'.elim)))
 cases r with
 |none=>exact wpAny_pure h₁
 |some v =>
 refine wpAny_bind (wpAny_mono h₁ (fun _ s₁' h₁'=>?_) fun _ _ h'=>h'.elim)
 refine wpAny_bind (wpAny_mono h₁' (fun _ s₂ h₂=>wpAny_bind (wpAny_mono h₂ (fun ok s₃ h₃=>?_) fun _ _ h'=>h'.elim)) fun _ _ h'=>h'.elim)
 cases ok with
 |false=>exact wpAny_pure ⟨rfl,h₃⟩
 |true =>
  exact wpAny_bind (wpAny_bind (wpAny_mono h₃ (fun x s₄ h₄=>wpAny_bind (wpAny_mono h₄ (fun _ s₅ h₅=>wpAny_pure (wpAny_pure ⟨rfl,h₅⟩)) fun _ _ h'=>h'.elim)) fun _ _ h'=>h'.elim))
noncomputable def JC (K:PySem.W.Frag):Bool->Nat->TG
 |true,_=>A6 0
 |false,n=>ZY K n (sE (List.range n))
theorem zR:∀(is:List Nat)(vs:List V)(σ:L2.St)(n i:Nat),(∀ j∈is,j<n)->n<=i->(jZ is vs σ)[i]? = σ[i]?
 |[],_,_,_,_,_,_=>by simp [jZ]
 |_::_,[],_,_,_,_,_=>by simp [jZ]
 |j::is,v::vs,σ,n,i,h,hi=>by
  have:=zR is vs (σ.set j (some v)) n i (fun k hk=>h k (List.mem_cons_of_mem _ hk)) hi
  simp only[jZ,List.zip_cons_cons,List.foldl_cons]at this ⊢
  rw[this]
  have:=h j (List.mem_cons_self ..)
  rw[List.getElem?_set_ne (by omega)]
theorem CQ:∀(is:List Nat)(vs:List V)(σ:L2.St),(jZ is vs σ).length=σ.length
 |[],_,_=>by simp [jZ]
 |_::_,[],_=>by simp [jZ]
 |j::is,v::vs,σ=>by
  have:=CQ is vs (σ.set j (some v))
  simp only[jZ,List.zip_cons_cons,List.foldl_cons,List.length_set]at this ⊢
  exact this
theorem LC {K:PySem.W.Frag}{H:Hp}{one:Bool}{n:Nat}{d:D}{v:V}{σd:St}{σ:L2.St}{P:St->Prop}{Q:L2.St->Hp->Prop}(hn:one=true->n=1)(h:jG one (List.range n) d σd P)(r:cY K H σd σ)(rd:Rep K H d v)
 (hQ:∀ σ2 qY,cY K H qY σ2->P qY->(∀ i,n<=i->σ2[i]? = σ[i]?)->σ2.length=σ.length->Q σ2 H):JC K one n v σ H Q:=by
 cases one with
 |true =>
 cases hn rfl
 have h:P (σd.set 0 (some d)):=h
 refine hQ _ _ (r.set 0 rd) h (fun i hi=>?_) (by simp)
 rw[List.getElem?_set_ne (by omega)]
 |false =>
 cases d with
 |tup ds =>
  rw[NX]at h
  obtain⟨a,vs,rfl,f,g⟩:=rd.bK
  have hl:vs.length=n:=by rw[<-g.length,h.1];simp
  refine⟨a,vs,rfl,f,hl,by simp [hl],hQ _ _ (r.O5 _ g) h.2 (fun i hi=>zR _ _ _ n i (fun j hj=>by simpa using hj) hi) (CQ _ _ _)⟩
 |_=>exact(show False by cases n<;>exact h).elim
section
variable {K:PySem.W.Frag}{H:Hp}{st:aA}{Da:Addr}{ys zs:List V}
theorem T6 (hD:H Da=some (.lst ys)){a:Addr}{vs:List V}(h:dS K H a vs):dS K (upd H Da (.lst zs)) a vs:=by
 rcases h with(h|⟨o,h⟩)|h
 ·exact .inl (.inl (by rw[aY (LU h hD (by simp))];exact h))
 ·exact .inl (.inr ⟨o,by rw[aY (LU h hD (by simp))];exact h⟩)
 ·exact .inr h
theorem P0 (hD:H Da=some (.lst ys)){a:Addr}{vs:List V}(h:kR K H a vs):kR K (upd H Da (.lst zs)) a vs:=by
 rcases h with⟨o,h⟩|h
 ·exact .inl ⟨o,by rw[aY (LU h hD (by simp))];exact h⟩
 ·exact .inr h
mutual
theorem Rep.alt (hD:H Da=some (.lst ys)):∀{d:D}{v:V},Rep K H d v->Rep K (upd H Da (.lst zs)) d v
 |_,_,.non=>.non
 |_,_,.bl b=>.bl b
 |_,_,.int i=>.int i
 |_,_,.str x=>.str x
 |_,_,.tup h r=>.tup (T6 hD h) (aJ.alt hD r)
 |_,_,.ref a=>.ref a
 |_,_,.bF h r=>.bF (P0 hD h) (aJ.alt hD r)
 |_,_,.cO h=>.cO h
theorem aJ.alt (hD:H Da=some (.lst ys)):∀{ds:List D}{vs:List V},aJ K H ds vs->aJ K (upd H Da (.lst zs)) ds vs
 |_,_,.nil=>.nil
 |_,_,.cons h r=>.cons (Rep.alt hD h) (aJ.alt hD r)
end
theorem aQ.alt (ok:aQ K st H)(hD:H Da=some (.lst ys))(hn:st Da=none):aQ K st (upd H Da (.lst zs)):=fun a o e=>by
 have ne:a≠Da:=fun z=>by rw[z,hn]at e;cases e
 have:=ok a o e
 cases o with
 |lst ds =>
 obtain⟨vs,q,r⟩:=this
 exact⟨vs,by rw[aY ne];exact q,r.alt hD⟩
 |dic _ _=>exact this.elim
 |ins c fs =>
 obtain⟨C,dx,ws,q,q2,q3,r⟩:=this
 exact⟨C,dx,ws,q,by rw[aY ne];exact q2,q3,r.alt hD⟩
 |tab ks vs =>
 obtain⟨xs,ws,q,q0,q1,q2,q3,q4,q5,r⟩:=this
 exact⟨xs,ws,by rw[aY ne];exact q,q0,q1,q2,q3.alt hD,q4,q5,r.alt hD⟩
 |fn f cs =>
 obtain⟨vs,⟨T,clos,pm,ctv,c',oc,ne0,t,q,ec,co,inj,dom,cap⟩,r⟩:=this
 have ka:∀{b o u},H b=some (.frz o u)->upd H Da (.lst zs) b=some (.frz o u):=fun{b o u} z=>by
  rw[aY (fun w=>by rw[w,hD]at z;cases z)];exact z
 exact⟨vs,⟨T,clos,pm,ctv,c',oc,ne0,t,ka q,ka ec,co,inj,dom,cap.of fun b o z=>ka z⟩,r.alt hD⟩
 |cod κ =>
 obtain⟨q0,q|⟨c',oc,q,ec,co⟩⟩:=this
 ·exact⟨q0,.inl (by rw[aY ne];exact q)⟩
 ·exact⟨q0,.inr ⟨c',oc,by rw[aY ne];exact q,by rw[aY (fun w=>by rw[w,hD]at ec;cases ec)];exact ec,co⟩⟩
theorem aQ.take (ok:aQ K st H)(hD:H Da=some (.lst ys)){ds:List D}(r:aJ K H ds ys):aQ K (put st Da (.lst ds)) H:=fun a o e=>by
 by_cases ha:a=Da
 ·subst ha
  rw[bB]at e;cases e
  exact⟨ys,hD,r⟩
 ·rw[bL ha]at e
  exact ok a o e
end
theorem Q6 {K:PySem.W.Frag}{H:Hp}{σd:St}{σ:L2.St}(r:cY K H σd σ)(n:Nat)(aL:List Nat):cY K H (List.replicate n none++aL.map fun i=>(σd[i]?).getD none) (List.replicate n none++oA aL σ):=by
 refine⟨by simp [oA],fun i d e=>?_⟩
 by_cases hi:i<n
 ·rw[List.getElem?_append_left (by simpa using hi),List.getElem?_replicate]at e
  split at e<;>cases e
 ·rw[List.getElem?_append_right (by simpa using hi)]at e ⊢
  simp only[List.length_replicate,List.getElem?_map,Option.map_eq_some_iff]at e ⊢
  obtain⟨k,e1,e2⟩:=e
  cases q:σd[k]? with
  |none=>rw[q]at e2;cases e2
  |some u =>
   rw[q]at e2
   have e2:u=some d:=e2
   subst e2
   obtain⟨v,h1,h2⟩:=r.2 k d q
   refine⟨v,?_,h2⟩
   simp only[oA,List.getElem?_map,Option.map_eq_some_iff]
   exact⟨k,e1,by rw[h1];rfl⟩
end L3
end
section
namespace L3
open PySem PySem.Spec PyProof.Rows L2
theorem TB {P:Program}{w:World}{H:Hp}{h h':Heap}{Ca:Addr}(ok:fT P w H h)(hn:H Ca=none)(hs:Heap.SameBut Ca h h'):fT P w H h':=fun b u e=>by
 refine(ok b u e).nX (fun c v hc q=>hs.extBut c v ?_ q) (fun _ q=>q) fun _ _ q=>q
 rcases hc with z|z
 ·rw[z];exact fun y=>by rw[y,hn]at e;cases e
 ·exact fun y=>by rw[y,hn]at z;cases z
section
variable {X:Cx}{C:aX}{sub:Nat->Nat->Bool}{elt iter tg:Expr}{ifs:List Expr}{xe:Ex}{kZ aD:List Ex}{pos:Pos}{scope:Scope}{own cn:List Str}{aL:List Nat}{one:Bool}{k:Option IK}
theorem C6 (hC:bI C C)(S:kE X scope cn aL)(hc:X.calm=true)(mV:one=true->own.length=1)
  (hg:∀ fp s H Ca,PG (lG X scope own cn fp s H Ca) tg (JC X.K one own.length))
  (hts:∀ fp s H Ca,DJ (lG X scope own cn fp s H Ca) ifs (tN X.K (gG C sub EF kZ)))
  (he:∀ fp s H Ca,PE (lG X scope own cn fp s H Ca) elt (bN X.K (aG C sub EF xe)))
  {use:Option (Value->Sem Unit)}{Qf:Value->Shared->Prop}
  {pins:List (Addr×Obj)}{s₂:Shared}{σ:L2.St}{σd:St}{H1:Hp}{aC:aA}{J:It}{fp:List Addr}{it:Addr}{tn:Nat->Heap->Prop}{as:List Nat}{xs:List D}{R:List D->aA->Prop}
  (I2:Inv X pins σ H1 s₂)(T:Turn X.prog X.w X.K tg J fp it tn)(t0:tn 0 s₂.heap)(f2:∀ b∈fp,mF X pins H1 b)(r:cY X.K H1 σd σ)(aN:aQ X.K aC H1)(j:yT X.K J as xs H1 aC)
  (q:iN (same as aC) (fun x aF K=>jG one (List.range own.length) x (List.replicate own.length none++aL.map fun i=>(σd[i]?).getD none) fun σ' =>
    gG C sub EF kZ σ' aF fun b bC=>if b=true then aG C sub EF xe σ' bC fun d dR=>K (some d) dR else K none bC) xs [] aC R)
  (fin:∀(Da Ca:Addr)(H':Hp)(aB:aA)(ds:List D)(m:Str->Option Value)(s':Shared),s'.heap.Ns Ca m->(∀ h',Heap.SameBut Ca s'.heap h'->Inv X pins σ H' { s' with heap:=h' })->Inv X pins σ H' s'->Ca≠X.env.locals->(∀ x c,X.env.cells.lookup x=some c->c≠Ca)->Ca∉X.fs->X.s₀.heap.objs.size<=Ca->(∀ p∈X.pn++pins,p.1≠Ca)->H' Ca=none->Step H1 aC H' aB->aQ X.K (put aB Da (.lst ds)) H'->H1 Da=none->aB Da=none->R ds aB ->
   compPost (model X.prog X.w) X.A X.xe use Qf (.ref Da) Ca (.ok .next) s'):
  wpAny (model X.prog X.w) X.A (newList []) (fun acc s₃ =>
   wpAny (model X.prog X.w) X.A (newFunctionEnv scope X.env.globals (jV X.env.cells scope.names []) [] X.env.qual none .none (some X.env)) (fun cenv s₄ =>
    codeAny (model X.prog X.w) X.A (.compStart (.ListComp elt [⟨tg,iter,ifs,0⟩] scope pos) 0 (.ref it) acc { cenv with scope:=relabel scope X.env }) (compPost (model X.prog X.w) X.A X.xe use Qf acc cenv.locals) s₄) X.xe s₃) X.xe s₂:=by
 have hD1:H1 s₂.heap.objs.size=none:=I2.fresh
 obtain⟨tf,htf0⟩:∃ tf:D->aA->(Option D->aA->Prop)->Prop,tf=fun x aF K=>jG one (List.range own.length) x (List.replicate own.length none++aL.map fun i=>(σd[i]?).getD none) fun σ' =>
    gG C sub EF kZ σ' aF fun b bC=>if b=true then aG C sub EF xe σ' bC fun d dR=>K (some d) dR else K none bC:=⟨_,rfl⟩
 have htf:∀ x aF (K:Option D->aA->Prop),tf x aF K->jG one (List.range own.length) x (List.replicate own.length none++aL.map fun i=>(σd[i]?).getD none) fun σ' =>
    gG C sub EF kZ σ' aF fun b bC=>if b=true then aG C sub EF xe σ' bC fun d dR=>K (some d) dR else K none bC:=fun x aF K h=>by rw[htf0]at h;exact h
 rw[<-htf0]at q
 refine wpAny_newObj_type ?_
 have I3:=I2.QP (aD:=[]) (ys:=[]) (t':=s₂.toks) .nil (Nat.zero_le _)
 generalize hS3:({ s₂ with heap:=s₂.heap.push { cls:=.type "list", dict:=none,data:=.seq ([]:List Value).toArray } }:Shared)=s₃
 have I3:Inv X pins σ (upd H1 s₂.heap.objs.size (.lst [])) s₃:=by rw[<-hS3];exact I3
 have lt3:s₂.heap.objs.size<s₃.heap.objs.size:=by rw[<-hS3];show _<(s₂.heap.push _).objs.size;rw[Heap.size_push];exact Nat.lt_succ_self _
 have old3:∀ b o,s₂.heap.get? b=some o->s₃.heap.get? b=some o:=fun b o e=>by rw[<-hS3];exact Heap.get?_push_of_some _ e
 generalize hDa:s₂.heap.objs.size=Da at *
 have hlt2:∀ b∈fp,b<Da:=fun b hb=>by
  obtain⟨o,e,_⟩:=T.obj _ _ t0 b hb
  rw[<-hDa];exact Heap.lt_size e
 have f3:∀ b∈fp,mF X pins (upd H1 Da (.lst [])) b:=fun b hb=>⟨by rw[aY (Nat.ne_of_lt (hlt2 b hb))];exact(f2 b hb).1,(f2 b hb).2⟩
 have hlt3:∀ b∈fp,b<s₃.heap.objs.size:=fun b hb=>Nat.lt_trans (hlt2 b hb) lt3
 refine wpAny_newFunctionEnv S.nocell (by intro y hy;simp at hy) (fun h₁ hns hsb=>?_) S.kind
 have keep1:∀ b o,s₃.heap.get? b=some o->h₁.get? b=some o:=fun b o e=>hsb.extBut b o (Nat.ne_of_lt (Heap.lt_size e)) (Heap.get?_push_of_some _ e)
 have t1:tn 0 h₁:=T.keep _ _ _ t0 fun b hb o e=>keep1 b o (old3 b o e)
 have B0:=IJ (own:=own) S hc I3 f3 hlt3 (Nat.le_refl _) (tk:=s₃.toks+([]:List (Str×Value)).length) hns keep1
 generalize hXc:lG X scope own cn fp s₃ (upd H1 Da (.lst [])) s₃.heap.objs.size=Xc at B0
 have hgc:PG Xc tg (JC X.K one own.length):=by rw[<-hXc];exact hg _ _ _ _
 have htc:DJ Xc ifs (tN X.K (gG C sub EF kZ)):=by rw[<-hXc];exact hts _ _ _ _
 have hec:PE Xc elt (bN X.K (aG C sub EF xe)):=by rw[<-hXc];exact he _ _ _ _
 have eP:Xc.prog=X.prog:=by rw[<-hXc];rfl
 have eW:Xc.w=X.w:=by rw[<-hXc];rfl
 have eK:Xc.K=X.K:=by rw[<-hXc];rfl
 have eA:Xc.A=X.A:=by rw[<-hXc];rfl
 have eX:Xc.xe=fun _ _=>False:=by rw[<-hXc];rfl
 have eN:Xc.env=compEnvC scope (jV X.env.cells scope.names []) s₃.heap.objs.size X.env:=by rw[<-hXc];rfl
 have eL:Xc.env.locals=s₃.heap.objs.size:=by rw[eN];rfl
 have eC:Xc.calm=true:=by rw[<-hXc];rfl
 have fC:∀{H':Hp},(∀ b∈fp,H' b=none)->∀ b∈fp,mF Xc [] H' b:=fun{H'} hn b hb=>by
  have ok:=B0.ok
  refine⟨hn b hb,by rw[eL];exact Nat.ne_of_lt (hlt3 b hb),ok.exfs b (by rw[<-hXc];exact hb),.inl (by rw[<-hXc];exact hb),fun x c e=>(ok.exf b (by rw[<-hXc];exact hb)).2 x c e,fun p hp=>?_⟩
  have:p∈([]:List (Addr×Obj)):=by rw[<-hXc]at hp;exact hp
  cases this
 have capsRel:∀{H':Hp}{aB:aA},Step H1 aC H' aB->cY X.K H' (List.replicate own.length none++aL.map fun i=>(σd[i]?).getD none) (List.replicate own.length none++oA aL σ):=fun s'=>(Q6 r _ _).step aN s'
 have loop:∀ s4:Shared,s4 = { s₃ with heap:=h₁,toks:=s₃.toks+([]:List (Str×Value)).length }->codeAny (model X.prog X.w) X.A (.compLoop (.ListComp elt [⟨tg,iter,ifs,0⟩] scope pos) 0 (.ref it) (.ref Da) Xc.env) (compPost (model X.prog X.w) X.A X.xe use Qf (.ref Da) s₃.heap.objs.size) s4:=by
  rintro s4 rfl
  refine E8 (fun n s'=>∃ i H' aB ds ys,n+i=xs.length/\Inv Xc [] (List.replicate own.length none++oA aL σ) H' s'/\tn i s'.heap/\(∀ b∈fp,H' b=none)/\Step H1 aC H' aB/\aQ X.K aB H'/\H' Da=some (.lst ys)/\aB Da=none/\aJ X.K H' ds ys /\
   iN (same as aC) tf (xs.drop i) ds aB R) ?_ xs.length
   ⟨0,_,aC,[],[],rfl,B0,t1,fun b hb=>(f3 b hb).1,pD hD1,aN.new hD1,cZ,aN.fresh hD1,.nil,by simpa using q⟩
  rintro n s' ⟨i,H',aB,ds,ys,hni,I',ti,fr',cX,eQ,hD',hst',rs,q'⟩
  by_cases hi:i<xs.length
  ·-- a turn
   have ed:xs.drop i=xs[i]::xs.drop (i+1):=List.drop_eq_getElem_cons hi
   rw[ed]at q'
   obtain⟨g1,gl,q'⟩:=q'
   have hx:xs[i]? = some xs[i]:=List.getElem?_eq_getElem hi
   have hpn:=T.item Xc eP eW eK eC i [] s' _ H' (fun _ _=>False) I' (fC fr') ti (j.go i H' aB xs[i] cX eQ g1 hx)
   rw[eA]at hpn
   refine aV hpn fun rr s5 ⟨u,hu,h5⟩=>?_
   subst hu
   refine aV h5 fun _ s6 ⟨v,H6,I6,rv,y6,t6,fr6⟩=>?_
   obtain⟨s6s,Ay,rd⟩:=j.yld i H' aB xs[i] v H6 cX eQ g1 hx y6
   have D6:=s6s Da _ hD' hst'
   have I6':=I6.pinned (fC fr6) (T.obj _ _ t6)
   have hasg:=hgc _ s6 _ H6 v u (fun σ2 H2=>∃ qY,H2=H6/\cY X.K H6 qY σ2/\(∀ i,own.length<=i->σ2[i]? = (List.replicate own.length none++oA aL σ)[i]?)/\σ2.length=(List.replicate own.length none++oA aL σ).length /\
    gG C sub EF kZ qY aB fun b bC=>if b=true then aG C sub EF xe qY bC fun d dR=>iN (same as aC) tf (xs.drop (i+1)) (ds++[d]) dR R else iN (same as aC) tf (xs.drop (i+1)) ds bC R) I6' rv
    (LC mV (htf _ _ _ q') ((capsRel cX).step eQ s6s) rd fun σ2 qY r2 p2 k2 l2=>⟨qY,rfl,r2,k2,l2,p2⟩)
   rw[eP,eW,eA,eX]at hasg
   refine aV hasg fun _ s7 ⟨σ2,H7,I7,qY,e7,r7,k7,l7,q7⟩=>?_
   subst e7
   have hte:=htc _ s7 σ2 H7 _ I7 ⟨qY,aB,_,r7,Ay,q7,fun b H' z=>z⟩
   rw[eP,eW,eA,eX]at hte
   have again:∀{H8:Hp}{s8:Shared}{qC:aA}{ds8:List D}{ys8:List V},Inv Xc ([]++vL fp s6.heap) σ2 H8 s8->Step H1 aC H8 qC->aQ X.K qC H8->H8 Da=some (.lst ys8)->qC Da=none->aJ X.K H8 ds8 ys8->iN (same as aC) tf (xs.drop (i+1)) ds8 qC R ->
     ∃ m,m<n/\∃ i H' aB ds ys,m+i=xs.length/\Inv Xc [] (List.replicate own.length none++oA aL σ) H' s8/\tn i s8.heap/\(∀ b∈fp,H' b=none)/\Step H1 aC H' aB/\aQ X.K aB H'/\H' Da=some (.lst ys)/\aB Da=none/\aJ X.K H' ds ys/\iN (same as aC) tf (xs.drop i) ds aB R:=fun{H8 s8 qC ds8 ys8} I8 s8s O3 hD8 hs8 rs8 q8=>by
    have pinned:∀ b∈fp,∀ o,s6.heap.get? b=some o->s8.heap.get? b=some o/\H8 b=none:=fun b hb o e=>by
     have:=I8.pin (b,o) (List.mem_append_right _ (List.mem_append_right _ (tL hb e)))
     exact⟨this.1,this.2.1⟩
    refine⟨n-1,by omega,i+1,H8,qC,ds8,ys8,by omega,?_,T.keep _ _ _ t6 fun b hb o e=>(pinned b hb o e).1,fun b hb=>?_,s8s,O3,hD8,hs8,rs8,q8⟩
    ·refine I8.tR.weak (by rw[l7]) fun i0 v0 e0=>?_
     by_cases hi0:i0<own.length
     ·rw[List.getElem?_append_left (by simpa using hi0),List.getElem?_replicate]at e0
      split at e0<;>cases e0
     ·rw[k7 i0 (by omega)];exact e0
    ·obtain⟨o,e,_⟩:=T.obj _ _ t6 b hb
     exact(pinned b hb o e).2
   have s17:=cX.trans s6s
   have rs7:=rs.step eQ s6s
   refine aV hte fun b s8 ⟨H8,I8,qC,s8s,O3,q8⟩=>?_
   have D8:=s8s Da _ D6.1 D6.2
   have rs8:=rs7.step Ay s8s
   cases b with
   |false=>exact again I8 (s17.trans s8s) O3 D8.1 D8.2 rs8 q8
   |true =>
    have hel:=hec _ s8 σ2 H8 _ I8 ⟨qY,qC,_,r7.step Ay s8s,O3,q8,fun v H' z=>z⟩
    rw[eP,eW,eA,eX]at hel
    refine aV hel fun u9 s9 ⟨v9,H9,I9,rv9,d9,Az,s9s,Kt,rd9,q9⟩=>?_
    have D9:=s9s Da _ D8.1 D8.2
    have rs9:=rs8.step O3 s9s
    have hap:=L2.qV _ s9 σ2 H9 (.ref Da) [v9] (.ref Da) [u9] (fun _ H'=>H'=upd H9 Da (.lst (ys++[v9]))) I9 rfl (.cons rv9 .nil) ⟨Da,ys,v9,rfl,rfl,D9.1,by rw[fI,<-rs9.length];exact gl,rfl⟩
    rw[eP,eW,eA,eX]at hap
    refine aV hap fun _ s10 ⟨_,H10,I10,_,e10⟩=>?_
    subst e10
    refine again I10 (fun a o e0 n0=>?_) (Kt.alt D9.1 D9.2) cZ D9.2 ((rs9.append (.cons rd9 .nil)).alt D9.1) q9
    have:=((s17.trans s8s).trans s9s) a o e0 n0
    exact⟨by rw[aY (gP e0 hD1)];exact this.1,this.2⟩
  ·-- the end
   have ed:xs.drop i=[]:=List.drop_eq_nil_of_le (by omega)
   rw[ed]at q'
   have hpn:=T.done Xc eP eW eK eC i [] s' _ H' (fun _ _=>False) I' (fC fr') ti (j.stop i H' aB cX eQ q'.1 (by omega))
   rw[eA]at hpn
   refine aV hpn fun rr s5 ⟨hr,I5⟩=>?_
   subst hr
   have un5:Un (sG X.stack) fp (upd H1 Da (.lst [])) H' s₃.heap s5.heap:=by have:=I5.base;rw[<-hXc]at this;exact this
   have os5:s5.os=s₃.os:=by have:=I5.os;rw[<-hXc]at this;exact this
   have fC5:H' s₃.heap.objs.size=none:=by have:=I5.free;rw[eL]at this;exact this
   have hch:∀ b∈fp,(b∈X.ex∨X.s₀.heap.objs.size<=b)/\b≠X.env.locals/\(∀ x c,X.env.cells.lookup x=some c->c≠b)/\∀ p∈X.pn++pins,p.1≠b:=fun b hb=>⟨(f2 b hb).2.2.2.1,(f2 b hb).2.1,(f2 b hb).2.2.2.2.1,(f2 b hb).2.2.2.2.2⟩
   have hok5:fT X.prog X.w H' s5.heap:=by have:=I5.bJ;rw[eP,eW]at this;exact this
   have Iall:∀ h',(∀ b o,b≠s₃.heap.objs.size->s5.heap.get? b=some o->h'.get? b=some o)->fT X.prog X.w H' h'->Inv X pins σ H' { s5 with heap:=h' }:=fun h' kk bJ=>by
    have ne:∀ b o,s₃.heap.get? b=some o->b≠s₃.heap.objs.size:=fun b o e=>Nat.ne_of_lt (Heap.lt_size e)
    refine I3.SR (s':={ s5 with heap:=h' }) (ch:=fp) os5 ⟨fun b o e n hb hx=>kk b o (ne b o e) (un5.keep b o e n hb hx),fun b o e n hb hx=>?_,un5.free,fun b o e hx=>?_,un5.pZ,un5.mG,un5.oE⟩ bJ I5.bare hch
    ·obtain⟨sl,e'⟩:=un5.slot b o e n hb hx
     exact⟨sl,kk b _ (ne b o e) e'⟩
    ·obtain⟨o',e'⟩:=un5.there b o e hx
     exact⟨o',kk b o' (ne b o e) e'⟩
   obtain⟨m5,ns5,_⟩:=I5.loc
   rw[eL]at ns5
   refine fin Da s₃.heap.objs.size H' aB ds m5 s5 ns5 (fun h' hs=>Iall h' (fun b o hb e=>hs.extBut b o hb e) (TB hok5 fC5 hs)) (Iall s5.heap (fun b o _ e=>e) hok5) (Nat.ne_of_gt I3.lt) (fun x c e=>?_) (I3.Z4 (Nat.le_refl _)) I3.sz (fun p hp=>Nat.ne_of_lt (Heap.lt_size (I3.pin p hp).1)) fC5 cX (eQ.take hD' rs) hD1 hst' q'.2
   obtain⟨v,o,ho,_⟩:=I3.cell x c e
   exact Nat.ne_of_lt (Heap.lt_size ho)
 have hl:=loop _ rfl
 rw[eN]at hl
 exact codeAny_compStart_list hl (T.self X.A 0 _ _ _ t1 hl)
theorem EV {H H1 H':Hp}{st aC aB:aA}{Da:Addr}{o:MO}(s1:Step H st H1 aC)(s2:Step H1 aC H' aB)(hD:H1 Da=none):Step H st H' (put aB Da o):=fun a u e n=>by
 have e1:=s1 a u e n
 have e2:=s2 a u e1.1 e1.2
 exact⟨e2.1,by rw[bL (gP e1.1 hD)];exact e2.2⟩
theorem X2 (hC:bI C C)(S:kE X scope cn aL)(hc:X.calm=true)(mV:one=true->own.length=1)
 (hi:PI X tg iter (vE X.K fun σ st M=>bE C sub EF aD σ st fun ds aC=>fD k ds aC fun as xs=>M as xs aC))
 (hg:∀ fp s H Ca,PG (lG X scope own cn fp s H Ca) tg (JC X.K one own.length))
 (hts:∀ fp s H Ca,DJ (lG X scope own cn fp s H Ca) ifs (tN X.K (gG C sub EF kZ)))
 (he:∀ fp s H Ca,PE (lG X scope own cn fp s H Ca) elt (bN X.K (aG C sub EF xe)))
 (hs:∀ x,foldedSetIterable iter X.env x=pure x):
 PE X (.ListComp elt [⟨tg,iter,ifs,0⟩] scope pos) (bN X.K (aG C sub EF (.comp own.length aL (List.range own.length) one k aD kZ xe))):=by
 intro pins s σ H Q I ⟨σd,st,R,r,ok,q,hq⟩
 rw[eval_ListComp]
 refine wpAny_comprehension_free (use:=none) rfl hs (nY (S.cells I.ok)) S.kind S.names ?_
 refine aV (hi pins s σ H _ I ⟨σd,st,_,r,ok,q,fun J H1 z=>z⟩) fun v s1 h1=>aV h1 fun itv s2 h2=>?_
 obtain⟨it,fp,tn,J,H1,rfl,I2,T,t0,f2,as,xs,aC,cX,aN,j,q1⟩:=h2
 refine C6 (use:=none) hC S hc mV hg hts he I2 T t0 f2 (r.step ok cX) aN j q1 ?_
 intro Da Ca H' aB ds m s' hns zP hI _ _ _ _ _ _ gZ okp hD1 hst' hR
 exact⟨m,hns,fun h' hh=>⟨.ref Da,H',zP h' hh,rfl,hq _ _ ⟨.ref Da,_,EV cX gZ hD1,okp,.ref Da,hR.2 Da hst'⟩⟩⟩
theorem Z8 {i:Nat}{y:Str}{py spos:Pos}(hC:bI C C)(S:kE X scope cn aL)(hc:X.calm=true)(mV:one=true->own.length=1)
  (hi:PI X tg iter (vE X.K fun σ st M=>bE C sub EF aD σ st fun ds aC=>fD k ds aC fun as xs=>M as xs aC))
  (hg:∀ fp s H Ca,PG (lG X scope own cn fp s H Ca) tg (JC X.K one own.length))
  (hts:∀ fp s H Ca,DJ (lG X scope own cn fp s H Ca) ifs (tN X.K (gG C sub EF kZ)))
  (he:∀ fp s H Ca,PE (lG X scope own cn fp s H Ca) elt (bN X.K (aG C sub EF xe)))
  (hN:X.N.Nodup)(hy:X.N[i]? = some y)(hx:Loc X.env.scope y)(hf:X.fn y=true∨X.env.scope.names.lookup y=some .local)
  (hsw:swapsWith (.ListComp elt [⟨tg,iter,ifs,0⟩] scope pos) (some (.Name y py)) spos.line X.env=pure true)
  (hs:∀ x,foldedSetIterable iter X.env x=pure x):
  PS X (.Assign [.Name y py] (.ListComp elt [⟨tg,iter,ifs,0⟩] scope pos) spos) (gH X.K (wpS C sub (.asg (.nm i) (.comp own.length aL (List.range own.length) one k aD kZ xe)))):=by
 intro pins s σ H D I ⟨σd,st,P,r,ok,q,h⟩
 have q:=pK hC h.ex q
 rw[exec_Assign_Name_used _ _ _ _ hsw]
 refine wpAny_bind (wpAny_standAt (wpAny_bind ?_))
 show wpAny _ X.A (do let _ <-comprehension (.ListComp elt [⟨tg,iter,ifs,0⟩] scope pos) scope X.env _ (newList []) false (eval iter X.env) (some (assign (.Name y py) X.env))) _ _ s
 refine wpAny_bind (wpAny_mono (wpAny_comprehension_free (use:=some (assign (.Name y py) X.env)) (Q:=fun _ s'=>SP X pins D .next s') rfl hs (nY (S.cells I.ok)) S.kind S.names ?_) (fun _ s' hq=>wpAny_pure (wpAny_pure hq)) fun _ _ e=>e)
 refine aV (hi pins s σ H _ I ⟨σd,st,_,r,ok,q,fun J H1 z=>z⟩) fun v s1 h1=>aV h1 fun itv s2 h2=>?_
 obtain⟨it,fp,tn,J,H1,rfl,I2,T,t0,f2,as,xs,aC,cX,aN,j,q1⟩:=h2
 refine C6 (use:=some (assign (.Name y py) X.env)) hC S hc mV hg hts he I2 T t0 f2 (r.step ok cX) aN j q1 ?_
 intro Da Ca H' aB ds m s' hns zP hI hL hcl hfs jK hpins hn gZ okp hD1 hst' hR
 show wpAny _ X.A (assign (.Name y py) X.env (.ref Da)) _ _ _
 refine wpAny_assign_Name (C7 hI hN hy hx (v:=.ref Da) rfl (fun s'' I'' kk=>?_) hf)
 obtain⟨ad,sb,had⟩:=kk
 have nad:Ca≠ad:=fun z=>by
  rcases had with e|e
  ·exact hL (z.trans e)
  ·exact hcl y ad e z.symm
 refine⟨m,hns.at' fun o e=>(sb.2 Ca nad).trans e,fun h' hh=>?_⟩
 refine⟨σ.set i (some (.ref Da)),H',I''.turned (t':=s''.toks) (fun b o hb e=>hh.extBut b o hb e) hn hL (.inr jK) hcl hpins,?_⟩
 have bC:=EV (o:=.lst ds) cX gZ hD1
 exact h.nx _ _ _ _ ((r.step ok bC).set i (.ref Da)) bC okp (hR.2 Da hst')
end
end L3
end
section
namespace L3
open PySem PySem.Spec PyProof.Rows L2
theorem DT {K:PySem.W.Frag}{H:Hp}{ds:List D}{vs:List V}(r:aJ K H ds vs){N:List Str}{np:Nat}(h:ds.length=np):cY K H (start np N.length ds) (L2.start N vs):=by
 refine⟨by simp [start,L2.start,r.length,<-h],fun i d e=>?_⟩
 unfold start at e
 by_cases hi:i<ds.length
 ·rw[List.getElem?_append_left (by simpa using hi),List.getElem?_map,Option.map_eq_some_iff]at e
  obtain⟨d',e1,e2⟩:=e
  cases e2
  obtain⟨v,e3,e4⟩:=r.get e1
  refine⟨v,?_,e4⟩
  unfold L2.start
  rw[List.getElem?_append_left (by rw[List.length_map,<-r.length];exact hi),List.getElem?_map,e3];rfl
 ·rw[List.getElem?_append_right (by simpa using hi),List.getElem?_replicate]at e
  split at e<;>cases e
theorem S9 {P:Program}{w:World}{K:PySem.W.Frag}{mg:Str->Option Value}{base:Heap}{G:Prog}{f:Nat}{a:Addr}{fd:FuncData}{ps:List Str}:eI P w K mg base dD 0 a fd ps (eU K (aM G 0) f):=by
 have no:∀ vs H Q E,¬eU K (aM G 0) f vs H Q E:=fun vs H Q E ⟨_,_,_,_,_,h,_⟩=>h
 exact⟨fun vs H Q E h=>absurd h (no vs H Q E),fun A outer s H args us vs Q E _ _ _ _ h=>absurd h (no vs H Q E)⟩
end L3
end
section
namespace L3
open PySem PySem.Spec PyProof.Rows L2
theorem eJ:bootBuiltins "len" = some (.builtin "len"):=by decide +kernel
theorem pI:bootBuiltins "all" = some (.builtin "all"):=by decide +kernel
theorem MQ:bootBuiltins "any" = some (.builtin "any"):=by decide +kernel
theorem D7:bootBuiltins "isinstance" = some (.builtin "isinstance"):=by decide +kernel
theorem YX:bootBuiltins "int" = some (.type "int"):=by decide +kernel
theorem MH:bootBuiltins "str" = some (.type "str"):=by decide +kernel
theorem IU:bootBuiltins "bool" = some (.type "bool"):=by decide +kernel
theorem xH:bootBuiltins "list" = some (.type "list"):=by decide +kernel
theorem jN:bootBuiltins "tuple" = some (.type "tuple"):=by decide +kernel
theorem X3:bootBuiltins "set" = some (.type "set"):=by decide +kernel
theorem HZ:bootBuiltins "reversed" = some (.type "reversed"):=by decide +kernel
theorem PD:bootBuiltins "range" = some (.type "range"):=by decide +kernel
noncomputable def FR:Ty->String
 |.int =>"int"
 |.str =>"str"
 |.bool =>"bool"
 |.list =>"list"
 |.tuple =>"tuple"
 |.dict =>"dict"
 |.err _ =>"?"
noncomputable def EC:Ty->Bool
 |.err _=>false
 |_=>true
section
variable {X:Cx}{pins:List (Addr×Obj)}{σ:L2.St}{H:Hp}{s:Shared}{st:aA}{sub:Nat->Nat->Bool}
noncomputable abbrev W9 (X:Cx)(s:Shared)(u:Value)(t:Ty)(b:Bool):Prop:=∀(A:Around)(Q:Value->Shared->Prop)(E:Value->Shared->Prop),(∀ tk,Q (.bool b) { s with toks:=tk })->wpAny (model X.prog X.w) A (call (.builtin "isinstance") [u,.type (FR t)]) Q E s
theorem wZ {a:Addr}(I:Inv X pins σ H s)(h:∃ o,s.heap.get? a=some o/\o.cls=.type "list"){t:Ty}{b:Bool}(e:PySem.W.kitOne X.K (.type "list") (.type (FR t))=some b):W9 X s (.ref a) t b:=fun A Q E hQ =>
 PySem.W.kia_one PySem.W.kitx_list I.iA h e (fun z=>nomatch z) hQ
theorem J2 {a:Addr}(I:Inv X pins σ H s)(h:∃ o,s.heap.get? a=some o/\o.cls=.type "tuple"){t:Ty}{b:Bool}(e:PySem.W.kitOne X.K (.type "tuple") (.type (FR t))=some b):W9 X s (.ref a) t b:=fun A Q E hQ =>
 PySem.W.kia_one PySem.W.kitx_tuple I.iA h e (fun z=>nomatch z) hQ
theorem NA {d:D}{v:V}{u:Value}{t:Ty}{P:Bool->Prop}(I:Inv X pins σ H s)(ok:aQ X.K st H)(r:Rep X.K H d v)(rv:RelV v u)(ht:EC t=true)(h:gS sub d st t P):∃ b,P b/\W9 X s u t b:=by
 cases d with
 |non =>
  cases r.eT;cases rv
  refine⟨false,by cases t<;>exact h,fun A Q E hQ=>PySem.W.kia_one PySem.W.kitx_none I.iA True.intro ?_ (fun z=>nomatch z) hQ⟩
  cases t<;>first|rfl|cases ht
 |bl k =>
  cases r.eM;cases rv
  cases t with
  |bool=>exact⟨true,h,fun A Q E hQ=>PySem.W.kia_one PySem.W.kitx_bool I.iA True.intro rfl (fun z=>nomatch z) hQ⟩
  |int=>exact⟨true,h,fun A Q E hQ=>PySem.W.kia_one PySem.W.kitx_bool I.iA True.intro rfl (fun z=>nomatch z) hQ⟩
  |err _=>cases ht
  |_=>exact⟨false,h,fun A Q E hQ=>PySem.W.kia_one PySem.W.kitx_bool I.iA True.intro rfl (fun z=>nomatch z) hQ⟩
 |int k =>
  cases r.int_inv;obtain⟨tk,rfl⟩:=rv
  cases t with
  |int=>exact⟨true,h,fun A Q E hQ=>PySem.W.kia_one PySem.W.kitx_int I.iA True.intro rfl (fun z=>nomatch z) hQ⟩
  |err _=>cases ht
  |_=>exact⟨false,h,fun A Q E hQ=>PySem.W.kia_one PySem.W.kitx_int I.iA True.intro rfl (fun z=>nomatch z) hQ⟩
 |str k =>
  cases r.str_inv;obtain⟨tk,rfl⟩:=rv
  cases t with
  |str=>exact⟨true,h,fun A Q E hQ=>PySem.W.kia_one PySem.W.kitx_str I.iA True.intro rfl (fun z=>nomatch z) hQ⟩
  |err _=>cases ht
  |_=>exact⟨false,h,fun A Q E hQ=>PySem.W.kia_one PySem.W.kitx_str I.iA True.intro rfl (fun z=>nomatch z) hQ⟩
 |tup ds =>
  obtain⟨a,vs,rfl,f,g⟩:=r.bK
  cases rv
  obtain⟨aD,_,⟨o,h1,h2,_⟩,_⟩:=I.tuple f
  cases t with
  |tuple=>exact⟨true,h,J2 I ⟨o,h1,h2⟩ rfl⟩
  |err _=>cases ht
  |_=>exact⟨false,h,J2 I ⟨o,h1,h2⟩ rfl⟩
 |ref a =>
  cases r.cB
  cases rv
  have key:∃ ds,st a=some (.lst ds):=by
   cases e:st a with
   |none=>exfalso;cases t<;>first|(simp only[gS,dH,e]at h)|cases ht
   |some o =>
    cases o with
    |lst ds=>exact⟨ds,rfl⟩
    |dic _ _=>exact(ok a _ e).elim
    |ins _ _=>exfalso;cases t<;>first|(simp only[gS,dH,e]at h)|cases ht
    |tab _ _=>exfalso;cases t<;>first|(simp only[gS,dH,e]at h)|cases ht
    |fn _ _=>exfalso;cases t<;>first|(simp only[gS,dH,e]at h)|cases ht
    |cod _=>exfalso;cases t<;>first|(simp only[gS,dH,e]at h)|cases ht
  obtain⟨ds,e⟩:=key
  obtain⟨vs,g1,_⟩:=ok.lst e
  obtain⟨_,aD,n,_,_,e1⟩:=I.tQ g1
  have ho:∃ o,s.heap.get? a=some o/\o.cls=.type "list":=⟨_,e1,rfl⟩
  cases t with
  |list=>simp only[gS]at h;rw[gQ e]at h;exact⟨true,h,wZ I ho rfl⟩
  |err _=>cases ht
  |_=>simp only[gS]at h;rw[gQ e]at h;exact⟨false,h,wZ I ho rfl⟩
 |bF ds =>
  obtain⟨a,vs,rfl,f,g⟩:=r.jQ
  cases rv
  obtain⟨aD,_,p,_⟩:=I.list f.sq
  obtain⟨o,h1,h2,_⟩:=p.isList
  cases t with
  |list=>exact⟨true,h,wZ I ⟨o,h1,h2⟩ rfl⟩
  |err _=>cases ht
  |_=>exact⟨false,h,wZ I ⟨o,h1,h2⟩ rfl⟩
 |cO _ _=>cases t<;>exact(show False from h).elim
 |exc c=>cases r
end
section
variable {X:Cx}{C:aX}{sub:Nat->Nat->Bool}{E:XK}{a:Expr}{x:Ex}{p p2 pos:Pos}
noncomputable def Hs (K:PySem.W.Frag)(sub:Nat->Nat->Bool)(t:Ty):List V->Hp->L2.VK->Prop:=fun vs H Q=>∃ d v st R,vs=[v,.ty (FR t)]/\Rep K H d v/\aQ K st H/\gS sub d st t (fun b=>R (.bl b) st)/\∀ v H',QD K H st R v H'->Q v H'
theorem RD {t:Ty}(ht:EC t=true):tP X (.builtin "isinstance") (Hs X.K sub t):=by
 intro pins s σ H vs us Q I rv h
 obtain⟨d,v,st,R,rfl,r,ok,h,hq⟩:=h
 cases rv with|cons r1 r2=>cases r2 with|cons r2 r3 =>
 cases r3
 cases r2
 obtain⟨b,hb,hi⟩:=NA I ok r r1 ht h
 exact hi X.A _ _ fun tk=>⟨.bl b,H,I.tok tk,rfl,hq _ _ (.here ok (.bl b) hb)⟩
theorem Cf {t:Ty}{n:Str}(ht:EC t=true)(hg:Gl X "isinstance")(hm:X.mg "isinstance" = none)(hg2:Gl X n)(hm2:X.mg n=none)(hv2:bootBuiltins n=some (.type (FR t)))(ha:PE X a (bN X.K (aG C sub E x)))
 (hn2:n ≠"__name__")(hd2:(n==("__debug__" : Str))=false)(he:starEach [a,.Name n p2] X.env=(false,eval a X.env)::starEach [.Name n p2] X.env)(he2:starEach [.Name n p2] X.env=[(false,eval (.Name n p2) X.env)])(cT:(backTo pos (starEach [.Name n p2] X.env)).any (·.1)=false):
 PE X (.Call (.Name "isinstance" p) [a,.Name n p2] [] pos) (bN X.K (aG C sub E (.isi x [t]))) :=
 (FX (RD (sub:=sub) ht) hg hm D7 (BW ha (BW (U3 hg2 hm2 hv2 (v:=.ty (FR t)) rfl hn2 hd2) ON he2) he) (by decide) (by decide) he cT).imp fun σ H Q ⟨σd,st,R,r,ok,q,hq⟩=>by
 refine⟨σd,st,_,r,ok,q,fun v H1 ⟨d,aC,s1,aN,r1,q1⟩=>?_⟩
 exact⟨d,v,aC,R,rfl,r1,aN,q1,fun v H' z=>hq _ _ (.after s1 z)⟩
theorem Bh {t:String}{j:Nat}(h:Str.ofString t=⟨(W t).toArray⟩):PE X (.Constant (.str (Str.ofString t)) j pos) (bN X.K (aG C sub E (.c (.str (W t))))) :=
 rQ WU fun H=>by rw[h];exact .str _
end
end L3
end
section
namespace L3
open PySem PySem.Spec PyProof.Rows L2
structure JE (X:Cx)(C:aX)(sub:Nat->Nat->Bool)(E:XK)(e:Expr)(x:Ex):Prop where
 h:PE X e (bN X.K (aG C sub E x))
structure JT (X:Cx)(C:aX)(sub:Nat->Nat->Bool)(E:XK)(e:Expr)(x:Ex):Prop where
 h:PT X e (iP X.K (aG C sub E x))
structure JW (X:Cx)(C:aX)(sub:Nat->Nat->Bool)(E:XK)(e:Expr)(x:Ex):Prop where
 h:PW X e (iP X.K (aG C sub E x))
structure JA (X:Cx)(C:aX)(sub:Nat->Nat->Bool)(E:XK)(es:List Expr)(xs:List Ex):Prop where
 h:PA X es (jC X.K (bE C sub E xs))
structure JO (X:Cx)(C:aX)(sub:Nat->Nat->Bool)(E:XK)(e:Option Expr)(xs:List Ex):Prop where
 h:PO X e (CC X.K (bE C sub E xs))
structure JI (X:Cx)(C:aX)(sub:Nat->Nat->Bool)(E:XK)(tg e:Expr)(k:Option IK)(xs:List Ex):Prop where
 h:PI X tg e (vE X.K fun σ st M=>bE C sub E xs σ st fun ds aC=>fD k ds aC fun as ys=>M as ys aC)
structure JG (X:Cx)(C:aX)(sub:Nat->Nat->Bool)(E:XK)(tg:Expr)(t:Tg):Prop where
 h:PG X tg (HD X.K (lO C sub E t))
structure JN (X:Cx)(tg:Expr)(i:Nat):Prop where
 h:PG X tg (A6 i)
structure R4 (X:Cx)(es:List Expr)(is:List Nat):Prop where
 h:BG X es (sE is)
structure JB (X:Cx)(tg:Expr)(one:Bool)(n:Nat):Prop where
 h:PG X tg (JC X.K one n)
structure JQ (X:Cx)(C:aX)(sub:Nat->Nat->Bool)(E:XK)(es:List Expr)(xs:List Ex):Prop where
 h:DJ X es (tN X.K (gG C sub E xs))
structure JS (X:Cx)(C:aX)(sub:Nat->Nat->Bool)(s:Stmt)(x:Sx):Prop where
 h:PS X s (gH X.K (wpS C sub x))
structure sC (X:Cx)(C:aX)(sub:Nat->Nat->Bool)(ss:List Stmt)(xs:List Sx):Prop where
 h:jP X ss (gH X.K (cN C sub xs))
structure lT (X:Cx)(C:aX)(n:Str)(fid:Nat):Prop where
 h:∃ k f fd ps,eI X.prog X.w X.K X.mg X.base dD k f fd ps (eU X.K C fid)/\cL k X.A/\X.mg n=some (.ref f)/\PySem.W.keepIn X.K (.ref f)=true/\Binds X.K fd ps []
noncomputable def GC (K:PySem.W.Frag)(mg:Str->Option Value)(n:Str)(d:D):Prop:=∃ u v,mg n=some u/\RelV v u/\∀ H,Rep K H d v
section
variable {X:Cx}{C:aX}{sub:Nat->Nat->Bool}{E:XK}{a b c e o tg:Expr}{es:List Expr}{x y z:Ex}{xs:List Ex}{p p2 pos apos:Pos}{k:Nat}{n:Str}{s:Stmt}{ss:List Stmt}{sxs:List Sx}
theorem jv (i:Nat)(hN:X.N[i]? = some n:=by kernel_rfl)(hv:X.env.scope.names.lookup n=some .local:=by kernel_rfl)(hd:(n==("__debug__" : Str))=false:=by kernel_rfl)
 (hcd:(n==("__classdict__" : Str))=false:=by kernel_rfl):JE X C sub E (.Name n pos) (.v i):=⟨K8 (pv i hN (.inl hv) hd hcd)⟩
theorem bY (i:Nat)(hN:X.N[i]? = some n:=by kernel_rfl)(hv:X.env.scope.names.lookup n=some .cell:=by kernel_rfl)(hd:(n==("__debug__" : Str))=false:=by kernel_rfl)
 (hcd:(n==("__classdict__" : Str))=false:=by kernel_rfl):JE X C sub E (.Name n pos) (.v i):=⟨K8 (pv i hN (.inr (.inl hv)) hd hcd)⟩
theorem ji {i:Int}:JE X C sub E (.Constant (.int i) k pos) (.c (.int i)):=⟨rQ XY fun _=>.int _⟩
theorem jb {i:Bool}:JE X C sub E (.Constant (.bool i) k pos) (.c (.bl i)):=⟨rQ Bg fun _=>.bl _⟩
theorem jn:JE X C sub E (.Constant .none k pos) (.c .non):=⟨rQ Al fun _=>.non⟩
theorem js {t:String}(h:Str.ofString t=⟨(W t).toArray⟩:=by kernel_rfl):JE X C sub E (.Constant (.str (Str.ofString t)) k pos) (.c (.str (W t))):=⟨Bh h⟩
theorem jg {d:D}(h:GC X.K X.mg n d)(hg:X.env.kindOf n=some .globalImplicit:=by kernel_rfl)(hd:(n==("__debug__" : Str))=false:=by kernel_rfl):JE X C sub E (.Name n pos) (.c d):=⟨let⟨u,v,h1,h2,h3⟩:=h;rQ (S4 hg h1 h2 hd) h3⟩
theorem ja (h:JE X C sub E e x)(hs:JA X C sub E es xs)(eB:starEach (e::es) X.env=(false,eval e X.env)::starEach es X.env:=by kernel_rfl):JA X C sub E (e::es) (x::xs):=⟨XI h.h hs.h eB⟩
theorem jt (m:bI C C)(hs:JA X C sub E es xs)(hl:xs.length<=bG:=by decide):JE X C sub E (.Tuple es k pos) (.tup xs):=⟨Bm m hs.h hl⟩
theorem nO {o:oY}(u:X.A.units+180<cLine)(ha:JE X C sub E a x)(hb:JE X C sub E b y)(hm:behindInMarks (nD o) b=false:=by kernel_rfl):JE X C sub E (.Compare a [nD o] [b] pos) (.cmp o x y):=⟨Dh u ha.h hb.h hm⟩
theorem dF {o:oY}(u:X.A.units+180<cLine)(ha:JE X C sub E a x)(hb:JE X C sub E b y)(hm:behindInMarks (nD o) b=false:=by kernel_rfl):JT X C sub E (.Compare a [nD o] [b] pos) (.cmp o x y):=⟨ZS u ha.h hb.h hm⟩
theorem YF {o o':oY}(u:X.A.units+180<cLine)(ha:JE X C sub E a x)(hb:JE X C sub E b y)(hc:JE X C sub E c z)(hm:lastMarks [nD o,nD o'] [b,c]=false:=by kernel_rfl):JE X C sub E (.Compare a [nD o,nD o'] [b,c] pos) (.chain o o' x y z):=⟨VE u ha.h hb.h hc.h hm⟩
theorem tp (h:JE X C sub E e x)(he:∀ whole,isTrue e X.env whole=(do let v <-whole;standAt e.pos;holding [v] (truthy v)):=by intro _;rfl):JT X C sub E e x:=⟨RQ h.h he⟩
theorem bW (ha:JE X C sub E a x)(hb:JE X C sub E b y)(hp:sD b:=by intro _ _;rfl):JE X C sub E (.Subscript a b pos) (.ix x y):=⟨Gz ha.h hb.h hp⟩
theorem cA {fid:Nat}(h:lT X C n fid)(ha:JA X C sub EF (e::es) xs)(hg:X.env.kindOf n=some .globalImplicit:=by kernel_rfl)(hdb:(n==("__debug__" : Str))=false:=by kernel_rfl)(he:starEach (e::es) X.env=(false,eval e X.env)::starEach es X.env:=by kernel_rfl)(cT:(backTo pos (starEach es X.env)).any (·.1)=false:=by kernel_rfl):
 JE X C sub EF (.Call (.Name n p) (e::es) [] pos) (.call fid xs):=⟨let⟨k,f,fd,ps,h1,h2,h3,h4,h5⟩:=h.h;X4 h1 h2 hg h3 h4 h5 EJ ha.h hdb he cT⟩
theorem fF {f:BI}{id:String}(hW:vZ X (.builtin id) (gE f))(hv:bootBuiltins n=some (.builtin id))(hm:X.mg n=none)(ha:JA X C sub E (e::es) xs)(hg:X.env.kindOf n=some .globalImplicit:=by kernel_rfl)
 (hn:n ≠"__name__":=by decide)(hdb:(n==("__debug__" : Str))=false:=by kernel_rfl)(he:starEach (e::es) X.env=(false,eval e X.env)::starEach es X.env:=by kernel_rfl)(cT:(backTo pos (starEach es X.env)).any (·.1)=false:=by kernel_rfl):
 JE X C sub E (.Call (.Name n p) (e::es) [] pos) (.bi f xs):=⟨(Ct hW hg hm hv ha.h hn hdb he cT).imp fun σ H Q ⟨σd,st,R,r,ok,q,hq⟩=>⟨σd,st,R,r,ok,q,hq⟩⟩
theorem zA {f:BI}{id:String}(hW:vZ X (.type id) (gE f))(hv:bootBuiltins n=some (.type id))(hm:X.mg n=none)(ha:JA X C sub E (e::es) xs)(hg:X.env.kindOf n=some .globalImplicit:=by kernel_rfl)
 (hn:n ≠"__name__":=by decide)(hdb:(n==("__debug__" : Str))=false:=by kernel_rfl)(he:starEach (e::es) X.env=(false,eval e X.env)::starEach es X.env:=by kernel_rfl)(cT:(backTo pos (starEach es X.env)).any (·.1)=false:=by kernel_rfl):
 JE X C sub E (.Call (.Name n p) (e::es) [] pos) (.bi f xs):=⟨(Y5 hW hg hm hv ha.h hn hdb he cT).imp fun σ H Q ⟨σd,st,R,r,ok,q,hq⟩=>⟨σd,st,R,r,ok,q,hq⟩⟩
theorem zW {t:Ty}(hv:bootBuiltins n=some (.type (FR t)))(hm:X.mg "isinstance" = none)(hm2:X.mg n=none)(ha:JE X C sub E a x)(ht:EC t=true:=by kernel_rfl)(hg:X.env.kindOf "isinstance" = some .globalImplicit:=by kernel_rfl)(hg2:X.env.kindOf n=some .globalImplicit:=by kernel_rfl)
 (hn2:n ≠"__name__":=by decide)(hd2:(n==("__debug__" : Str))=false:=by kernel_rfl)(he:starEach [a,.Name n p2] X.env=(false,eval a X.env)::starEach [.Name n p2] X.env:=by kernel_rfl)(he2:starEach [.Name n p2] X.env=[(false,eval (.Name n p2) X.env)]:=by kernel_rfl)(cT:(backTo pos (starEach [.Name n p2] X.env)).any (·.1)=false:=by kernel_rfl):
 JE X C sub E (.Call (.Name "isinstance" p) [a,.Name n p2] [] pos) (.isi x [t]):=⟨Cf ht hg hm hg2 hm2 hv ha.h hn2 hd2 he he2 cT⟩
theorem HC (ho:JE X C sub E o x)(ha:JA X C sub E (e::es) xs)(iU:attributeBase o "append" X.env (eval o X.env)=eval o X.env:=by kernel_rfl)
 (tX:((backTo pos (starEach (e::es) X.env)).all (fun x=>!x.1)&&(backToKw pos (keywordEach [] X.env)).all (fun x=>x.1.isSome)&&decide ((e::es).length+([]:List Keyword).length+(if([]:List Keyword).isEmpty then 0 else 1)<30))=true:=by kernel_rfl)(iV:(apos.endLine==pos.line)=true:=by kernel_rfl)
 (hs:starEach (e::es) X.env=(false,eval e X.env)::starEach es X.env:=by kernel_rfl)(qA:(backTo pos (starEach es X.env)).any (·.1)=false:=by kernel_rfl):
 JE X C sub E (.Call (.Attribute o "append" apos) (e::es) [] pos) (.cD .append x xs):=⟨O0 (fun z=>nomatch z) PySem.F.slot_list_append PySem.F.type_list_append NR ho.h ha.h iU tX iV hs qA⟩
theorem Jr (ho:JE X C sub E o x)(ha:JA X C sub E (e::es) xs)(iU:attributeBase o "extend" X.env (eval o X.env)=eval o X.env:=by kernel_rfl)
 (tX:((backTo pos (starEach (e::es) X.env)).all (fun x=>!x.1)&&(backToKw pos (keywordEach [] X.env)).all (fun x=>x.1.isSome)&&decide ((e::es).length+([]:List Keyword).length+(if([]:List Keyword).isEmpty then 0 else 1)<30))=true:=by kernel_rfl)(iV:(apos.endLine==pos.line)=true:=by kernel_rfl)
 (hs:starEach (e::es) X.env=(false,eval e X.env)::starEach es X.env:=by kernel_rfl)(qA:(backTo pos (starEach es X.env)).any (·.1)=false:=by kernel_rfl):
 JE X C sub E (.Call (.Attribute o "extend" apos) (e::es) [] pos) (.cD .extend x xs):=⟨O0 (fun z=>nomatch z) PySem.F.slot_list_extend PySem.F.type_list_extend NL ho.h ha.h iU tX iV hs qA⟩
theorem Kc (ho:JE X C sub E o x)(iU:attributeBase o "pop" X.env (eval o X.env)=eval o X.env:=by kernel_rfl)(iV:(apos.endLine==pos.line)=true:=by kernel_rfl):
 JE X C sub E (.Call (.Attribute o "pop" apos) [] [] pos) (.cD .pop x []):=⟨UP (fun z=>nomatch z) PySem.F.slot_list_pop PySem.F.type_list_pop W6 ho.h iU iV⟩
theorem sx (m:bI C C)(h:JE X C sub EF e x)(hs:swapsWith e none pos.line X.env=pure false:=by kernel_rfl):JS X C sub (.Expr e pos) (.ex x):=⟨Hw m h.h hs⟩
theorem sn {i:Nat}(m:bI C C)(nd:X.N.Nodup)(he:JE X C sub EF e x)(hi:X.N[i]? = some n:=by kernel_rfl)(hx:X.env.scope.names.lookup n=some .local:=by kernel_rfl)
 (hs:swapsWithSole [.Name n p] e pos.line X.env=pure false:=by kernel_rfl)(hw:swappedStores [.Name n p] e X.env=pure none:=by kernel_rfl)(h1:(assignEach [.Name n p] X.env).map (·.2)=[assign (.Name n p) X.env]:=by kernel_rfl):JS X C sub (.Assign [.Name n p] e pos) (.asg (.nm i) x):=⟨K7 m he.h (PL (xB nd hi (.inl hx) (.inr hx))) hs hw h1⟩
theorem G6 {i:Nat}(m:bI C C)(nd:X.N.Nodup)(he:JE X C sub EF e x)(hi:X.N[i]? = some n:=by kernel_rfl)(hx:X.env.scope.names.lookup n=some .cell:=by kernel_rfl)(hf:X.fn n=true:=by kernel_rfl)
 (hs:swapsWithSole [.Name n p] e pos.line X.env=pure false:=by kernel_rfl)(hw:swappedStores [.Name n p] e X.env=pure none:=by kernel_rfl)(h1:(assignEach [.Name n p] X.env).map (·.2)=[assign (.Name n p) X.env]:=by kernel_rfl):JS X C sub (.Assign [.Name n p] e pos) (.asg (.nm i) x):=⟨K7 m he.h (PL (xB nd hi (.inr hx) (.inl hf))) hs hw h1⟩
theorem gn {i:Nat}(nd:X.N.Nodup)(hi:X.N[i]? = some n:=by kernel_rfl)(hx:X.env.scope.names.lookup n=some .local:=by kernel_rfl):JN X (.Name n p) i:=⟨xB nd hi (.inl hx) (.inr hx)⟩
theorem gc {i:Nat}{is:List Nat}(h1:JN X e i)(h2:R4 X es is)(hs:(assignEach (e::es) X.env).map (·.2)=assign e X.env::(assignEach es X.env).map (·.2):=by kernel_rfl):R4 X (e::es) (i::is):=⟨U0 h1.h h2.h hs⟩
theorem gt {is:List Nat}(h:R4 X es is)(hc:X.calm=true:=by kernel_rfl)(hn:(assignEach es X.env).length=is.length:=by kernel_rfl)(eB:(assignEach es X.env).findIdx? (·.1)=none:=by kernel_rfl):JG X C sub E (.Tuple es k pos) (.tp is):=⟨Hz hc h.h hn eB⟩
theorem gi (ho:JE X C sub E o x)(hi:JE X C sub E a y)
 (ha:∀ v,assign (.Subscript o a pos) X.env v=(do
  let ov <-holding [v] (eval o X.env)
  let iv <-holding [v,ov] (eval a X.env)
  standAt pos
  holding [v,ov,iv] (setItem ov iv v)
  release [v,ov,iv] []):=by intro _;rfl):JG X C sub E (.Subscript o a pos) (.ix x y):=⟨He ho.h hi.h ha⟩
theorem sg {t:Tg}(m:bI C C)(he:JE X C sub EF e x)(hg:JG X C sub EF tg t)
 (hs:swapsWithSole [tg] e pos.line X.env=pure false:=by kernel_rfl)(hw:swappedStores [tg] e X.env=pure none:=by kernel_rfl)(h1:(assignEach [tg] X.env).map (·.2)=[assign tg X.env]:=by kernel_rfl):JS X C sub (.Assign [tg] e pos) (.asg t x):=⟨K7 m he.h hg.h hs hw h1⟩
theorem sw (m:bI C C)(hc:JT X C sub EF c x)(hb:sC X C sub ss sxs)(hp:PassesOwn (model X.prog X.w) X.A X.env X.xe:=by exact PassesOwn.never):JS X C sub (.While c ss [] pos) (.whl x sxs):=⟨UB m hp hc.h hb.h⟩
theorem sf {kk:Option IK}{t:Tg}(m:bI C C)(hi:JI X C sub EF tg e kk xs)(hg:JG X C sub EF tg t)(hb:sC X C sub ss sxs)
 (hp:PassesOwn (model X.prog X.w) X.A X.env X.xe:=by exact PassesOwn.never)(hc:X.calm=true:=by kernel_rfl)(hs:∀ x,foldedSetIterable e X.env x=pure x:=by intro _;rfl):JS X C sub (.For tg e ss [] pos) (.gJ t kk xs sxs):=⟨SD m hp hc hi.h hg.h hb.h hs⟩
theorem G0 {kk:Option IK}{i:Nat}(m:bI C C)(nd:X.N.Nodup)(hi:JI X C sub EF (.Name n p) e kk xs)(hb:sC X C sub ss sxs)
 (hN:X.N[i]? = some n:=by kernel_rfl)(hx:X.env.scope.names.lookup n=some .local:=by kernel_rfl)
 (hp:PassesOwn (model X.prog X.w) X.A X.env X.xe:=by exact PassesOwn.never)(hc:X.calm=true:=by kernel_rfl)(hs:∀ x,foldedSetIterable e X.env x=pure x:=by intro _;rfl):JS X C sub (.For (.Name n p) e ss [] pos) (.gJ (.nm i) kk xs sxs):=⟨SD m hp hc hi.h (PL (xB nd hN (.inl hx) (.inr hx))) hb.h hs⟩
theorem J8 (m:bI C C)(hm:X.mg "range" = none)(ha:JA X C sub E [a] [x])(hg:X.env.kindOf "range" = some .globalImplicit:=by kernel_rfl)(hs:starEach [a] X.env=[(false,eval a X.env)]:=by kernel_rfl):
 JI X C sub E tg (.Call (.Name "range" p) [a] [] pos) (some .range) [x]:=⟨T2 m hg hm ha.h hs⟩
theorem Kr (m:bI C C)(hm:X.mg "range" = none)(ha:JA X C sub E [a,b] [x,y])(hg:X.env.kindOf "range" = some .globalImplicit:=by kernel_rfl)(hs:starEach [a,b] X.env=[(false,eval a X.env),(false,eval b X.env)]:=by kernel_rfl)(hs2:starEach [b] X.env=[(false,eval b X.env)]:=by kernel_rfl):
 JI X C sub E tg (.Call (.Name "range" p) [a,b] [] pos) (some .range) [x,y]:=⟨S8 m hg hm ha.h hs hs2⟩
theorem SG {cl:Nat}{t:String}(m:bI C C):JS X C sub s (.rais cl [.c (.str (W t))]):=⟨YU m fun σd st h=>h⟩
end
section
variable {X:Cx}{C:aX}{sub:Nat->Nat->Bool}{E:XK}{a b c e o tg:Expr}{es rest:List Expr}{x y z:Ex}{xs:List Ex}{p p2 pos apos:Pos}{k:Nat}{n:Str}{s:Stmt}{ss as bs:List Stmt}{sx1:Sx}{sxs ax bx:List Sx}
theorem an:JA X C sub E [] []:=⟨Bv⟩
theorem jl (hs:JA X C sub E es xs):JE X C sub E (.List es pos) (.lst xs):=⟨En hs.h⟩
theorem cR {op:rS}(ha:JE X C sub E a x)(hb:JE X C sub E b y):JE X C sub E (.BinOp a (Ab op) b pos) (.bin op x y):=⟨Br ha.h hb.h⟩
theorem Y6 (ha:JE X C sub E a x):JE X C sub E (.UnaryOp .USub a pos) (.neg x):=⟨Cd ha.h⟩
theorem GX (ha:JE X C sub E a x):JE X C sub E (.UnaryOp .Not a pos) (.not_ x):=⟨Eu ha.h⟩
theorem jH {op:BoolOp}(ha:JE X C sub E a x):JE X C sub E (.BoolOp op [a] pos) x:=⟨Dy ha.h⟩
theorem kM (ha:JE X C sub E a x)(hb:JE X C sub E (.BoolOp .And (b::rest) pos) y):JE X C sub E (.BoolOp .And (a::b::rest) pos) (.and_ x y):=⟨Dt ha.h hb.h⟩
theorem GO (ha:JE X C sub E a x)(hb:JE X C sub E (.BoolOp .Or (b::rest) pos) y):JE X C sub E (.BoolOp .Or (a::b::rest) pos) (.or_ x y):=⟨Hf ha.h hb.h⟩
theorem on:JO X C sub E none []:=⟨UC⟩
theorem os (h:JE X C sub E e x):JO X C sub E (some e) [x]:=⟨UW h.h⟩
theorem FZ {lo hi:Option Expr}{xl xh:List Ex}(ha:JE X C sub E a x)(hl:JO X C sub E lo xl)(hh:JO X C sub E hi xh):JE X C sub E (.Subscript a (.Slice lo hi none p2) pos) (.sl x xl xh):=⟨Jg ha.h hl.h hh.h⟩
theorem oF (h:JT X C sub E e x):JT X C sub E (.UnaryOp .Not e pos) (.not_ x):=⟨An h.h⟩
theorem uA (h:JW X C sub E e x):JT X C sub E e x:=⟨h.h.pt⟩
theorem uJ {op:BoolOp}(h:JT X C sub E e x):JW X C sub E (.BoolOp op [e] pos) x:=⟨WR h.h⟩
theorem Fz (m:bI C C)(ha:JT X C sub E a x)(hb:JW X C sub E (.BoolOp .And (b::rest) pos) y):JW X C sub E (.BoolOp .And (a::b::rest) pos) (.and_ x y):=⟨ZR m ha.h hb.h⟩
theorem uM (m:bI C C)(ha:JT X C sub E a x)(hb:JW X C sub E (.BoolOp .Or (b::rest) pos) y):JW X C sub E (.BoolOp .Or (a::b::rest) pos) (.or_ x y):=⟨Fp m ha.h hb.h⟩
theorem iv (h:JE X C sub E e x):JI X C sub E tg e none [x]:=⟨XF h.h⟩
theorem qn:JQ X C sub E [] []:=⟨ZG⟩
theorem qc (h:JT X C sub E e x)(hs:JQ X C sub E es xs):JQ X C sub E (e::es) (x::xs):=⟨UA h.h hs.h⟩
theorem nn:R4 X [] []:=⟨Aj⟩
theorem b1 (h:JN X tg 0):JB X tg true 1:=⟨h.h⟩
theorem c0:sC X C sub [] []:=⟨Bf⟩
theorem cc (h1:JS X C sub s sx1)(h2:sC X C sub ss sxs):sC X C sub (s::ss) (sx1::sxs):=⟨YB h1.h h2.h⟩
theorem dC (m:bI C C)(hc:JT X C sub EF c x)(ha:sC X C sub as ax)(hb:sC X C sub bs bx):JS X C sub (.If c as bs pos) (.iff x ax bx):=⟨Gs m hc.h ha.h hb.h⟩
theorem bU (m:bI C C)(h:JE X C sub EF e x):JS X C sub (.Return (some e) pos) (.ret x):=⟨Cu m h.h⟩
theorem Kj:JS X C sub (.Return none pos) (.ret (.c .non)):=⟨WQ⟩
end
section
variable {X:Cx}{C:aX}{sub:Nat->Nat->Bool}{elt iter tg:Expr}{ifs:List Expr}{xe:Ex}{kZ aD:List Ex}{pos:Pos}{scope:Scope}{own cn:List Str}{aL:List Nat}{one:Bool}{k:Option IK}
theorem oH (m:bI C C)(S:kE X scope cn aL)(hi:JI X C sub EF tg iter k aD)
 (hg:∀ fp s H Ca,JB (lG X scope own cn fp s H Ca) tg one own.length)
 (hts:∀ fp s H Ca,JQ (lG X scope own cn fp s H Ca) C sub EF ifs kZ)
 (he:∀ fp s H Ca,JE (lG X scope own cn fp s H Ca) C sub EF elt xe)(hc:X.calm=true:=by kernel_rfl)(mV:one=true->own.length=1:=by decide)
 (hs:∀ x,foldedSetIterable iter X.env x=pure x:=by intro _;rfl):
 JE X C sub EF (.ListComp elt [⟨tg,iter,ifs,0⟩] scope pos) (.comp own.length aL (List.range own.length) one k aD kZ xe) :=
 ⟨X2 m S hc mV hi.h (fun a b c d=>(hg a b c d).h) (fun a b c d=>(hts a b c d).h) (fun a b c d=>(he a b c d).h) hs⟩
theorem Y4 {i:Nat}{y:Str}{py spos:Pos}(m:bI C C)(nd:X.N.Nodup)(S:kE X scope cn aL)(hi:JI X C sub EF tg iter k aD)
 (hg:∀ fp s H Ca,JB (lG X scope own cn fp s H Ca) tg one own.length)
 (hts:∀ fp s H Ca,JQ (lG X scope own cn fp s H Ca) C sub EF ifs kZ)
 (he:∀ fp s H Ca,JE (lG X scope own cn fp s H Ca) C sub EF elt xe)(hy:X.N[i]? = some y:=by kernel_rfl)(hx:X.env.scope.names.lookup y=some .local:=by kernel_rfl)
 (hsw:swapsWith (.ListComp elt [⟨tg,iter,ifs,0⟩] scope pos) (some (.Name y py)) spos.line X.env=pure true:=by kernel_rfl)(hc:X.calm=true:=by kernel_rfl)(mV:one=true->own.length=1:=by decide)
 (hs:∀ x,foldedSetIterable iter X.env x=pure x:=by intro _;rfl):
 JS X C sub (.Assign [.Name y py] (.ListComp elt [⟨tg,iter,ifs,0⟩] scope pos) spos) (.asg (.nm i) (.comp own.length aL (List.range own.length) one k aD kZ xe)) :=
 ⟨Z8 m S hc mV hi.h (fun a b c d=>(hg a b c d).h) (fun a b c d=>(hts a b c d).h) (fun a b c d=>(he a b c d).h) nd hy (.inl hx) (.inr hx) hsw hs⟩
end
noncomputable def LL (k:Option NameKind):Bool:=k==some .cell||k==some .free
noncomputable def R9 (names on:List (Str×NameKind))(N cn:List Str)(aL:List Nat):Bool :=
 names.all (fun y=>!(y.2 == .cell)&&(!(y.2 == .local)||names.lookup y.1==some .local)&&(!(y.2 == .free)||LL (on.lookup y.1)))&&(cn.length==aL.length) &&
 (cn.zip aL).all (fun p=>names.lookup p.1==some .free&&N[p.2]? == some p.1&&LL (on.lookup p.1))
theorem JD {k:Option NameKind}(h:LL k=true):k=some .cell∨k=some .free:=by
 unfold LL at h
 rw[Bool.or_eq_true]at h
 rcases h with h|h
 ·exact .inl (by simpa using h)
 ·exact .inr (by simpa using h)
theorem lY {X:Cx}{scope:Scope}{cn:List Str}{aL:List Nat}{on:List (Str×NameKind)}{N:List Str}(h:R9 scope.names on N cn aL=true)(hE:X.env.scope.names=on:=by kernel_rfl)(hN:X.N=N:=by kernel_rfl)(hk:scope.kind=.function:=by kernel_rfl):kE X scope cn aL:=by
 unfold R9 at h
 rw[Bool.and_eq_true,Bool.and_eq_true]at h
 obtain⟨⟨h1,h2⟩,h3⟩:=h
 have h1:=List.all_eq_true.mp h1
 have hl:cn.length=aL.length:=by simpa using h2
 refine⟨hk,fun y hy=>?_,fun y hy e=>?_,fun y hy e=>?_,hl,fun j y e=>?_⟩
 ·have:=h1 y hy
  simp only[Bool.and_eq_true]at this
  intro z;rw[z]at this;simp at this
 ·have:=h1 y hy
  simp only[Bool.and_eq_true,Bool.or_eq_true]at this
  rcases this.1.2 with q|q
  ·rw[e]at q;simp at q
  ·simpa using q
 ·have:=h1 y hy
  simp only[Bool.and_eq_true,Bool.or_eq_true]at this
  rcases this.2 with q|q
  ·rw[e]at q;simp at q
  ·show X.env.scope.names.lookup y.1=_∨X.env.scope.names.lookup y.1=_
   rw[hE];exact JD q
 ·obtain⟨hj,ej⟩:=List.getElem?_eq_some_iff.mp e
  have hj':j<aL.length:=by omega
  have hm:(y,aL[j])∈cn.zip aL:=by
   rw[<-ej]
   exact List.mem_iff_getElem.mpr ⟨j,by simp;omega,by simp⟩
  have:=List.all_eq_true.mp h3 _ hm
  simp only[Bool.and_eq_true]at this
  refine⟨by simpa using this.1.1,aL[j],List.getElem?_eq_getElem hj',by rw[hN];simpa using this.1.2,?_⟩
  show X.env.scope.names.lookup y=_∨X.env.scope.names.lookup y=_
  rw[hE];exact JD this.2
end L3
namespace L3
theorem EB {k:Nat}{A:PySem.Around}(hr:L2.cL k A):A.units+180<PySem.cLine:=by have:=hr.un;omega
end L3
end
section
namespace PySem
open Sem (wp)
section
variable {prog:Program}{w:World}{A:Around}{s:Shared}{R:Result->Shared->Prop}{I:Addr}{fp wr:List Addr}{n:Nat}{P:Nat->Value->Prop}{St:Nat->Heap->Prop}
noncomputable def wM (prog:Program)(w:World)(I:Addr)(St:Nat->Heap->Prop):Prop:=∀(A:Around)(s:Shared)(Q:Bool->Shared->Prop)(E:Value->Shared->Prop),St 0 s.heap->(∀ b tk,Q b { s with toks:=tk })->wpAny (model prog w) A (Builtin.List.listLengthHint (.ref I)) Q E s
theorem OO {T:String}(W:Walks prog w A.in1 I fp wr n P St)(hn:n<=sizeLine)(hT:∀ h,St 0 h->∃ o,h.get? I=some o/\o.cls=.type T)(h2:(Value.type T==Value.type "list")=false)(h3:(Value.type T==Value.type "tuple")=false)(hint:wM prog w I St)
  (S:Addr)(res:Value)(c₀:Nat)(eB:St 0 s.heap)(hSf:S∉fp)(hI:I∈fp)(hS:s.heap.get? S=some { cls:=.type "list", data:=.seq #[] c₀ })
  (hR:∀ h' tk mJ c',(∀ b o,b∉S::wr->s.heap.get? b=some o->h'.get? b=some o)->h'.get? S=some { cls:=.type "list", dict:=none,data:=.seq mJ c',slots:=#[] }->ItemsOf P mJ n->R (.ok (.ret res)) { s with heap:=h',toks:=tk }):
  wpAny (model prog w) A.in1 (Builtin.List.listExtendWith (.ref S) (.ref I) res)
   (fun fin s'=>match fin with|.done f=>R (.ok f) s'|.again c'=>c'.quiet=true/\codeAny (model prog w) A c' R s') (fun e s'=>R (.error e) s') s:=by
 have hSI:S≠I:=fun e=>hSf (e▸hI)
 have key:∀(h:Heap)(c₁ tk:Nat),St 0 h->(∀ b o,b≠S->s.heap.get? b=some o->h.get? b=some o)->h.get? S=some { cls:=.type "list", data:=.seq #[] c₁ } ->
   codeAny (model prog w) A (.builtin "list.extend.loop" ⟨[.ref S,.ref I,res],[]⟩) R { s with heap:=h,toks:=tk }:=by
  intro h c₁ tk hst₁ hk hS₁
  refine codeAny_extend_loopS W.toS hn S hSf res n 0 _ #[] c₁ rfl (Nat.zero_le _) hst₁ hS₁ (ItemsOf.nil _) fun s' mJ c' hm hS' hacc=>?_
  rw[Moved.eq_with hm]
  exact hR s'.heap s'.toks mJ c' (fun b o hb e=>hm.heap b o hb (hk b o (fun z=>hb (by rw[z];exact List.mem_cons_self ..)) e)) hS' hacc
 unfold Builtin.List.listExtendWith
 refine wpAny_bind (wpAny_typeOf (T:=T) (hT _ eB) ?_)
 have h1:Builtin.List.listSameRef (.ref S) (.ref I)=false:=by simp [Builtin.List.listSameRef,hSI]
 simp only[h1,h2,h3,Bool.or_false,Bool.false_eq_true,if_false]
 refine wpAny_bind (W.self 0 _ _ _ eB ?_)
 refine wpAny_bind (wpAny_holding (hint _ _ _ _ eB fun b tk=>?_))
 have touch:∀{Q:Fin->Shared->Prop}{E:Value->Shared->Prop}{k:Unit->Sem Fin},(∀ h' , St 0 h'->(∀ b o,b≠S->s.heap.get? b=some o->h'.get? b=some o)->(∃ c₁,h'.get? S=some { cls:=.type "list", data:=.seq #[] c₁ })->wpAny (model prog w) A.in1 (k ()) Q E { s with heap:=h',toks:=tk }) ->
   wpAny (model prog w) A.in1 (rule "list.extend.makes-room" >>= fun _=>Builtin.List.listTouch (.ref S) >>= k) Q E { s with toks:=tk }:=fun{Q E k} hk=>by
  refine wpAny_bind (wpAny_rule (wpAny_bind ?_))
  show wpAny _ A.in1 (updateSeq S (·.push .none) >>= fun _=>updateSeq S (·.pop)) _ _ _
  refine wpAny_bind (wpAny_updateSeq hS rfl ?_)
  have hS₂:=Heap.get?_update_self (Obj.mapSeq (·.push Value.none)) hS rfl
  refine wpAny_updateSeq (hz:=by seq_fits) hS₂ rfl ?_
  have hS₃:=Heap.get?_update_self (Obj.mapSeq (·.pop)) hS₂ rfl
  have oth:∀ b o,b≠S->s.heap.get? b=some o->((s.heap.update S (Obj.mapSeq (·.push Value.none))).update S (Obj.mapSeq (·.pop))).get? b=some o :=
   fun b o hb e=>(Heap.get?_update_other _ _ (Ne.symm hb)).trans ((Heap.get?_update_other _ _ (Ne.symm hb)).trans e)
  exact hk _ (W.frame _ _ _ eB fun b hb o e=>oth b o (fun h=>hSf (h▸hb)) e) oth ⟨_,hS₃⟩
 refine wpAny_ite_split (fun _=>?_) (fun _=>wpAny_pure ⟨plainId_quiet F.plain_extend_loop _,key _ c₀ _ eB (fun b o _ e=>e) hS⟩)
 refine touch fun h' a b ⟨c₁,c⟩=>wpAny_pure ⟨plainId_quiet F.plain_extend_loop _,key _ c₁ _ a b c⟩
theorem HF {T:String}(W:Walks prog w A.in1 I fp wr n P St)(hn:n<=sizeLine)(hT:∀ h,St 0 h->∃ o,h.get? I=some o/\o.cls=.type T)(h2:(Value.type T==Value.type "list")=false)(h3:(Value.type T==Value.type "tuple")=false)(hint:wM prog w I St)
 (S:Addr)(eB:St 0 s.heap)(hSf:S∉fp)(hI:I∈fp)(hS:s.heap.get? S=some { cls:=.type "list", data:=.seq #[] })
 (hR:∀ h' tk mJ c',(∀ b o,b∉S::wr->s.heap.get? b=some o->h'.get? b=some o)->h'.get? S=some { cls:=.type "list", dict:=none,data:=.seq mJ c',slots:=#[] }->ItemsOf P mJ n->R (.ok (.ret .none)) { s with heap:=h',toks:=tk }):
 wpAny (model prog w) A.in1 (Builtin.«list.__init__» ⟨[.ref S,.ref I],[]⟩)
  (fun fin s'=>match fin with|.done f=>R (.ok f) s'|.again c'=>c'.quiet=true/\codeAny (model prog w) A c' R s') (fun e s'=>R (.error e) s') s:=by
 show wpAny _ A.in1 (do let old <-Builtin.List.listItems (.ref S);Builtin.List.listUpdate (.ref S) (fun _=>#[]);letGo old.toList.reverse;Builtin.List.listExtendWith (.ref S) (.ref I) .none) _ _ s
 refine wpAny_bind ?_
 unfold Builtin.List.listItems
 refine wpAny_bind (wpAny_seqItems hS rfl (wpAny_pure ?_))
 show wpAny _ A.in1 (updateSeq S (fun _=>#[]) >>= fun _=>letGo (#[]:Array Value).toList.reverse >>= fun _=>Builtin.List.listExtendWith (.ref S) (.ref I) .none) _ _ s
 refine wpAny_bind (wpAny_updateSeq hS rfl ?_)
 have hS₂:=Heap.get?_update_self (Obj.mapSeq (fun _=>(#[]:Array Value))) hS rfl
 have oth:∀ b o,b≠S->s.heap.get? b=some o->(s.heap.update S (Obj.mapSeq (fun _=>(#[]:Array Value)))).get? b=some o :=
 fun b o hb e=>(Heap.get?_update_other _ _ (Ne.symm hb)).trans e
 refine wpAny_bind (wpAny_letGo ?_)
 refine OO W hn hT h2 h3 hint S .none _ (W.frame _ _ _ eB fun b hb o e=>oth b o (fun h=>hSf (h▸hb)) e) hSf hI hS₂ fun h' tk mJ c' hm hS' hacc=>?_
 exact hR h' tk mJ c' (fun b o hb e=>hm b o hb (oth b o (fun z=>hb (by rw[z];exact List.mem_cons_self ..)) e)) hS' hacc
end
section
variable {prog:Program}{w:World}{A:Around}{E:Value->Shared->Prop}{s:Shared}{I:Addr}{fp wr:List Addr}{n:Nat}{P:Nat->Value->Prop}{St:Nat->Heap->Prop}
theorem uW {T:String}{Q:Value->Shared->Prop}(W:Walks prog w A.in1.in1 I fp wr n P St)(hn:n<=sizeLine)(hT:∀ h,St 0 h->∃ o,h.get? I=some o/\o.cls=.type T)(h2:(Value.type T==Value.type "list")=false)(h3:(Value.type T==Value.type "tuple")=false)(hint:wM prog w I St)
  (eB:St 0 s.heap)(hfp:∀ b∈fp,b<s.heap.objs.size)(hI:I∈fp)
  (hQ:∀ h' tk mJ c',(∀ b o,b∉wr->s.heap.get? b=some o->h'.get? b=some o)->h'.get? s.heap.objs.size=some { cls:=.type "list", dict:=none,data:=.seq mJ c',slots:=#[] }->ItemsOf P mJ n->Q (.ref s.heap.objs.size) { s with heap:=h',toks:=tk }):
  wpAny (model prog w) A (call (.type "list") [.ref I]) Q E s:=by
 have hSf:s.heap.objs.size∉fp:=fun hm=>Nat.lt_irrefl _ (hfp _ hm)
 refine callType_codes (Q₁:=fun obj s₁=>obj=.ref s.heap.objs.size/\s₁ = { s with heap:=s.heap.push { cls:=.type "list", data:=.seq #[] } }) F.called_list (F.typeCall_list_1 _) F.entry_list_init
  (code_list_new _ ⟨rfl,rfl⟩) fun obj s₁ h₁=>?_
 obtain⟨rfl,rfl⟩:=h₁
 have hS:(s.heap.push { cls:=.type "list", data:=.seq #[] }).get? s.heap.objs.size=some { cls:=.type "list", data:=.seq #[] }:=Heap.get?_push_size _ rfl
 refine⟨⟨_,hS,rfl⟩,F.args_list_init_2 _ _,HF (A:=A.in1) W hn hT h2 h3 hint _ (W.frame _ _ _ eB fun b _ o e=>Heap.get?_push_of_some _ e) hSf hI hS fun h' tk mJ c' hk hS' hacc=>?_⟩
 refine⟨rfl,hQ h' tk mJ c' (fun b o hb e=>hk b o (fun z=>?_) (Heap.get?_push_of_some _ e)) hS' hacc⟩
 rcases List.mem_cons.mp z with z|z
 ·exact absurd (Heap.lt_size e) (by rw[z];exact Nat.lt_irrefl _)
 ·exact hb z
end
end PySem
end
section
namespace PySem
namespace F
theorem L8:typeLookup (.type "list_reverseiterator") "__len__" = pure none:=by rw[typeLookup_type,builtinLookup_eq_fast];kernel_rfl
theorem RJ:typeLookup (.type "list_reverseiterator") "__length_hint__" = pure (some (.builtin "list_reverseiterator.__length_hint__")):=by rw[typeLookup_type,builtinLookup_eq_fast];kernel_rfl
end F
section
variable {prog:Program}{w:World}
theorem P1 {I l:Addr}{items:Array Value}:wM prog w I (fun i h=>i<=items.size/\h.IsRevIter I l ((items.size:Int)-1-(i:Int))/\h.IsList l items):=fun A s Q E eB hQ=>by
 have hT:=eB.2.1.typeIs
 unfold Builtin.List.listLengthHint
 refine wpAny_bind (wpAny_specialOf hT F.L8 ?_)
 refine wpAny_ite_split (fun eF=>absurd eF (by decide)) (fun _=>?_)
 refine wpAny_ite_split (fun eF=>absurd eF (by decide)) (fun _=>?_)
 refine wpAny_bind (wpAny_specialOf hT F.RJ ?_)
 generalize hid:("list_reverseiterator.__length_hint__" : String)=id0
 wp_delta
 rw[show splitId id0=some ("list_reverseiterator","__length_hint__")from by subst hid;decide +kernel]
 subst hid
 refine wpAny_bind (wpAny_isInstance (T :="list_reverseiterator") (b:=true) hT (by rw[isSubtype_type];kernel_rfl) ?_)
 refine wpAny_ite_split (fun eF=>absurd eF (by decide)) (fun _=>?_)
 refine wpAny_ite_split (fun _=>?_) (fun eF=>absurd (by decide +kernel) eF)
 refine wpAny_ite_split (fun eF=>absurd eF (by decide +kernel)) (fun _=>?_)
 exact wpAny_pure (hQ false s.toks)
end
end PySem
end
section
namespace PySem
open PyProof.Rows
namespace F
theorem KY:typeLookup (.type "tuple") "__reversed__" = pure none:=by rw[typeLookup_type,builtinLookup_eq_fast];kernel_rfl
theorem FE:typeLookup (.type "tuple") "__getitem__" = pure (some (.builtin "tuple.__getitem__")):=by rw[typeLookup_type,builtinLookup_eq_fast];kernel_rfl
theorem KO:typeLookup (.type "reversed") "__len__" = pure none:=by rw[typeLookup_type,builtinLookup_eq_fast];kernel_rfl
theorem vT:Manifest.owners.lookup (String.ofList ['d','e','s','r','e','v','e','r'].reverse)=some Manifest.sig_reversed:=by kernel_rfl
theorem iZ:Slot "reversed" "__next__" "reversed.__next__" :=
 .of (owner :="reversed") (n :="__next__") (by rw[typeLookup_type,builtinLookup_eq_fast];kernel_rfl) (by decide +kernel) (by decide +kernel) (by decide +kernel)
 (by first|exact .inl (by decide +kernel)|exact .inr (by decide +kernel)) (by rw[isSubtype_type];kernel_rfl)
theorem nU:Slot "reversed" "__length_hint__" "reversed.__length_hint__" :=
 .of (owner :="reversed") (n :="__length_hint__") (by rw[typeLookup_type,builtinLookup_eq_fast];kernel_rfl) (by decide +kernel) (by decide +kernel) (by decide +kernel)
 (by first|exact .inl (by decide +kernel)|exact .inr (by decide +kernel)) (by rw[isSubtype_type];kernel_rfl)
theorem tY:Slot "reversed" "__iter__" "reversed.__iter__" :=
 .of (owner :="reversed") (n :="__iter__") (by rw[typeLookup_type,builtinLookup_eq_fast];kernel_rfl) (by decide +kernel) (by decide +kernel) (by decide +kernel)
 (by first|exact .inl (by decide +kernel)|exact .inr (by decide +kernel)) (by rw[isSubtype_type];kernel_rfl)
theorem sM:entryFor table "reversed.__next__" = some Builtin.«reversed.__next__»:=entryFor_of_tree (by kernel_rfl)
theorem BR:entryFor table "reversed.__length_hint__" = some Builtin.«reversed.__length_hint__»:=entryFor_of_tree (by kernel_rfl)
theorem qE (a:Value):argsOk "reversed.__next__" ⟨[a],[]⟩:=by
 unfold argsOk;rw[signature?_of (id :="reversed.__next__") (n:=['_','_','t','x','e','n','_','_']) (o:=['d','e','s','r','e','v','e','r']) (by kernel_rfl) vT];kernel_rfl
theorem AO (a:Value):argsOk "reversed.__length_hint__" ⟨[a],[]⟩:=by
 unfold argsOk;rw[signature?_of (id :="reversed.__length_hint__") (n :="__length_hint__".toList.reverse) (o:=['d','e','s','r','e','v','e','r']) (by kernel_rfl) vT];kernel_rfl
theorem AW (a:Value):argsOk "reversed.__iter__" ⟨[a],[]⟩:=by
 unfold argsOk;rw[signature?_of (id :="reversed.__iter__") (n:=['_','_','r','e','t','i','_','_']) (o:=['d','e','s','r','e','v','e','r']) (by kernel_rfl) vT];kernel_rfl
theorem BO:entryFor table "reversed.__iter__" = some Builtin.«dict_keyiterator.__iter__» :=
 entryFor_alias (id' :="dict_keyiterator.__iter__") (by kernel_rfl) (by first|rfl|decide +kernel|(unfold String.splitOn;simp +decide [String.splitOnAux])) (by decide +kernel) (by kernel_rfl)
end F
end PySem
end
section
namespace PySem
open PyProof.Rows
section
variable {prog:Program}{w:World}{A:Around}{E:Value->Shared->Prop}{s:Shared}
noncomputable def LB (t:Addr)(i:Int):Obj:={ cls:=.type "reversed", data:=.fields #[.ref t,rawInt i] }
noncomputable def Heap.jS (h:Heap)(a t:Addr)(i:Int):Prop:=∃ o,h.get? a=some o/\o.cls=.type "reversed" /\ o.data=.fields #[.ref t,rawInt i]
theorem Heap.jS.typeIs {a t:Addr}{i:Int}(x:s.heap.jS a t i):s.TypeIs (.ref a) "reversed":=let⟨o,ho,hc,_⟩:=x;⟨o,ho,hc⟩
theorem Heap.jS.at {h h':Heap}{a t:Addr}{i:Int}(x:h.jS a t i)(e:∀ o,h.get? a=some o->h'.get? a=some o):h'.jS a t i:=let⟨o,ho,r⟩:=x;⟨o,e _ ho,r⟩
theorem uZ {t:Addr}{items:Array Value}{Q₁:Value->Shared->Prop}(ht:IsTup s.heap t items)(mI:(items.size:Int)<2 ^ 63)
 (h:Q₁ (.ref s.heap.objs.size) { s with heap:=s.heap.push (LB t ((items.size:Int)-1)),toks:=s.toks+1+1 }):
 codeAny (model prog w) A (.call (.builtin "reversed.__new__") ⟨[.type "reversed", .ref t],[]⟩) (wants Q₁ E) s:=by
 refine codeAny_of_tree ?_
 show wpAny _ A.in1 (do checkBuiltinCall "reversed.__new__" ⟨[.type "reversed", .ref t],[]⟩;again (.builtin "reversed.__new__" ⟨[.type "reversed", .ref t],[]⟩)) _ _ s
 refine wpAny_bind (wpAny_of_eq (F.newCall_reversed_1 _) (wpAny_pure ⟨plainId_quiet F.plain_reversed_new _,codeAny_builtin F.entry_reversed_new ?_⟩))
 rw[Around.under_plainId F.plain_reversed_new _]
 unfold Builtin.«reversed.__new__»
 refine wpAny_bind (wpAny_of_eq (newClass_reversed _) ?_)
 try dsimp only
 refine wpAny_bind (wpAny_of_eq (a:=()) (by first|rfl|kernel_rfl) ?_)
 refine wpAny_bind (wpAny_of_eq (a:=()) (by first|rfl|kernel_rfl) ?_)
 try dsimp only
 refine wpAny_bind (wpAny_specialOf ht.typeIs F.KY ?_)
 try dsimp only
 refine wpAny_bind ?_
 wp_delta
 refine wpAny_bind (wpAny_isInstance (T :="tuple") (b:=false) ht.typeIs (by rw[isSubtype_type];kernel_rfl) ?_)
 refine wpAny_ite_split (fun eF=>absurd eF (by decide)) (fun _=>?_)
 refine wpAny_bind (wpAny_specialOf ht.typeIs F.FE ?_)
 refine wpAny_ite_split (fun _=>?_) (fun eF=>absurd (by decide +kernel) eF)
 refine wpAny_pure ?_
 refine wpAny_ite_split (fun eF=>absurd eF (by decide)) (fun _=>?_)
 refine wpAny_bind (len_tuple ht mI ?_)
 refine wpAny_bind (m:=asInt? _) (wpAny_pure ?_)
 refine wpAny_bind (m:=Builtin.SmallTypes.newRecord (.type "reversed") [Value.ref t,rawInt ((items.size:Int)-1)]) ?_
 show wpAny _ _ (newObj (.type "reversed") (.fields #[Value.ref t,rawInt ((items.size:Int)-1)])) _ _ _
 exact wpAny_newObj_type (wpAny_pure h)
theorem xW {it t:Addr}{i:Int}{Q:Value->Shared->Prop}(hit:s.heap.jS it t i)(h:Q (.ref it) s):wpAny (model prog w) A (pyIter (.ref it)) Q E s:=by
 refine wpAny_pyIter_slot hit.typeIs F.tY (wpAny_call_entry F.tY hit.typeIs F.BO ?_ (F.AW _))
 show wpAny _ _ (ret (.ref it)) _ _ s
 exact wpAny_pure ⟨_,rfl,"reversed", _,hit.typeIs,F.iZ.lookup,h⟩
theorem rC {it t:Addr}{i:Nat}{items:Array Value}{x:Value}{Q:Option Value->Shared->Prop}(hit:s.heap.jS it t (i:Int))(ht:IsTup s.heap t items)(mI:(items.size:Int)<2 ^ 63)(hx:items[i]? = some x)
  (hQ:∀ h',h'.jS it t ((i:Int)-1)->Heap.SameBut it s.heap h'->Q (some x) { s with heap:=h',toks:=s.toks+1 }):wpAny (model prog w) A (pyNext (.ref it)) Q E s:=by
 obtain⟨o,ho,hc,hd⟩:=id hit
 have hi:i<items.size:=by
  rcases Nat.lt_or_ge i items.size with z|z
  ·exact z
  ·rw[Array.getElem?_eq_none z]at hx;cases hx
 unfold pyNext
 refine wpAny_bind (wpAny_attempt (wpAny_callSpecial?_slot (name:=Str.ofString "__next__") hit.typeIs F.iZ
  (wpAny_call_entry F.iZ hit.typeIs F.sM ?_ (F.qE _))))
 unfold Builtin.«reversed.__next__»
 refine wpAny_bind (wpAny_of_eq (a:=(Value.ref it,[])) rfl ?_)
 try dsimp only
 refine wpAny_bind (wpAny_field ho hd (x:=.ref t) rfl ?_)
 refine wpAny_bind (wpAny_field ho hd (x:=rawInt (i:Int)) rfl ?_)
 show wpAny _ _ (if(i:Int)<0 then _ else _) _ _ s
 rw[if_neg (by omega)]
 refine wpAny_bind (wpAny_specialOf ht.typeIs F.FE ?_)
 refine wpAny_ite_split (fun eF=>absurd eF (by decide)) (fun _=>?_)
 refine wpAny_bind (wpAny_mkInt ?_)
 refine wpAny_bind (wpAny_attempt (PyProof.Rows.getItem_tuple (j:=i) ht (by omega) (by omega) (seqIndex_of (by omega) (by omega)) hx ?_))
 refine wpAny_bind (wpAny_field ho hd (x:=rawInt (i:Int)) rfl ?_)
 refine wpAny_bind (wpAny_setField ho hd (by simp) ?_)
 first
 |refine wpAny_pure ⟨x,rfl,wpAny_pure (hQ _ ?_ (Heap.SameBut.update ..))⟩
 |refine wpAny_bind (wpAny_pure (wpAny_pure ⟨x,rfl,wpAny_pure (hQ _ ?_ (Heap.SameBut.update ..))⟩))
 exact⟨_,Heap.get?_update_self _ ho (Obj.isFreed_of_fields (Obj.data_mapFields hd _)),(Obj.cls_mapFields ..).trans hc,by
  rw[Obj.data_mapFields hd];simp⟩
end
end PySem
end
section
namespace PySem
open PyProof.Rows
section
variable {prog:Program}{w:World}{A:Around}{E:Value->Shared->Prop}{s:Shared}
theorem rW {it t:Addr}{Q:Option Value->Shared->Prop}(hh:A.handled=none)(hit:s.heap.jS it t (-1))
 (hQ:∀ h',Heap.ExtBut it s.heap h'->Q none { s with heap:=h' }):wpAny (model prog w) A (pyNext (.ref it)) Q E s:=by
 obtain⟨o,ho,hc,hd⟩:=id hit
 unfold pyNext
 refine wpAny_bind (wpAny_attempt (wpAny_callSpecial?_slot (name:=Str.ofString "__next__") hit.typeIs F.iZ
 (wpAny_call_entry F.iZ hit.typeIs F.sM ?_ (F.qE _))))
 unfold Builtin.«reversed.__next__»
 refine wpAny_bind (wpAny_of_eq (a:=(Value.ref it,[])) rfl ?_)
 try dsimp only
 refine wpAny_bind (wpAny_field ho hd (x:=.ref t) rfl ?_)
 refine wpAny_bind (wpAny_field ho hd (x:=rawInt (-1)) rfl ?_)
 show wpAny _ _ (if(-1:Int)<0 then _ else _) _ _ s
 rw[if_pos (by decide)]
 refine wpAny_bind (wpAny_rule ?_)
 refine wpAny_bind ?_
 wp_delta
 have ho2:=Heap.get?_update_self (Obj.mapFields (·.setIfInBounds 1 (rawInt (-1)))) ho (Obj.isFreed_of_fields (Obj.data_mapFields hd _))
 refine wpAny_bind (wpAny_setField ho hd (by simp) ?_)
 refine wpAny_setField ho2 (Obj.data_mapFields hd _) (by simp) ?_
 first
 |show wpAny _ _ (newExc (.type "StopIteration") [] >>= _) _ _ _
 |(refine wpAny_bind ?_;show wpAny _ _ (newExc (.type "StopIteration") [] >>= _) _ _ _)
 refine wpAny_bind ?_
 simp only[newExc,newTuple]
 refine wpAny_bind (wpAny_newObj_type ?_ (by size_fits))
 refine wpAny_bind (m:=firstArgMember _ _) (wpAny_of_eq (a:=Value.none) (by first|rfl|(simp only[firstArgMember];rfl)) ?_)
 refine wpAny_newObj_type ?_ (by size_fits)
 simp only[raiseNew]
 refine wpAny_bind (wpAny_handled ?_)
 first|rw[show A.in1.handled=none from hh]|rw[hh]
 refine wpAny_bind (wpAny_pure (wpAny_throw ?_))
 refine wpAny_bind (wpAny_isInstance (T :="StopIteration") (b:=true) ⟨_,Heap.get?_push_size _ rfl,rfl⟩ isSubtype_stop ?_)
 refine wpAny_pure (hQ _ ?_)
 have e1:Heap.ExtBut it s.heap ((s.heap.update it (Obj.mapFields (·.setIfInBounds 1 (rawInt (-1))))).update it (Obj.mapFields (·.setIfInBounds 0 Value.none))):=fun b u hb e =>
 (Heap.get?_update_other _ _ (Ne.symm hb)).trans ((Heap.get?_update_other _ _ (Ne.symm hb)).trans e)
 exact(e1.push _).push _
end
theorem Walks.XC {prog:Program}{w:World}{A:Around}(hh:A.handled=none)(I l:Addr)(hne:l≠I)(items:Array Value)(mI:(items.size:Int)<2 ^ 63):
  Walks prog w A I [I,l] [I] items.size (fun i v=>items[items.size-1-i]? = some v) (fun i h=>i<=items.size/\h.jS I l ((items.size:Int)-1-(i:Int))/\IsTup h l items) where
 sub:=fun b hb=>by simp at hb;simp [hb]
 frame:=fun _ _ _ x hk=>⟨x.1,x.2.1.at fun o e=>hk I (by simp) o e,let⟨o,ho,r⟩:=x.2.2;⟨o,hk l (by simp) o ho,r⟩⟩
 item:=fun i s Q E hi x hQ=>by
  have e:(items.size:Int)-1-(i:Int)=((items.size-1-i:Nat):Int):=by omega
  have hit:=x.2.1
  rw[e]at hit
  have hx:items[items.size-1-i]? = some (items[items.size-1-i]'(by omega)):=Array.getElem?_eq_getElem (by omega)
  refine rC hit x.2.2 mI hx fun h' hit' oK=>?_
  have e2:((items.size-1-i:Nat):Int)-1=(items.size:Int)-1-((i+1:Nat):Int):=by omega
  rw[e2]at hit'
  exact hQ _ h' _ hx ⟨hi,hit',let⟨o,ho,r⟩:=x.2.2;⟨o,(oK.2 l hne).trans ho,r⟩⟩ fun b o hb eo=>oK.extBut b o (fun h=>hb (by simp [h])) eo
 done:=fun s Q E x hQ=>by
  have e:(items.size:Int)-1-(items.size:Int) = -1:=by omega
  have hit:=x.2.1
  rw[e]at hit
  exact rW hh hit fun h' he'=>hQ h' s.toks fun b o hb eo=>he' b o (fun h=>hb (by simp [h])) eo
 self:=fun _ _ _ _ x hQ=>xW x.2.1 hQ
section
variable {prog:Program}{w:World}{A:Around}{E:Value->Shared->Prop}{s:Shared}
theorem F.uQ:Slot "reversed" "__init__" "object.__init__" :=
 .of (owner :="object") (n :="__init__") (by rw[typeLookup_type,builtinLookup_eq_fast];kernel_rfl) (by decide +kernel) (by decide +kernel) (by decide +kernel)
 (by first|exact .inl (by decide +kernel)|exact .inr (by decide +kernel)) (by rw[isSubtype_type];kernel_rfl)
theorem F.lR:TypeCalled "reversed" "reversed.__new__" "object.__init__" :=
 ⟨by decide +kernel,by decide +kernel,⟨_,_,F.mro_reversed⟩,F.made_reversed,by decide +kernel,by rw[isSubtype_type];kernel_rfl,F.uQ⟩
theorem xX {t:Addr}{items:Array Value}{Q:Value->Shared->Prop}(ht:IsTup s.heap t items)(mI:(items.size:Int)<2 ^ 63)
  (h:Q (.ref s.heap.objs.size) { s with heap:=s.heap.push (LB t ((items.size:Int)-1)),toks:=s.toks+1+1 }):wpAny (model prog w) A (call (.type "reversed") [.ref t]) Q E s:=by
 refine callType_codes (Q₁:=fun obj s₁=>s₁.TypeIs obj "reversed" /\ Q obj s₁) F.lR (F.typeCall_reversed_1 _) F.entry_object_init
  (uZ ht mI ⟨⟨_,Heap.get?_push_size _ rfl,rfl⟩,h⟩) fun obj s₁ hq=>⟨hq.1,F.args_object_init_2 obj _,?_⟩
 exact object_init_meets F.lR.init.lookup F.lR.made (by decide) prog w A.in1 _ s₁ ⟨hq.1,rfl,hq.2⟩
theorem O4 {I l:Addr}{items:Array Value}(mI:items.size<=sizeLine):wM prog w I (fun i h=>i<=items.size/\h.jS I l ((items.size:Int)-1-(i:Int))/\IsTup h l items):=fun A s Q E eB hQ=>by
 have hit:=eB.2.1
 have hT:=hit.typeIs
 obtain⟨o,ho,hc,hd⟩:=id hit
 have hf:(items.size:Int)<2 ^ 63:=by have:=mI;rw[sizeLine_eq]at this;omega
 unfold Builtin.List.listLengthHint
 refine wpAny_bind (wpAny_specialOf hT F.KO ?_)
 refine wpAny_ite_split (fun eF=>absurd eF (by decide)) (fun _=>?_)
 refine wpAny_ite_split (fun eF=>absurd eF (by decide)) (fun _=>?_)
 refine wpAny_bind (wpAny_specialOf hT F.nU.lookup ?_)
 generalize hid:("reversed.__length_hint__" : String)=id0
 wp_delta
 rw[show splitId id0=some ("reversed","__length_hint__")from by subst hid;decide +kernel]
 subst hid
 refine wpAny_bind (wpAny_isInstance (T :="reversed") (b:=true) hT (by rw[isSubtype_type];kernel_rfl) ?_)
 refine wpAny_ite_split (fun eF=>absurd eF (by decide)) (fun _=>?_)
 refine wpAny_ite_split (fun eF=>absurd eF (by decide +kernel)) (fun _=>?_)
 refine wpAny_bind (wpAny_rule ?_)
 refine wpAny_bind (wpAny_of_eq (F.nU.bind _) ?_)
 refine wpAny_bind (wpAny_attempt (wpAny_call_entry F.nU hT F.BR ?_ (F.AO _)))
 unfold Builtin.«reversed.__length_hint__»
 refine wpAny_bind (wpAny_of_eq (a:=Value.ref I) rfl ?_)
 refine wpAny_bind (wpAny_field ho hd (x:=.ref l) rfl ?_)
 refine wpAny_ite_split (fun eF=>absurd eF (by simp)) (fun _=>?_)
 refine wpAny_bind (len_tuple eB.2.2 hf ?_)
 refine wpAny_bind (m:=asInt? _) (wpAny_pure ?_)
 refine wpAny_bind (m:=field (.ref I) 1) (wpAny_field ho hd (x:=rawInt ((items.size:Int)-1-((0:Nat):Int))) rfl ?_)
 show wpAny _ _ (if(items.size:Int)<((items.size:Int)-1-((0:Nat):Int))+1 then _ else _) _ _ _
 rw[if_neg (by omega)]
 refine wpAny_bind (wpAny_mkInt (wpAny_pure ⟨_,rfl,?_⟩))
 refine wpAny_bind (m:=asInt? _) (wpAny_pure ?_)
 dsimp only
 have e0:(items.size:Int)-1-((0:Nat):Int)+1=items.size:=by omega
 rw[e0]
 have hfi:Builtin.List.listFitsIndex (items.size:Int)=true:=fitsIndex_both (by omega) hf
 have htl:Builtin.List.listTooLong ((items.size:Int).toNat)=false:=by simp [Builtin.List.listTooLong];exact mI
 rw[hfi,htl]
 refine wpAny_ite_split (fun eF=>absurd eF (by decide)) (fun _=>?_)
 refine wpAny_ite_split (fun eF=>absurd eF (by omega)) (fun _=>?_)
 refine wpAny_ite_split (fun eF=>absurd eF (by decide)) (fun _=>wpAny_pure (hQ _ _))
end
end PySem
end
section
namespace L3
open PySem PySem.Spec PyProof.Rows L2
theorem PR {X:Cx}{pins:List (Addr×Obj)}{σ:L2.St}{H:Hp}{s:Shared}{h':Heap}{t':Nat}{it:Addr}{ys:List V}{aD:List Value}{n:Nat}(I:Inv X pins σ H s)(f:mF X pins H it)(k:∀ b o,b≠it->s.heap.get? b=some o->h'.get? b=some o)
  (new:h'.get? s.heap.objs.size=some { cls:=.type "list", data:=.seq aD.toArray n })(hv:aO ys aD)(hz:ys.length<=sizeLine):Inv X pins σ (upd H s.heap.objs.size (.lst ys)) { s with heap:=h',toks:=t' }:=by
 have hS:=I.fresh
 have neS:∀ b o,s.heap.get? b=some o->b≠s.heap.objs.size:=fun b o e=>Nat.ne_of_lt (Heap.lt_size e)
 have tr:∀ b u,H b=some u->b≠s.heap.objs.size:=fun b u e=>gP e hS
 obtain⟨f0,f1,f2,f3,f4,f5⟩:=f
 refine I.step (g':=s.gens) (d':=s.drawn) (ch:=[it]) (fun b hb=>?_) (fun b o _ _ hc e _=>k b o (fun z=>hc (by simp [z])) e) (fun b o _ _ hc e _=>⟨o.slots,k b o (fun z=>hc (by simp [z])) e⟩) (fun b o _ e n=>by rw[aY (neS b o e)];exact n)
  (fun b o hc e=>⟨o,k b o (fun z=>hc (by simp [z])) e⟩) (fun b xs e=>by rw[aY (tr b _ e)];exact e) (fun b o u e=>by rw[aY (tr b _ e)];exact e) (fun b ps e=>⟨#[],by rw[aY (tr b _ e),e];simp⟩) (fun m hm=>?_) (fun b u e=>?_) I.bare
 ·have e:b=it:=by simpa using hb
  subst e
  exact⟨f3,f1,f4,f5⟩
 ·obtain⟨o,es,ep,ho,r⟩:=hm
  exact⟨o,es,ep,k _ o (Ne.symm f1) ho,r⟩
 ·by_cases hb:b=s.heap.objs.size
  ·subst hb
   rw[cZ]at e;cases e
   exact⟨hz,aD,n,hv,new⟩
  ·rw[aY hb]at e
   refine(I.bJ b u e).nX (fun c v hc q=>k c v ?_ q) (fun c q=>by rw[aY (tr c _ q)];exact q) fun c xs q=>by rw[aY (tr c _ q)];exact q
   rcases hc with z|z
   ·rw[z];exact fun y=>by rw[y,f0]at e;cases e
   ·exact fun y=>by rw[y,f0]at z;cases z
theorem M4 {aD:List Value}{acc:Array Value}(h:ItemsOf (fun i v=>aD.toArray[aD.toArray.size-1-i]? = some v) acc aD.toArray.size):acc=aD.reverse.toArray:=by
 obtain⟨h1,h2⟩:=h
 apply Array.ext
 ·rw[h1];simp
 ·intro i hi hi'
  have:aD.toArray[aD.toArray.size-1-i]? = some acc[i]:=h2 i acc[i] (Array.getElem?_eq_getElem hi)
  have hl:i<aD.length:=by rw[h1]at hi;simpa using hi
  have e:aD.toArray[aD.toArray.size-1-i]? = some (aD.reverse.toArray[i]):=by
   simp
  rw[e]at this
  exact(Option.some.inj this).symm
theorem aO.reverse:∀{vs:List V}{us:List Value},aO vs us->aO vs.reverse us.reverse
 |_,_,.nil=>.nil
 |_,_,.cons h t=>by simp only[List.reverse_cons];exact(aO.reverse t).append (.cons h .nil)
section
variable {X:Cx}{C:aX}{sub:Nat->Nat->Bool}{E:XK}{a b c e o tg:Expr}{es:List Expr}{x y z:Ex}{xs:List Ex}{p p2 pos pos2:Pos}{kk:IK}
theorem Bs (hm:X.mg "list" = none)(hm2:X.mg "reversed" = none)(hc:X.calm=true)(ha:PA X [a] (jC X.K (bE C sub E [x])))(hg:X.env.kindOf "list" = some .globalImplicit:=by kernel_rfl)(hg2:X.env.kindOf "reversed" = some .globalImplicit:=by kernel_rfl)
  (he:starEach [.Call (.Name "reversed" p2) [a] [] pos2] X.env=(false,eval (.Call (.Name "reversed" p2) [a] [] pos2) X.env)::starEach [] X.env:=by kernel_rfl)(cT:(backTo pos (starEach [] X.env)).any (·.1)=false:=by kernel_rfl)
  (he2:starEach [a] X.env=(false,eval a X.env)::starEach [] X.env:=by kernel_rfl)(hpl2:(backTo pos2 (starEach [] X.env)).any (·.1)=false:=by kernel_rfl):
  PE X (.Call (.Name "list" p) [.Call (.Name "reversed" p2) [a] [] pos2] [] pos) (bN X.K (aG C sub E (.bit .list .rev [x]))):=by
 intro pins s σ H Q I ⟨σd,st,R,r,ok,q,hq⟩
 refine wpAny_Call_Name_kw (kL I hg hm xH ?_ (by decide) (by decide))
 refine PyProof.Rows.callWith_type1 ?_ he cT
 rw[he]
 show wpAny _ _ (spliced ((false,eval (.Call (.Name "reversed" p2) [a] [] pos2) X.env)::backTo pos (starEach [] X.env))) _ _ s
 refine Calls.spliced_cons ?_
 refine wpAny_Call_Name_kw (kL I hg2 hm2 HZ ?_ (by decide) (by decide))
 refine PyProof.Rows.callWith_type1 (aV (ha pos2 pins s σ H _ I ⟨σd,st,_,r,ok,q,fun vs H' z=>z⟩) fun us s1 ⟨vs,H1,I1,rv,ds,aC,cX,aN,rs,q1⟩=>?_) he2 hpl2
 match ds,rs,q1 with
 |[d],rs,q1 =>
  obtain⟨v,rfl,rd⟩:=rs.one
  obtain⟨u,rfl,ru⟩:=vals1 rv
  have q1:dN d aC fun as xs=>fZ xs.reverse aC R:=q1
  obtain⟨l,ws,as,ys,rfl,sa,g,q1⟩:=nQ aN rd q1
  cases ru
  have hh:X.A.handled=none:=I1.ok.hd hc
  have nil:∀{Q':List Value->Shared->Prop}{s':Shared},Q' [] s'->wpAny (model X.prog X.w) X.A (spliced (backTo pos (starEach [] X.env))) Q' X.xe s':=fun h=>Calls.spliced_nil h
  have fin:∀(aD:List Value)(s2:Shared)(h':Heap)(tk:Nat)(acc:Array Value)(cc:Nat),aO ws aD->ws.length<=sizeLine->Inv X pins σ H1 s2->mF X pins H1 s1.heap.objs.size->(∀ b o,b∉[s1.heap.objs.size]->s2.heap.get? b=some o->h'.get? b=some o) ->
    h'.get? s2.heap.objs.size=some { cls:=.type "list", dict:=none,data:=.seq acc cc,slots:=#[] }->ItemsOf (fun i v=>aD.toArray[aD.toArray.size-1-i]? = some v) acc aD.toArray.size->EP X pins σ Q (.ref s2.heap.objs.size) { s2 with heap:=h',toks:=tk }:=by
   intro aD s2 h' tk acc cc hv hz I2 f2 k2 hS hacc
   have ea:=M4 hacc
   subst ea
   refine⟨.ref s2.heap.objs.size,_,PR I2 f2 (fun b o hb e=>k2 b o (by simpa using hb) e) hS (aO.reverse hv) (by simpa using hz),rfl,hq _ _ (.after cX ?_)⟩
   exact .fZ aN g.reverse I2.fresh q1.2
  rcases sa with sa|sa
  ·obtain⟨aD,r1,pl,hz⟩:=I1.list sa
   have hl:=pl.isList
   have cQ:l<s1.heap.objs.size:=by obtain⟨_,e,_⟩:=hl;exact Heap.lt_size e
   have hzz:aD.toArray.size<=sizeLine:=by simp;rw[<-r1.length];exact hz
   refine call_reversed_list hl (nil ?_)
   have I2:Inv X pins σ H1 { s1 with heap:=s1.heap.push (revObj l ((aD.toArray.size:Int)-1)) }:=I1.kept (t':=s1.toks) fun b o e=>Heap.get?_push_of_some _ e
   have W:=fun A hA=>Walks.listRev (prog:=X.prog) (w:=X.w) (A:=A) hA s1.heap.objs.size l (Nat.ne_of_lt cQ) aD.toArray
   refine uW (W _ hh) hzz (fun h st=>let⟨o,ho,hcl,_⟩:=st.2.1;⟨o,ho,hcl⟩) (by decide) (by decide) P1 ⟨Nat.zero_le _,⟨_,Heap.get?_push_size _ rfl,rfl,by simp [revObj]⟩,hl.push _⟩ (fun b hb=>?_) (by simp) fun h' tk acc cc k hS hacc=>?_
   ·show b<(s1.heap.push _).objs.size
    rw[Heap.size_push]
    rcases List.mem_cons.mp hb with rfl|hb
    ·exact Nat.lt_succ_self _
    ·rcases List.mem_cons.mp hb with rfl|hb
     ·exact Nat.lt_succ_of_lt cQ
     ·cases hb
   ·exact fin aD _ h' tk acc cc r1 hz I2 (I1.GP (Nat.le_refl _) I1.fresh) k hS hacc
  ·obtain⟨aD,r1,pl,hz⟩:=I1.tuple sa
   have cQ:l<s1.heap.objs.size:=by obtain⟨_,e,_⟩:=pl;exact Heap.lt_size e
   have hzz:aD.toArray.size<=sizeLine:=by simp;rw[<-r1.length];exact hz
   have mI:(aD.toArray.size:Int)<2 ^ 63:=by have:=hzz;rw[sizeLine_eq]at this;omega
   refine xX pl mI (nil ?_)
   have I2:Inv X pins σ H1 { s1 with heap:=s1.heap.push (LB l ((aD.toArray.size:Int)-1)),toks:=s1.toks+1+1 }:=I1.kept (t':=s1.toks+1+1) fun b o e=>Heap.get?_push_of_some _ e
   have W:=fun A hA=>Walks.XC (prog:=X.prog) (w:=X.w) (A:=A) hA s1.heap.objs.size l (Nat.ne_of_lt cQ) aD.toArray mI
   refine uW (W _ hh) hzz (fun h st=>let⟨o,ho,hcl,_⟩:=st.2.1;⟨o,ho,hcl⟩) (by decide) (by decide) (O4 hzz) ⟨Nat.zero_le _,⟨_,Heap.get?_push_size _ rfl,rfl,by simp [LB]⟩,let⟨o,ho,r⟩:=pl;⟨o,Heap.get?_push_of_some _ ho,r⟩⟩ (fun b hb=>?_) (by simp) fun h' tk acc cc k hS hacc=>?_
   ·show b<(s1.heap.push _).objs.size
    rw[Heap.size_push]
    rcases List.mem_cons.mp hb with rfl|hb
    ·exact Nat.lt_succ_self _
    ·rcases List.mem_cons.mp hb with rfl|hb
     ·exact Nat.lt_succ_of_lt cQ
     ·cases hb
   ·exact fin aD _ h' tk acc cc r1 hz I2 (I1.GP (Nat.le_refl _) I1.fresh) k hS hacc
theorem Gg (hm:X.mg "list" = none)(hm2:X.mg "reversed" = none)(ha:JA X C sub E [a] [x])(hc:X.calm=true:=by kernel_rfl)(hg:X.env.kindOf "list" = some .globalImplicit:=by kernel_rfl)(hg2:X.env.kindOf "reversed" = some .globalImplicit:=by kernel_rfl)
 (he:starEach [.Call (.Name "reversed" p2) [a] [] pos2] X.env=(false,eval (.Call (.Name "reversed" p2) [a] [] pos2) X.env)::starEach [] X.env:=by kernel_rfl)(cT:(backTo pos (starEach [] X.env)).any (·.1)=false:=by kernel_rfl)
 (he2:starEach [a] X.env=(false,eval a X.env)::starEach [] X.env:=by kernel_rfl)(hpl2:(backTo pos2 (starEach [] X.env)).any (·.1)=false:=by kernel_rfl):
 JE X C sub E (.Call (.Name "list" p) [.Call (.Name "reversed" p2) [a] [] pos2] [] pos) (.bit .list .rev [x]):=⟨Bs hm hm2 hc ha.h hg hg2 he cT he2 hpl2⟩
end
end L3
end
section
namespace L3
open PySem PySem.Spec PyProof.Rows L2
theorem ZU {K:PySem.W.Frag}{h:Heap}{mg:Str->Option Value}(X:K.In h)(G:h.Ns mainGlobals mg){n:Str}{i:Int}{t:Tok}(a:PySem.W.nsIn K mainGlobals n=some (some (.int i t))):GC K mg n (.int i):=⟨_,.int i,PySem.W.mg_of X G a,⟨t,rfl⟩,fun _=>.int i⟩
theorem As {K:PySem.W.Frag}{h:Heap}{mg:Str->Option Value}(X:K.In h)(G:h.Ns mainGlobals mg){n:Str}{x:Str}{w:List Nat}{t:Tok}(a:PySem.W.nsIn K mainGlobals n=some (some (.str x t)))(e:x=⟨w.toArray⟩):GC K mg n (.str w):=⟨_,.str x,PySem.W.mg_of X G a,⟨t,rfl⟩,fun _=>by rw[e];exact .str w⟩
noncomputable def LK:D->Value->Bool
 |.non,.none=>true
 |.bl b,.bool c=>b==c
 |.int i,.int j _=>i==j
 |.str w,.str x _=>w==x.cps.toList
 |_,_=>false
noncomputable def EN:List D->List Value->Bool
 |[],[]=>true
 |d::ds,u::us=>LK d u&&EN ds us
 |_,_=>false
noncomputable def RY:D->V
 |.bl b=>.bl b
 |.int i=>.int i
 |.str w=>.str ⟨w.toArray⟩
 |_=>.non
theorem Q9 {K:PySem.W.Frag}{H:Hp}{d:D}{u:Value}(h:LK d u=true):L2.RelV (RY d) u/\Rep K H d (RY d):=by
 unfold LK at h
 split at h
 ·exact⟨rfl,.non⟩
 ·exact⟨by rw[eq_of_beq h];rfl,.bl _⟩
 ·exact⟨⟨_,by rw[eq_of_beq h]⟩,.int _⟩
 ·rename_i w x t
  exact⟨⟨t,by rw[eq_of_beq h]⟩,.str w⟩
 ·cases h
theorem FY {K:PySem.W.Frag}{H:Hp}:∀{ds:List D}{us:List Value},EN ds us=true->aO (ds.map RY) us/\aJ K H ds (ds.map RY)
 |[],[],_=>⟨.nil,.nil⟩
 |d::ds,u::us,h=>by
  simp only[EN,Bool.and_eq_true]at h
  have r:=Q9 (K:=K) (H:=H) h.1
  have s:=FY (K:=K) (H:=H) h.2
  exact⟨.cons r.1 s.1,.cons r.2 s.2⟩
 |[],_::_,h=>by cases h
 |_::_,[],h=>by cases h
theorem NY {K:PySem.W.Frag}{h:Heap}{mg:Str->Option Value}(X:K.In h)(G:h.Ns mainGlobals mg){n:Str}{ds:List D}{p:Addr}{aD:Array Value}{k:Nat}{sl:Array (Option Value)}(a:PySem.W.nsIn K mainGlobals n=some (some (.ref p)))
 (l:K.lookup p=some ⟨.type "tuple", none,.seq aD k,sl⟩)(f:EN ds aD.toList=true)(z:Nat.ble aD.size 1000=true):GC K mg n (.tup ds):=by
 refine⟨_,.ref p,PySem.W.mg_of X G a,rfl,fun H=>?_⟩
 have s:=FY (K:=K) (H:=H) f
 exact .tup (.inr ⟨_,aD,k,l,rfl,rfl,rfl,Nat.le_of_lt (OZ (Nat.le_of_ble_eq_true z)),s.1⟩) s.2
end L3
end
section
namespace L3
open PySem PySem.Spec PyProof.Rows L2
noncomputable def WX (hi:Int)(n:Nat):It:=⟨fun i _=>i<n,fun i H x H'=>H'=H/\x=.int (hi-i),fun i _=>n<=i⟩
theorem MK {P:Program}{w:World}{K:PySem.W.Frag}{tg:Expr}(it:Addr)(lo:Int)(n:Nat):Turn P w K tg (WX lo n) [it] it (fun i h=>IsRangeIter h it (lo+(i:Nat)*(-1)) ((n:Int)-(i:Nat)) (-1)) where
 mem:=by simp
 obj:=fun i h st b hb=>by
  have e:b=it:=by simpa using hb
  subst e
  exact⟨_,st,fun v z=>by
   have z':Data.fields _=Data.cell v:=z
   cases z'⟩
 keep:=fun i h h' st k=>k it (by simp) _ st
 item:=by
  intro X hP hw hK hc i pins s σ H E I hf st hg
  subst hP hw hK
  obtain⟨f0,f1,f2,f3,f4,f5⟩:=hf it (by simp)
  have W:=Walks.range (prog:=X.prog) (w:=X.w) (I.ok.hd hc) it lo (-1) n
  refine W.item i s _ _ hg st fun v h' tk hv aB kk=>?_
  obtain⟨t,rfl⟩:=hv
  have I1:Inv X pins σ H { s with heap:=h',toks:=tk }:=I.turned (fun b o hb e=>kk b o (by simpa using hb) e) f0 f1 f3 f4 f5
  refine⟨_,rfl,AE (s:={ s with heap:=h',toks:=tk }) (n :="range_iterator") aB rfl rfl (by decide) ⟨.int (lo-i),H,I1,⟨t,?_⟩,⟨rfl,rfl⟩,aB,fun b hb=>(hf b hb).1⟩⟩
  congr 1;omega
 done:=by
  intro X hP hw hK hc i pins s σ H E I hf st hg
  subst hP hw hK
  obtain⟨f0,f1,f2,f3,f4,f5⟩:=hf it (by simp)
  exact wpAny_pyNext_range_end (I.ok.hd hc) st (by have:n<=i:=hg;omega) fun h' eb=>⟨rfl,I.turned (t':=s.toks) (fun b o hb e=>eb b o hb e) f0 f1 f3 f4 f5⟩
 self:=fun _ _ _ _ _ st h=>wpAny_pyIter_rangeiter st h
theorem O9 {K:PySem.W.Frag}{H1:Hp}{aC:aA}(lo:Int)(n:Nat):yT K (WX lo n) [] (mT lo n) H1 aC where
 go:=fun i H st d s ok _ e=>by
  have:=(List.getElem?_eq_some_iff.mp e).1
  show i<n
  simpa [mT]using this
 yld:=fun i H st d x H' s ok _ e ⟨e',h⟩=>by
  subst e' h
  simp only[mT,List.getElem?_map,Option.map_eq_some_iff]at e
  obtain⟨k,e1,rfl⟩:=e
  have:k=i:=by
   rw[List.getElem?_eq_some_iff]at e1
   obtain⟨_,e2⟩:=e1
   simp at e2
   exact e2.symm
  subst this
  exact⟨.refl,ok,.int _⟩
 stop:=fun i H st s ok _ l=>by show n<=i;simpa [mT]using l
section
variable {X:Cx}{tg:Expr}
theorem M9 {pins:List (Addr×Obj)}{σ:L2.St}{H:Hp}{s:Shared}{R:It->Hp->Prop}{E:Value->Shared->Prop}{lo hi:Int}{t u v:Tok}{tk:Nat}(I:Inv X pins σ H s) (h1 : -(2 ^ 62)<=lo)(h2:lo<2 ^ 62) (h3 : -(2 ^ 62)<=hi)(h4:hi<2 ^ 62)
  (q:R (WX lo (lo-hi).toNat) H):wpAny (model X.prog X.w) X.A (pyIter (.ref s.heap.objs.size)) (MJ X pins σ tg R) E { s with heap:=s.heap.push { cls:=.type "range", data:=.fields #[.int lo t,.int hi u,.int (-1) v] },toks:=tk }:=by
 refine wpAny_pyIter_range (IsRange.new ..) (PySem.W.small_down h1 h2 h3 h4) ?_
 have I1:Inv X pins σ H { s with heap:=s.heap.push { cls:=.type "range", data:=.fields #[.int lo t,.int hi u,.int (-1) v] },toks:=tk }:=I.kept fun b o e=>Heap.get?_push_of_some _ e
 refine⟨(s.heap.push { cls:=.type "range", data:=.fields #[.int lo t,.int hi u,.int (-1) v] }).objs.size,[(s.heap.push { cls:=.type "range", data:=.fields #[.int lo t,.int hi u,.int (-1) v] }).objs.size],_,_,H,rfl,
  I1.kept (t':=tk) fun b o e=>Heap.get?_push_of_some _ e,MK _ lo (lo-hi).toNat,?_,fun b hb=>?_,q⟩
 ·have e1:lo+((0:Nat):Int)*(-1)=lo:=by simp
  have e2:(((lo-hi).toNat:Nat):Int)-((0:Nat):Int)=Builtin.Range.rangeSize lo hi (-1):=by rw[PySem.W.rangeSize_downNat];omega
  show IsRangeIter _ _ (lo+((0:Nat):Int)*(-1)) ((((lo-hi).toNat:Nat):Int)-((0:Nat):Int)) (-1)
  rw[e1,e2]
  exact Heap.get?_push_size _ rfl
 ·have e:b=(s.heap.push { cls:=.type "range", data:=.fields #[.int lo t,.int hi u,.int (-1) v] }).objs.size:=by simpa using hb
  subst e
  exact I1.GP (Nat.le_refl _) (I1.bJ.fresh (Nat.le_refl _))
variable {C:aX}{sub:Nat->Nat->Bool}{E:XK}{a b c:Expr}{x y z:Ex}{p pos:Pos}
theorem RK {d d' d'':L3.D}{st:aA}{R:List Nat->List L3.D->Prop}(h:fD (some .range) [d,d',d''] st R):∃ i j c,d=.int i/\d'=.int j/\d''=.int c:=by
 unfold fD at h
 split at h
 all_goals first|(rename_i h1 h2;cases h2;exact⟨_,_,_,rfl,rfl,rfl⟩)|(rename_i h1 h2;cases h2)|(rename_i h1 h2;cases h1)|exact h.elim
theorem Jq (m:bI C C)(hm:X.mg "range" = none)(ha:JA X C sub E [a,b,c] [x,y,z])(hg:X.env.kindOf "range" = some .globalImplicit:=by kernel_rfl)
  (hs:starEach [a,b,c] X.env=[(false,eval a X.env),(false,eval b X.env),(false,eval c X.env)]:=by kernel_rfl)(hs2:starEach [b,c] X.env=[(false,eval b X.env),(false,eval c X.env)]:=by kernel_rfl):
  JI X C sub E tg (.Call (.Name "range" p) [a,b,c] [] pos) (some .range) [x,y,z]:=⟨by
 intro pins s σ H R I ⟨σd,st,M,r,ok,q,hq⟩
 refine Call_ (kL I hg hm PD (PyProof.Rows.callWith_type1 (aV (ha.h pos pins s σ H _ I ⟨σd,st,_,r,ok,mL [x,y,z] m q,fun vs H' z=>z⟩) fun us s1 ⟨vs,H1,I1,rv,ds,aC,cX,aN,rs,l1,q1⟩=>?_) (by rw[hs,hs2]) (by rw[hs2];rfl)))
 obtain⟨d,d',d'',rfl⟩:∃ d d' d'',ds=[d,d',d'']:=by
  match ds,l1 with
  |[d,d',d''],_=>exact⟨d,d',d'',rfl⟩
 have q1:fD (some .range) [d,d',d''] aC fun as xs=>M as xs aC:=q1
 obtain⟨i,j,c,rfl,rfl,rfl⟩:=RK q1
 cases rs with|cons r1 rs=>cases rs with|cons r2 rs=>cases rs with|cons r3 rs =>
  cases rs
  cases r1.int_inv;cases r2.int_inv;cases r3.int_inv
  rw[A9]at q1
  obtain⟨rfl,⟨a1,a2⟩,⟨b1,b2⟩,q1⟩:=q1
  cases rv with|cons v1 rv=>cases rv with|cons v2 rv=>cases rv with|cons v3 rv =>
   cases rv
   obtain⟨t1,rfl⟩:=v1
   obtain⟨t2,rfl⟩:=v2
   obtain⟨t3,rfl⟩:=v3
   exact call_range_3 (by decide) (M9 I1 a1 a2 b1 b2 (hq _ _ ⟨_,_,aC,cX,aN,O9 _ _,q1⟩))⟩
end
end L3
end
section
namespace L3
open PySem PySem.Spec PyProof.Rows L2
noncomputable def XX:D->PyData
 |.bl b=>.bool b
 |.int i=>.int i
 |.str w=>.str ⟨w.toArray⟩
 |_=>.none
noncomputable def Gc:D->Bool
 |.non=>true
 |.bl _=>true
 |.int _=>true
 |.str _=>true
 |_=>false
noncomputable def sW:List D->List D->List (Str×PyData)
 |.str w::ks,v::vs=>(⟨w.toArray⟩,XX v)::sW ks vs
 |_,_=>[]
noncomputable def RZ:List D->List D->Bool
 |[],[]=>true
 |.str _::ks,v::vs=>Gc v&&RZ ks vs
 |_,_=>false
theorem WS {v:D}(h:Gc v=true):qH (XX v)=v/\mN (XX v)=true:=by
 cases v<;>first|exact⟨rfl,rfl⟩|cases h
theorem NZ:∀{ks vs:List D},RZ ks vs=true->((sW ks vs).all fun p=>mN p.2)=true/\ks=(sW ks vs).map (fun p=>.str p.1.cps.toList)/\vs=(sW ks vs).map (fun p=>qH p.2)
 |[],[],_=>⟨rfl,rfl,rfl⟩
 |.str w::ks,v::vs,h=>by
  simp only[RZ,Bool.and_eq_true]at h
  obtain⟨a,b,c⟩:=NZ h.2
  obtain⟨d,e⟩:=WS h.1
  refine⟨?_,?_,?_⟩
  ·simp only[sW,List.all_cons,e,a,Bool.and_self]
  ·simp only[sW,List.map_cons];rw[<-b]
  ·simp only[sW,List.map_cons,d];rw[<-c]
 |[],_::_,h=>by cases h
 |.str _::_,[],h=>by cases h
 |.non::_,_,h=>by cases h
 |.bl _::_,_,h=>by cases h
 |.int _::_,_,h=>by cases h
 |.tup _::_,_,h=>by cases h
 |.ref _::_,_,h=>by cases h
 |.cO _ _::_,_,h=>by cases h
 |.bF _::_,_,h=>by cases h
 |.exc _::_,_,h=>by cases h
theorem XU {K:PySem.W.Frag}{h:Heap}{mg:Str->Option Value}(X:K.In h)(G:h.Ns mainGlobals mg){n:Str}{ks vs:List D}{p:Addr}{es:Array DictEntry}{ep:Nat}(a:PySem.W.nsIn K mainGlobals n=some (some (.ref p)))
 (l:K.lookup p=some ⟨.type "dict", none,.dict es ep,#[]⟩)(f:(KTD.rowsLook KTD.flatLooks es.toList (sW ks vs)&&RZ ks vs && !(p==sysModules))=true):GC K mg n (.cO ks vs):=by
 simp only[Bool.and_eq_true]at f
 obtain⟨⟨f1,f2⟩,f3⟩:=f
 obtain⟨a1,a2,a3⟩:=NZ f2
 refine⟨_,.ref p,PySem.W.mg_of X G a,rfl,fun H=>.cO ⟨sW ks vs,?_,a1,a2,a3⟩⟩
 simp only[KTD.tabLook,l,f1,f3]
 rfl
end L3
end
section
namespace L3
open PySem PySem.Spec PyProof.Rows L2 PySem.SeqAt
theorem IE {β:Type}(n:Nat)(b:β)(f:Nat->β->Sem (ForInStep β)):forIn [0:n] b f=forIn (List.range' 0 n 1) b f:=by
 rw[Std.Legacy.Range.forIn_eq_forIn_range']
 have jK:([0:n]:Std.Legacy.Range).size=n:=by simp [Std.Legacy.Range.size]
 show forIn (List.range' 0 ([0:n]:Std.Legacy.Range).size 1) b f=_
 rw[jK]
theorem yX {prog:Program}{w:World}{A:Around}{E:Value->Shared->Prop}{s:Shared}{t:Addr}{items:Array Value}{x:Value}{e:Value->Bool}{j:Nat}{P:Fin->Shared->Prop}(ht:IsTup s.heap t items)
  (he:∀ y,y∈items->EqAt A s y x (e y))(hj:j<items.size)(hit:e items[j]=true)(hno:∀ m (hm:m<items.size),m<j->e items[m]=false)
  (h:P (.done (.ret (.int j s.toks))) { s with toks:=s.toks+1 }):wpAny (model prog w) A (Builtin.«tuple.index» ⟨[.ref t,x],[]⟩) P E s:=by
 show wpAny _ _ (Builtin.Tuple.tupleItemsOf (.ref t) >>= _) _ _ s
 refine wpAny_bind (tupleItemsOf_ ht ?_)
 show wpAny _ _ (forIn [0:min items.size items.size] _ _ >>= _) _ _ s
 rw[Nat.min_self,IE]
 refine wpAny_bind (wpAny_mono (Q:=fun(b:Option PySem.Fin×Unit) s'=>b.1=some (.done (.ret (.int j s.toks)))/\s' = { s with toks:=s.toks+1 }) (wpAny_forIn_list (β:=Option PySem.Fin×Unit) _ (fun rest b s'=>s'=s/\b.1=none/\∃ i,rest=List.range' i (items.size-i) 1/\i<=j) _ ?_ ?_ _ _ ⟨rfl,rfl,0,rfl,Nat.zero_le _⟩) ?_ fun _ _ z=>z)
 ·rintro i rest b s' ⟨rfl,hb,k,hk,hkj⟩
  have cQ:k<items.size:=by omega
  have e1:items.size-k=(items.size-(k+1))+1:=by omega
  rw[e1,List.range'_succ]at hk
  injection hk with h1 h2
  subst h1
  have hg:items[i]? = some items[i]:=by simp [cQ]
  rw[hg]
  show wpAny _ _ (eqBool items[i] x >>= _) _ _ _
  refine wpAny_bind (he _ (Array.getElem_mem cQ) prog w _ _ ?_)
  by_cases hij:i=j
  ·subst hij
   rw[hit]
   exact wpAny_bind (wpAny_bind (wpAny_mkInt (wpAny_pure (wpAny_pure ⟨rfl,rfl⟩))))
  ·rw[hno i cQ (by omega)]
   exact wpAny_pure ⟨rfl,rfl,i+1,h2,by omega⟩
 ·rintro b s' ⟨_,_,i,hi,hij⟩
  have:(List.range' i (items.size-i) 1).length=0:=by rw[<-hi];rfl
  simp at this
  omega
 ·rintro⟨b1,b2⟩ s' ⟨hb,rfl⟩
  simp only at hb
  subst hb
  exact wpAny_pure h
end L3
end
section
namespace L3
open PySem PySem.Spec PyProof.Rows L2 PySem.SeqAt
section
variable {X:Cx}
theorem FP {pins:List (Addr×Obj)}{s:Shared}{σ:L2.St}{H:Hp}{st:aA}(I:Inv X pins σ H s)(ok:aQ X.K st H){ds:List D}{vs:List V}{aD:List Value}{d:D}{v:V}{u:Value}{A:Around}
  (g:aJ X.K H ds vs)(r:aO vs aD)(p:dM st ds)(pd:plainS st d)(rd:Rep X.K H d v)(rv:RelV v u)(hu:A.units+178<cLine):
  ∃ e:Value->Bool,(∀ y,y∈aD.toArray->EqAt A.in1 s y u (e y))/\∀ j (hj:j<aD.length)(hj':j<ds.length),e aD[j]=bM st ds[j] d:=by
 classical
 have hD:kS=80:=rfl
 have item:∀(d':D)(v':V)(y:Value),d'∈ds->Rep X.K H d' v'->RelV v' y->EqAt A.in1 s y u (bM st d' d):=fun d' v' y m r' aZ=>by
  have h1:=iK m
  have h2:=p.2
  exact(LM I ok 80 (by omega) (fO p.1 m) pd.1 r' aZ rd rv (by simp only[Around.in1_units];omega)).2.1
 let e:Value->Bool:=fun y=>decide (∃ d' v',d'∈ds/\Rep X.K H d' v'/\RelV v' y/\bM st d' d=true)
 have he:∀(d':D)(v':V)(y:Value),d'∈ds->Rep X.K H d' v'->RelV v' y->e y=bM st d' d:=fun d' v' y m r' aZ=>by
  show decide _=_
  cases q:bM st d' d with
  |true=>exact decide_eq_true ⟨d',v',m,r',aZ,q⟩
  |false =>
   refine decide_eq_false fun⟨d2,v2,m2,r2,rv2,q2⟩=>?_
   cases RelV.inj aZ rv2
   have:=ES I ok _ (Nat.le_refl _) (fO p.1 m) (fO p.1 m2) r' r2
   subst this
   rw[q]at q2;cases q2
 refine⟨e,fun y hy=>?_,fun j hj hj'=>?_⟩
 ·obtain⟨j,hj,rfl⟩:=Array.mem_iff_getElem.mp hy
  obtain⟨v',e1,e2⟩:=aO.at r hj
  obtain⟨d',e3,e4⟩:=aJ.get' g e1
  rw[he d' v' _ (List.mem_of_getElem? e3) e4 e2]
  exact item d' v' _ (List.mem_of_getElem? e3) e4 e2
 ·obtain⟨v',e1,e2⟩:=aO.at r (by simpa using hj)
  obtain⟨d',e3,e4⟩:=aJ.get' g e1
  have e5:ds[j]=d':=(List.getElem?_eq_some_iff.mp e3).2
  rw[e5]
  exact he d' v' _ (List.mem_of_getElem? e3) e4 (by simpa using e2)
theorem tK {st:aA}{d:D}:∀{ds:List D}{j:Nat},findD st d ds=some j->∃ hj:j<ds.length,bM st ds[j] d=true/\∀ m (hm:m<ds.length),m<j->bM st ds[m] d=false
 |[],_,h=>by cases h
 |x::r,j,h=>by
  have h:(if bM st x d=true then some 0 else(findD st d r).map (·+ 1))=some j:=h
  by_cases c:bM st x d=true
  ·rw[if_pos c]at h;cases h
   exact⟨by simp,c,fun m _ hm=>by omega⟩
  ·rw[if_neg c]at h
   obtain⟨k,e,rfl⟩:=Option.map_eq_some_iff.mp h
   obtain⟨h1,h2,h3⟩:=tK e
   refine⟨by simpa using h1,by simpa using h2,fun m hm hl=>?_⟩
   cases m with
   |zero=>simpa using c
   |succ m=>simpa using h3 m (by simpa using hm) (by omega)
theorem index_list {pins:List (Addr×Obj)}{s:Shared}{σ:L2.St}{H:Hp}{st:aA}{R:VK}{ds:List D}{vs:List V}{d:D}{v:V}{u:Value}{a:Addr}{j:Nat}(hu:X.A.units+180<cLine)(I:Inv X pins σ H s)(ok:aQ X.K st H)(f:dU X.K H a vs)(g:aJ X.K H ds vs)
  (rd:Rep X.K H d v)(rv:RelV v u)(pd:plainS st d)(ps:dM st ds)(hj:findD st d ds=some j)(q:R (.int (j:Nat)) st):wpAny (model X.prog X.w) X.A (call (.builtin "list.index") [.ref a,u]) (EP X pins σ (QD X.K H st R)) X.xe s:=by
 obtain⟨aD,r1,p1,hz⟩:=I.list f
 obtain⟨e,he,ha⟩:=FP I ok g r1 ps pd rd rv (A:=X.A) (by omega)
 obtain⟨h1,h2,h3⟩:=tK hj
 have l1:=g.length
 have l2:=r1.length
 have hn:=pE
 obtain⟨⟨cls,dd,data,sl⟩,ho,hc,n,hd⟩:=id p1.isList
 simp only at hc hd
 subst hc hd
 refine call_meets PySem.F.slot_list_index ⟨_,ho,rfl⟩ PySem.F.entry_list_index (PySem.F.args_list_index_2 _ _)
  (list_indexAt a aD.toArray n dd sl u e j (by simp;omega) (by omega) ?_ ?_) ⟨ho,he,?_⟩
 ·show e aD[j]=true
  rw[ha j (by omega) h1];exact h2
 ·intro m hm hl
  have hm:m<aD.length:=by simpa using hm
  show e aD[m]=false
  rw[ha m hm (by omega)];exact h3 m (by omega) hl
 ·exact⟨.int j,H,I.tok _,⟨_,rfl⟩,.here ok (.int _) q⟩
theorem O1 {pins:List (Addr×Obj)}{s:Shared}{σ:L2.St}{H:Hp}{st:aA}{R:VK}{ds:List D}{vs:List V}{d:D}{v:V}{u:Value}{a:Addr}{j:Nat}(hu:X.A.units+180<cLine)(I:Inv X pins σ H s)(ok:aQ X.K st H)(f:dS X.K H a vs)(g:aJ X.K H ds vs)
  (rd:Rep X.K H d v)(rv:RelV v u)(pd:plainS st d)(ps:dM st ds)(hj:findD st d ds=some j)(q:R (.int (j:Nat)) st):wpAny (model X.prog X.w) X.A (call (.builtin "tuple.index") [.ref a,u]) (EP X pins σ (QD X.K H st R)) X.xe s:=by
 obtain⟨aD,r1,p1,hz⟩:=I.tuple f
 obtain⟨e,he,ha⟩:=FP I ok g r1 ps pd rd rv (A:=X.A) (by omega)
 obtain⟨h1,h2,h3⟩:=tK hj
 have l1:=g.length
 have l2:=r1.length
 refine wpAny_call_entry PySem.F.slot_tuple_index p1.typeIs PySem.F.entry_tuple_index (yX p1 he (j:=j) (by simp;omega) ?_ ?_ ⟨_,rfl,?_⟩) (PySem.F.args_tuple_index_2 _ _)
 ·show e aD[j]=true
  rw[ha j (by omega) h1];exact h2
 ·intro m hm hl
  have hm:m<aD.length:=by simpa using hm
  show e aD[m]=false
  rw[ha m hm (by omega)];exact h3 m (by omega) hl
 ·exact⟨.int j,H,I.tok _,⟨_,rfl⟩,.here ok (.int _) q⟩
end
section
variable {X:Cx}{C:aX}{sub:Nat->Nat->Bool}{E:XK}{e o:Expr}{x y:Ex}{pos apos jD:Pos}
noncomputable def ZH:D->Bool
 |.tup _=>true
 |_=>false
theorem GK {K:PySem.W.Frag}{H:Hp}{st:aA}{d:D}{v:V}{Kk:List Nat->List D->Prop}(ok:aQ K st H)(r:Rep K H d v)(h:dN d st Kk):∃ a vs as ds,v=.ref a/\aJ K H ds vs/\((ZH d=false/\dU K H a vs)∨(ZH d=true/\dS K H a vs))/\Kk as ds:=by
 unfold dN at h
 split at h
 ·obtain⟨a,vs,rfl,f,g⟩:=r.bK
  exact⟨a,vs,_,_,rfl,g,.inr ⟨rfl,f⟩,h⟩
 ·cases r.cB
  obtain⟨ds,e,h⟩:=dI h
  obtain⟨vs,g1,g2⟩:=ok.lst e
  exact⟨_,vs,_,_,rfl,g2,.inl ⟨rfl,dU.of g1⟩,h⟩
 ·obtain⟨a,vs,rfl,f,g⟩:=r.jQ
  exact⟨a,vs,_,_,rfl,g,.inl ⟨rfl,f.sq⟩,h⟩
 ·exact h.elim
theorem RL (m:bI C C)(hu:X.A.units+180<cLine)(ho:JE X C sub E o x)(ha:JA X C sub E [e] [y])(iU:attributeBase o "index" X.env (eval o X.env)=eval o X.env:=by kernel_rfl)
  (tX:((backTo pos (starEach [e] X.env)).all (fun x=>!x.1)&&(backToKw pos (keywordEach [] X.env)).all (fun x=>x.1.isSome)&&decide ([e].length+([]:List Keyword).length+(if([]:List Keyword).isEmpty then 0 else 1)<30))=true:=by kernel_rfl)(iV:(apos.endLine==pos.line)=true:=by kernel_rfl)
  (hs:starEach [e] X.env=[(false,eval e X.env)]:=by kernel_rfl):
  JE X C sub E (.Call (.Attribute o "index" apos) [e] [] pos) (.cD .index x [y]):=⟨by
 intro pins s σ H Q I ⟨σd,st,R,r,ok,q,hq⟩
 refine wpAny_Call_method_late iU tX iV rfl (aV (ho.h pins s σ H _ I ⟨σd,st,_,r,ok,q,fun v H' z=>z⟩) fun v s1 ⟨x1,H1,I1,r1,d1,aC,cX,aN,rd1,q1⟩=>?_)
 obtain⟨rc,q1⟩:=q1
 obtain⟨a,vs,as,ds,rfl,g,ty,-⟩:=GK aN rd1 rc
 cases r1
 have rest:∀ id:String,(∀(s2:Shared)(H2:Hp)(aF:aA)(d2:D)(v2:V)(u2:Value),Inv X pins σ H2 s2->Step H1 aC H2 aF->aQ X.K aF H2->Rep X.K H2 d2 v2->RelV v2 u2->iR .index d1 [d2] aF R->wpAny (model X.prog X.w) X.A (call (.builtin id) [.ref a,u2]) (EP X pins σ (QD X.K H2 aF R)) X.xe s2) ->
   wpAny (model X.prog X.w) X.A (callWith pos (.builtin id) [.ref a] (backTo pos (starEach [e] X.env)) []) (EP X pins σ Q) X.xe s1:=by
  intro id hc
  have hA:=ha.h pos pins s1 σ H1 _ I1 ⟨σd,aC,_,r.step ok cX,aN,mL [y] m q1,fun vs H' z=>z⟩
  rw[hs]at hA ⊢
  refine Calls.callWith_builtin (by rfl) (Calls.evalArgs_plain ?_)
  refine aV hA fun us s2 ⟨ws,H2,I2,r2,es,aF,gZ,bO,rs2,l2,q2⟩=>?_
  match es,l2,ws,rs2,us,r2 with
  |[d2],_,_,.cons rd2 .nil,_,.cons rv2 .nil =>
   exact aV (hc s2 H2 aF d2 _ _ I2 gZ bO rd2 rv2 q2) fun w s3 ⟨v3,H3,I3,r3,z⟩=>⟨v3,H3,I3,r3,hq _ _ (.after (cX.trans gZ) z)⟩
 rcases ty with⟨tk,ty⟩|⟨tk,ty⟩
 ·obtain⟨aD,_,p1,_⟩:=I1.list ty
  refine⟨"list","list.index", PySem.F.plainAttrs_list,PySem.F.slot_list_index,PySem.F.type_list_index,p1.isList.typeIs,fun b e=>?_,rest _ fun s2 H2 aF d2 v2 u2 I2 gZ bO rd2 rv2 q2=>?_⟩
  ·cases e
   obtain⟨o,n,e,c,hd,_⟩:=p1
   exact⟨o,e,hd⟩
  ·obtain⟨a',vs2,as2,ds2,e2,g2,ty2,pd,ps,q2⟩:=GK bO (rd1.step aN gZ) q2
   cases e2
   obtain⟨j,hj,q2⟩:=eE q2
   rcases ty2 with⟨tk2,ty2⟩|⟨tk2,ty2⟩
   ·exact index_list hu I2 bO ty2 g2 rd2 rv2 pd ps hj q2
   ·rw[tk]at tk2;cases tk2
 ·obtain⟨aD,_,p1,_⟩:=I1.tuple ty
  refine⟨"tuple","tuple.index", PySem.F.plainAttrs_tuple,PySem.F.slot_tuple_index,PySem.F.type_tuple_index,p1.typeIs,fun b e=>?_,rest _ fun s2 H2 aF d2 v2 u2 I2 gZ bO rd2 rv2 q2=>?_⟩
  ·cases e
   exact I1.Fm ty
  ·obtain⟨a',vs2,as2,ds2,e2,g2,ty2,pd,ps,q2⟩:=GK bO (rd1.step aN gZ) q2
   cases e2
   obtain⟨j,hj,q2⟩:=eE q2
   rcases ty2 with⟨tk2,ty2⟩|⟨tk2,ty2⟩
   ·rw[tk]at tk2;cases tk2
   ·exact O1 hu I2 bO ty2 g2 rd2 rv2 pd ps hj q2⟩
end
end L3
end
section
namespace L3
open PySem PySem.Spec PyProof.Rows L2 PySem.SeqAt
noncomputable def qT (val:Nat->Str):Nat->Nat
 |0=>0
 |i+1=>if((List.range i).map val).any (·== val i)then qT val i else qT val i+1
theorem OX (val:Nat->Str):∀ i,qT val i<=i
 |0=>Nat.le_refl _
 |i+1=>by
  have:=OX val i
  unfold qT
  split<;>omega
section
variable {prog:Program}{w:World}{A:Around}{R:Result->Shared->Prop}{I:Addr}{fp wr:List Addr}{G:Array GenState->Array GenState->Prop}{n:Nat}{P:Nat->Value->Prop}{St:Nat->Shared->Prop}
noncomputable abbrev oP (prog:Program)(w:World)(val:Nat->Str)(S:Addr)(i:Nat)(h:Heap):Prop:=h.SetOf (strKind prog w) S (fun k=>((List.range i).map val).any (·== k)) (qT val i)
theorem HW {val:Nat->Str}{S:Addr}{i:Nat}{h:Heap}(x:h.SetOf (strKind prog w) S (fun k'=>((List.range i).map val).any (·== k')||decide (k'=val i)) (if((List.range i).map val).any (·== val i)then qT val i else qT val i+1)):oP prog w val S (i+1) h:=by
 refine SetOf_congr x (fun k=>?_) rfl
 rw[List.range_succ,List.map_append,List.any_append]
 congr 1
 simp only[List.map_cons,List.map_nil,List.any_cons,List.any_nil,Bool.or_false]
 by_cases e:k=val i
 ·subst e;simp
 ·rw[decide_eq_false e];symm;exact beq_eq_false_iff_ne.mpr fun z=>e z.symm
theorem RO (W:WalksS prog w A.in1 I fp wr G n P St)(S:Addr)(hSf:S∉fp)(val:Nat->Str)(hval:∀ i v,P i v->∃ t,v=.str (val i) t)(hb:n+1<scanBound):
 ∀(k i:Nat)(s:Shared),n-i=k->i<=n->St i s->oP prog w val S i s.heap->(∀ s',Moved (S::wr) G s s'->oP prog w val S n s'.heap->R (.ok (.ret .none)) s') ->
  codeAny (model prog w) A (.builtin "set.update.loop" ⟨[.ref S,.ref I],[]⟩) R s:=by
 have hSw:S∉wr:=fun h=>hSf (W.sub _ h)
 have hsub:∀ b∈wr,b∈S::wr:=fun b hb=>List.mem_cons_of_mem _ hb
 have keep:∀{i:Nat}{s s':Shared},oP prog w val S i s.heap->Moved wr G s s'->oP prog w val S i s'.heap:=fun⟨o,es,ep,t,ho,rest⟩ hm=>⟨o,es,ep,t,hm.heap S _ hSw ho,rest⟩
 intro k
 induction k with
 |zero =>
 intro i s hk hi eB hS hR
 obtain rfl:i=n:=by omega
 refine codeAny_builtin PyProof.Rows.F.entry_set_update_loop ?_
 rw[Around.under_plainId PyProof.Rows.F.plain_set_update_loop _]
 show wpAny _ A.in1 (pyNext (.ref I) >>= _) _ _ s
 refine wpAny_bind (W.done s _ _ eB fun s' hm=>?_)
 show wpAny _ A.in1 (ret Value.none) _ _ s'
 exact wpAny_pure (hR s' (hm.mono hsub) (keep hS hm))
 |succ k ih =>
 intro i s hk hi eB hS hR
 have cQ:i<n:=by omega
 refine codeAny_builtin PyProof.Rows.F.entry_set_update_loop ?_
 rw[Around.under_plainId PyProof.Rows.F.plain_set_update_loop _]
 show wpAny _ A.in1 (pyNext (.ref I) >>= _) _ _ s
 refine wpAny_bind (W.item i s _ _ cQ eB fun v s' hP hst' hm=>?_)
 obtain⟨t,rfl⟩:=hval i v hP
 show wpAny _ A.in1 (holding [Value.str (val i) t] (setAdd S (.str (val i) t)) >>= _) _ _ s'
 refine wpAny_bind (wpAny_holding ?_)
 unfold setAdd
 refine wpAny_holding (wpAny_bind ((strKind prog w).pyHash (k:=val i) (strKind_is _ _ _ _) ?_))
 refine wpAny_setAddHashed_of (knd:=strKind prog w) (s:={ s' with toks:=s'.toks+1 }) (strKind_is _ _ _ _) rfl (show oP prog w val S i s'.heap from keep hS hm) (by have:=OX val i;omega) fun h' hsb hS2=>?_
 refine wpAny_pure ⟨plainId_quiet PyProof.Rows.F.plain_set_update_loop _,ih (i+1) _ (by omega) cQ (W.frame _ s' _ _ hst' (Nat.le_succ _) fun b hb o e=>?_) (HW hS2) fun s'' hm'' hS''=>?_⟩
 ·rw[hsb.2 b (fun h:b=S=>hSf (by rw[<-h];exact hb))];exact e
 ·refine hR s'' (Moved.trans W.gtrans ((hm.mono hsub).then_heap (Nat.le_succ _) fun b o hb e=>?_) hm'') hS''
  rw[hsb.2 b (fun h:b=S=>hb (by rw[h];exact List.mem_cons_self))];exact e
end
section
variable {prog:Program}{w:World}{A:Around}{E:Value->Shared->Prop}{s:Shared}
noncomputable abbrev fU (led:Bool):Obj:={ cls:=.type "set", dict:=none,data:=.set #[] 0 (.fresh 0 0 led) }
theorem BQ {l:Addr}{items:Array Value}{val:Nat->Str}{led:Bool}{Q:PySem.Fin->Shared->Prop}(hh:A.handled=none)(hl:s.heap.IsTuple l items)(hv:∀(i:Nat)(v:Value),items[i]? = some v->∃ t,v=.str (val i) t)(hb:items.size+1<scanBound)
  (h:∀(h':Heap)(tk:Nat),oP prog w val s.heap.objs.size items.size h'->(∀ b o,s.heap.get? b=some o->h'.get? b=some o)->Q (.done (.ret .none)) { s with heap:=h',toks:=tk }):
  wpAny (model prog w) A (Builtin.«set.__init__» ⟨[.ref s.heap.objs.size,.ref l],[]⟩) Q E { s with heap:=s.heap.push (fU led) }:=by
 obtain⟨ol,hol,hcl,nl,hdl⟩:=hl
 obtain⟨ocls,odict,odata,oslots⟩:=ol
 simp only at hcl hdl
 subst hcl;subst hdl
 have hS:(s.heap.push (fU led)).get? s.heap.objs.size=some (fU led):=Heap.get?_push_size _ rfl
 have hT:Shared.TypeIs { s with heap:=s.heap.push (fU led) } (.ref s.heap.objs.size) "set":=⟨_,hS,rfl⟩
 have hol':(s.heap.push (fU led)).get? l=some { cls:=.type "tuple", dict:=odict,data:=.seq items nl,slots:=oslots }:=Heap.get?_push_of_some _ hol
 have hsls:=PySem.F.sub_tuple_set
 have hslf:=PySem.F.sub_tuple_frozenset
 have hne:(Value.type "tuple" == Value.type "dict")=false:=by decide
 have hl1:(s.heap.push (fU led)).IsTuple l items:=⟨_,hol',rfl,nl,rfl⟩
 unfold Builtin.«set.__init__» noKeywords Builtin.Frozenset.updateFrom
 generalize hPI:pyIter=PI
 wp_walk
 subst hPI
 refine wpAny_pyIter_tuple hl1 ?_
 refine wpAny_bind (wpAny_runValue ?_)
 have hlS:l<s.heap.objs.size:=Heap.lt_size hol
 have hh3:A.in1.handled=none:=by simp [hh]
 have jK:(s.heap.push (fU led)).objs.size=s.heap.objs.size+1:=Heap.size_push ..
 have hneI:l≠(s.heap.push (fU led)).objs.size:=by rw[jK];exact Nat.ne_of_lt (Nat.lt_succ_of_lt hlS)
 have hSf:s.heap.objs.size∉[(s.heap.push (fU led)).objs.size,l]:=by
  simp only[List.mem_cons,List.not_mem_nil,or_false,not_or]
  exact⟨by rw[jK];exact Nat.ne_of_lt (Nat.lt_succ_self _),Nat.ne_of_gt hlS⟩
 refine RO ((Walks.tuple hh3 _ l hneI items).toS) s.heap.objs.size hSf val hv hb (items.size-0) 0 _ (by omega) (Nat.zero_le _) ⟨?hT1,?hT0⟩ ?hS0 ?hR
 case hT1=>exact⟨_,Heap.get?_push_size _ rfl,rfl,rfl⟩
 case hT0=>exact⟨_,Heap.get?_push_of_some _ hol',rfl,nl,rfl⟩
 case hS0=>exact SetOf_congr ((setObjOf_fresh (knd:=strKind prog w) led).setOf (Heap.get?_push_of_some _ hS) (by unfold scanBound;omega)) (fun _=>rfl) rfl
 case hR =>
  intro s' hm hS'
  obtain⟨h',g',d',tk',os'⟩:=s'
  have eg:g'=s.gens:=hm.gens
  have ed:d'=s.drawn:=hm.drawn
  have eo:os'=s.os:=hm.os
  subst eg;subst ed;subst eo
  show wpAny _ _ _ _ _ _
  refine wpAny_pure ?_
  show wpAny _ _ (ret Value.none) _ _ _
  refine wpAny_pure (h h' tk' hS' fun b o e=>?_)
  have hb1:b<s.heap.objs.size:=Heap.lt_size e
  exact hm.heap b o (by simp only[List.mem_cons,List.not_mem_nil,or_false,not_or];exact⟨Nat.ne_of_lt hb1,by rw[jK];exact Nat.ne_of_lt (Nat.lt_succ_of_lt hb1)⟩) (Heap.get?_push_of_some _ (Heap.get?_push_of_some _ e))
set_option maxHeartbeats 6400000 in
theorem ET {l:Addr}{items:Array Value}{val:Nat->Str}{Q:Value->Shared->Prop}(hh:A.handled=none)(hl:s.heap.IsTuple l items)(hv:∀(i:Nat)(v:Value),items[i]? = some v->∃ t,v=.str (val i) t)(hb:items.size+1<scanBound)
 (h:∀(h':Heap)(tk:Nat),oP prog w val s.heap.objs.size items.size h'->(∀ b o,s.heap.get? b=some o->h'.get? b=some o)->Q (.ref s.heap.objs.size) { s with heap:=h',toks:=tk }):
 wpAny (model prog w) A (call (.type "set") [.ref l]) Q E s:=by
 obtain⟨c,tl,hmro⟩:=PySem.F.called_set.mro
 have hmade:=PySem.F.called_set.made
 have hsub:=PySem.F.called_set.sub
 refine wpAny_call (codeAny_of_tree ?_)
 show wpAny _ _ (callAny (.type "set") _) _ _ _
 refine wpAny_pure ⟨Code.quiet_builtin _ (by decide +kernel),codeAny_builtin PySem.F.entry_type_call ?_⟩
 rw[Around.under_plain (weight_type_call_type "set" [.ref l] []) rfl]
 have h1:=PySem.F.called_set.notType
 have h2:=PySem.F.called_set.canCreate
 have hct:=PySem.F.typeCall_set_1 (.ref l)
 repeat (any_goals (first|assumption|wp_step))
 refine codeAny_mono (code_set_new_1 (.ref l) (E:=E) (Q₁:=fun obj s₁=>∃ led:Bool,obj=.ref s.heap.objs.size/\s₁ = { s with heap:=s.heap.push (fU led) }) fun led=>⟨led,rfl,rfl⟩) fun r s₁ hr=>?_
 cases r with
 |error e=>exact hr
 |ok fl =>
 cases fl with
 |ret obj =>
  obtain⟨led,rfl,rfl⟩:=hr
  have hT:Shared.TypeIs { s with heap:=s.heap.push (fU led) } (.ref s.heap.objs.size) "set":=⟨_,Heap.get?_push_size _ rfl,rfl⟩
  have hli:=PySem.F.called_set.init.lookup
  have hbi:=PySem.F.called_set.init.bind (.ref s.heap.objs.size)
  repeat (any_goals (first|assumption|wp_step))
  refine codeAny_mono (codeAny_call_builtin (R:=wants (fun r s₂=>r=.none/\∃ h' tk,s₂ = { s with heap:=h',toks:=tk }/\oP prog w val s.heap.objs.size items.size h'/\(∀ b o,s.heap.get? b=some o->h'.get? b=some o)) E) PySem.F.called_set.init.plain PySem.F.entry_set_init (check_set_init_1 hT ?_)) fun r₂ s₂ hr₂=>?_
  ·exact BQ (by simp [hh]) hl hv hb fun h' tk hS hk=>⟨rfl,h',tk,rfl,hS,hk⟩
  ·cases r₂ with
  |error e=>exact hr₂
  |ok fl₂ =>
   cases fl₂ with
   |ret r =>
   obtain⟨rfl,h',tk,rfl,hS',hk'⟩:=hr₂
   repeat (any_goals (first|assumption|wp_step))
   exact h _ _ hS' hk'
   |_=>exact hr₂.elim
 |_=>exact hr.elim
end
end L3
end
section
namespace L3
open PySem PySem.Spec PyProof.Rows L2 PySem.SeqAt
noncomputable abbrev lQ (ws:List (List Nat))(i:Nat):Str:=⟨(ws.getD i []).toArray⟩
theorem str_beq (a b:List Nat):((⟨a.toArray⟩:Str)==⟨b.toArray⟩)=(a==b):=by
 by_cases h:a=b
 ·subst h;simp
 ·rw[beq_eq_false_iff_ne.mpr h]
  refine beq_eq_false_iff_ne.mpr fun e=>h ?_
  have e1:a.toArray=b.toArray:=congrArg Str.cps e
  simpa using e1
theorem N0 (ws:List (List Nat)):∀(rest seen:List (List Nat)),ws=seen++rest->qT (lQ ws) seen.length+vP seen rest=qT (lQ ws) ws.length
 |[],seen,h=>by simp [h,vP]
 |w::r,seen,h=>by
  have ih:=N0 ws r (seen++[w]) (by simp [h])
  rw[<-ih]
  have e1:lQ ws seen.length=⟨w.toArray⟩:=by simp [lQ,h]
  have e2:((List.range seen.length).map (lQ ws)).any (·== lQ ws seen.length)=seen.any (·== w):=by
   have e3:(List.range seen.length).map (lQ ws)=seen.map fun x=>(⟨x.toArray⟩:Str):=by
    refine List.ext_getElem (by simp) fun i h1 h2=>?_
    have hi:i<seen.length:=by simpa using h1
    simp [lQ,h,List.getElem?_append_left hi,List.getElem?_eq_getElem hi]
   rw[e3,e1,List.any_map]
   congr 1
   funext x
   exact str_beq x w
  simp only[List.length_append,List.length_cons,List.length_nil,vP]
  have e5:qT (lQ ws) (seen.length+1)=if seen.any (·== w)=true then qT (lQ ws) seen.length else qT (lQ ws) seen.length+1:=by rw[<-e2];rfl
  show _=qT (lQ ws) (seen.length+1)+_
  rw[e5]
  by_cases c:seen.any (·== w)=true
  ·rw[if_pos c,if_pos c];omega
  ·rw[if_neg c,if_neg c];omega
theorem D3 {K:PySem.W.Frag}{H:Hp}:∀{ds:List D}{ws:List (List Nat)}{vs:List V}{us:List Value},strsOf ds=some ws->aJ K H ds vs->aO vs us->us.length=ws.length/\∀(i:Nat)(v:Value),us[i]? = some v->∃ t,v=.str (lQ ws i) t
 |[],ws,_,_,h,.nil,.nil=>by cases h;exact⟨rfl,fun i v e=>by simp at e⟩
 |.str w::r,ws,_,_,h,.cons rd rs,.cons rv rvs=>by
  have h:(strsOf r).map (w :: ·)=some ws:=h
  obtain⟨ws',e,rfl⟩:=Option.map_eq_some_iff.mp h
  obtain⟨l,ih⟩:=D3 e rs rvs
  refine⟨by simpa using l,fun i v e=>?_⟩
  cases i with
  |zero =>
   cases rd.str_inv
   obtain⟨t,rfl⟩:=rv
   simp at e
   exact⟨t,e.symm⟩
  |succ i=>exact ih i v (by simpa using e)
 |.non::_,_,_,_,h,_,_=>by cases h
 |.bl _::_,_,_,_,h,_,_=>by cases h
 |.int _::_,_,_,_,h,_,_=>by cases h
 |.tup _::_,_,_,_,h,_,_=>by cases h
 |.ref _::_,_,_,_,h,_,_=>by cases h
 |.cO _ _::_,_,_,_,h,_,_=>by cases h
 |.bF _::_,_,_,_,h,_,_=>by cases h
 |.exc _::_,_,_,_,h,_,_=>by cases h
theorem Kg {a b:D}{r:List D}{st:aA}{Q:VK}(h:gE .qB (a::b::r) st Q):False:=by
 unfold gE at h
 split at h<;>simp_all
section
variable {X:Cx}{C:aX}{sub:Nat->Nat->Bool}{E:XK}{a:Expr}{x:Ex}{p p2 pos pos2:Pos}
theorem Jt (hm:X.mg "len" = none)(hm2:X.mg "set" = none)(ha:JA X C sub E [a] [x])(hc:X.calm=true:=by kernel_rfl)(hg:X.env.kindOf "len" = some .globalImplicit:=by kernel_rfl)(hg2:X.env.kindOf "set" = some .globalImplicit:=by kernel_rfl)
  (he:starEach [.Call (.Name "set" p2) [a] [] pos2] X.env=(false,eval (.Call (.Name "set" p2) [a] [] pos2) X.env)::starEach [] X.env:=by kernel_rfl)(cT:(backTo pos (starEach [] X.env)).any (·.1)=false:=by kernel_rfl)
  (he2:starEach [a] X.env=(false,eval a X.env)::starEach [] X.env:=by kernel_rfl)(hpl2:(backTo pos2 (starEach [] X.env)).any (·.1)=false:=by kernel_rfl):
  JE X C sub E (.Call (.Name "len" p) [.Call (.Name "set" p2) [a] [] pos2] [] pos) (.bi .qB [x]):=⟨by
 intro pins s σ H Q I ⟨σd,st,R,r,ok,q,hq⟩
 refine wpAny_Call_Name_kw (kL I hg hm eJ ?_ (by decide) (by decide))
 rw[he]
 refine Calls.callWith_builtin (by show(false||(backTo pos (starEach [] X.env)).any (·.1))=false;rw[cT];rfl) (Calls.evalArgs_plain ?_)
 show wpAny _ _ (spliced ((false,eval (.Call (.Name "set" p2) [a] [] pos2) X.env)::backTo pos (starEach [] X.env))) _ _ s
 refine Calls.spliced_cons ?_
 refine wpAny_Call_Name_kw (kL I hg2 hm2 X3 ?_ (by decide) (by decide))
 refine PyProof.Rows.callWith_type1 (aV (ha.h pos2 pins s σ H _ I ⟨σd,st,_,r,ok,q,fun vs H' z=>z⟩) fun us s1 ⟨vs,H1,I1,rv,ds,aC,cX,aN,rs,q1⟩=>?_) he2 hpl2
 match ds,rs,q1 with
 |[d],rs,q1 =>
  obtain⟨v,rfl,rd⟩:=rs.one
  obtain⟨u,rfl,ru⟩:=vals1 rv
  cases d with
  |tup es =>
   rw[DB]at q1
   obtain⟨ws,e1,hl,q1⟩:=eE q1
   obtain⟨l,vs,rfl,f,g⟩:=rd.bK
   cases ru
   obtain⟨aD,r1,pl,hz⟩:=I1.tuple f
   obtain⟨hlen,hat⟩:=D3 e1 g r1
   have hh:X.A.handled=none:=I1.ok.hd hc
   refine ET (val:=lQ ws) hh (show s1.heap.IsTuple l aD.toArray from pl) (fun i v e=>hat i v (by simpa using e)) (by simp;unfold scanBound;omega) fun h' tk hS hk=>?_
   refine Calls.spliced_nil ?_
   have I2:Inv X pins σ H1 { s1 with heap:=h',toks:=tk }:=I1.kept hk
   obtain⟨o,es',ep,t,ho,hex,hd,hel,hmem,hb,hf,hn⟩:=hS
   refine call_len_set (s:={ s1 with heap:=h',toks:=tk }) ho hex hd hf (by unfold scanBound at hb;omega) ?_
   have hn2:es'.size=vP [] ws:=by
    rw[hn]
    have:=N0 ws ws [] rfl
    simp only[List.length_nil,qT,Nat.zero_add]at this
    rw[this]
    simp [hlen]
   rw[hn2]
   exact⟨.int (vP [] ws:Nat),H1,I2.tok _,⟨_,rfl⟩,hq _ _ (.after cX (.here aN (.int _) q1))⟩
  |ref b =>
   obtain⟨_,_,z⟩:=dI (show bZ aC b fun xs=>eD .qB xs aC R from q1)
   exact(show False from z).elim
  |_=>exact(show False from q1).elim
 |[],rs,q1=>exact(show False from q1).elim
 |_::_::_,rs,q1=>exact(Kg q1).elim⟩
end
end L3
end
section
namespace L3
open PySem PySem.Spec PyProof.Rows L2
theorem lT.uF {X:Cx}{C:aX}{n:Str}{i:Nat}{scope:Scope}{own cn:List Str}{fp:List Addr}{s:Shared}{H:Hp}{Ca:Addr}(h:lT X C n i):lT (lG X scope own cn fp s H Ca) C n i:=let⟨a,b⟩:=h;⟨a,b⟩
end L3
end
section
namespace L3
open PySem PySem.Spec PyProof.Rows L2
section
variable {K:PySem.W.Frag}{H:Hp}
theorem str_inj {a b:List Nat}(h:(⟨a.toArray⟩:Str)=⟨b.toArray⟩):a=b:=by
 have:a.toArray=b.toArray:=congrArg Str.cps h
 simpa using this
theorem gX.get {f:List Nat}{d:D}:∀{fs:List (List Nat×D)}{ws:List (Str×V)},gX K H fs ws->dA fs f=some d->∃ v,ws.lookup (⟨f.toArray⟩:Str)=some v/\Rep K H d v
 |[],_,_,h=>by cases h
 |(g,e)::fs,[],r,_=>by cases r.1
 |(g,e)::fs,(g',v)::ws,r,h=>by
  obtain⟨r1,r2⟩:=r
  simp only[List.map_cons,List.cons.injEq]at r1
  cases r2 with
  |cons rd rs =>
   simp only[dA]at h
   by_cases q:g=f
   ·rw[if_pos q]at h;cases h
    refine⟨v,?_,rd⟩
    simp [List.lookup,r1.1,q]
   ·rw[if_neg q]at h
    obtain⟨v',e1,e2⟩:=gX.get (fs:=fs) (ws:=ws) ⟨r1.2,rs⟩ h
    refine⟨v',?_,e2⟩
    have:((⟨f.toArray⟩:Str)==g')=false:=beq_eq_false_iff_ne.mpr fun z=>q (str_inj (by rw[z];exact r1.1.symm))
    simp only[List.lookup,this]
    exact e1
theorem gX.no {f:List Nat}:∀{fs:List (List Nat×D)}{ws:List (Str×V)},gX K H fs ws->dA fs f=none->ws.lookup (⟨f.toArray⟩:Str)=none
 |[],[],_,_=>rfl
 |[],_::_,r,_=>by cases r.1
 |(g,e)::fs,[],r,_=>by cases r.1
 |(g,e)::fs,(g',v)::ws,r,h=>by
  obtain⟨r1,r2⟩:=r
  simp only[List.map_cons,List.cons.injEq]at r1
  cases r2 with
  |cons rd rs =>
   simp only[dA]at h
   by_cases q:g=f
   ·rw[if_pos q]at h;cases h
   ·rw[if_neg q]at h
    have:((⟨f.toArray⟩:Str)==g')=false:=beq_eq_false_iff_ne.mpr fun z=>q (str_inj (by rw[z];exact r1.1.symm))
    simp only[List.lookup,this]
    exact gX.no (fs:=fs) (ws:=ws) ⟨r1.2,rs⟩ h
theorem gX.put {f:List Nat}{d:D}{v:V}(rd:Rep K H d v):∀{fs:List (List Nat×D)}{ws:List (Str×V)},gX K H fs ws->gX K H (oW f d fs) (hZ ⟨f.toArray⟩ v ws)
 |[],[],_=>⟨rfl,.cons rd .nil⟩
 |[],_::_,r=>by cases r.1
 |(g,e)::fs,[],r=>by cases r.1
 |(g,e)::fs,(g',v')::ws,r=>by
  obtain⟨r1,r2⟩:=r
  simp only[List.map_cons,List.cons.injEq]at r1
  cases r2 with
  |cons rd' rs =>
   by_cases q:g=f
   ·have q':g'=(⟨f.toArray⟩:Str):=by rw[r1.1,q]
    simp only[oW,hZ,if_pos q,if_pos q']
    exact⟨by simp [r1.1,r1.2],.cons rd rs⟩
   ·have q':¬g'=(⟨f.toArray⟩:Str):=fun z=>q (str_inj (r1.1.symm.trans z))
    simp only[oW,hZ,if_neg q,if_neg q']
    have ih:=gX.put (f:=f) rd (fs:=fs) (ws:=ws) ⟨r1.2,rs⟩
    exact⟨by simp [r1.1,ih.1],.cons rd' ih.2⟩
theorem gX.length {fs:List (List Nat×D)}{ws:List (Str×V)}(r:gX K H fs ws):ws.length=fs.length:=by
 have:=congrArg List.length r.1
 simpa using this
end
theorem vB {st:aA}{a:Nat}{P:List Nat->List (List Nat×D)->Prop}(h:mD st a P):∃ c fs,st a=some (.ins c fs)/\P c fs:=by
 unfold mD at h
 split at h
 ·exact⟨_,_,by assumption,h⟩
 ·exact h.elim
theorem uR {st:aA}{a:Nat}{P:List D->List D->Prop}(h:tabAt st a P):∃ c fs,st a=some (.tab c fs)/\P c fs:=by
 unfold tabAt at h
 split at h
 ·exact⟨_,_,by assumption,h⟩
 ·exact h.elim
theorem RA {c f:List Nat}{x:D}{st:aA}{Q:VK}(h:rG c f x st Q):∃ a fs d,x=.ref a/\st a=some (.ins c fs)/\dA fs f=some d/\Q d st:=by
 unfold rG at h
 split at h
 ·obtain⟨c',fs,e,rfl,q⟩:=vB h
  obtain⟨d,e1,q⟩:=eE q
  exact⟨_,fs,d,rfl,e,e1,q⟩
 ·exact h.elim
theorem UO {c f:List Nat}{v x:D}{st:aA}{Q:aA->Prop}(h:zT c f v x st Q):∃ a fs,x=.ref a/\st a=some (.ins c fs)/\fs.length<900/\Q (put st a (.ins c (oW f v fs))):=by
 unfold zT at h
 split at h
 ·obtain⟨c',fs,e,rfl,l,q⟩:=vB h
  exact⟨_,fs,rfl,e,l,q⟩
 ·exact h.elim
theorem RB {c m:List Nat}{x:D}{st:aA}(h:CG c m x st):∃ a fs,x=.ref a/\st a=some (.ins c fs)/\dA fs m=none:=by
 unfold CG at h
 split at h
 ·obtain⟨c',fs,e,rfl,q⟩:=vB h
  exact⟨_,fs,rfl,e,q⟩
 ·exact h.elim
structure xS (K:PySem.W.Frag)(c:List Nat):Prop where
 h:∃ C,clsAt K c C/\sL K C
structure vI (K:PySem.W.Frag)(c f:List Nat):Prop where
 h:∀ C,clsAt K c C->pX K C ⟨f.toArray⟩
structure nN (X:Cx)(C:aX)(c:List Nat)(n:Str)(fid:Nat):Prop where
 h:∃ k f fd ps C0,eI X.prog X.w X.K X.mg X.base dD k f fd ps (eU X.K C fid)/\cL k X.A/\Binds X.K fd ps []/\clsAt X.K c C0/\sL X.K C0/\BH X.K C0 n f
structure uY (X:Cx)(C:aX)(c:List Nat)(n:Str)(fid:Nat):Prop where
 h:∃ k f fd ps C0,eI X.prog X.w X.K X.mg X.base dD k f fd ps (eU X.K C fid)/\cL (k+1) X.A/\Binds X.K fd ps []/\clsAt X.K c C0/\X.mg n=some (.ref C0)/\Mk X.K C0 f
theorem nN.uF {X:Cx}{C:aX}{c:List Nat}{n:Str}{i:Nat}{scope:Scope}{own cn:List Str}{fp:List Addr}{s:Shared}{H:Hp}{Ca:Addr}(h:nN X C c n i):nN (lG X scope own cn fp s H Ca) C c n i:=let⟨a,b⟩:=h;⟨a,b⟩
section
variable {X:Cx}{C:aX}{sub:Nat->Nat->Bool}{E:XK}{a b e o value:Expr}{es:List Expr}{x y:Ex}{xs:List Ex}{p pos apos pos':Pos}{n:Str}{c f:List Nat}{fid:Nat}
theorem Dl (hn:n=⟨f.toArray⟩)(hc:xS X.K c)(hna:vI X.K c f)(ho:PE X o (bN X.K (aG C sub E x)))(hb:attributeBase o n X.env (eval o X.env)=eval o X.env):PE X (.Attribute o n pos) (bN X.K (aG C sub E (.fld c f x))) :=
 (YV ho hb).imp fun σ H Q ⟨σd,st,R,r,ok,q,hq⟩=>by
 refine⟨σd,st,_,r,ok,q,fun v H1 ⟨d,aC,s1,aN,r1,q1⟩=>?_⟩
 obtain⟨a,fs,d',rfl,e,ed,q1⟩:=RA q1
 cases r1.cB
 obtain⟨C0,dx,ws,h1,h2,h3⟩:=aN a _ e
 obtain⟨v,l,rv⟩:=gX.get h3 ed
 obtain⟨C',c1,c2⟩:=hc.h
 have eC:=c1.inj h1
 subst eC
 exact⟨a,C',dx,ws,v,rfl,h2,c2,by rw[hn];exact hna.h C' c1,by rw[hn];exact l,hq _ _ (.after s1 (.here aN rv q1))⟩
theorem Ci (hC:bI C C)(hn:n=⟨f.toArray⟩)(hc:xS X.K c)(hna:vI X.K c f)(ho:PE X o (bN X.K (aG C sub EF y)))(hv:PE X value (bN X.K (aG C sub EF x)))(hs:swapsWith value (some (.Attribute o n pos')) pos.line X.env=pure false):
 PS X (.Assign [.Attribute o n pos'] value pos) (gH X.K (wpS C sub (.asg (.fl c f y) x))) :=
 (YZ ho hv hs).imp fun D σ H ⟨σd,st,P,r,ok,q,h⟩=>by
 refine⟨σd,st,_,r,ok,pK hC h.ex q,fun v H1 ⟨d,aC,s1,aN,rd,q1⟩=>?_⟩
 refine⟨σd,aC,_,r.step ok s1,aN,pK hC h.ex q1,fun u H2 ⟨d2,aF,s2,bO,r2,q2⟩=>?_⟩
 obtain⟨a,fs,rfl,e,l,q2⟩:=UO q2
 cases r2.cB
 obtain⟨C0,dx,ws,h1,h2,h3⟩:=bO a _ e
 obtain⟨C',c1,c2⟩:=hc.h
 have eC:=c1.inj h1
 subst eC
 have s3:Step H2 aF (upd H2 a (.ins C' dx (hZ n v ws))) (put aF a (.ins c (oW f d fs))):=kY e
 have rd2:=(rd.step aN s2).step bO s3
 have h3':gX X.K (upd H2 a (.ins C' dx (hZ n v ws))) fs ws:=⟨h3.1,h3.2.step bO s3⟩
 refine⟨a,C',dx,ws,rfl,h2,c2,by rw[hn];exact hna.h C' c1,by rw[h3.length];omega,h.nx _ _ _ _ (((r.step ok s1).step aN s2).step bO s3) ((s1.trans s2).trans s3) (bO.G4 e ?_) q2⟩
 exact⟨C',dx,_,c1,cZ,by rw[hn]at *;exact gX.put rd2 h3'⟩
theorem Dj {k:Nat}{fa:Addr}{fd:FuncData}{ps:List Str}{C0:Addr}{pl:Sem Bool}{m:List Nat}(hn:n=⟨m.toArray⟩)(hcl:clsAt X.K c C0)(hC0:sL X.K C0)(hm:BH X.K C0 n fa)(F:eI X.prog X.w X.K X.mg X.base dD k fa fd ps (eU X.K C fid))(hr:cL k X.A)(hb:Binds X.K fd ps [])
 (ho:PE X o (bN X.K (aG C sub EF x)))(ha:PA X (e::es) (jC X.K (bE C sub EF xs)))
 (eB:starEach (e::es) X.env=(false,eval e X.env)::starEach es X.env)(cT:(backTo pos (starEach es X.env)).any (·.1)=false)
 (ht:eval (.Call (.Attribute o n apos) (e::es) [] pos) X.env=(do
  let ov <-eval o X.env
  standAt apos.atName
  let(f,first) <-holding [ov] (getMethod ov n pl)
  callWith pos f first (backTo pos (starEach (e::es) X.env)) (backToKw pos (keywordEach [] X.env)))):
 PE X (.Call (.Attribute o n apos) (e::es) [] pos) (bN X.K (aG C sub EF (.mcl c m fid x xs))) :=
 (SW (pl:=pl) ho hC0 hm F hr hb .nil EJ ha eB cT ht).imp fun σ H Q ⟨σd,st,R,r,ok,q,hq⟩=>by
 refine⟨σd,st,_,r,ok,q,fun v H1 ⟨d,aC,s1,aN,r1,q1,q2⟩=>?_⟩
 obtain⟨a,fs,rfl,e0,l⟩:=RB q1
 cases r1.cB
 obtain⟨C1,dx,ws,h1,h2,h3⟩:=aN a _ e0
 cases hcl.inj h1
 refine⟨a,dx,ws,rfl,h2,by rw[hn];exact gX.no h3 l,?_⟩
 refine⟨σd,aC,_,r.step ok s1,aN,q2,fun vs H2 ⟨ds,aF,s2,bO,r2,q3⟩=>?_⟩
 show eU X.K C fid (.ref a::(vs++[])) H2 Q E0
 rw[List.append_nil]
 exact⟨.ref a::ds,aF,R,.cons (.ref a) r2,bO,q3,fun v H' z=>hq _ _ (.after (s1.trans s2) z)⟩
theorem Im {k:Nat}{fa:Addr}{fd:FuncData}{ps:List Str}{C0:Addr}(hcl:clsAt X.K c C0)(hM:Mk X.K C0 fa)(F:eI X.prog X.w X.K X.mg X.base dD k fa fd ps (eU X.K C fid))(hr:cL (k+1) X.A)(hg:Gl X n)(hmg:X.mg n=some (.ref C0))(hb:Binds X.K fd ps [])
 (ha:PA X (e::es) (jC X.K (bE C sub EF xs)))(hdb:(n==("__debug__" : Str))=false)(he:starEach (e::es) X.env=(false,eval e X.env)::starEach es X.env)(cT:(backTo pos (starEach es X.env)).any (·.1)=false):
 PE X (.Call (.Name n p) (e::es) [] pos) (bN X.K (aG C sub EF (.mk c fid xs))) :=
 (S5 hM F hr hg hmg hb .nil EJ ha hdb he cT).imp fun σ H Q ⟨σd,st,R,r,ok,q,hq⟩=>by
 refine⟨σd,st,_,r,ok,q,fun vs H1 ⟨ds,aC,s1,aN,r1,q1⟩=>?_⟩
 intro x dx hx hdx hne
 show eU X.K C fid (.ref x::(vs++[])) _ _ E0
 rw[List.append_nil]
 have bO:aQ X.K aC (upd H1 dx (.own x)):=aN.new hdx
 have s2:Step H1 aC (upd H1 dx (.own x)) aC:=pD hdx
 have hx2:upd H1 dx (.own x) x=none:=by rw[aY (Ne.symm hne)];exact hx
 have s3:Step (upd H1 dx (.own x)) aC (upd (upd H1 dx (.own x)) x (.ins C0 dx [])) (put aC x (.ins c [])):=nF hx2
 have nS:aQ X.K (put aC x (.ins c [])) (upd (upd H1 dx (.own x)) x (.ins C0 dx [])):=bO.WJ hx2 ⟨C0,dx,[],hcl,cZ,rfl,.nil⟩
 refine⟨.ref x::ds,put aC x (.ins c []),_,.cons (.ref x) ((r1.step aN s2).step bO s3),nS,q1 x (aN.fresh hx),fun v H' ⟨d,aB,s',eQ,rd,ed,q'⟩=>?_⟩
 subst ed
 exact⟨rd.eT,hq _ _ (.after ((s1.trans s2).trans (s3.trans s')) (.here eQ (.ref x) q'))⟩
theorem pH (c:List Nat)(hc:xS X.K c)(hna:vI X.K c f)(ho:JE X C sub E o x)(hn:n=⟨f.toArray⟩:=by kernel_rfl)(hb:attributeBase o n X.env (eval o X.env)=eval o X.env:=by kernel_rfl):JE X C sub E (.Attribute o n pos) (.fld c f x):=⟨Dl hn hc hna ho.h hb⟩
theorem J5 (m:bI C C)(c:List Nat)(hc:xS X.K c)(hna:vI X.K c f)(ho:JE X C sub EF o y)(hv:JE X C sub EF value x)(hn:n=⟨f.toArray⟩:=by kernel_rfl)(hs:swapsWith value (some (.Attribute o n pos')) pos.line X.env=pure false:=by kernel_rfl):
 JS X C sub (.Assign [.Attribute o n pos'] value pos) (.asg (.fl c f y) x):=⟨Ci m hn hc hna ho.h hv.h hs⟩
theorem J1 {pl:Sem Bool}{mm:List Nat}(h:nN X C c n fid)(ho:JE X C sub EF o x)(ha:JA X C sub EF (e::es) xs)(hn:n=⟨mm.toArray⟩:=by kernel_rfl)
 (eB:starEach (e::es) X.env=(false,eval e X.env)::starEach es X.env:=by kernel_rfl)(cT:(backTo pos (starEach es X.env)).any (·.1)=false:=by kernel_rfl)
 (ht:eval (.Call (.Attribute o n apos) (e::es) [] pos) X.env=(do
  let ov <-eval o X.env
  standAt apos.atName
  let(f,first) <-holding [ov] (getMethod ov n pl)
  callWith pos f first (backTo pos (starEach (e::es) X.env)) (backToKw pos (keywordEach [] X.env))):=by rfl):
 JE X C sub EF (.Call (.Attribute o n apos) (e::es) [] pos) (.mcl c mm fid x xs):=⟨let⟨k,f,fd,ps,C0,h1,h2,h3,h4,h5,h6⟩:=h.h;Dj hn h4 h5 h6 h1 h2 h3 ho.h ha.h eB cT ht⟩
theorem Kl (h:uY X C c n fid)(ha:JA X C sub EF (e::es) xs)(hg:X.env.kindOf n=some .globalImplicit:=by kernel_rfl)(hdb:(n==("__debug__" : Str))=false:=by kernel_rfl)(he:starEach (e::es) X.env=(false,eval e X.env)::starEach es X.env:=by kernel_rfl)(cT:(backTo pos (starEach es X.env)).any (·.1)=false:=by kernel_rfl):
 JE X C sub EF (.Call (.Name n p) (e::es) [] pos) (.mk c fid xs):=⟨let⟨k,f,fd,ps,C0,h1,h2,h3,h4,h5,h6⟩:=h.h;Im h4 h6 h1 h2 hg h5 h3 ha.h hdb he cT⟩
end
end L3
end
section
namespace L3
open PySem PySem.Spec PyProof.Rows L2
section
variable {X:Cx}{pins:List (Addr×Obj)}{σ:L2.St}{H:Hp}{s:Shared}{st:aA}
mutual
theorem GF (I:Inv X pins σ H s):∀{d:D}{v:V}{u:Value},iG d=true->Rep X.K H d v->RelV v u->iL s.heap d u
 |_,_,u,_,.str x,rv=>by obtain⟨tk,rfl⟩:=rv;exact .str x tk
 |_,_,u,t,.tup h r,rv=>by
  cases rv
  obtain⟨aD,r1,⟨o,e,c,n,d⟩,_⟩:=I.tuple h
  exact .tup e c d (by simpa using JK I (by simpa [iG]using t) r r1)
 |_,_,_,t,.non,_=>by cases t
 |_,_,u,_,.bl b,rv=>by cases rv;exact .bl b
 |_,_,_,t,.int _,_=>by cases t
 |_,_,_,t,.ref _,_=>by cases t
 |_,_,_,t,.bF _ _,_=>by cases t
 |_,_,_,t,.cO _,_=>by cases t
theorem JK (I:Inv X pins σ H s):∀{ds:List D}{vs:List V}{us:List Value},iS ds=true->aJ X.K H ds vs->aO vs us->fH s.heap ds us
 |_,_,_,_,.nil,rv=>by cases rv;exact .nil
 |_,_,_,t,.cons h r,rv=>by
  simp only[iS,Bool.and_eq_true]at t
  cases rv with
  |cons r1 r2=>exact .cons (GF I t.1 h r1) (JK I t.2 r r2)
end
theorem key_is (I:Inv X pins σ H s){d:D}{v:V}{u:Value}(k:keyed d)(r:Rep X.K H d v)(rv:RelV v u):∃ a,u=.ref a/\v=.ref a/\(xU X.prog X.w).is s.heap d a:=by
 have h:=GF I k.txt r rv
 cases d with
 |tup ds =>
 obtain⟨a,vs,rfl,_,_⟩:=r.bK
 cases rv
 exact⟨a,rfl,rfl,k,h⟩
 |_=>exact k.elim
theorem E1 (I:Inv X pins σ H s)(ok:aQ X.K st H){a:Addr}{ks vs:List D}(e:st a=some (.tab ks vs)):∃(xs:List (D×Addr×Value))(ws:List V),H a=some (EX a xs)/\(a==sysModules)=false/\xs.map (·.1)=ks/\(∀ x∈xs,keyed x.1)/\aO ws (xs.map (·.2.2))/\aJ X.K H vs ws/\aJ X.K H ks (xs.map fun x=>.ref x.2.1) /\
  s.heap.DictOfH (xU X.prog X.w) a xs:=by
 obtain⟨xs,ws,q,q0,q1,q2,q3,q4,q5,r⟩:=ok a _ e
 refine⟨xs,ws,q,q0,q1,q4,q5,r,q3,?_⟩
 obtain⟨⟨o,es,ep,h1,h2,h3,h4⟩,_⟩:=I.bJ a _ q
 refine⟨o,es,ep,h1,h2,h3,h4,fun x hx=>?_,q2⟩
 obtain⟨j,hj⟩:=List.mem_iff_getElem?.mp hx
 have e1:ks[j]? = some x.1:=by rw[<-q1,List.getElem?_map,hj];rfl
 obtain⟨v,e2,rv⟩:=q3.get e1
 have e3:v=.ref x.2.1:=by
  rw[List.getElem?_map,hj]at e2
  exact(Option.some.inj e2).symm
 subst e3
 exact⟨q4 x hx,GF I (q4 x hx).txt rv rfl⟩
theorem OS {xs:List (D×Addr×Value)}{k:D}(kk:keyed k)(h:∀ x∈xs,keyed x.1):(atKey xs k).isSome=(xs.map (·.1)).any fun y=>bH y k:=by
 induction xs with
 |nil=>rfl
 |cons x xs ih =>
 have ih:=ih fun y hy=>h y (by simp [hy])
 simp only[List.map_cons,List.any_cons,<-ih,BM (h x (by simp)).txt kk.txt]
 by_cases q:x.1=k
 ·simp [atKey,q]
 ·simp [atKey,q]
theorem JX {K:PySem.W.Frag}{k:D}(kk:keyed k){d:D}:∀{xs:List (D×Addr×Value)}{vs:List D}{ws:List V},(∀ x∈xs,keyed x.1)->aO ws (xs.map (·.2.2))->aJ K H vs ws->kQ (xs.map (·.1)) vs k=some d->∃ p v,atKey xs k=some p/\RelV v p.2/\Rep K H d v
 |[],_,_,_,_,_,h=>by simp [kQ]at h
 |x::xs,[],_,_,rv,r,h=>by simp [kQ]at h
 |x::xs,d0::vs,ws,hk,rv,r,h=>by
  cases r with
  |cons r1 r2 =>
   cases rv with
   |cons v1 v2 =>
    simp only[List.map_cons,kQ]at h
    rw[BM (hk x (by simp)).txt kk.txt]at h
    by_cases q:x.1=k
    ·rw[if_pos (by simpa using q)]at h;cases h
     exact⟨x.2,_,by simp [atKey,q],v1,r1⟩
    ·rw[if_neg (by simpa using q)]at h
     obtain⟨p,v,e1,e2,e3⟩:=JX kk (fun y hy=>hk y (by simp [hy])) v2 r2 h
     exact⟨p,v,by simpa [atKey,q]using e1,e2,e3⟩
end
section
variable {X:Cx}{C:aX}{sub:Nat->Nat->Bool}{E:XK}{a b e o i value:Expr}{x y z:Ex}{p pos apos pos':Pos}
theorem Ed (hu:X.A.units+180<cLine)(neg:Bool):mU X (if neg=true then .NotIn else .In) (fun d d' st P=>tD d d' st fun b=>P (if neg=true then !b else b)):=by
 intro pins s σ H st d d' v v' u u' P I ok r rv r' aZ q
 unfold tD at q
 split at q
 ·obtain⟨ks,vs,e,hk,q⟩:=uR q
  cases r'.cB
  cases aZ
  obtain⟨xs,ws,t1,t2,t3,t4,t5,t6,t8,t7⟩:=E1 I ok e
  obtain⟨ka,rfl,rfl,hka⟩:=key_is I hk r rv
  have hroom:(xU X.prog X.w).room X.A.in1:=by show X.A.in1.units+12<cLine;simp only[Around.in1_units];omega
  rw[<-t3,<-OS hk t4]at q
  cases neg with
  |true=>exact wpAny_notIn_heap hroom hka t2 t7 ⟨_,rfl,q,I.tok _⟩
  |false=>exact wpAny_in_heap hroom hka t2 t7 ⟨_,rfl,q,I.tok _⟩
 ·exact q.elim
theorem Ae {neg:Bool}(hu:X.A.units+180<cLine)(ha:PE X a (bN X.K (aG C sub E x)))(hb:PE X b (bN X.K (aG C sub E y)))(hm:behindInMarks (if neg=true then .NotIn else .In) b=false):PT X (.Compare a [if neg=true then .NotIn else .In] [b] pos) (iP X.K (aG C sub E (.din neg x y))):=by
 intro pins s σ H Q I ⟨σd,st,R,r,ok,q,hq⟩
 refine wpAny_isTrue_Compare1 (aV (ha pins s σ H _ I ⟨σd,st,_,r,ok,q,fun v H' z=>z⟩) fun u s1 ⟨v,H1,I1,rv,d,aC,cX,aN,r1,q1⟩ =>
 aV (hb pins s1 σ H1 _ I1 ⟨σd,aC,_,r.step ok cX,aN,q1,fun v H' z=>z⟩) fun u' s2 ⟨v',H2,I2,aZ,d',aF,gZ,bO,r2,q2⟩ =>
 aV (Ed hu neg pins s2 σ H2 aF d d' v v' u u' (fun k=>R k aF) I2 bO (r1.step aN gZ) rv r2 aZ q2) fun w s3 ⟨k,e,q3,I3⟩=>?_) hm
 subst e
 exact wpAny_truthy_bool ⟨H2,I3,hq _ _ ⟨aF,cX.trans gZ,bO,q3⟩⟩
noncomputable def Gw (K:PySem.W.Frag):R2:=fun v v' H Q=>∃ d d' st R,Rep K H d v/\Rep K H d' v'/\aQ K st H/\rH d' d st R/\∀ v H',QD K H st R v H'->Q v H'
theorem XJ (hu:X.A.units+180<cLine):uL X (Gw X.K):=by
 intro value slice pins s σ H x y v u Q I rx ry h hs
 obtain⟨d,d',st,R,r1,r2,ok,q,hq⟩:=h
 unfold rH at q
 split at q
 ·obtain⟨ks,vs,e,hk,q⟩:=uR q
  obtain⟨d0,e0,q⟩:=eE q
  cases r1.cB
  cases rx
  obtain⟨xs,ws,t1,t2,t3,t4,t5,t6,t8,t7⟩:=E1 I ok e
  obtain⟨ka,rfl,rfl,hka⟩:=key_is I hk r2 ry
  have hroom:(xU X.prog X.w).room X.A.in1:=by show X.A.in1.units+12<cLine;simp only[Around.in1_units];omega
  rw[<-t3]at e0
  obtain⟨pp,v0,e1,e2,e3⟩:=JX hk t4 t5 t6 e0
  refine subscriptTail_builtinR (x:=pp.2) t7.typeIs slot_dict_getitem.lookup ?_ hs
  exact wpAny_getItem_heap hroom hka t7 e1 ⟨rfl,v0,H,I.tok _,e2,hq _ _ (.here ok e3 q)⟩
 ·exact q.elim
theorem Dw (hu:X.A.units+180<cLine)(ha:PE X a (bN X.K (aG C sub E x)))(hb:PE X b (bN X.K (aG C sub E y)))(hp:sD b):PE X (.Subscript a b pos) (bN X.K (aG C sub E (.dix x y))) :=
 (RU (XJ hu) ha hb hp).imp fun σ H Q ⟨σd,st,R,r,ok,q,hq⟩=>by
 refine⟨σd,st,_,r,ok,q,fun v H1 ⟨d,aC,s1,aN,r1,q1⟩=>?_⟩
 refine⟨σd,aC,_,r.step ok s1,aN,q1,fun v' H2 ⟨d',aF,s2,bO,r2,q2⟩=>?_⟩
 exact⟨d,d',aF,R,r1.step aN s2,r2,bO,q2,fun v H' z=>hq _ _ (.after (s1.trans s2) z)⟩
theorem Jy {pins:List (Addr×Obj)}{σ:L2.St}{H:Hp}{s:Shared}(I:Inv X pins σ H s):sysModules<s.heap.objs.size:=by
 have h:mainGlobals<s.heap.objs.size:=(I.mod.glob.keeps I.bk).lt
 exact Nat.lt_trans (by decide) h
theorem C8 {a:Addr}{xs:List (D×Addr×Value)}{w:World}:∀ h1 h2:Heap,L4 a xs w h1->(∀ o,h1.get? a=some o->h2.get? a=some o)->L4 a xs w h2:=fun h1 h2 ⟨o,es,ep,e,r⟩ k=>⟨o,es,ep,k o e,r⟩
theorem YY:PE X (.Dict [] [] pos) (bN X.K (aG C sub E .dnew)):=fun pins s σ H Q I ⟨σd,st,R,r,ok,q,hq⟩=>by
 have hf:H s.heap.objs.size=none:=I.bJ.fresh (Nat.le_refl _)
 refine wpAny_Dict_empty ⟨.ref s.heap.objs.size,_,I.laid (a:=s.heap.objs.size) (o:=EX s.heap.objs.size []) (t':=s.toks) (fun _ _ q=>Heap.get?_push_of_some _ q) (Nat.le_refl _) ?_,rfl,hq _ _ ⟨.ref s.heap.objs.size,put st s.heap.objs.size (.tab [] []),nF hf,ok.WJ hf ?_,.ref _,q _ (ok.fresh hf)⟩⟩
 ·exact⟨⟨_,#[],0,Heap.get?_push_size _ rfl,⟨rfl,rfl,rfl⟩,rfl,rfl⟩,⟨_,Heap.get?_push_size _ rfl⟩,C8⟩
 ·exact⟨[],[],cZ,beq_eq_false_iff_ne.mpr (Nat.ne_of_gt (Jy I)),rfl,List.nodup_nil,.nil,fun x hx=>(by cases hx),.nil,.nil⟩
theorem V6 {x v y:D}{st:aA}{Q:aA->Prop}(h:yA x v y st Q):∃ a ks vs,y=.ref a/\st a=some (.tab ks vs)/\keyed x/\(ks.any fun k=>bH k x)=false/\ks.length<10000/\Q (put st a (.tab (ks++[x]) (vs++[v]))):=by
 unfold yA at h
 split at h
 ·obtain⟨ks,vs,e,h1,h2,h3,q⟩:=uR h
  exact⟨_,ks,vs,rfl,e,h1,h2,h3,q⟩
 ·exact h.elim
theorem Hv (hC:bI C C)(hu:X.A.units+180<cLine)(ho:PE X o (bN X.K (aG C sub EF y)))(hi:PE X i (bN X.K (aG C sub EF z)))(hv:PE X value (bN X.K (aG C sub EF x)))(hs:swapsWith value (some (.Subscript o i pos')) pos.line X.env=pure false):
  PS X (.Assign [.Subscript o i pos'] value pos) (gH X.K (wpS C sub (.asg (.dk y z) x))):=by
 intro pins s σ H D I ⟨σd,st,P,r,ok,q,h⟩
 refine wpAny_Assign_Subscript (aV (hv pins s σ H _ I ⟨σd,st,_,r,ok,pK hC h.ex q,fun v H' z=>z⟩) fun uv s1 ⟨v,H1,I1,rv,d,aC,cX,aN,rd,q1⟩ =>
  aV (ho pins s1 σ H1 _ I1 ⟨σd,aC,_,r.step ok cX,aN,pK hC h.ex q1,fun v H' z=>z⟩) fun uo s2 ⟨vo,H2,I2,rvo,d2,aF,gZ,bO,rd2,q2⟩ =>
  aV (hi pins s2 σ H2 _ I2 ⟨σd,aF,_,(r.step ok cX).step aN gZ,bO,pK hC h.ex q2,fun v H' z=>z⟩) fun ui s3 ⟨vi,H3,I3,rvi,d3,bC,s3s,nS,rd3,q3⟩=>?_) hs
 obtain⟨da,ks,vs,ed2,e,hk,hnew,hlen,q4⟩:=V6 q3
 ·subst ed2
  cases rd2.cB
  cases rvo
  obtain⟨xs,ws,t1,t2,t3,t4,t5,t6,t8,t7⟩:=E1 I3 nS e
  obtain⟨ka,rfl,rfl,hka⟩:=key_is I3 hk rd3 rvi
  have hroom:(xU X.prog X.w).room X.A.in1:=by show X.A.in1.units+12<cLine;simp only[Around.in1_units];omega
  have hno:atKey xs d3=none:=by
   have:=OS (k:=d3) hk t4
   rw[t3,hnew]at this
   cases q:atKey xs d3 with
   |none=>rfl
   |some p=>rw[q]at this;cases this
  have hxl:xs.length=ks.length:=by rw[<-t3];simp
  refine wpAny_setItem_heap hroom hka t7 (fun h' hm hsb=>?_) (by rw[fI,hxl];have h10:(10000:Nat)<=bG:=(by decide);omega)
  rw[storedH_new hno]at hm
  obtain⟨o',es,ep,m1,m2,m3,m4,m5,m6⟩:=id hm
  have hS:Step H3 bC (upd H3 da (EX da (xs++[(d3,ka,uv)]))) (put bC da (.tab (ks++[d3]) (vs++[d]))):=kY e
  have I4:Inv X pins σ (upd H3 da (EX da (xs++[(d3,ka,uv)]))) { s3 with heap:=h',toks:=s3.toks+(xU X.prog X.w).draws d3 }:=by
   refine I3.write (x:=da) (e:=da) (by rw[t1];exact True.intro) (.inl rfl) (fun b u hb z=>(hsb.2 b hb).trans z) ⟨o',m1⟩ ?_
   exact⟨⟨o',es,ep,m1,m2,m3,m4⟩,⟨o',m1⟩,C8⟩
  refine⟨σ,_,I4,h.nx _ _ _ _ ((((r.step ok cX).step aN gZ).step bO s3s).step nS hS) (((cX.trans gZ).trans s3s).trans hS) (nS.G4 e ?_) q4⟩
  refine⟨xs++[(d3,ka,uv)],ws++[v],cZ,t2,by simp [t3],m6,?_,?_,?_,?_⟩
  ·rw[List.map_append]
   exact(t8.step nS hS).append (.cons (rd3.step nS hS) .nil)
  ·intro x hx
   rcases List.mem_append.mp hx with hx|hx
   ·exact t4 x hx
   ·simp only[List.mem_singleton]at hx;subst hx;exact hk
  ·rw[List.map_append];exact t5.append (.cons rv .nil)
  ·exact(t6.step nS hS).append (.cons ((((rd.step aN gZ).step bO s3s)).step nS hS) .nil)
theorem Jz (hu:X.A.units+180<cLine)(ha:JE X C sub E a x)(hb:JE X C sub E b y)(hm:behindInMarks .In b=false:=by kernel_rfl):JT X C sub E (.Compare a [.In] [b] pos) (.din false x y):=⟨Ae (neg:=false) hu ha.h hb.h hm⟩
theorem SN (hu:X.A.units+180<cLine)(ha:JE X C sub E a x)(hb:JE X C sub E b y)(hp:sD b:=by intro _ _;rfl):JE X C sub E (.Subscript a b pos) (.dix x y):=⟨Dw hu ha.h hb.h hp⟩
theorem Ko:JE X C sub E (.Dict [] [] pos) .dnew:=⟨YY⟩
theorem Km (m:bI C C)(hu:X.A.units+180<cLine)(ho:JE X C sub EF o y)(hi:JE X C sub EF i z)(hv:JE X C sub EF value x)(hs:swapsWith value (some (.Subscript o i pos')) pos.line X.env=pure false:=by kernel_rfl):
 JS X C sub (.Assign [.Subscript o i pos'] value pos) (.asg (.dk y z) x):=⟨Hv m hu ho.h hi.h hv.h hs⟩
end
end L3
end
section
namespace L3
open PySem PySem.Spec PyProof.Rows L2
theorem MR {P:Program}{w:World}{K:PySem.W.Frag}{mg:Str->Option Value}{base:Heap}{G:Prog}{r k f:Nat}{fn:Fn}{x qual:Str}{st:Stmt}{a:Addr}{fd:FuncData}{N ps:List Str}(F:vH K x qual st a fd)(S:lF N ps (aI st))
  (hG:G.fns f=some fn)(hp:fn.np=ps.length)(hl:fn.nl=N.length)
  (hb:∀(bD:Value)(A:Around)(outer:List Env)(s:Shared)(H:Hp)(E:L2.XK),cL r (A.deeper (envOfC qual (aI st) s.heap.objs.size a bD)) ->
   sC (dZ dD P w K mg base N qual (aI st) a bD A outer s H E).gT (aM G k) G.sub (eG st) fn.body):
  eI P w K mg base dD (r+1) a fd ps (eU K (aM G (k+1)) f):=by
 refine F.ok S (fun vs H Q E h=>?_) (fun bD A outer s H vs Q E hr h=>?_)
 ·obtain⟨ds,aB,R,r,_,h,_⟩:=h
  simp only[aM,hG]at h
  rw[<-r.length,h.1,hp]
 ·obtain⟨ds,aB,R,r,ok,h,hq⟩:=h
  simp only[aM,hG]at h
  refine⟨_,(hb bD A outer s H E hr).h,?_⟩
  refine⟨start fn.np fn.nl ds,aB,_,?_,ok,h.2,⟨fun σ' H' dG aU sr s' eQ q=>?_,fun v H' z=>hq v H' z,fun _ _ _ _ _ _ _ q=>q,fun _ _ _ _ _ _ _ q=>q,fun _ _ _ q=>q⟩⟩
  ·rw[hl];exact DT r h.1
  ·exact hq _ _ ⟨.non,aU,s',eQ,.non,q⟩
noncomputable def rZ (s:Stmt)(j:Nat):Stmt:=match s with
 |.ClassDef _ _ _ body ..=>body.getD j (.Pass ⟨0,0,0,0⟩)
 |_=>.Pass ⟨0,0,0,0⟩
inductive At where
 |top
 |cD (c:List Nat)
 |init (c:List Nat)
noncomputable def P8 (K:PySem.W.Frag)(mg:Str->Option Value)(n:Str)(a:Addr):At->Prop
 |.top=>mg n=some (.ref a)
 |.cD c=>∃ C0,clsAt K c C0/\sL K C0/\BH K C0 n a
 |.init c=>∃ C0,clsAt K c C0/\mg ⟨c.toArray⟩=some (.ref C0)/\Mk K C0 a
structure B9 (K:PySem.W.Frag)(mg:Str->Option Value)(nf:Nat)(nm qn:Nat->Str)(ps:Nat->List Str)(st:Nat->Stmt)(at_:Nat->At) where
 a:Nat->Addr
 fd:Nat->FuncData
 fn:∀ i,i<nf->vH K (nm i) (qn i) (st i) (a i) (fd i)
 bi:∀ i,i<nf->Binds K (fd i) (ps i) []
 mg:∀ i,i<nf->P8 K mg (nm i) (a i) (at_ i)
noncomputable def CH (n q:Str)(ps:List Str)(st:Stmt):Prop:=∀(kV doc pm:Value)(an:Option Addr)(bD ct:Value)(us:List Value),us.length=ps.length->bindArgs (PySem.W.fnOf n q (jY st) (eG st) (aI st) .none kV doc pm an bD ct) ⟨us,[]⟩=pure (ps.zip us)
noncomputable def qJ (K:PySem.W.Frag)(mg:Str->Option Value)(n q:Str)(st:Stmt)(at_:At):Prop:=∃ a fd,vH K n q st a fd/\P8 K mg n a at_
theorem Ep {K:PySem.W.Frag}{h:Heap}{mg:Str->Option Value}(X:K.In h)(G:h.Ns mainGlobals mg){n:Str}{st:Stmt}{f:Addr}{oc:Value}{od an:Option Addr}{sl:Array (Option Value)}{kV dc pm cd ct:Value}
 (a:PySem.W.nsIn K mainGlobals n=some (some (.ref f)))(l:K.lookup f=some ⟨oc,od,.func (PySem.W.fnOf n n (jY st) (eG st) (aI st) .none kV dc pm an cd ct),sl⟩)(c:PySem.W.codeIn K cd n=true)(k:PySem.W.keepIn K (.ref f)=true):qJ K mg n n st .top :=
 ⟨f,_,zS l c k,PySem.W.mg_of X G a⟩
theorem Dg {K:PySem.W.Frag}{h:Heap}{mg:Str->Option Value}(X:K.In h)(G:h.Ns mainGlobals mg){n q:Str}{c:List Nat}{C:Addr}{st:Stmt}{f:Addr}{oc:Value}{od an:Option Addr}{sl:Array (Option Value)}{kV dc pm cd ct:Value}
 (cl:PySem.W.nsIn K mainGlobals ⟨c.toArray⟩=some (some (.ref C)))(pg:PySem.W.plainGet K C Str.empty=true)(hd:PySem.W.hasDictIn K C=true)(po:PySem.W.plainOver K C=true)(sa:PySem.W.findIn K (.ref C) "__setattr__" = some (some (.builtin "object.__setattr__")))
 (a:PySem.W.findIn K (.ref C) n=some (some (.ref f)))(fn:PySem.W.isFn K (.ref f)=true)
 (l:K.lookup f=some ⟨oc,od,.func (PySem.W.fnOf n q (jY st) (eG st) (aI st) .none kV dc pm an cd ct),sl⟩)(cc:PySem.W.codeIn K cd q=true)(k:PySem.W.keepIn K (.ref f)=true):qJ K mg n q st (.cD c) :=
 ⟨f,_,zS l cc k,C,cl,⟨pg,hd,po,sa⟩,⟨a,fn,k⟩⟩
theorem Cy {K:PySem.W.Frag}{h:Heap}{mg:Str->Option Value}(X:K.In h)(G:h.Ns mainGlobals mg){q:Str}{c:List Nat}{C:Addr}{st:Stmt}{f:Addr}{oc:Value}{od an:Option Addr}{sl:Array (Option Value)}{kV dc pm cd ct:Value}
 (cl:PySem.W.nsIn K mainGlobals ⟨c.toArray⟩=some (some (.ref C)))(mk:PySem.W.makesIn K C=true)(kp:PySem.W.keepIn K (.ref C)=true)
 (a:PySem.W.findIn K (.ref C) "__init__" = some (some (.ref f)))(fn:PySem.W.isFn K (.ref f)=true)
 (l:K.lookup f=some ⟨oc,od,.func (PySem.W.fnOf "__init__" q (jY st) (eG st) (aI st) .none kV dc pm an cd ct),sl⟩)(cc:PySem.W.codeIn K cd q=true)(k:PySem.W.keepIn K (.ref f)=true):qJ K mg "__init__" q st (.init c) :=
 ⟨f,_,zS l cc k,C,cl,PySem.W.mg_of X G cl,⟨mk,a,fn,kp⟩⟩
theorem ZZ {K:PySem.W.Frag}{c:List Nat}{C:Addr}(cl:PySem.W.nsIn K mainGlobals ⟨c.toArray⟩=some (some (.ref C)))(pg:PySem.W.plainGet K C Str.empty=true)(hd:PySem.W.hasDictIn K C=true)(po:PySem.W.plainOver K C=true)(sa:PySem.W.findIn K (.ref C) "__setattr__" = some (some (.builtin "object.__setattr__"))):xS K c:=⟨C,cl,pg,hd,po,sa⟩
theorem XD {K:PySem.W.Frag}{c f:List Nat}{C:Addr}(cl:PySem.W.nsIn K mainGlobals ⟨c.toArray⟩=some (some (.ref C)))(na:PySem.W.findIn K (.ref C) ⟨f.toArray⟩=some none):vI K c f:=⟨fun C' h=>by cases clsAt.inj h cl;exact na⟩
theorem LD {K:PySem.W.Frag}{n q x:Str}{st:Stmt}{a:Addr}{fd:FuncData}(F:vH K n q st a fd)(h:CH n q [x] st)(s:Shared)(u:Value):BindsTo s fd ⟨[u],[]⟩ [(x,u)]:=by
 obtain⟨oc,od,kV,doc,pm,an,bD,ct,osl,rfl,lk,hcd⟩:=F.ex
 exact .of_eq (h kV doc pm an bD ct [u] rfl)
end L3
end
section
namespace L3
section
variable {C:aX}{sub:Nat->Nat->Bool}{E:XK}{σ:St}{st:aA}{Q:VK}{QQ:List D->aA->Prop}{QB:Bool->aA->Prop}{P:fV}{e a b c:Ex}{es:List Ex}{i:Nat}{d:D}{M:St->aA->Prop}
theorem FV:aG C sub E (.c d) σ st Q=Q d st:=rfl
theorem DQ:aG C sub E (.v i) σ st Q=dP σ i fun d=>Q d st:=rfl
theorem Er:aG C sub E (.tup es) σ st Q=bE C sub E es σ st fun ds aB=>Q (.tup ds) aB:=rfl
theorem Bp:aG C sub E (.lst es) σ st Q=bE C sub E es σ st fun ds aB=>fZ ds aB Q:=rfl
theorem KJ {op:rS}:aG C sub E (.bin op a b) σ st Q=aG C sub E a σ st fun x aC=>aG C sub E b σ aC fun y aF=>hU op x y aF Q:=rfl
theorem Cz:aG C sub E (.neg a) σ st Q=aG C sub E a σ st fun x aC=>wO x aC Q:=rfl
theorem Fb {op:oY}:aG C sub E (.cmp op a b) σ st Q=aG C sub E a σ st fun x aC=>aG C sub E b σ aC fun y aF=>cW op x y aF fun k=>Q (.bl k) aF:=rfl
theorem TR {op op':oY}:aG C sub E (.chain op op' a b c) σ st Q=aG C sub E a σ st fun x aC=>aG C sub E b σ aC fun y aF=>cW op x y aF fun k =>
 if k=true then aG C sub E c σ aF fun z bC=>cW op' y z bC fun k=>Q (.bl k) bC else Q (.bl false) aF:=rfl
theorem Fi:aG C sub E (.and_ a b) σ st Q=aG C sub E a σ st fun x aC=>dQ x aC fun k=>if k=true then aG C sub E b σ aC Q else Q x aC:=rfl
theorem Gv:aG C sub E (.or_ a b) σ st Q=aG C sub E a σ st fun x aC=>dQ x aC fun k=>if k=true then Q x aC else aG C sub E b σ aC Q:=rfl
theorem Bx:aG C sub E (.not_ a) σ st Q=aG C sub E a σ st fun x aC=>dQ x aC fun k=>Q (.bl (!k)) aC:=rfl
theorem Ei:aG C sub E (.ite c a b) σ st Q=aG C sub E c σ st fun x aC=>dQ x aC fun k=>if k=true then aG C sub E a σ aC Q else aG C sub E b σ aC Q:=rfl
theorem X6 {f:Nat}:aG C sub E (.call f es) σ st Q=bE C sub E es σ st fun ds aB=>C f ds aB Q E:=rfl
theorem WV {f:BI}:aG C sub E (.bi f es) σ st Q=bE C sub E es σ st fun ds aB=>gE f ds aB Q:=rfl
theorem Ff {ts:List Ty}:aG C sub E (.isi a ts) σ st Q=aG C sub E a σ st fun x aC=>tW sub x aC ts fun k=>Q (.bl k) aC:=rfl
theorem WA {m:MT}:aG C sub E (.cD m a es) σ st Q=aG C sub E a σ st fun x aC=>vJ m x aC/\bE C sub E es σ aC fun ds aF=>iR m x ds aF Q:=rfl
theorem zD:aG C sub E (.ix a b) σ st Q=aG C sub E a σ st fun x aC=>aG C sub E b σ aC fun y aF=>lS x y aF Q:=rfl
theorem Gy {lo hi:List Ex}:aG C sub E (.sl a lo hi) σ st Q=aG C sub E a σ st fun x aC=>bE C sub E lo σ aC fun ls aF=>nB ls fun l=>bE C sub E hi σ aF fun hs bC=>nB hs fun h=>AN x l h bC Q:=rfl
theorem Ek {f:BI}{k:IK}:aG C sub E (.bit f k es) σ st Q=bE C sub E es σ st fun ds aC=>fD (some k) ds aC fun _ xs=>eD f xs aC Q:=rfl
theorem ZO {n:Nat}{aL tg:List Nat}{one:Bool}{k:Option IK}{aD ifs:List Ex}:aG C sub E (.comp n aL tg one k aD ifs e) σ st Q=bE C sub E aD σ st fun ds aC=>fD k ds aC fun as xs =>
 iN (same as aC) (fun x aF K=>jG one tg x (List.replicate n none++aL.map fun i=>(σ[i]?).getD none) fun σ' =>
 gG C sub E ifs σ' aF fun b bC=>if b=true then aG C sub E e σ' bC fun d dR=>K (some d) dR else K none bC) xs [] aC fun ds gB=>fZ ds gB Q:=rfl
theorem N5:bE C sub E [] σ st QQ=QQ [] st:=rfl
theorem J0:bE C sub E (e::es) σ st QQ=aG C sub E e σ st fun d aB=>bE C sub E es σ aB fun ds aU=>QQ (d::ds) aU:=rfl
theorem Fq:gG C sub E [] σ st QB=QB true st:=rfl
theorem WE:gG C sub E (e::es) σ st QB=aG C sub E e σ st fun d aB=>dQ d aB fun k=>if k=true then gG C sub E es σ aB QB else QB false aB:=rfl
theorem Bo:wpS C sub (.ex e) P σ st=aG C sub (fun c aB=>P.ex c σ aB) e σ st fun _ aB=>P.nx σ aB:=rfl
theorem rT {t:Tg}:wpS C sub (.asg t e) P σ st=aG C sub (fun c aB=>P.ex c σ aB) e σ st fun d aB=>lO C sub (fun c aB=>P.ex c σ aB) t d σ aB P.nx:=rfl
theorem X8 {op:rS}:wpS C sub (.aug i op e) P σ st=dP σ i fun x=>aG C sub (fun c aB=>P.ex c σ aB) e σ st fun y aB=>notRef x/\hU op x y aB fun d aU=>P.nx (σ.set i (some d)) aU:=rfl
theorem YQ {x y:List Sx}:wpS C sub (.iff e x y) P σ st=aG C sub (fun c aB=>P.ex c σ aB) e σ st fun d aB=>dQ d aB fun k=>if k=true then cN C sub x P σ aB else cN C sub y P σ aB:=rfl
theorem Aq {t:Tg}{k:Option IK}{b:List Sx}:wpS C sub (.gJ t k es b) P σ st=bE C sub (fun c aB=>P.ex c σ aB) es σ st fun ds aC=>fD k ds aC fun as xs=>vA (same as aC) (fun x next σ st=>lO C sub (fun c aB=>P.ex c σ aB) t x σ st fun σ' aB=>cN C sub b { P with nx:=next,ct:=next,bk:=P.nx } σ' aB) P.nx xs σ aC:=rfl
theorem OK:wpS C sub (.ret e) P σ st=aG C sub (fun c aB=>P.ex c σ aB) e σ st P.rt:=rfl
theorem Av:wpS C sub .brk P σ st=P.bk σ st:=rfl
theorem W7:wpS C sub .cnt P σ st=P.ct σ st:=rfl
theorem UJ:wpS C sub .pass P σ st=P.nx σ st:=rfl
theorem xK:lO C sub E (.nm i) d σ st M=M (σ.set i (some d)) st:=rfl
theorem Bz {is:List Nat}:lO C sub E (.tp is) d σ st M=jG false is d σ fun σ'=>M σ' st:=rfl
theorem Cn:lO C sub E (.ix a b) d σ st M=aG C sub E a σ st fun x aC=>aG C sub E b σ aC fun y aF=>zF x y d aF fun bC=>M σ bC:=rfl
theorem Bi {c f:List Nat}:lO C sub E (.fl c f a) d σ st M=aG C sub E a σ st fun x aC=>zT c f d x aC fun aF=>M σ aF:=rfl
theorem Be:lO C sub E (.dk a b) d σ st M=aG C sub E a σ st fun x aC=>aG C sub E b σ aC fun y aF=>yA y d x aF fun bC=>M σ bC:=rfl
theorem Et {c f:List Nat}:aG C sub E (.fld c f a) σ st Q=aG C sub E a σ st fun x aC=>rG c f x aC Q:=rfl
theorem Jo {c:List Nat}{f:Nat}:aG C sub E (.mk c f es) σ st Q=bE C sub E es σ st fun ds aC=>∀ p,aC p=none->C f (.ref p::ds) (put aC p (.ins c [])) (fun d aF=>d=.non/\Q (.ref p) aF) E:=rfl
theorem Dp {c m:List Nat}{f:Nat}:aG C sub E (.mcl c m f a es) σ st Q=aG C sub E a σ st fun x aC=>CG c m x aC/\bE C sub E es σ aC fun ds aF=>C f (x::ds) aF Q E:=rfl
theorem Iz:aG C sub E (.cv i es) σ st Q=dP σ i fun d=>wF d st (fun _ _ _=>True)/\bE C sub E es σ st fun ds aB=>wF d aB fun a f cs=>C f (cs++ds) (del aB a) (fun d2 aF=>Q d2 (put aF a (.fn f cs))) (fun c aF=>E c (put aF a (.fn f cs))):=rfl
theorem V2 {f g:Nat}{aL:List Nat}{κ:CK}:aG C sub E (.callL f es g aL κ) σ st Q=bE C sub E es σ st fun ds aC=>(∃ P,aC P=some (.cod κ))/\oM σ aL fun cs=>∀ a,aC a=none->C f (ds++[.ref a]) (put aC a (.fn g cs)) (fun d aF=>Q d (del aF a)) (fun c aF=>E c (del aF a)):=rfl
theorem UM {QL:List D->Prop}:oM σ [] QL=QL []:=rfl
theorem RF {QL:List D->Prop}{is:List Nat}:oM σ (i::is) QL=dP σ i fun d=>oM σ is fun ds=>QL (d::ds):=rfl
theorem SQ {f p:Nat}{cs:List D}{K:Nat->Nat->List D->Prop}(h:st p=some (.fn f cs)):wF (.ref p) st K=K p f cs:=by unfold wF;simp only[h]
theorem vD {p q:Nat}(h:q≠p):del st p q=st q:=by unfold del;rw[if_neg h]
theorem Ar:aG C sub E .dnew σ st Q = ∀ p,st p=none->Q (.ref p) (put st p (.tab [] [])):=rfl
theorem Dr {neg:Bool}:aG C sub E (.din neg a b) σ st Q=aG C sub E a σ st fun x aC=>aG C sub E b σ aC fun y aF=>tD x y aF fun k=>Q (.bl (if neg=true then !k else k)) aF:=rfl
theorem Cb:aG C sub E (.dix a b) σ st Q=aG C sub E a σ st fun y aC=>aG C sub E b σ aC fun x aF=>rH x y aF Q:=rfl
theorem gA {c f:List Nat}{p:Nat}{fs:List (List Nat×D)}(h:st p=some (.ins c fs)){x:D}(hx:dA fs f=some x):rG c f (.ref p) st Q=Q x st:=by
 simp only[rG,mD,h,hx,cV,true_and]
theorem wU {c f:List Nat}{p:Nat}{fs:List (List Nat×D)}{R:aA->Prop}(h:st p=some (.ins c fs))(hl:fs.length<900):zT c f d (.ref p) st R=R (put st p (.ins c (oW f d fs))):=by
 simp only[zT,mD,h,hl,true_and]
theorem sI {c m:List Nat}{p:Nat}{fs:List (List Nat×D)}(h:st p=some (.ins c fs))(hm:dA fs m=none):CG c m (.ref p) st=True:=by
 simp only[CG,mD,h,hm,and_self]
theorem WI {x:D}{p:Nat}{ks vs:List D}{R:Bool->Prop}(h:st p=some (.tab ks vs))(hx:keyed x):tD x (.ref p) st R=R (ks.any fun k=>bH k x):=by
 simp only[tD,tabAt,h,hx,true_and]
theorem A2 {x v:D}{p:Nat}{ks vs:List D}(h:st p=some (.tab ks vs))(hx:keyed x)(hv:kQ ks vs x=some v):rH x (.ref p) st Q=Q v st:=by
 simp only[rH,tabAt,h,hx,hv,cV,true_and]
theorem Eh {x v:D}{p:Nat}{ks vs:List D}{R:aA->Prop}(h:st p=some (.tab ks vs))(hx:keyed x)(hn:(ks.any fun k=>bH k x)=false)(hl:ks.length<10000):yA x v (.ref p) st R=R (put st p (.tab (ks++[x]) (vs++[v]))):=by
 simp only[yA,tabAt,h,hx,hn,hl,true_and]
end
section
variable {d:D}{r:St}{R:D->Prop}{o0 o1 o2 o3 o4 o5 o6 o7 o8 o9 D5 uO wQ:Option D}
theorem BY:dP (some d::r) 0 R=R d:=rfl
theorem XW:dP (o0::some d::r) 1 R=R d:=rfl
theorem Jf:dP (o0::o1::some d::r) 2 R=R d:=rfl
theorem Hh:dP (o0::o1::o2::some d::r) 3 R=R d:=rfl
theorem Hm:dP (o0::o1::o2::o3::some d::r) 4 R=R d:=rfl
theorem Iq:dP (o0::o1::o2::o3::o4::some d::r) 5 R=R d:=rfl
theorem Io:dP (o0::o1::o2::o3::o4::o5::some d::r) 6 R=R d:=rfl
theorem Ih:dP (o0::o1::o2::o3::o4::o5::o6::some d::r) 7 R=R d:=rfl
theorem Jm:dP (o0::o1::o2::o3::o4::o5::o6::o7::some d::r) 8 R=R d:=rfl
theorem Jk:dP (o0::o1::o2::o3::o4::o5::o6::o7::o8::some d::r) 9 R=R d:=rfl
theorem Cw:dP (o0::o1::o2::o3::o4::o5::o6::o7::o8::o9::some d::r) 10 R=R d:=rfl
theorem Ee:dP (o0::o1::o2::o3::o4::o5::o6::o7::o8::o9::D5::some d::r) 11 R=R d:=rfl
theorem Ck:dP (o0::o1::o2::o3::o4::o5::o6::o7::o8::o9::D5::uO::some d::r) 12 R=R d:=rfl
theorem Ez:dP (o0::o1::o2::o3::o4::o5::o6::o7::o8::o9::D5::uO::wQ::some d::r) 13 R=R d:=rfl
end
end L3
end
section
namespace L3
open PySem PySem.Spec PyProof.Rows L2
noncomputable def iD (H:Hp)(a:Addr):Hp:=fun b=>match H b with
 |some (.frz o (.own n))=>if n=a then none else some (.frz o (.own n))
 |y=>y
theorem rY {H:Hp}{a b:Addr}{o:Obj}(h:H b=some (.frz o (.own a))):iD H a b=none:=by unfold iD;rw[h];simp
theorem kT {H:Hp}{a b:Addr}(h:H b=none):iD H a b=none:=by unfold iD;rw[h]
theorem nE (H:Hp)(a b:Addr):(∃ o,H b=some (.frz o (.own a))/\iD H a b=none)∨((∀ o,H b≠some (.frz o (.own a)))/\iD H a b=H b):=by
 cases h:H b with
 |none=>exact .inr ⟨fun o z=>(by cases z),kT h⟩
 |some y =>
  by_cases q:∃ o,y=.frz o (.own a)
  ·obtain⟨o,rfl⟩:=q
   exact .inl ⟨o,rfl,rY h⟩
  ·refine .inr ⟨fun o z=>q ⟨o,Option.some.inj z⟩,?_⟩
   unfold iD
   rw[h]
   cases y with
   |frz o u=>cases u with
    |own n =>
     have hn:n≠a:=fun z=>q ⟨o,by rw[z]⟩
     simp [hn]
    |_=>rfl
   |_=>rfl
theorem QW {H:Hp}{a b:Addr}{y:HO}(h:iD H a b=some y):H b=some y:=by
 rcases nE H a b with⟨o,_,e⟩|⟨_,e⟩
 ·rw[e]at h;cases h
 ·rw[<-e];exact h
theorem pW {H:Hp}{a b:Addr}{y:HO}(h:H b=some y)(n:∀ o,y≠.frz o (.own a)):iD H a b=some y:=by
 rcases nE H a b with⟨o,e,_⟩|⟨_,e⟩
 ·rw[h]at e;exact absurd (Option.some.inj e) (n o)
 ·rw[e];exact h
noncomputable def xR (H H':Hp)(a:Addr):Hp:=fun b=>match H b with
 |some (.frz o (.own n))=>if n=a then some (.frz o (.own n))else H' b
 |_=>H' b
theorem zB {H H':Hp}{a b:Addr}{o:Obj}(h:H b=some (.frz o (.own a))):xR H H' a b=some (.frz o (.own a)):=by unfold xR;rw[h];simp
theorem fP {H H':Hp}{a b:Addr}(h:∀ o,H b≠some (.frz o (.own a))):xR H H' a b=H' b:=by
 unfold xR
 cases e:H b with
 |none=>rfl
 |some y=>cases y with
 |frz o u=>cases u with
  |own n =>
  have hn:n≠a:=fun z=>h o (by rw[e,z])
  simp [hn]
  |_=>rfl
 |_=>rfl
theorem UE {P:Program}{w:World}{H:Hp}{h:Heap}{a:Addr}(ok:fT P w H h):fT P w (iD H a) h:=fun b o e =>
 (ok b o (QW e)).nX (fun _ _ _ q=>q) (fun _ q=>pW q (fun _ z=>nomatch z)) fun _ _ q=>pW q (fun _ z=>nomatch z)
noncomputable def Kp (H H':Hp)(a:Addr):Prop:=∀ b y,H b=some y->(∀ o,y≠.frz o (.own a))->(∀ o u,y≠.frz o (.frz u (.own a)))->H' b=some y
theorem M8 {H:Hp}{a:Addr}:Kp H (iD H a) a:=fun _ _ h n _=>pW h n
theorem WM {K:PySem.W.Frag}{H H':Hp}{a b:Addr}{vs:List V}(k:Kp H H' a)(h:dS K H b vs):dS K H' b vs:=by
 rcases h with(h|⟨o,h⟩)|h
 ·exact .inl (.inl (k _ _ h (fun _ z=>nomatch z) (fun _ _ z=>nomatch z)))
 ·exact .inl (.inr ⟨o,k _ _ h (fun _ z=>nomatch z) (fun _ _ z=>nomatch z)⟩)
 ·exact .inr h
theorem US {K:PySem.W.Frag}{H H':Hp}{a b:Addr}{vs:List V}(k:Kp H H' a)(h:kR K H b vs):kR K H' b vs:=by
 rcases h with⟨o,h⟩|h
 ·exact .inl ⟨o,k _ _ h (fun _ z=>nomatch z) (fun _ _ z=>nomatch z)⟩
 ·exact .inr h
mutual
theorem Rep.to {K:PySem.W.Frag}{H H':Hp}{a:Addr}(k:Kp H H' a):∀{d:D}{v:V},Rep K H d v->Rep K H' d v
 |_,_,.non=>.non
 |_,_,.bl b=>.bl b
 |_,_,.int i=>.int i
 |_,_,.str x=>.str x
 |_,_,.tup h r=>.tup (WM k h) (aJ.to k r)
 |_,_,.ref a=>.ref a
 |_,_,.bF h r=>.bF (US k h) (aJ.to k r)
 |_,_,.cO h=>.cO h
theorem aJ.to {K:PySem.W.Frag}{H H':Hp}{a:Addr}(k:Kp H H' a):∀{ds:List D}{vs:List V},aJ K H ds vs->aJ K H' ds vs
 |_,_,.nil=>.nil
 |_,_,.cons h r=>.cons (Rep.to k h) (aJ.to k r)
end
theorem JH {K:PySem.W.Frag}{H H':Hp}{a b:Addr}{o:MO}(k:Kp H H' a)(ne0:a≠0)(hb:b≠a)(h:rD K H b o):rD K H' b o:=by
 cases o with
 |lst ds=>obtain⟨vs,q,r⟩:=h;exact⟨vs,k _ _ q (fun _ z=>nomatch z) (fun _ _ z=>nomatch z),r.to k⟩
 |dic _ _=>exact h
 |ins c fs=>obtain⟨C,dx,ws,q,q2,q3,r⟩:=h;exact⟨C,dx,ws,q,k _ _ q2 (fun _ z=>nomatch z) (fun _ _ z=>nomatch z),q3,r.to k⟩
 |tab ks vs=>obtain⟨xs,ws,q,q0,q1,q2,q3,q4,q5,r⟩:=h;exact⟨xs,ws,k _ _ q (fun _ z=>nomatch z) (fun _ _ z=>nomatch z),q0,q1,q2,q3.to k,q4,q5,r.to k⟩
 |fn f cs =>
 obtain⟨vs,⟨T,clos,pm,ctv,c',oc,nb,t,q,ec,co,inj,dom,cap⟩,r⟩:=h
 refine⟨vs,⟨T,clos,pm,ctv,c',oc,nb,t,k _ _ q (fun _ z=>nomatch z) (fun _ _ z=>?_),k _ _ ec (fun _ z=>?_) (fun _ _ z=>nomatch z),co,inj,dom,cap.of fun b' o z=>k _ _ z (fun _ y=>?_) (fun _ _ y=>nomatch y)⟩,r.to k⟩
 ·injection z with _ z;injection z with _ z;injection z with z;exact hb z
 ·injection z with _ z;injection z with z;exact ne0 z.symm
 ·injection y with _ y;injection y with y;exact hb y
 |cod κ =>
 obtain⟨q0,q|⟨c',oc,q,ec,co⟩⟩:=h
 ·exact⟨q0,.inl (k _ _ q (fun _ z=>nomatch z) (fun _ _ z=>nomatch z))⟩
 ·exact⟨q0,.inr ⟨c',oc,k _ _ q (fun _ z=>nomatch z) (fun _ _ z=>nomatch z),k _ _ ec (fun _ z=>by injection z with _ z;injection z with z;exact ne0 z.symm) (fun _ _ z=>nomatch z),co⟩⟩
theorem SX {K:PySem.W.Frag}{H H':Hp}{st:aA}{a:Addr}(k:Kp H H' a)(ne0:a≠0)(ok:aQ K st H)(hn:st a=none):aQ K st H':=fun b o e =>
 JH k ne0 (fun z=>by rw[z,hn]at e;cases e) (ok b o e)
theorem uS:∀{ps:List Str}{us:List Value}{i:Nat}{x:Str}{u:Value},ps.Nodup->ps[i]? = some x->us[i]? = some u->(ps.zip us).reverse.lookup x=some u
 |[],_,_,_,_,_,h,_=>by simp at h
 |_::_,[],_,_,_,_,_,h=>by simp at h
 |p::ps,v::us,0,x,u,nd,h1,h2=>by
  simp at h1 h2;subst h1;subst h2
  rw[List.zip_cons_cons,List.reverse_cons,List.lookup_append]
  have:(ps.zip us).reverse.lookup p=none:=by
   rw[List.lookup_eq_none_iff]
   intro q hq
   have hq:q∈ps.zip us:=by simpa using hq
   have:=(List.of_mem_zip hq).1
   rw[bne_iff_ne]
   intro z
   exact(List.nodup_cons.mp nd).1 (z▸this)
  rw[this];simp
 |p::ps,v::us,i+1,x,u,nd,h1,h2=>by
  rw[List.zip_cons_cons,List.reverse_cons,List.lookup_append,uS (List.nodup_cons.mp nd).2 (by simpa using h1) (by simpa using h2)];rfl
structure KQ (T:jI):Prop where
 kind:T.scope.kind=.function
 co:T.scope.isCoroutine=false
 gen:T.scope.isGenerator=false
 nc:∀ x∈T.scope.names,x.2≠.cell
 nd:(T.aL++T.ps).Nodup
 lo:∀ x∈T.ps,T.scope.names.lookup x=some .local
 fr:∀ x,T.scope.names.lookup x=some .free->x∈T.aL
 cf:∀ x∈T.aL,T.scope.names.lookup x=some .free
noncomputable def MX (P:Program)(w:World)(K:PySem.W.Frag)(mg:Str->Option Value)(base:Heap)(T:jI)(clos:List (Str×Addr))(a c':Addr)(A:Around)(outer:List Env)(s:Shared)(H:Hp):Cx where
 prog:=P
 w:=w
 K:=K
 mg:=mg
 base:=base
 A:=A.deeper (PySem.W.envX T.q T.scope s.heap.objs.size a (.ref c') clos)
 N:=T.aL++T.ps
 s₀:=s
 H₀:=H
 env:=PySem.W.envX T.q T.scope s.heap.objs.size a (.ref c') clos
 outer:=outer
 stack:=PySem.W.envX T.q T.scope s.heap.objs.size a (.ref c') clos::outer
 ex:=[]
 calm:=true
 fn:=fun _=>false
 pn:=[]
 xe:=fun _ _=>False
noncomputable def mX (P:Program)(w:World)(K:PySem.W.Frag)(mg:Str->Option Value)(base:Heap)(r:Nat)(C:aX)(f:Nat):Prop :=
 ∀(A:Around)(outer:List Env)(s:Shared)(H:Hp)(a:Addr)(us:List Value)(vs cvs:List V)(ds cs:List D)(st:aA)(R:VK)(Q:L2.VK)(E:L2.XK),
 cL r A->rJ P w K mg base A outer s H->SH H a f cvs->st a=none->aQ K st H->aJ K H cs cvs->aJ K H ds vs->aO vs us->C f (cs++ds) st R (fun _ _=>False)->(∀ v H',QD K H st R v H'->Q v H') ->
 codeAny (model P w) A (.call (.ref a) ⟨us,[]⟩) (CR dD outer P w H s Q E) s
theorem FD {H:Hp}{a:Addr}{clos:List (Str×Addr)}{xs:List Str}{vs:List V}(h:iE H a clos xs vs):xs.length=vs.length:=by
 induction h with
 |nil=>rfl
 |cons _ _ _ _ _ _ _ _ ih=>exact congrArg Nat.succ ih
theorem zH {H:Hp}{a:Addr}{clos:List (Str×Addr)}{xs:List Str}{vs:List V}(h:iE H a clos xs vs):∀{i:Nat}{x:Str},xs[i]? = some x->∃ v cl o u,vs[i]? = some v/\clos.lookup x=some cl/\H cl=some (.frz o (.own a))/\o.data=.cell (some u)/\RelV v u:=by
 induction h with
 |nil=>intro i x e;simp at e
 |cons cl o u l k d r t ih =>
 intro i x e
 cases i with
 |zero=>simp at e;subst e;exact⟨_,cl,o,u,rfl,l,k,d,r⟩
 |succ i=>exact ih (by simpa using e)
section
variable {P:Program}{w:World}{K:PySem.W.Frag}{mg:Str->Option Value}{base:Heap}{T:jI}{clos:List (Str×Addr)}{a c':Addr}{A:Around}{outer:List Env}{s:Shared}{H:Hp}{us:List Value}{vs cvs:List V}
theorem V0 (S:KQ T)(hd:A.handled=none)(e0:rJ P w K mg base A outer s H)(inj:∀ x y c,clos.lookup x=some c->clos.lookup y=some c->x=y)(dom:∀ x c,clos.lookup x=some c->x∈T.aL)(cap:iE H a clos T.aL cvs)(hl:vs.length=T.ps.length)(r:aO vs us)
  {h₁:Heap}{tk:Nat}(hns:h₁.Ns s.heap.objs.size (fun y=>(T.ps.zip us).reverse.lookup y))(hk:∀ b o,s.heap.get? b=some o->h₁.get? b=some o):
  Inv (MX P w K mg base T clos a c' A outer s (iD H a)) [] (cvs.map some++vs.map some) (iD H a) { s with heap:=h₁,toks:=tk }:=by
 have clen:=FD cap
 have cells:∀ x c,clos.lookup x=some c->∃ o u,H c=some (.frz o (.own a))/\o.data=.cell (some u):=fun x c e=>by
  obtain⟨i,hi⟩:=List.getElem?_of_mem (dom x c e)
  obtain⟨v,cl,o,u,_,l,k,d,_⟩:=zH cap hi
  rw[e]at l;cases l
  exact⟨o,u,k,d⟩
 have hcl:∀{c o u},H c=some (.frz o (.own a))->o.data=.cell (some u)->h₁.IsCell c (some u):=fun{c o u} k d=>⟨o,hk _ _ (e0.bJ c _ k).1,d⟩
 have noA:∀ b:Addr,b∉(MX P w K mg base T clos a c' A outer s (iD H a)).ex:=fun b z=>absurd (show b∈([]:List Addr)from z) (by simp)
 refine⟨⟨e0.mod,S.kind,rfl,rfl,Nat.le_refl _,inj,fun y hy=>?_,fun y c z _=>(nomatch (show false=true from z)),fun _=>hd,Around.frames_deeper e0.frames,.inr ⟨rfl,rfl⟩,fun b z=>absurd z (noA b),fun b o e=>⟨(e0.bs b o e).1,kT (e0.bs b o e).2⟩,e0.bsz,fun b _ _=>noA b,fun b z=>absurd z (noA b),e0.kC,fun b z=>kT (e0.frf b z)⟩,
  rfl,e0.bare,Un.kept hk,⟨_,hns,fun i y v h1 h2 h3=>?_⟩,fun y c h=>?_,kT (e0.bJ.fresh (Nat.le_refl _)),fun y c h=>?_,fun p hp=>absurd (show p∈([]:List (Addr×Obj))from hp) (by simp),(UE e0.bJ).kept hk,?_⟩
 ·have hy:T.scope.names.lookup y=some .cell∨T.scope.names.lookup y=some .free:=hy
  rcases hy with hy|hy
  ·exact absurd rfl (S.nc _ (PySem.mem_of_lookup hy))
  ·obtain⟨i,hi⟩:=List.getElem?_of_mem (S.fr y hy)
   obtain⟨_,cl,_,_,_,l,_⟩:=zH cap hi
   exact⟨cl,l⟩
 ·by_cases hi:i<T.aL.length
  ·have h1':T.aL[i]? = some y:=by
    have h1:(T.aL++T.ps)[i]? = some y:=h1
    rwa [List.getElem?_append_left hi]at h1
   obtain⟨v',cl,o,u,e1,l,k,d,rv⟩:=zH cap h1'
   rw[List.getElem?_append_left (by rw[List.length_map,<-clen];exact hi),List.getElem?_map,e1]at h2
   cases h2
   exact⟨u,rv,.inr ⟨.inr (S.cf y (List.mem_of_getElem? h1')),cl,l,hcl k d⟩⟩
  ·have h1':T.ps[i-T.aL.length]? = some y:=by
    have h1:(T.aL++T.ps)[i]? = some y:=h1
    rwa [List.getElem?_append_right (by omega)]at h1
   have h2':vs[i-T.aL.length]? = some v:=by
    rw[List.getElem?_append_right (by rw[List.length_map,<-clen];omega),List.length_map,<-clen,List.getElem?_map]at h2
    cases e:vs[i-T.aL.length]? with
    |none=>rw[e]at h2;cases h2
    |some z=>rw[e]at h2;cases h2;rfl
   obtain⟨u,hu,rv⟩:=r.get h2'
   have ndp:T.ps.Nodup:=(List.nodup_append.mp S.nd).2.1
   refine⟨u,rv,.inl ⟨S.lo y (List.mem_of_getElem? h1'),?_⟩⟩
   exact uS ndp h1' hu
 ·obtain⟨o,u,k,d⟩:=cells y c h
  exact⟨some u,hcl k d⟩
 ·obtain⟨o,u,k,d⟩:=cells y c h
  exact rY k
 ·show _=(T.aL++T.ps).length
  rw[List.length_append,List.length_append,List.length_map,List.length_map,clen,hl]
end
end L3
end
section
namespace L3
open PySem PySem.Spec PyProof.Rows L2
section
variable {P:Program}{w:World}{K:PySem.W.Frag}{mg:Str->Option Value}{base:Heap}
theorem TU {G:Prog}{k r f n:Nat}{T:jI}{x:Ex}(hT:LT f=some T)(S:KQ T)(hG:G.fns f=some ⟨n,n,[.ret x]⟩)(hn:n=T.aL.length+T.ps.length)
  (hbind:∀(clos:List (Str×Addr))(pm:Value)(c':Addr)(ctv:Value)(us:List Value),us.length=T.ps.length->bindArgs (PySem.W.kla_fn "<lambda>" T.q T.params T.body T.scope clos pm (.ref c') ctv) ⟨us,[]⟩=pure (T.ps.zip us))
  (hb:∀(clos:List (Str×Addr))(a c':Addr)(A:Around)(outer:List Env)(s:Shared)(H:Hp),cL r (A.deeper (PySem.W.envX T.q T.scope s.heap.objs.size a (.ref c') clos))->JE (MX P w K mg base T clos a c' A outer s H) (aM G k) G.sub (fun _ _=>False) T.body x):
  mX P w K mg base (r+1) (aM G (k+1)) f:=by
 intro A outer s H a us vs cvs ds cs st R Q E hr e0 hF eB ok rc rd rv hC hQ
 obtain⟨T',clos,pm,ctv,c',oc,ne0,t,e,ec,co,inj,dom,cap⟩:=hF
 rw[hT]at t;cases t
 simp only[aM,hG]at hC
 have clen:=FD cap
 have hlen:(cs++ds).length=n:=hC.1
 have hl:vs.length=T.ps.length:=by
  have h1:=rd.length
  have h2:=rc.length
  rw[List.length_append]at hlen;omega
 have hus:us.length=T.ps.length:=by rw[<-rv.length];exact hl
 obtain⟨vs0,t0,co1,co2⟩:=co
 have lim:s.heap.NoLimit:=e0.mod.nolimit.keeps fun b o z=>(e0.bs b o z).1
 refine PySem.W.kla_callFunE hr.depth (e0.bJ a _ e).1 rfl S.co S.gen rfl ⟨c',oc,vs0,t0,rfl,(e0.bJ c' _ ec).1,co1,co2⟩ ?_
 rw[hbind clos pm c' ctv us hus]
 refine wpAny_pure (wpAny_newFunctionEnv S.nc (fun y hy=>S.lo y.1 (List.of_mem_zip hy).1) (fun h₁ hns hsb=>⟨lim.fresh _ hsb,?_⟩) S.kind)
 show codeAny _ _ (.expr T.body (PySem.W.envX T.q T.scope s.heap.objs.size a (.ref c') clos)) _ _
 have hk:∀ b o,s.heap.get? b=some o->h₁.get? b=some o:=fun b o z=>hsb.extBut b o (Nat.ne_of_lt (Heap.lt_size z)) (Heap.get?_push_of_some _ z)
 refine PySem.W.kla_codeExpr ?_
 have I:=V0 (P:=P) (w:=w) (c':=c') (tk:=s.toks+(T.ps.zip us).length) S hr.hd e0 inj dom cap hl rv hns hk
 have hq:aG (aM G k) G.sub (fun _ _=>False) x (start n n (cs++ds)) st R:=by
  have:=hC.2
  simp only[cN,wpS]at this
  exact this
 have est:start n n (cs++ds)=cs.map some++ds.map some:=by simp [start]
 have hsr:cY K (iD H a) (start n n (cs++ds)) (cvs.map some++vs.map some):=by
  have rr:aJ K (iD H a) (cs++ds) (cvs++vs):=(rc.append rd).to M8
  rw[est,<-List.map_append,<-List.map_append]
  refine⟨by rw[List.length_map,List.length_map,rr.length],fun i d e=>?_⟩
  rw[List.getElem?_map,Option.map_eq_some_iff]at e
  obtain⟨d',e1,e2⟩:=e
  cases e2
  obtain⟨v,e3,e4⟩:=rr.get e1
  exact⟨v,by rw[List.getElem?_map,e3];rfl,e4⟩
 have key:=(hb clos a c' A outer s (iD H a) (hr.deeper _)).h [] _ _ (iD H a) (fun v H'=>QD K (iD H a) st R v H') I ⟨start n n (cs++ds),st,R,hsr,SX M8 ne0 ok eB,hq,fun v H' z=>z⟩
 refine wpAny_mono key (fun u s' z=>?_) fun e s' z=>z.elim
 obtain⟨v,H',J,aZ,d,aB,s1,aN,r1,q1⟩:=z
 have jb:Un (sG outer) [] (iD H a) H' s.heap s'.heap:=J.base
 have nc:∀{b y},H' b=some y->∀ o,H b≠some (.frz o (.own a)):=fun{b y} h o z=>by
  have:=jb.free b o (e0.bJ b _ z).1 (rY z) (by simp)
  rw[h]at this;cases this
 have aF:Step H' aB (xR H H' a) aB:=fun b o eb n=>⟨by rw[fP (nc eb)];exact eb,n⟩
 refine⟨v,xR H H' a,J.os,J.bare,⟨fun b o q n hb hx=>jb.keep b o q (kT n) hb hx,fun b o q n hb hx=>jb.slot b o q (kT n) hb hx,fun b o q n hx=>?_,fun b o q hx=>jb.there b o q hx,fun b xs q=>?_,fun b o u q=>?_,fun b ps q=>?_⟩,fun b o e=>?_,aZ,hQ v _ ⟨d,aB,fun b o eb n=>?_,fun b o e=>?_,r1.step aN aF,q1⟩⟩
 ·rw[fP (fun o z=>by rw[n]at z;cases z)];exact jb.free b o q (kT n) hx
 ·rw[fP (fun o z=>by rw[q]at z;cases z)];exact jb.pZ b xs (pW q (fun _ z=>nomatch z))
 ·rcases nE H a b with⟨o',e',_⟩|⟨n,e'⟩
  ·rw[zB e',<-e'];exact q
  ·rw[fP n];exact jb.mG b o u (by rw[e'];exact q)
 ·obtain⟨more,z⟩:=jb.oE b ps (pW q (fun _ z=>nomatch z))
  exact⟨more,by rw[fP (fun o z=>by rw[q]at z;cases z)];exact z⟩
 ·rcases nE H a b with⟨o',e',_⟩|⟨n,e'⟩
  ·rw[zB e']at e;cases e
   have g:=jb.keep b o' (e0.bJ b _ e').1 (rY e') (fun z=>by rw[e0.frf b z]at e';cases e') (by simp)
   exact⟨g,o',g⟩
  ·rw[fP n]at e
   exact(J.bJ b o e).nX (fun _ _ _ q=>q) (fun b' q=>by rw[fP (nc q)];exact q) fun b' xs q=>by rw[fP (nc q)];exact q
 ·rcases nE H a b with⟨o',e',_⟩|⟨n',e'⟩
  ·refine⟨by rw[zB e',<-e'];exact eb,aN.fresh ?_⟩
   exact jb.free b o' (e0.bJ b _ e').1 (rY e') (by simp)
  ·obtain⟨h1,h2⟩:=s1 b o (by rw[e'];exact eb) n
   exact⟨by rw[fP n'];exact h1,h2⟩
 ·have h:=aN b o e
  obtain⟨o',h1,_⟩:=h.bears
  exact h.step aN aF (fP (nc h1))
end
end L3
end
section
namespace L3
open PySem PySem.Spec PyProof.Rows L2
theorem HJ {σ:St}{i:Nat}{Q:D->Prop}(h:dP σ i Q):∃ d,σ[i]? = some (some d)/\Q d:=by
 unfold dP at h
 split at h
 ·rename_i d e;exact⟨d,e,h⟩
 ·exact h.elim
theorem IW {d:D}{st:aA}{K:Nat->Nat->List D->Prop}(h:wF d st K):∃ a f cs,d=.ref a/\st a=some (.fn f cs)/\K a f cs:=by
 cases d<;>first|exact False.elim h|skip
 rename_i a
 unfold wF at h
 simp only at h
 split at h
 ·rename_i f cs e;exact⟨a,f,cs,rfl,e,h⟩
 ·exact h.elim
theorem zO {st:aA}{a:Nat}:del st a a=none:=by unfold del;rw[if_pos rfl]
theorem zC {st:aA}{a b:Nat}(h:b≠a):del st a b=st b:=by unfold del;rw[if_neg h]
theorem IQ {st:aA}{a b:Nat}{o:MO}(h:del st a b=some o):st b=some o/\b≠a:=by
 by_cases z:b=a
 ·rw[z,zO]at h;cases h
 ·rw[zC z]at h;exact⟨h,z⟩
section
variable {X:Cx}{C:aX}{sub:Nat->Nat->Bool}{i k:Nat}{x:Str}{p pos:Pos}{e:Expr}{es:List Expr}{xs:List Ex}{E0:L2.XK}
theorem JL {H:Hp}{h:Heap}{P:Program}{w:World}{a:Addr}{f:Nat}{vs:List V}(ok:fT P w H h)(F:SH H a f vs):PySem.W.FnAt a h:=by
 obtain⟨T,clos,pm,ctv,c',oc,_,_,e,_⟩:=F
 exact⟨_,_,_,_,(ok a _ e).1⟩
theorem Gr (hL:∀ f T,LT f=some T->mX X.prog X.w X.K X.mg X.base k C f)(hr:cL k X.A)(hN:X.N[i]? = some x)(hv:SI X.env.scope x)(hx:nG dD X E0)(ha:PA X (e::es) (jC X.K (bE C sub (fun _ _=>False) xs)))
  (hd:(x==("__debug__" : Str))=false)(hcd:(x==("__classdict__" : Str))=false)(he:starEach (e::es) X.env=(false,eval e X.env)::starEach es X.env)(cT:(backTo pos (starEach es X.env)).any (·.1)=false):
  PE X (.Call (.Name x p) (e::es) [] pos) (bN X.K (aG C sub (fun _ _=>False) (.cv i xs))):=by
 intro pins s σ H Q I ⟨σd,st,R,r,ok,q,hq⟩
 obtain⟨d,ed,q0,q⟩:=HJ q
 obtain⟨a,f0,cs0,rfl,ea0,_⟩:=IW q0
 obtain⟨v,ev,rep⟩:=r.2 i _ ed
 cases rep.cB
 obtain⟨cvs0,F0,_⟩:=ok a _ ea0
 refine wpAny_Call_Name_kw (aV (MB hN hv hd hcd pins s σ H (fun v' H1=>v'=.ref a/\H1=H) I ⟨_,ev,rfl,rfl⟩) fun u s1 z=>?_)
 obtain⟨v',H1,I1,rv,rfl,rfl⟩:=z
 obtain rfl:u=Value.ref a:=rv
 refine PySem.W.callWith_F (JL I1.bJ F0) (aV (ha pos pins s1 σ H1 _ I1 ⟨σd,st,_,r,ok,q,fun vs H2 z=>z⟩) fun us s2 z=>?_) he cT
 obtain⟨vs,H2,I2,rvs,ds,aF,cX,bO,rds,q3⟩:=z
 obtain⟨a',f,cs,e1,ea,q4⟩:=IW q3
 cases e1
 have hO:=bO a _ ea
 obtain⟨cvs,F,rcs⟩:=id hO
 refine⟨JL I2.bJ F,?_⟩
 have okd:aQ X.K (del aF a) H2:=fun b o e=>bO b o (IQ e).1
 have hT:∃ T,LT f=some T:=by obtain⟨T,_,_,_,_,_,_,t,_⟩:=F;exact⟨T,t⟩
 obtain⟨T,hT⟩:=hT
 refine wpAny_call (codeAny_mono (hL f T hT X.A X.stack s2 H2 a us vs cvs ds cs (del aF a) _ Q E0 hr I2.KP F zO okd rcs rds rvs q4 fun v H' z=>?_) fun r s' hq=>?_)
 ·obtain⟨d2,bC,s3,nS,r3,q5⟩:=z
  obtain⟨oa,ha1,_⟩:=hO.bears
  have h3:=s3 a oa ha1 zO
  refine hq v H' (.after cX ⟨d2,put bC a (.fn f cs),fun b o eb n=>?_,fun b o e=>?_,r3,q5⟩)
  ·have ba:b≠a:=fun z=>by rw[z,ea]at n;cases n
   obtain⟨h1,h2⟩:=s3 b o eb (by rw[zC ba];exact n)
   exact⟨h1,by rw[bL ba];exact h2⟩
  ·by_cases ba:b=a
   ·subst ba
    rw[bB]at e;cases e
    exact hO.step okd s3 (by rw[h3.1,ha1])
   ·rw[bL ba]at e;exact nS b o e
 ·cases r with
  |error e=>exact hx pins σ H2 s2 e s' I2 hq
  |ok fl =>
   cases fl with
   |ret u=>exact I2.after hq
   |next=>exact False.elim hq
   |brk=>exact False.elim hq
   |cont=>exact False.elim hq
end
end L3
end
section
namespace L3
open PySem PySem.Spec PyProof.Rows L2
theorem DZ {σ:St}:∀{is:List Nat}{Q:List D->Prop},oM σ is Q->∃ cs,cs.length=is.length/\(∀(j i:Nat),is[j]? = some i->∃ d,σ[i]? = some (some d)/\cs[j]? = some d)/\Q cs
 |[],Q,h=>⟨[],rfl,fun j i e=>by simp at e,h⟩
 |i::is,Q,h=>by
  obtain⟨d,e,h⟩:=HJ h
  obtain⟨cs,l,g,q⟩:=DZ (is:=is) h
  refine⟨d::cs,by simp [l],fun j i' e'=>?_,q⟩
  cases j with
  |zero=>simp at e';subst e';exact⟨d,e,rfl⟩
  |succ j=>exact g j i' (by simpa using e')
inductive mC (h:Heap)(cells:List (Str×Addr)):List Str->List V->Prop where
 |nil:mC h cells [] []
 |cons {x:Str}{xs:List Str}{v:V}{vs:List V}(cl:Addr)(o:Obj)(u:Value)(l:cells.lookup x=some cl)(k:h.get? cl=some o) (d:o.data=.cell (some u)) (r:RelV v u) (t:mC h cells xs vs):mC h cells (x::xs) (v::vs)
section
variable {X:Cx}{pins:List (Addr×Obj)}{σ:L2.St}{H:Hp}{s:Shared}{σd:St}
theorem AX (I:Inv X pins σ H s)(r:cY X.K H σd σ):∀(xs:List Str)(aL:List Nat)(cs:List D),(∀(j:Nat)(x:Str),xs[j]? = some x->∃ i,aL[j]? = some i/\X.N[i]? = some x/\X.env.scope.names.lookup x=some .cell)->xs.length=aL.length->cs.length=aL.length->(∀(j i:Nat),aL[j]? = some i->∃ d,σd[i]? = some (some d)/\cs[j]? = some d) ->
  ∃ cvs,aJ X.K H cs cvs/\mC s.heap X.env.cells xs cvs
 |[],[],[],_,_,_,_=>⟨[],.nil,.nil⟩
 |x::xs,c::aL,d::cs,hx,h1,h2,hg=>by
  obtain⟨cvs,rr,cc⟩:=AX I r xs aL cs (fun j y e=>by simpa using hx (j+1) y (by simpa using e)) (by simpa using h1) (by simpa using h2) (fun j i e=>by simpa using hg (j+1) i (by simpa using e))
  obtain⟨i,e1,e2,e3⟩:=hx 0 x rfl
  cases e1
  obtain⟨d',e4,e5⟩:=hg 0 c rfl
  cases e5
  obtain⟨v,e6,e7⟩:=r.2 c d e4
  obtain⟨m,hn,hl⟩:=I.loc
  obtain⟨u,rv,l⟩:=hl c x v e2 e6 (.inr (.inl e3))
  rcases l with⟨hk,_⟩|⟨_,cl,hc,o,ho,hd⟩
  ·have hk:X.env.scope.names.lookup x=some .local:=hk
   rw[e3]at hk;cases hk
  ·exact⟨v::cvs,.cons e7 rr,.cons cl o u hc ho hd rv cc⟩
 |[],_::_,_,_,h1,_,_=>by simp at h1
 |_::_,[],_,_,h1,_,_=>by simp at h1
 |[],[],_::_,_,_,h2,_=>by simp at h2
 |_::_,_::_,[],_,_,h2,_=>by simp at h2
end
theorem K2 {h h':Heap}{cells:List (Str×Addr)}{xs:List Str}{vs:List V}(c:mC h cells xs vs)(k:∀ x cl o u,cells.lookup x=some cl->h.get? cl=some o->o.data=.cell u->h'.get? cl=some o):mC h' cells xs vs:=by
 induction c with
 |nil=>exact .nil
 |cons cl o u l q d r t ih=>exact .cons cl o u l (k _ _ _ _ l q d) d r ih
noncomputable def M1 (clos:List (Str×Addr))(xs:List Str):List Addr:=xs.filterMap fun x=>clos.lookup x
noncomputable def iC (H:Hp)(h:Heap)(a:Addr)(fo:Obj)(l:List Addr):Hp:=fun b=>if b=a then some (.frz fo (.frz fo (.own a)))else if b∈l then(h.get? b).map fun o=>.frz o (.own a)else H b
noncomputable def wY (H:Hp)(l:List Addr):Hp:=fun b=>if b∈l then none else H b
section
variable {H:Hp}{h:Heap}{a b:Addr}{fo:Obj}{l:List Addr}
theorem GB:iC H h a fo l a=some (.frz fo (.frz fo (.own a))):=by unfold iC;rw[if_pos rfl]
theorem G3 {o:Obj}(n:b≠a)(m:b∈l)(e:h.get? b=some o):iC H h a fo l b=some (.frz o (.own a)):=by unfold iC;rw[if_neg n,if_pos m,e];rfl
theorem wH (n:b≠a)(m:b∉l):iC H h a fo l b=H b:=by unfold iC;rw[if_neg n,if_neg m]
theorem M2 (m:b∈l):wY H l b=none:=by unfold wY;rw[if_pos m]
theorem pR (m:b∉l):wY H l b=H b:=by unfold wY;rw[if_neg m]
theorem H0 {clos:List (Str×Addr)}{xs ys:List Str}{vs:List V}(c:mC h clos xs vs)(na:∀ x cl,clos.lookup x=some cl->cl≠a)(sub:∀ x∈xs,x∈ys):iE (iC H h a fo (M1 clos ys)) a clos xs vs:=by
 induction c with
 |nil=>exact .nil
 |cons cl o u l q d r t ih =>
 refine .cons cl o u l (G3 (na _ _ l) ?_ q) d r (ih fun x hx=>sub x (List.mem_cons_of_mem _ hx))
 exact List.mem_filterMap.mpr ⟨_,sub _ (List.mem_cons_self ..),l⟩
end
end L3
end
section
namespace L3
open PySem PySem.Spec PyProof.Rows L2
noncomputable def rE (mg:Str->Option Value)(base:Heap):Prop:=∃ bm ob,mg "__builtins__" = some (.ref bm)/\bm≠builtinsNs/\base.get? bm=some ob/\ob.cls=.type "module" /\ ob.dict=some builtinsNs/\ob.data=.plain
section
variable {X:Cx}{pins:List (Addr×Obj)}{σ:L2.St}{H:Hp}{s:Shared}
theorem Q5 {P:Addr}{κ:CK}{T:jI}{clos:List (Str×Addr)}{lpos:Pos}{Q:Value->Shared->Prop}{E:Value->Shared->Prop}(I:Inv X pins σ H s)(hR:LY X.K H P κ)(hBm:rE X.mg X.base)(hq:T.q=X.env.qual ++"<lambda>")(hκ:T.q=⟨κ.q.toArray⟩)(hln:κ.ln=lpos.line)(hcol:κ.col=lpos.col)(hcode:X.env.code=.ref κ.c)
  (hcl:closureFor T.scope X.env=pure clos)(hdef:defaultsOf T.params X.env=([],[]))
  (h:∀(pm ctv:Value)(c' a:Addr)(oc:Obj)(s':Shared)(H':Hp),Inv X pins σ H' s'->s'.os=s.os->s'.heap.get? a=some (PySem.W.kla_obj "<lambda>" T.q T.params T.body T.scope clos pm c' ctv)->H' a=none->H a=none->s.heap.objs.size<=a->H' c'=some (.frz oc (.own 0))->L5 oc T.q->LY X.K H' P κ ->
   (∀ b y,b≠P->H b=some y->H' b=some y)->(∀ b o,b≠P->s.heap.get? b=some o->s'.heap.get? b=some o)->Q (.ref a) s'):
  wpAny (model X.prog X.w) X.A (eval (.Lambda T.params T.body T.scope lpos) X.env) Q E s:=by
 obtain⟨hhd,hps⟩:=hR
 have hg:s.heap.Ns mainGlobals X.mg:=I.mod.glob.keeps I.bk
 have C:PySem.W.CodeHd s.heap κ.c P:=PySem.W.codeHd_of_K I.iA hhd
 have hPs:∃ ps,H P=some (.tbl ps):=by
  rcases hps with q|⟨_,_,q,_⟩
  ·exact⟨_,q⟩
  ·exact⟨_,q⟩
 have hne:∀{b:Addr}{o:Obj},X.base.get? b=some o->b≠P:=fun{b o} e z=>by
  obtain⟨ps,q⟩:=hPs
  have:=(I.bs b o e).2
  rw[z,q]at this;cases this
 have hgP:mainGlobals≠P:=by
  obtain⟨o,_,_,e,_⟩:=I.mod.glob
  exact hne e
 have hB:s.heap.BuiltinsAt X.mg P:=by
  obtain⟨bm,ob,b1,b2,b3,b4,b5,b6⟩:=hBm
  refine⟨bm,ob,b1,b2,fun z=>?_,hne b3,I.bk _ _ b3,b4,b5,b6⟩
  obtain⟨o,es,ep,e,hd,_⟩:=I.mod.glob
  rw[z,e]at b3;cases b3;rw[hd]at b6;cases b6
 refine PySem.W.kla_eval hdef ?_
 rw[<-hq]
 rcases hps with q|⟨c',oc,q,ec,co⟩
 ·have hP:s.heap.get? P=some (PySem.W.tabObj #[]):=I.bJ P _ q
  refine PySem.W.kla_makeFunction (mg:=X.mg) hcl I.ok.glob hg hcode C hP True.intro rfl hgP hB fun c' ctv h' tk hx hge cQ hrec htb=>?_
  obtain⟨c2,oc,vs,t,e2,hoc,hd,hv⟩:=hrec
  cases e2
  have hc0:H c'=none:=I.bJ.fresh hge
  have cP:c'≠P:=fun z=>by rw[z,q]at hc0;cases hc0
  have hszle:s.heap.objs.size<=h'.objs.size:=Nat.le_trans hge (Nat.le_of_lt cQ)
  have ha0:H h'.objs.size=none:=I.bJ.fresh hszle
  have aP:h'.objs.size≠P:=fun z=>by rw[z,q]at ha0;cases ha0
  have ac:h'.objs.size≠c':=Nat.ne_of_gt cQ
  have ko:∀ b o,b≠P->s.heap.get? b=some o->(h'.push (PySem.W.kla_obj "<lambda>" T.q T.params T.body T.scope clos ((X.mg "__name__").getD .none) c' ctv)).get? b=some o:=fun b o n e=>Heap.get?_push_of_some _ (hx b o n e)
  have kH:∀ b y,b≠P->H b=some y->upd (upd H P (.tbl #[rawInt lpos.line,rawInt lpos.col,.ref c'])) c' (.frz oc (.own 0)) b=some y:=fun b y n e=>by
   rw[aY (fun z=>by rw[z,hc0]at e;cases e),aY n];exact e
  have kN:∀ b,b≠P->b≠c'->H b=none->upd (upd H P (.tbl #[rawInt lpos.line,rawInt lpos.col,.ref c'])) c' (.frz oc (.own 0)) b=none:=fun b n n' e=>by rw[aY n',aY n];exact e
  have hPn:upd (upd H P (.tbl #[rawInt lpos.line,rawInt lpos.col,.ref c'])) c' (.frz oc (.own 0)) P=some (.tbl #[rawInt lpos.line,rawInt lpos.col,.ref c']):=by rw[aY cP.symm,cZ]
  have nP:∀{b},H b=none->b≠P:=fun{b} n z=>by rw[z,q]at n;cases n
  refine h _ ctv c' h'.objs.size oc _ _ (I.un (t':=tk) (H':=upd (upd H P (.tbl #[rawInt lpos.line,rawInt lpos.col,.ref c'])) c' (.frz oc (.own 0))) ⟨fun b o e n _ _=>ko b o (nP n) e,fun b o e n _ _=>⟨o.slots,ko b o (nP n) e⟩,fun b o e n _=>kN b (nP n) (Nat.ne_of_lt (Nat.lt_of_lt_of_le (Heap.lt_size e) hge)) n,fun b o e _=>?_,fun b xs e=>kH b _ (fun z=>by rw[z,q]at e;cases e) e,fun b o u e=>kH b _ (fun z=>by rw[z,q]at e;cases e) e,fun b ps e=>?_⟩ (fun b o e=>?_)) rfl (Heap.get?_push_size _ rfl) (kN _ aP ac ha0) ha0 hszle cZ ⟨vs,t,hd,hv⟩ ⟨hhd,.inr ⟨c',oc,?_,cZ,by rw[<-hκ];exact⟨vs,t,hd,hv⟩⟩⟩ kH ko
  ·by_cases z:b=P
   ·subst z;exact⟨_,Heap.get?_push_of_some _ htb⟩
   ·exact⟨o,ko b o z e⟩
  ·by_cases z:b=P
   ·subst z
    rw[q]at e;cases e
    exact⟨#[rawInt lpos.line,rawInt lpos.col,.ref c'],hPn⟩
   ·exact⟨#[],by rw[kH b _ z e];simp⟩
  ·by_cases z:b=c'
   ·subst z
    rw[cZ]at e;cases e
    exact⟨Heap.get?_push_of_some _ hoc,oc,Heap.get?_push_of_some _ hoc⟩
   ·rw[aY z]at e
    by_cases z2:b=P
    ·subst z2
     rw[cZ]at e;cases e
     exact Heap.get?_push_of_some _ htb
    ·rw[aY z2]at e
     refine(I.bJ b o e).nX (fun c v hc w=>ko c v ?_ w) (fun b' w=>kH b' _ (fun z=>by rw[z,q]at w;cases w) w) fun b' xs w=>kH b' _ (fun z=>by rw[z,q]at w;cases w) w
     rcases hc with rfl|hc
     ·exact z2
     ·exact fun z=>by rw[z,q]at hc;cases hc
  ·rw[hPn,hln,hcol]
 ·have hP:s.heap.get? P=some (PySem.W.tabObj #[rawInt κ.ln,rawInt κ.col,.ref c']):=I.bJ P _ q
  have hf:codeAmong lpos (#[rawInt κ.ln,rawInt κ.col,.ref c']:Array Value).toList=some (.ref c'):=by rw[hln,hcol];simp [codeAmong,rawInt]
  refine PySem.W.kla_makeFunctionHit (mg:=X.mg) hcl I.ok.glob hg hcode C hP True.intro hf hB fun ctv h' tk hk jK=>?_
  have ha0:H h'.objs.size=none:=I.bJ.fresh jK
  refine h _ ctv c' h'.objs.size oc _ H (I.kept (t':=tk) fun b o e=>Heap.get?_push_of_some _ (hk b o e)) rfl (Heap.get?_push_size _ rfl) ha0 ha0 jK ec (by rw[hκ];exact co) ⟨hhd,.inr ⟨c',oc,q,ec,co⟩⟩ (fun _ _ _ e=>e) fun b o _ e=>Heap.get?_push_of_some _ (hk b o e)
end
end L3
end
section
namespace L3
open PySem PySem.Spec PyProof.Rows L2
theorem KS {h:Heap}{cells clos:List (Str×Addr)}{xs:List Str}{vs:List V}(c:mC h cells xs vs)(k:∀ x∈xs,clos.lookup x=cells.lookup x):mC h clos xs vs:=by
 induction c with
 |nil=>exact .nil
 |cons cl o u l q d r t ih=>exact .cons cl o u (by rw[k _ (List.mem_cons_self ..)];exact l) q d r (ih fun x hx=>k x (List.mem_cons_of_mem _ hx))
theorem FU {cells:List (Str×Addr)}{L:List Str}:∀(names:List (Str×NameKind))(cs:List (Str×Addr)){x:Str}{c:Addr},(∀ p∈names,p.2=.free->p.1∈L)->(∀ x c,cs.lookup x=some c->x∈L)->(jV cells names cs).lookup x=some c->x∈L
 |[],cs,x,c,_,h,e=>h x c e
 |(n,k)::r,cs,x,c,hn,h,e=>by
  simp only[jV]at e
  refine FU r _ (fun p hp=>hn p (List.mem_cons_of_mem _ hp)) (fun y d ed=>?_) e
  split at ed
  ·rename_i hk
   rw[List.lookup_cons]at ed
   split at ed
   ·rename_i q
    have q:y=n:=by simpa using q
    rw[q];exact hn (n,k) (List.mem_cons_self ..) (by simpa using hk)
   ·exact h y d ed
  ·exact h y d ed
theorem ND {h:Heap}{cells:List (Str×Addr)}{xs:List Str}{vs:List V}(c:mC h cells xs vs):∀ x∈xs,∃ cl o u,cells.lookup x=some cl/\h.get? cl=some o/\o.data=.cell (some u):=by
 induction c with
 |nil=>intro x hx;cases hx
 |cons cl o u l q d r t ih =>
 intro x hx
 rcases List.mem_cons.mp hx with rfl|hx
 ·exact⟨cl,o,u,l,q,d⟩
 ·exact ih x hx
section
variable {X:Cx}{C:aX}{sub:Nat->Nat->Bool}{k fid g:Nat}{f:Addr}{fd:FuncData}{ps:List Str}{n:Str}{p pos lpos:Pos}{e1 e2:Expr}{x1 x2:Ex}{T:jI}{aL:List Nat}{κ:CK}
theorem V7 (F:eI X.prog X.w X.K X.mg X.base dD k f fd ps (eU X.K C fid))(hr:cL k X.A)(hg:Gl X n)(hm:X.mg n=some (.ref f))(hk:PySem.W.keepIn X.K (.ref f)=true)(hb:Binds X.K fd ps [])
  (h1:PE X e1 (bN X.K (aG C sub (fun _ _=>False) x1)))(h2:PE X e2 (bN X.K (aG C sub (fun _ _=>False) x2)))(hBm:rE X.mg X.base)(hT:LT g=some T)(hq:T.q=X.env.qual ++"<lambda>")(hκ:T.q=⟨κ.q.toArray⟩)(hln:κ.ln=lpos.line)(hcol:κ.col=lpos.col)(hcode:X.env.code=.ref κ.c)
  (hfn:∀ x,X.fn x=true)(hfree:∀ p∈T.scope.names,p.2=.free->p.1∈T.aL)(hcapf:∀ x∈T.aL,T.scope.names.lookup x=some .free)(hcap:∀(j:Nat)(x:Str),T.aL[j]? = some x->∃ i,aL[j]? = some i/\X.N[i]? = some x/\X.env.scope.names.lookup x=some .cell)(hlen:T.aL.length=aL.length)
  (hdef:defaultsOf T.params X.env=([],[]))(hdb:(n==("__debug__" : Str))=false)(he:starEach [e1,e2,.Lambda T.params T.body T.scope lpos] X.env=[(false,eval e1 X.env),(false,eval e2 X.env),(false,eval (.Lambda T.params T.body T.scope lpos) X.env)])(he2:starEach [e2,.Lambda T.params T.body T.scope lpos] X.env=[(false,eval e2 X.env),(false,eval (.Lambda T.params T.body T.scope lpos) X.env)]):
  PE X (.Call (.Name n p) [e1,e2,.Lambda T.params T.body T.scope lpos] [] pos) (bN X.K (aG C sub (fun _ _=>False) (.callL fid [x1,x2] g aL κ))):=by
 intro pins s σ H Q I ⟨σd,st,R,r,ok,q,hq0⟩
 refine wpAny_Call_Name_kw (xG I hg hm ?_ hdb)
 refine PySem.W.callWith_K (h₀:=X.base) I.ok.mod.kin hk ?_ (by rw[he,he2]) (by rw[he2];rfl)
 rw[he]
 show wpAny _ _ (spliced [(false,eval e1 X.env),(false,eval e2 X.env),(false,eval (.Lambda T.params T.body T.scope lpos) X.env)]) _ _ s
 refine Calls.spliced_cons (aV (h1 pins s σ H _ I ⟨σd,st,_,r,ok,q,fun v H' z=>z⟩) fun u1 s1 z=>?_)
 obtain⟨v1,H1,I1,rv1,d1,aC,ss1,aN,rd1,q1⟩:=z
 have r1:=r.step ok ss1
 refine Calls.spliced_cons (aV (h2 pins s1 σ H1 _ I1 ⟨σd,aC,_,r1,aN,q1,fun v H' z=>z⟩) fun u2 s2 z=>?_)
 obtain⟨v2,H2,I2,rv2,d2,aF,ss2,bO,rd2,q2⟩:=z
 have r2:=r1.step aN ss2
 obtain⟨⟨P,eP⟩,q3⟩:=q2
 obtain⟨cs,cl1,cl2,q4⟩:=DZ q3
 obtain⟨cvs,rcs,cH⟩:=AX I2 r2 T.aL aL cs hcap hlen cl1 cl2
 have hcellsX:∀ p∈T.scope.names,p.2=.free->∃ c,X.env.cells.lookup p.1=some c:=fun p hp hf=>by
  obtain⟨j,hj⟩:=List.getElem?_of_mem (hfree p hp hf)
  obtain⟨i,_,_,e⟩:=hcap j _ hj
  exact I2.ok.has _ (.inl e)
 generalize hclos:jV X.env.cells T.scope.names []=clos
 have hcl:closureFor T.scope X.env=pure clos:=by rw[<-hclos];exact nY hcellsX
 have csub:∀ x c,clos.lookup x=some c->X.env.cells.lookup x=some c:=fun x c e=>by rw[<-hclos]at e;exact jW _ _ hcellsX (fun _ _ z=>by simp at z) e
 have chas:∀ x∈T.aL,clos.lookup x=X.env.cells.lookup x:=fun x hx=>by
  obtain⟨c,e⟩:=sU (cells:=X.env.cells) T.scope.names [] (hcapf x hx)
  rw[hclos]at e
  rw[e,csub x c e]
 have cdom:∀ x c,clos.lookup x=some c->x∈T.aL:=fun x c e=>by
  rw[<-hclos]at e
  exact FU T.scope.names [] (fun p hp hf=>hfree p hp hf) (fun x c z=>by simp at z) e
 have hCod:LY X.K H2 P κ:=bO P _ eP
 refine Calls.spliced_cons (Q5 I2 hCod hBm hq hκ hln hcol hcode hcl hdef fun pm ctv c' a oc s3 H3' I3 os3 ea na na2 asz ec co hCod3 kH ko=>?_)
 refine Calls.spliced_nil ⟨I3.iA,?_⟩
 obtain⟨psP,hP2⟩:∃ ps,H2 P=some (.tbl ps):=by
  obtain⟨_,z|⟨_,_,z,_⟩⟩:=hCod
  ·exact⟨_,z⟩
  ·exact⟨_,z⟩
 have sizeP:∀ x c,X.env.cells.lookup x=some c->H2 c=none/\H3' c=none/\c≠a/\c≠P:=fun x c e=>by
  have h2:=I2.jJ x c e
  have h3:=I3.jJ x c e
  obtain⟨v,o,ho,_⟩:=I2.cell x c e
  refine⟨h2,h3,fun z=>?_,fun z=>?_⟩
  ·have cQ:=Heap.lt_size ho
   rw[z]at cQ
   exact absurd (Nat.lt_of_lt_of_le cQ asz) (Nat.lt_irrefl _)
  ·rw[z,hP2]at h2;cases h2
 have ne0:a≠0:=fun z=>by
  have cQ:=I2.lt
  rw[z]at asz
  exact absurd (Nat.lt_of_lt_of_le cQ asz) (Nat.not_lt_zero _)
 have cH3:mC s3.heap clos T.aL cvs:=K2 (KS cH chas) fun x cl o u e h0 _=>ko cl o (sizeP x cl (csub x cl e)).2.2.2 h0
 generalize hfo:PySem.W.kla_obj "<lambda>" T.q T.params T.body T.scope clos pm c' ctv=fo at ea
 generalize hl:M1 clos T.aL=l
 have lmem:∀ c∈l,∃ x o,X.env.cells.lookup x=some c/\s3.heap.get? c=some o:=fun c hc=>by
  rw[<-hl]at hc
  obtain⟨x,hx,e⟩:=List.mem_filterMap.mp hc
  obtain⟨cl,o,u,e2,e3,_⟩:=ND cH3 x hx
  rw[e]at e2;cases e2
  exact⟨x,o,csub x c e,e3⟩
 have lH:∀ c∈l,H2 c=none/\H3' c=none/\c≠a/\c≠P:=fun c hc=>by
  obtain⟨x,_,e,_⟩:=lmem c hc
  exact sizeP x c e
 have nl:∀{b y},H3' b=some y->b≠a/\b∉l:=fun{b y} e=>⟨(fun z=>by rw[z,na]at e;cases e),(fun z=>by rw[(lH b z).2.1]at e;cases e)⟩
 have k3:∀{b y},H3' b=some y->iC H3' s3.heap a fo l b=some y:=fun{b y} e=>by rw[wH (nl e).1 (nl e).2];exact e
 have k23:∀{b y},b≠P->H2 b=some y->iC H3' s3.heap a fo l b=some y:=fun{b y} n e=>k3 (kH b y n e)
 have hst2:aF a=none:=bO.fresh na2
 have stepS:Step H2 aF (iC H3' s3.heap a fo l) (put aF a (.fn g cs)):=fun b o e nn=>by
  have ba:b≠a:=fun z=>by rw[z,na2]at e;cases e
  exact⟨k23 (fun z=>by rw[z,eP]at nn;cases nn) e,by rw[bL ba];exact nn⟩
 have e3:=I3.KP
 have nS:aQ X.K (put aF a (.fn g cs)) (iC H3' s3.heap a fo l):=fun b o e=>by
  by_cases ba:b=a
  ·subst ba
   rw[bB]at e;cases e
   refine⟨cvs,⟨T,clos,pm,ctv,c',oc,ne0,hT,by rw[hfo];exact GB,k3 ec,co,fun x y c h1 h2=>I2.ok.inj x y c (csub x c h1) (csub y c h2),cdom,?_⟩,rcs.step bO stepS⟩
   rw[<-hl]
   exact H0 cH3 (fun x cl e=>(sizeP x cl (csub x cl e)).2.2.1) fun x hx=>hx
  ·rw[bL ba]at e
   by_cases bP:b=P
   ·subst bP
    rw[eP]at e;cases e
    obtain⟨z0,z|⟨c2,oc2,z1,z2,z3⟩⟩:=hCod3
    ·exact⟨z0,.inl (k3 z)⟩
    ·exact⟨z0,.inr ⟨c2,oc2,k3 z1,k3 z2,z3⟩⟩
   ·obtain⟨o',z,_⟩:=(bO b o e).bears
    exact(bO b o e).step bO stepS (by rw[k23 bP z,z])
 have env3:rJ X.prog X.w X.K X.mg X.base X.A X.stack s3 (iC H3' s3.heap a fo l):=by
  refine⟨e3.frames,e3.mod,fun b o e=>⟨(e3.bs b o e).1,?_⟩,e3.bsz,e3.kC,fun b hb=>?_,fun b o e=>?_,e3.bare⟩
  ·have b1:b≠a:=fun z=>by
    have cQ:=Heap.lt_size (I2.bk b o e)
    rw[z]at cQ
    exact absurd (Nat.lt_of_lt_of_le cQ asz) (Nat.lt_irrefl _)
   have b2:b∉l:=fun z=>by
    obtain⟨x,_,ex,_⟩:=lmem b z
    have cQ:=Heap.lt_size (I2.ok.bs b o e).1
    exact absurd (Nat.lt_of_lt_of_le cQ (I2.ok.cab x b (hfn x) ex)) (Nat.lt_irrefl _)
   rw[wH b1 b2];exact(e3.bs b o e).2
  ·have b1:b≠a:=fun z=>by
    obtain⟨_,o,ho,_⟩:=I2.stack.mem hb
    have cQ:=Heap.lt_size ho
    rw[z]at cQ
    exact absurd (Nat.lt_of_lt_of_le cQ asz) (Nat.lt_irrefl _)
   have b2:b∉l:=fun z=>by
    obtain⟨x,_,ex,_⟩:=lmem b z
    rcases List.mem_cons.mp (I2.BE b hb)with e|hb
    ·exact I2.CP x b ex e
    ·obtain⟨_,o,ho,_⟩:=I2.ok.kC.mem hb
     exact absurd (Nat.lt_of_lt_of_le (Heap.lt_size ho) (I2.ok.cab x b (hfn x) ex)) (Nat.lt_irrefl _)
   rw[wH b1 b2];exact e3.frf b hb
  ·by_cases ba:b=a
   ·subst ba
    rw[GB]at e;cases e
    exact⟨ea,ea,fo,ea⟩
   ·by_cases bl:b∈l
    ·obtain⟨x,ob,_,eb⟩:=lmem b bl
     rw[G3 ba bl eb]at e;cases e
     exact⟨eb,ob,eb⟩
    ·rw[wH ba bl]at e
     exact(I3.bJ b o e).nX (fun _ _ _ q=>q) (fun b' q=>k3 q) fun b' xs q=>k3 q
 have rr:aJ X.K (iC H3' s3.heap a fo l) [d1,d2,.ref a] [v1,v2,.ref a]:=.cons ((rd1.step aN ss2).step bO stepS) (.cons (rd2.step bO stepS) (.cons (.ref a) .nil))
 have vv:aO [v1,v2,.ref a] [u1,u2,.ref a]:=.cons rv1 (.cons rv2 (.cons rfl .nil))
 have hsp:eU X.K C fid [v1,v2,.ref a] (iC H3' s3.heap a fo l) (fun v H'=>QD X.K (iC H3' s3.heap a fo l) (put aF a (.fn g cs)) (fun d aB=>R d (del aB a)) v H') E0:=⟨[d1,d2,.ref a],_,_,rr,nS,q4 a hst2,fun v H' z=>z⟩
 have hlen3:([u1,u2,.ref a]:List Value).length=ps.length:=by rw[<-vv.length];exact F.len _ _ _ _ hsp
 refine wpAny_call (codeAny_mono (F.run X.A X.stack s3 _ ⟨[u1,u2,.ref a],[]⟩ [u1,u2,.ref a] [v1,v2,.ref a] _ E0 hr env3 (hb s3 [u1,u2,.ref a] I3.iA (by rw[List.append_nil];exact hlen3)) vv hsp) fun rs s4 hq4=>?_)
 cases rs with
 |error e=>exact False.elim hq4
 |ok fl =>
  cases fl with
  |next=>exact False.elim hq4
  |brk=>exact False.elim hq4
  |cont=>exact False.elim hq4
  |ret u =>
   obtain⟨v,H4,os4,bare4,un,hok4,rv4,z4⟩:=hq4
   obtain⟨d,dR,s34,KH,r4,q5⟩:=z4
   have h4a:H4 a=some (.frz fo (.frz fo (.own a))):=un.mG a _ _ GB
   have h4l:∀ c∈l,∃ o,s3.heap.get? c=some o/\H4 c=some (.frz o (.own a))/\s4.heap.get? c=some o:=fun c hc=>by
    obtain⟨x,o,_,eo⟩:=lmem c hc
    have h:=un.mG c _ _ (G3 (lH c hc).2.2.1 hc eo)
    exact⟨o,eo,h,(hok4 c _ h).1⟩
   have nb:∀{b y},H3' b=some y->b∉a::l:=fun{b y} e z=>by
    rcases List.mem_cons.mp z with z|z
    ·exact(nl e).1 z
    ·exact(nl e).2 z
   have keepO:∀ b o,s3.heap.get? b=some o->H3' b=none->(b∈a::l->s4.heap.get? b=some o):=fun b o e n z=>by
    rcases List.mem_cons.mp z with z|z
    ·subst z;rw[ea]at e;cases e;exact(hok4 b _ h4a).1
    ·obtain⟨o',e1,_,e2⟩:=h4l b z
     rw[e]at e1;cases e1;exact e2
   have lo:∀{b},b∉a::l->iC H3' s3.heap a fo l b=H3' b:=fun{b} z=>wH (fun w=>z (by rw[w];exact List.mem_cons_self ..)) fun w=>z (List.mem_cons_of_mem _ w)
   have kp:Kp H4 (wY H4 (a::l)) a:=fun b y e n1 n2=>by
    rw[pR];·exact e
    intro z
    rcases List.mem_cons.mp z with z|z
    ·rw[z,h4a]at e;exact n2 _ _ (Option.some.inj e).symm
    ·obtain⟨o,_,h,_⟩:=h4l b z
     rw[h]at e;exact n1 _ (Option.some.inj e).symm
   have I4:Inv X pins σ (wY H4 (a::l)) s4:=by
    refine I3.SR (ch:=[]) os4 ⟨fun b o e n hb hx=>?_,fun b o e n hb hx=>?_,fun b o e n hx=>?_,fun b o e hx=>un.there b o e hx,fun b xs e=>?_,fun b o u e=>?_,fun b ps e=>?_⟩ (fun b o e=>?_) bare4 (fun b z=>absurd z (by simp))
    ·by_cases z:b∈a::l
     ·exact keepO b o e n z
     ·exact un.keep b o e (by rw[lo z];exact n) hb hx
    ·by_cases z:b∈a::l
     ·exact⟨o.slots,keepO b o e n z⟩
     ·exact un.slot b o e (by rw[lo z];exact n) hb hx
    ·by_cases z:b∈a::l
     ·exact M2 z
     ·rw[pR z];exact un.free b o e (by rw[lo z];exact n) hx
    ·rw[pR (nb e)];exact un.pZ b xs (k3 e)
    ·rw[pR (nb e)];exact un.mG b o u (k3 e)
    ·rw[pR (nb e)];exact un.oE b ps (k3 e)
    ·by_cases z:b∈a::l
     ·rw[M2 z]at e;cases e
     ·rw[pR z]at e
      exact(hok4 b o e).nX (fun _ _ _ q=>q) (fun b' q=>kp b' _ q (fun _ z=>nomatch z) (fun _ _ z=>nomatch z)) fun b' xs q=>kp b' _ q (fun _ z=>nomatch z) (fun _ _ z=>nomatch z)
   refine⟨v,_,I4,rv4,hq0 v _ (.after ss1 (.after ss2 ⟨d,del dR a,fun b o e nn=>?_,fun b o e=>?_,r4.to kp,q5⟩))⟩
   ·obtain⟨z1,z2⟩:=stepS b o e nn
    obtain⟨z3,z4⟩:=s34 b o z1 z2
    have ba:b≠a:=fun z=>by rw[z,na2]at e;cases e
    have bl:b∉a::l:=fun z=>by
     rcases List.mem_cons.mp z with z|z
     ·exact ba z
     ·rw[(lH b z).1]at e;cases e
    exact⟨by rw[pR bl];exact z3,by rw[zC ba];exact z4⟩
   ·obtain⟨z1,z2⟩:=IQ e
    exact JH kp ne0 z2 (KH b o z1)
end
end L3
end
section
namespace L3
open PySem PySem.Spec PyProof.Rows L2
theorem OM {P:Program}{w:World}{K:PySem.W.Frag}{mg mb:Str->Option Value}{k:Nat}{fa a:Addr}{fd:FuncData}{x:Str}{sp:Sp}{s₁:Shared}{vs:List Value}{ns:List Int}{tabs:List (CK×Addr)}
  (KX:K.In s₁.heap)(hns:s₁.heap.Ns mainGlobals mg)(hb:s₁.heap.Ns builtinsNs mb)(hbb:∀ x:Str,x ≠"__name__" -> mb x=bootBuiltins x)(hlim:s₁.heap.NoLimit)(hg:s₁.gens = #[])
  (hB:rE mg s₁.heap)(t1:∀ p∈tabs,s₁.heap.get? p.2=some { cls:=.none,data:=.fields #[] })(t2:∀ p∈tabs,PySem.W.codeHdIn K p.1.c p.2=true)(t3:∀ p∈tabs,K.lookup p.2=none)
  (ha:s₁.heap.get? a=some { cls:=.type "list", data:=.seq vs.toArray })(hi:IntsAre vs ns)(hl:ns.length<=sizeLine)(hr:cL k callerA)
  (F:∀ base:Heap,K.In base->base.Ns mainGlobals mg->rE mg base->eI P w K mg base dD k fa fd [x] sp)(hbind:∀(s:Shared)(u:Value),BindsTo s fd ⟨[u],[]⟩ [(x,u)])
  (hsp:∀ H:Hp,(∀ p∈tabs,H p.2=some (.tbl #[]))->kR K H a (ns.map V.int)->sp [.ref a] H (fun v _=>v=.bl true) fun _ _ _=>False):
  codeAny (model P w) callerA (.call (.ref fa) ⟨[.ref a],[]⟩) (fun r s'=>r=.ok (.ret (.bool true))/\OldK s₁.heap s'.heap/\s'.os=s₁.os/\AllBare s'.gens) s₁:=by
 have rv:=D2 hi
 have lenV:=hi.length
 have aT:∀ p∈tabs,p.2≠a:=fun p hp z=>by
  have:=t1 p hp
  rw[z,ha]at this;cases this
 have core:∀ H:Hp,(∀ p∈tabs,H p.2=some (.tbl #[]))->kR K H a (ns.map V.int)->fT P w H s₁.heap->(∀ b,H b≠none->b=a∨∃ p∈tabs,b=p.2)->(∀ b u,H b=some u->(∃ o xs,u=.frz o xs)∨∃ p∈tabs,b=p.2)->(H a≠none->K.lookup a=none) ->
   codeAny (model P w) callerA (.call (.ref fa) ⟨[.ref a],[]⟩) (fun r s'=>r=.ok (.ret (.bool true))/\OldK s₁.heap s'.heap/\s'.os=s₁.os/\AllBare s'.gens) s₁:=by
  intro H hT hS bJ hA hO hK
  have base_of:∀{b:Addr}{o:Obj},s₁.heap.get? b=some o->H b=none->(rF s₁.heap H).get? b=some o:=fun e n=>PM e n
  have noK:∀{b:Addr}{o:Obj},K.lookup b=some o->H b=none:=fun{b o} e=>by
   cases q:H b with
   |none=>rfl
   |some u =>
    rcases hA b (by rw[q];simp)with z|⟨p,hp,z⟩
    ·subst z
     rw[hK (by rw[q];simp)]at e;cases e
    ·subst z
     rw[t3 p hp]at e;cases e
  have noA:∀{b:Addr}{o:Obj},s₁.heap.get? b=some o->(∀ xs,o.data≠.seq xs)->(∀ ps,o.data≠.fields ps)->H b=none:=fun{b o} e d1 d2=>by
   cases q:H b with
   |none=>rfl
   |some u =>
    rcases hA b (by rw[q];simp)with z|⟨p,hp,z⟩
    ·subst z
     rw[ha]at e;cases e
     exact absurd rfl (d1 _)
    ·subst z
     rw[t1 p hp]at e;cases e
     exact absurd rfl (d2 _)
  have nsK:∀{b:Addr}{m:Str->Option Value},s₁.heap.Ns b m->(rF s₁.heap H).Ns b m:=fun{b m} ⟨o,es,ep,e,d,r⟩=>⟨o,es,ep,base_of e (noA e (fun _ z=>by rw[d]at z;cases z) (fun _ z=>by rw[d]at z;cases z)),d,r⟩
  have hKb:K.In (rF s₁.heap H):=fun b o e=>base_of (KX b o e) (noK e)
  have hBb:rE mg (rF s₁.heap H):=by
   obtain⟨bm,ob,b1,b2,b3,b4,b5,b6⟩:=hB
   exact⟨bm,ob,b1,b2,base_of b3 (noA b3 (fun _ z=>by rw[b6]at z;cases z) (fun _ z=>by rw[b6]at z;cases z)),b4,b5,b6⟩
  have hM:Mod K mg (rF s₁.heap H):=⟨hKb,nsK hns,⟨mb,nsK hb,hbb⟩,let⟨mc,h1,h2⟩:=hlim;⟨mc,nsK h1,h2⟩⟩
  have e0:rJ P w K mg (rF s₁.heap H) callerA [] s₁ H:=⟨rfl,hM,fun b o e=>UT e,Nat.le_of_eq (OP _ _),trivial,fun b hb=>absurd (show b∈([]:List Addr)from hb) (by simp),bJ,.of_eq hg⟩
  refine codeAny_mono ((F _ hKb (nsK hns) hBb).run callerA [] s₁ H ⟨[.ref a],[]⟩ [.ref a] [.ref a] _ _ hr e0 (hbind s₁ (.ref a)) (.cons rfl .nil) (hsp H hT hS)) fun r s' h=>?_
  cases r with
  |error e=>exact h.elim
  |ok fl =>
   cases fl with
   |next=>exact False.elim h
   |brk=>exact False.elim h
   |cont=>exact False.elim h
   |ret u =>
    obtain⟨v,H',os,bare,un,hok',r',q⟩:=h
    have q':v=.bl true:=q
    subst q'
    obtain rfl:u=Value.bool true:=r'
    have tb:∀ p∈tabs,∃ more,s'.heap.get? p.2=some { cls:=.none,data:=.fields (#[]++more) }:=fun p hp=>by
     obtain⟨more,z⟩:=un.oE p.2 _ (hT p hp)
     exact⟨more,hok' _ _ z⟩
    have fr:∀ b o,s₁.heap.get? b=some o->(¬∃ p∈tabs,b=p.2)->s'.heap.get? b=some o:=fun b o e nt=>by
     cases q:H b with
     |none=>exact un.keep b o e q (by intro z;exact absurd (show b∈([]:List Addr)from z) (by simp)) (by simp)
     |some u =>
      rcases hO b u q with⟨ob,xs,z⟩|z
      ·subst z
       have z2:=un.mG b ob _ q
       obtain⟨e1,_⟩:=bJ b _ q
       obtain⟨e2,_⟩:=hok' b _ z2
       rw[e]at e1;cases e1
       exact e2
      ·exact absurd z nt
    refine⟨rfl,⟨fun b o e=>?_,fun b o e=>?_⟩,os,bare⟩
    ·by_cases h:∃ p∈tabs,b=p.2
     ·obtain⟨p,hp,z⟩:=h
      subst z
      obtain⟨more,z⟩:=tb p hp
      rw[t1 p hp]at e;cases e
      obtain⟨oc,ws,_,_,_,_,_,_,_,c1,c2,c3,c4,_⟩:=PySem.W.codeHd_of_K KX (t2 p hp)
      exact .inr (.inl ⟨⟨_,oc,ws,c1,c2,c3,c4⟩,rfl,#[],more,rfl,z⟩)
     ·exact .inl (fr b o e h)
    ·by_cases h:∃ p∈tabs,b=p.2
     ·obtain⟨p,hp,z⟩:=h
      subst z
      obtain⟨more,z⟩:=tb p hp
      exact⟨_,z⟩
     ·exact⟨o,fr b o e h⟩
 have tn:∀ b,b∈tabs.map (·.2)->∃ p∈tabs,b=p.2:=fun b hb=>by
  obtain⟨p,hp,z⟩:=List.mem_map.mp hb
  exact⟨p,hp,z.symm⟩
 have na:a∉tabs.map (·.2):=fun z=>by
  obtain⟨p,hp,e⟩:=tn a z
  exact aT p hp e.symm
 cases hk:K.lookup a with
 |some o =>
  have e:=KX a o hk
  rw[ha]at e
  cases e
  refine core (fun b=>if b∈tabs.map (·.2)then some (.tbl #[])else none) (fun p hp=>if_pos (List.mem_map.mpr ⟨p,hp,rfl⟩)) (.inr ⟨_,vs.toArray,_,hk,rfl,rfl,rfl,by rw[List.size_toArray,lenV];exact hl,by simpa using rv⟩) (fun b u z=>?_) (fun b z=>?_) (fun b u z=>?_) fun z=>absurd (if_neg na) z
  ·by_cases hb:b∈tabs.map (·.2)
   ·have z':=(if_pos hb).symm.trans z
    cases z'
    obtain⟨p,hp,e⟩:=tn b hb
    subst e
    exact t1 p hp
   ·have z':=(if_neg hb).symm.trans z
    cases z'
  ·by_cases hb:b∈tabs.map (·.2)
   ·exact .inr (tn b hb)
   ·exact absurd (if_neg hb) z
  ·by_cases hb:b∈tabs.map (·.2)
   ·exact .inr (tn b hb)
   ·have z':=(if_neg hb).symm.trans z
    cases z'
 |none =>
  refine core (fun b=>if b∈tabs.map (·.2)then some (.tbl #[])else if b=a then some (.frz { cls:=.type "list", data:=.seq vs.toArray } (.lst (ns.map V.int)))else none) (fun p hp=>if_pos (List.mem_map.mpr ⟨p,hp,rfl⟩)) (.inl ⟨{ cls:=.type "list", data:=.seq vs.toArray },(if_neg na).trans (if_pos rfl)⟩) (fun b u z=>?_) (fun b z=>?_) (fun b u z=>?_) fun _=>hk
  ·by_cases hb:b∈tabs.map (·.2)
   ·have z':=(if_pos hb).symm.trans z
    cases z'
    obtain⟨p,hp,e⟩:=tn b hb
    subst e
    exact t1 p hp
   ·have z1:=(if_neg hb).symm.trans z
    by_cases hb:b=a
    ·have z':=(if_pos hb).symm.trans z1
     cases z'
     subst hb
     exact⟨ha,by rw[List.length_map];exact hl,vs,_,rv,ha⟩
    ·have z':=(if_neg hb).symm.trans z1
     cases z'
  ·by_cases hb:b∈tabs.map (·.2)
   ·exact .inr (tn b hb)
   ·by_cases hb2:b=a
    ·exact .inl hb2
    ·exact absurd ((if_neg hb).trans (if_neg hb2)) z
  ·by_cases hb:b∈tabs.map (·.2)
   ·exact .inr (tn b hb)
   ·have z1:=(if_neg hb).symm.trans z
    by_cases hb2:b=a
    ·have z':=(if_pos hb2).symm.trans z1
     cases z'
     exact .inl ⟨_,_,rfl⟩
    ·have z':=(if_neg hb2).symm.trans z1
     cases z'
theorem UZ {K:PySem.W.Frag}{G:Prog}{k f:Nat}{tabs:List (CK×Addr)}(t2:∀ p∈tabs,PySem.W.codeHdIn K p.1.c p.2=true)(h:∀(ns:List Int)(st:aA),ns.length<=63->(∀ p∈tabs,∃ P,st P=some (.cod p.1))->aM G k f [.bF (ns.map .int)] st (fun d _=>d=.bl true) fun _ _=>False)(dj:(tabs.map (·.2)).Nodup)(H:Hp)(a:Addr)(ns:List Int)(hl:ns.length<=63)(hT:∀ p∈tabs,H p.2=some (.tbl #[]))(hF:kR K H a (ns.map V.int)):
  eU K (aM G k) f [.ref a] H (fun v _=>v=.bl true) fun _ _ _=>False:=by
 have ri:∀ ns:List Int,aJ K H (ns.map .int) (ns.map V.int):=fun ns=>by
  induction ns with
  |nil=>exact .nil
  |cons i r ih=>exact .cons (.int i) ih
 refine⟨[.bF (ns.map .int)],fun b=>(tabs.find? fun p=>p.2==b).map fun p=>.cod p.1,fun d _=>d=.bl true,.cons (.bF hF (ri ns)) .nil,fun b o e=>?_,h ns _ hl fun p hp=>⟨p.2,?_⟩,fun v H' ⟨d,aB,_,_,r,q⟩=>?_⟩
 ·obtain⟨p,e1,e2⟩:=Option.map_eq_some_iff.mp e
  have hp:=List.mem_of_find?_eq_some e1
  have hb:=List.find?_some e1
  have hb:p.2=b:=by simpa using hb
  subst hb
  cases e2
  exact⟨t2 p hp,.inl (hT p hp)⟩
 ·have key:∀(l:List (CK×Addr)),(l.map (·.2)).Nodup->∀ p∈l,(l.find? fun q=>q.2==p.2)=some p:=fun l=>by
   induction l with
   |nil=>intro _ p hp;cases hp
   |cons q r ih =>
    intro nd p hp
    rw[List.map_cons,List.nodup_cons]at nd
    rcases List.mem_cons.mp hp with z|hp
    ·subst z;simp
    ·rw[List.find?_cons_of_neg]
     ·exact ih nd.2 p hp
     ·intro z
      exact nd.1 (List.mem_map.mpr ⟨p,hp,(by simpa using z:q.2=p.2).symm⟩)
  show(List.find? (fun q=>q.2==p.2) tabs).map _=_
  rw[key tabs dj p hp];rfl
 ·subst q
  exact r.eM
theorem Cc {l:PySem.W.OpenLaw}{q:Program}{loose:List Str}{XP:(Str->Option Value)->Heap->Prop}{YP:World->Heap->Prop}{d:DefRec}{K:Params->PySem.W.Frag}{G:Prog}{r k f:Nat}{x:Str}{tabs:List (CK×Addr)}(hr:cL r callerA)(PN:∀(ns:List Int)(st:aA),ns.length<=63->(∀ p∈tabs,∃ P,st P=some (.cod p.1))->aM G k f [.bF (ns.map .int)] st (fun d _=>d=.bl true) fun _ _=>False)(dj:(tabs.map (·.2)).Nodup)(hn:l.most=some 63)(hdf:d.params.defaults=[])
 (hY:∀(w:World)(h:Heap),YP w h->(K w.params).In h)
 (hY2:∀(w:World)(h:Heap),YP w h->∀ p∈tabs,h.get? p.2=some { cls:=.none,data:=.fields #[] })
 (t2:∀(w:World)(p:CK×Addr),p∈tabs->PySem.W.codeHdIn (K w.params) p.1.c p.2=true)(t3:∀(w:World)(p:CK×Addr),p∈tabs->List.lookup p.2 (K w.params)=none)
 (F:∀(w:World)(mg:Str->Option Value)(fa:Addr)(h:Heap),(K w.params).In h->h.Ns mainGlobals mg->mg d.name=some (.ref fa) ->
  ∃ fd:FuncData,(∀(s:Shared)(u:Value),BindsTo s fd ⟨[u],[]⟩ [(x,u)])/\∀ base:Heap,(K w.params).In base->base.Ns mainGlobals mg->rE mg base->eI l.prog w (K w.params) mg base dD r fa fd [x] (eU (K w.params) (aM G k) f)):
 PySem.W.WalkO q loose XP YP l.row.toRowW d [] (fun f vs=>PySem.call f vs):=by
 refine Att.II hn hdf fun w s₀ s₁ mg mb fa o pm cd doc a vs ns G Y ho hd hcd hmg hobj hints hlen hg=>?_
 have KX:=hY w _ Y
 obtain⟨fd,hb,hF⟩:=F w mg fa _ KX G.T.g hmg
 exact OM (tabs:=tabs) KX G.T.g G.T.b G.T.builtins G.T.nolimit hg G.T.bmain (hY2 w _ Y) (t2 w) (t3 w) hobj hints (Nat.le_trans hlen (by decide)) hr hF hb fun H hT hS=>UZ (t2 w) PN dj H a ns hlen hT hS
end L3
end
section
namespace L3
open PySem PySem.Spec PyProof.Rows L2
theorem WW {P:Program}{w:World}{K:PySem.W.Frag}{mg:Str->Option Value}{base:Heap}{G:Prog}{r k f:Nat}{fn:Fn}{x qual:Str}{st:Stmt}{a c:Addr}{fd:FuncData}{N ps:List Str}(F:vH K x qual st a fd)(hc:fd.code=.ref c)(S:lF N ps (aI st))
  (hG:G.fns f=some fn)(hp:fn.np=ps.length)(hl:fn.nl=N.length)
  (hb:∀(A:Around)(outer:List Env)(s:Shared)(H:Hp)(E:L2.XK),cL r (A.deeper (envOfC qual (aI st) s.heap.objs.size a (.ref c))) ->
   sC (dZ dD P w K mg base N qual (aI st) a (.ref c) A outer s H E).gT (aM G k) G.sub (eG st) fn.body):
  eI P w K mg base dD (r+1) a fd ps (eU K (aM G (k+1)) f):=by
 obtain⟨oc,od,kV,doc,pm,an,bD,ct,osl,rfl,lk,hcd⟩:=F.ex
 have hc:bD=.ref c:=hc
 subst hc
 refine R7 lk hcd S (fun vs H Q E h=>?_) fun A outer s H vs Q E hr h=>?_
 ·obtain⟨ds,aB,R,r,_,h,_⟩:=h
  simp only[aM,hG]at h
  rw[<-r.length,h.1,hp]
 ·obtain⟨ds,aB,R,r,ok,h,hq⟩:=h
  simp only[aM,hG]at h
  refine⟨_,(hb A outer s H E hr).h.gT,?_⟩
  refine⟨start fn.np fn.nl ds,aB,_,?_,ok,h.2,⟨fun σ' H' dG aU sr s' eQ q=>?_,fun v H' z=>hq v H' z,fun _ _ _ _ _ _ _ q=>q,fun _ _ _ _ _ _ _ q=>q,fun _ _ _ q=>q⟩⟩
  ·rw[hl];exact DT r h.1
  ·exact hq _ _ ⟨.non,aU,s',eQ,.non,q⟩
structure OG (X:Cx)(C:aX):Prop where
 h:∃ k,(∀ f T,LT f=some T->mX X.prog X.w X.K X.mg X.base k C f)/\cL k X.A
theorem O8 {P:Program}{w:World}{K:PySem.W.Frag}{mg:Str->Option Value}{base:Heap}{G:Prog}{f:Nat}:mX P w K mg base 0 (aM G 0) f :=
 fun _ _ _ _ _ _ _ _ _ _ _ _ _ _ _ _ _ _ _ _ _ _ h=>False.elim h
section
variable {X:Cx}{C:aX}{sub:Nat->Nat->Bool}{E:XK}{e e1 e2 lam:Expr}{es:List Expr}{x1 x2:Ex}{xs:List Ex}{p pos lpos:Pos}{n:Str}{fid g:Nat}{T:jI}{aL:List Nat}{κ:CK}
theorem Ju (i:Nat)(hN:X.N[i]? = some n:=by kernel_rfl)(hv:X.env.scope.names.lookup n=some .free:=by kernel_rfl)(hd:(n==("__debug__" : Str))=false:=by kernel_rfl)
 (hcd:(n==("__classdict__" : Str))=false:=by kernel_rfl):JE X C sub E (.Name n pos) (.v i):=⟨K8 (pv i hN (.inr (.inr hv)) hd hcd)⟩
theorem Jp (i:Nat)(L:OG X C)(ha:JA X C sub EF (e::es) xs)(hN:X.N[i]? = some n:=by kernel_rfl)(hv:X.env.scope.names.lookup n=some .local:=by kernel_rfl)
 (hd:(n==("__debug__" : Str))=false:=by kernel_rfl)(hcd:(n==("__classdict__" : Str))=false:=by kernel_rfl)(he:starEach (e::es) X.env=(false,eval e X.env)::starEach es X.env:=by kernel_rfl)(cT:(backTo pos (starEach es X.env)).any (·.1)=false:=by kernel_rfl):
 JE X C sub EF (.Call (.Name n p) (e::es) [] pos) (.cv i xs):=⟨let⟨k,h1,h2⟩:=L.h;Gr h1 h2 hN (.inl hv) EJ ha.h hd hcd he cT⟩
noncomputable def BN (aL:List Nat)(tc:List Str)(N:List Str)(names:List (Str×NameKind)):Bool:=match aL,tc with
 |[],[]=>true
 |i::is,x::xs=>(N[i]? == some x)&&(names.lookup x==some .cell)&&BN is xs N names
 |_,_=>false
theorem GL:∀(aL:List Nat)(tc N:List Str)(names:List (Str×NameKind)),BN aL tc N names=true->(∀(j:Nat)(x:Str),tc[j]? = some x->∃ i,aL[j]? = some i/\N[i]? = some x/\names.lookup x=some .cell)/\tc.length=aL.length
 |[],[],N,names,_=>⟨fun j x e=>by simp at e,rfl⟩
 |[],_::_,_,_,h=>by simp [BN]at h
 |_::_,[],_,_,h=>by simp [BN]at h
 |i::is,y::ys,N,names,h=>by
  simp only[BN,Bool.and_eq_true,beq_iff_eq]at h
  obtain⟨⟨h1,h2⟩,h3⟩:=h
  obtain⟨q1,q2⟩:=GL is ys N names h3
  refine⟨fun j x e=>?_,by simp [q2]⟩
  cases j with
  |zero=>simp at e;subst e;exact⟨i,rfl,h1,h2⟩
  |succ j=>simpa using q1 j x (by simpa using e)
noncomputable def EG (T:jI):Bool:=(T.scope.names.all fun p=>!(p.2 == .free)||T.aL.contains p.1)&&T.aL.all fun x=>T.scope.names.lookup x==some .free
theorem Ke {pa:Arguments}{bo:Expr}{sc:Scope}(T:jI)(h:lT X C n fid)(h1:JE X C sub EF e1 x1)(h2:JE X C sub EF e2 x2)(hB:rE X.mg X.base)(hT:LT g=some T)(hcode:X.env.code=.ref κ.c)(hfn:∀ x,X.fn x=true)
 (hl1:pa=T.params:=by kernel_rfl)(hl2:bo=T.body:=by kernel_rfl)(hl3:sc=T.scope:=by kernel_rfl)(hq:T.q=X.env.qual ++"<lambda>":=by kernel_rfl)(hκ:T.q=⟨κ.q.toArray⟩:=by kernel_rfl)(hln:κ.ln=lpos.line:=by kernel_rfl)(hcol:κ.col=lpos.col:=by kernel_rfl)
 (hf:EG T=true:=by kernel_rfl)(hc:BN aL T.aL X.N X.env.scope.names=true:=by kernel_rfl)(hdef:defaultsOf T.params X.env=([],[]):=by kernel_rfl)(hg:X.env.kindOf n=some .globalImplicit:=by kernel_rfl)(hdb:(n==("__debug__" : Str))=false:=by kernel_rfl)
 (he:starEach [e1,e2,(.Lambda pa bo sc lpos)] X.env=[(false,eval e1 X.env),(false,eval e2 X.env),(false,eval (.Lambda pa bo sc lpos) X.env)]:=by kernel_rfl)(he2:starEach [e2,(.Lambda pa bo sc lpos)] X.env=[(false,eval e2 X.env),(false,eval (.Lambda pa bo sc lpos) X.env)]:=by kernel_rfl):
 JE X C sub EF (.Call (.Name n p) [e1,e2,(.Lambda pa bo sc lpos)] [] pos) (.callL fid [x1,x2] g aL κ):=by
 subst hl1 hl2 hl3
 obtain⟨k,f,fd,ps,q1,q2,q3,q4,q5⟩:=h.h
 obtain⟨c1,c2⟩:=GL _ _ _ _ hc
 simp only[EG,Bool.and_eq_true,List.all_eq_true]at hf
 refine⟨V7 q1 q2 hg q3 q4 q5 h1.h h2.h hB hT hq hκ hln hcol hcode hfn (fun p hp hf'=>?_) (fun x hx=>by simpa using hf.2 x hx) c1 c2 hdef hdb he he2⟩
 have:=hf.1 p hp
 rw[hf']at this
 simpa using this
end
noncomputable def sJ (K:PySem.W.Frag)(mg:Str->Option Value)(n q:Str)(st:Stmt)(at_:At)(oc:Option Addr):Prop:=∃ a fd,vH K n q st a fd/\P8 K mg n a at_/\∀ c,oc=some c->fd.code=.ref c
theorem qJ.Z7 {K:PySem.W.Frag}{mg:Str->Option Value}{n q:Str}{st:Stmt}{at_:At}(h:qJ K mg n q st at_):sJ K mg n q st at_ none:=let⟨a,fd,h1,h2⟩:=h;⟨a,fd,h1,h2,fun _ z=>nomatch z⟩
theorem YI {K:PySem.W.Frag}{h:Heap}{mg:Str->Option Value}(X:K.In h)(G:h.Ns mainGlobals mg){n:Str}{st:Stmt}{f c:Addr}{oc:Value}{od an:Option Addr}{sl:Array (Option Value)}{kV dc pm ct:Value}
 (a:PySem.W.nsIn K mainGlobals n=some (some (.ref f)))(l:K.lookup f=some ⟨oc,od,.func (PySem.W.fnOf n n (jY st) (eG st) (aI st) .none kV dc pm an (.ref c) ct),sl⟩)(cc:PySem.W.codeIn K (.ref c) n=true)(k:PySem.W.keepIn K (.ref f)=true):sJ K mg n n st .top (some c) :=
 ⟨f,_,zS l cc k,PySem.W.mg_of X G a,fun _ z=>by cases z;rfl⟩
theorem FC {K:PySem.W.Frag}{mg:Str->Option Value}{nm qn:Nat->Str}{ps:Nat->List Str}{st:Nat->Stmt}{at_:Nat->At}{cd:Nat->Option Addr}:∀(nf:Nat),(∀ i,i<nf->CH (nm i) (qn i) (ps i) (st i))->(∀ i,i<nf->sJ K mg (nm i) (qn i) (st i) (at_ i) (cd i))->FuncData->∃ T:B9 K mg nf nm qn ps st at_,∀ i,i<nf->∀ c,cd i=some c->(T.fd i).code=.ref c
 |0,_,_,d=>⟨⟨fun _=>0,fun _=>d,fun i h=>absurd h (by omega),fun i h=>absurd h (by omega),fun i h=>absurd h (by omega)⟩,fun i h=>absurd h (by omega)⟩
 |nf+1,B,H,d=>by
  obtain⟨T,hc⟩:=FC nf (fun i h=>B i (by omega)) (fun i h=>H i (by omega)) d
  obtain⟨a,fd,hF,hm,hcd⟩:=H nf (by omega)
  refine⟨⟨fun i=>if i=nf then a else T.a i,fun i=>if i=nf then fd else T.fd i,fun i h=>?_,fun i h=>?_,fun i h=>?_⟩,fun i h=>?_⟩
  ·by_cases e:i=nf
   ·subst e;simpa using hF
   ·simpa only[if_neg e]using T.fn i (by omega)
  ·by_cases e:i=nf
   ·subst e;simpa using hF.binds (B i (by omega))
   ·simpa only[if_neg e]using T.bi i (by omega)
  ·by_cases e:i=nf
   ·subst e;simpa using hm
   ·simpa only[if_neg e]using T.mg i (by omega)
  ·by_cases e:i=nf
   ·subst e;simpa using hcd
   ·simpa only[if_neg e]using hc i (by omega)
theorem CA {P:Program}{w:World}{K:PySem.W.Frag}{mg:Str->Option Value}{base:Heap}{G:Prog}{nf:Nat}{nm qn:Nat->Str}{ps:Nat->List Str}{st:Nat->Stmt}{at_:Nat->At}(T:B9 K mg nf nm qn ps st at_)
 (step:∀ k,(∀ i,i<nf->eI P w K mg base dD (2*k) (T.a i) (T.fd i) (ps i) (eU K (aM G k) i))->(∀ f Tx,LT f=some Tx->mX P w K mg base (2*k) (aM G k) f)->(∀ i,i<nf->eI P w K mg base dD (2*k+1+1) (T.a i) (T.fd i) (ps i) (eU K (aM G (k+1)) i))/\∀ f Tx,LT f=some Tx->mX P w K mg base (2*k+1+1) (aM G (k+1)) f):
 ∀ k,(∀ i,i<nf->eI P w K mg base dD (2*k) (T.a i) (T.fd i) (ps i) (eU K (aM G k) i))/\∀ f Tx,LT f=some Tx->mX P w K mg base (2*k) (aM G k) f
 |0=>⟨fun i _=>S9,fun f Tx _=>O8⟩
 |k+1=>step k (CA T step k).1 (CA T step k).2
end L3
end
section
namespace L3
open PySem PySem.Spec PyProof.Rows L2
theorem yL {α β:Type}[BEq α] [LawfulBEq α]:∀{l:List (α×β)}{a:α}{b:β},l.lookup a=some b->(a,b)∈l
 |[],_,_,h=>by cases h
 |(x,y)::r,a,b,h=>by
  rw[List.lookup_cons]at h
  split at h
  ·rename_i q
   have q:a=x:=by simpa using q
   subst q
   cases h
   exact List.mem_cons_self ..
  ·exact List.mem_cons_of_mem _ (yL h)
theorem P2 {T:jI}(h1:T.scope.kind=.function:=by kernel_rfl)(h2:T.scope.isCoroutine=false:=by kernel_rfl)(h3:T.scope.isGenerator=false:=by kernel_rfl)(h4:(T.scope.names.all fun p=>!(p.2 == .cell))=true:=by kernel_rfl)(h5:(T.aL++T.ps).Nodup:=by decide +kernel)(h6:(T.ps.all fun x=>T.scope.names.lookup x==some .local)=true:=by kernel_rfl)(h7:EG T=true:=by kernel_rfl):KQ T:=by
 simp only[EG,Bool.and_eq_true,List.all_eq_true]at h7
 rw[List.all_eq_true]at h4 h6
 refine⟨h1,h2,h3,fun x hx z=>?_,h5,fun x hx=>by simpa using h6 x hx,fun x hx=>?_,fun x hx=>by simpa using h7.2 x hx⟩
 ·have:=h4 x hx
  rw[z]at this
  simp at this
 ·have:=h7.1 _ (yL hx)
  simpa using this
end L3
end
section
open L3 PySem
local macro_rules|`(tactic| walk_at"wpe")=>`(tactic| simp only[↓FV,↓DQ,↓Er,↓Bp,↓KJ,↓Cz,↓Fb,↓TR,↓Fi,↓Gv,↓Bx,↓Ei,↓X6,↓WV,↓Ff,↓WA,↓zD,↓Gy,↓Ek,↓ZO,↓Et,↓Jo,↓Dp,↓Iz,↓V2,↓UM,↓RF,↓Ar,↓Dr,↓Cb,↓Bi,↓Be,↓N5,↓J0,↓Fq,↓WE,↓Bo,↓rT,↓X8,↓YQ,↓Aq,↓OK,↓Av,↓W7,↓UJ,↓xK,↓Bz,↓Cn,↓BY,↓XW,↓Jf,↓Hh,↓Hm,↓Iq,↓Io,↓Ih,↓Jm,↓Jk,↓Cw,↓Ee,↓Ck,↓Ez,↓ZW,↓UQ,↓SV,↓S0,↓RM,↓Z3,↓Af,↓Ad,↓ZX,↓cmp_gt,↓XT,↓TJ,↓V5,↓QU,↓O6,↓L0,↓IC,↓LR,↓IG,↓E7,↓IA,↓add_int,↓add_str,↓VR,↓JJ,↓sub_int,↓mul_int,↓VD,↓PJ,↓mod_int,↓pow_int,↓neg_int,↓TX,↓VB,gS,↓jO,↓IY,↓FN,↓VZ,Jh,Ht,Hl,Jb,Gj,↓bR,↓NU,↓YS,↓Y9,↓GD,↓Z9,Dm,↓U9,↓QR,↓PZ,↓OB,↓pY,↓rO,↓B6,↓QH,↓K6,↓LJ,↓SY,↓OJ,↓U1,↓E4,↓len_str,↓IX,↓NK,↓OA,↓TV,↓YM,↓XM,↓WC,↓J3,↓FK,↓Ac,↓V4,↓DB,↓XB,↓V8,↓VA,↓QY,↓ZC,↓U6,↓VX,↓zV,↓LG,↓VQ,↓qV,↓wB,↓HH,↓IS,↓WK,↓NX,List.map_cons,List.map_nil,List.cons_append,List.nil_append,List.replicate,List.append_nil,if_true,if_false,Bool.not_true,Bool.not_false,Bool.false_eq_true,reduceIte,List.set_cons_zero,List.set_cons_succ,true_and,and_true,sS,KR,NO,L7,DA,DK,HA,DL,gM,TZ,ZQ,TQ,Option.getD_some,List.getElem?_cons_zero,List.getElem?_cons_succ,decide_eq_true_eq,Bool.and_eq_true,List.zip_cons_cons,List.zip_nil_left,List.zip_nil_right,List.foldl_cons,List.foldl_nil,List.length_cons,List.length_nil])
local macro_rules|`(tactic| walk_at"st")=>`(tactic| ((try dsimp only);(first|refine fM ?_|rw[OE]);(try walk_at"wpe")))
local macro_rules|`(tactic| walk_at"ex")=>`(tactic| ((try dsimp only);(try walk_at"wpe")))
section
namespace L3
open PySem
theorem bA {G:Prog}{f k:Nat}{fn:Fn}{ds:List D}{st:aA}{Q:VK}{E:XK}(h:G.fns f=some fn):aM G (k+1) f ds st Q E=(ds.length=fn.np/\cN (aM G k) G.sub fn.body ⟨fun _ aB=>Q .non aB,Q,fun _ _=>False,fun _ _=>False,fun c _ aB=>E c aB⟩ (start fn.np fn.nl ds) st):=by
 simp only[aM,h]
noncomputable def cC (as:List Nat)(st aB:aA):Prop:=∀ a o,a∉as->st a=some o->aB a=some o
theorem cC.refl {as:List Nat}{st:aA}:cC as st st:=fun _ _ _ h=>h
theorem cC.trans {as:List Nat}{a b c:aA}(h:cC as a b)(h':cC as b c):cC as a c:=fun x o n e=>h' x o n (h x o n e)
theorem cC.mono {as bs:List Nat}{st aB:aA}(h:cC as st aB)(s:∀ a∈as,a∈bs):cC bs st aB:=fun x o n e=>h x o (fun z=>n (s x z)) e
theorem Ext.keep {as:List Nat}{st aB:aA}(h:Ext st aB):cC as st aB:=fun x o _ e=>h x o e
theorem cC.put {as:List Nat}{st:aA}{a:Nat}{o:MO}(h:a∈as):cC as st (put st a o):=fun x u n e=>by rw[bL (fun z=>n (by rw[z];exact h))];exact e
noncomputable def sX (ns:List Int)(k:Int):Int:=if k<ns.length then(ns[k.toNat]?).getD 0 else if ns=[]then 0 else(ns[(k % ns.length).toNat]?).getD 0*31+k
noncomputable def pN (ns:List Int)(k many:Int):Int :=
 let d:=(sX ns k+7919*k+1)*48271 % 2147483647
 (d*d+7*d+k) % 2147483629 % many
theorem mO {ns:List Int}{k many:Int}(h:0<many):0<=pN ns k many:=Int.emod_nonneg _ (by omega)
theorem mP {ns:List Int}{k many:Int}(h:0<many):pN ns k many<many:=Int.emod_lt_of_pos _ h
noncomputable def qW:Fn:=⟨2,2,[.iff (.cmp .lt (.v 1) (.bi .len [(.v 0)])) [.ret (.ix (.v 0) (.v 1))] [],.iff (.cmp .eq (.v 0) (.lst [])) [.ret (.c (.int 0))] [],
 .ret (.bin .add (.bin .mul (.ix (.v 0) (.bin .mod (.v 1) (.bi .len [(.v 0)]))) (.c (.int 31))) (.v 1))]⟩
noncomputable def oX (ic:Nat):Fn:=⟨3,4,[.asg (.nm 3) (.bin .mod (.bin .mul (.bin .add (.bin .add (.call ic [(.v 0),(.v 1)]) (.bin .mul (.c (.int 7919)) (.v 1))) (.c (.int 1))) (.c (.int 48271))) (.c (.int 2147483647))),
 .ret (.bin .mod (.bin .mod (.bin .add (.bin .add (.bin .mul (.v 3) (.v 3)) (.bin .mul (.c (.int 7)) (.v 3))) (.v 1)) (.c (.int 2147483629))) (.v 2))]⟩
noncomputable def A7 (im:Nat):Fn:=⟨3,3,[.asg (.ix (.v 1) (.c (.int 0))) (.bin .add (.ix (.v 1) (.c (.int 0))) (.c (.int 1))),.ret (.call im [(.v 0),(.ix (.v 1) (.c (.int 0))),(.v 2)])]⟩
theorem AB (ns:List Int):bQ (ns.map .int)=true/\cK (ns.map .int)=0:=by
 induction ns with
 |nil=>exact⟨rfl,rfl⟩
 |cons n r ih=>exact⟨by simp only[List.map_cons,bQ,bS,ih.1,Bool.and_self],by simp only[List.map_cons,cK,cM,ih.2,Nat.max_self]⟩
theorem JR {ns:List Int}{k:Int}(h0:0<=k)(h1:k<ns.length):eO (ns.map D.int) k=some (.int ((ns[k.toNat]?).getD 0)):=by
 obtain⟨n,rfl⟩:∃ n:Nat,k=n:=⟨k.toNat,by omega⟩
 rw[dY (by simp;omega)]
 simp only[List.getElem?_map,Int.toNat_natCast]
 rw[List.getElem?_eq_getElem (by omega)]
 rfl
section
variable {G:Prog}{k ic im iB:Nat}{st:aA}{Q:VK}{E:XK}{ns:List Int}
theorem U2 (hc:G.fns ic=some qW){i:Int}(hi:0<=i)(hQ:∀ aB,Ext st aB->Q (.int (sX ns i)) aB):aM G (k+1) ic [.bF (ns.map .int),.int i] st Q E:=by
 rw[bA hc]
 simp only[qW,start]
 refine⟨rfl,?_⟩
 refine fM ?_
 walk_at"wpe"
 simp only[List.length_map]
 by_cases h:i<ns.length
 ·simp only[h,decide_true,if_true]
  refine fM ?_
  walk_at"wpe"
  rw[JR hi h]
  walk_at"wpe"
  have:=hQ st .refl
  simp only[sX,h,if_true]at this
  exact this
 ·simp only[h,decide_false,Bool.false_eq_true,if_false,aE]
  refine fM ?_
  walk_at"wpe"
  refine⟨Nat.zero_le _,fun p hp=>?_⟩
  have hx:Ext st (put st p (.lst [])):=Ext.new hp
  dsimp only
  have e1:bM (put st p (.lst [])) (.bF (ns.map .int)) (.ref p)=ns.isEmpty:=by
   simp only[bM,bB,AA]
   cases ns with
   |nil=>rfl
   |cons n r=>rfl
  rw[e1]
  refine⟨⟨?_,Nat.zero_le _⟩,⟨?_,Nat.zero_le _⟩,?_⟩
  ·simp only[fJ,(AB ns).1,(AB ns).2,Bool.true_and];rfl
  ·simp only[fJ,bB,N1];rfl
  cases ns with
  |nil =>
   simp only[List.isEmpty_nil,if_true]
   refine fM ?_
   walk_at"wpe"
   have:=hQ _ hx
   simp only[sX,h,if_false,if_true]at this
   exact this
  |cons n r =>
   simp only[List.isEmpty_cons,Bool.false_eq_true,if_false,aE]
   refine fM ?_
   have hl:(0:Int)<((n::r).length:Int):=by simp only[List.length_cons];omega
   simp only[OK,KJ,zD,DQ,FV,WV,J0,N5,XS,XZ,OJ,E4,mod_int,IY,List.length_map,List.map_cons,List.cons_append,List.nil_append,List.map_nil]
   refine⟨by simpa using hl,?_⟩
   have hm0:0<=i % ((n::r).length:Int):=Int.emod_nonneg _ (by omega)
   have hm1:i % ((n::r).length:Int)<(n::r).length:=Int.emod_lt_of_pos _ hl
   have:=JR (ns:=n::r) hm0 hm1
   simp only[List.map_cons,List.length_cons]at this
   simp only[List.length_cons,List.length_map]
   rw[this]
   walk_at"wpe"
   refine⟨.inr ⟨by omega,by omega⟩,?_⟩
   have:=hQ _ hx
   simp only[sX,h,if_false]at this
   simpa using this
theorem zI (hm:G.fns im=some (oX ic))(hc:G.fns ic=some qW){i many:Int}(hi:0<=i)(hmany:0<many)(hQ:∀ aB,Ext st aB->Q (.int (pN ns i many)) aB):aM G (k+2) im [.bF (ns.map .int),.int i,.int many] st Q E:=by
 rw[bA hm]
 simp only[oX,start]
 refine⟨rfl,?_⟩
 refine fM ?_
 walk_at"wpe"
 refine U2 hc hi fun aB e=>?_
 walk_at"wpe"
 refine⟨.inl ⟨by omega,by omega⟩,.inr ⟨by omega,by omega⟩,by omega,?_⟩
 refine fM ?_
 walk_at"wpe"
 have d0:0<=(sX ns i+7919*i+1)*48271 % 2147483647:=Int.emod_nonneg _ (by omega)
 have d1:(sX ns i+7919*i+1)*48271 % 2147483647<2147483647:=Int.emod_lt_of_pos _ (by omega)
 refine⟨.inl ⟨by omega,by omega⟩,.inl ⟨by omega,by omega⟩,by omega,hmany,?_⟩
 exact hQ aB e
theorem mQ (hn:G.fns iB=some (A7 im))(hm:G.fns im=some (oX ic))(hc:G.fns ic=some qW){a:Nat}{i many:Int}(ha:st a=some (.lst [.int i]))(hi:0<=i)(hmany:0<many)
 (hQ:∀ aB,cC [a] st aB->aB a=some (.lst [.int (i+1)])->Q (.int (pN ns (i+1) many)) aB):aM G (k+3) iB [.bF (ns.map .int),.ref a,.int many] st Q E:=by
 rw[bA hn]
 simp only[A7,start]
 refine⟨rfl,?_⟩
 refine fM ?_
 walk_at"wpe"
 rw[gY ha]
 walk_at"wpe"
 rw[aK ha]
 have e0:lZ [D.int i].length 0=some 0:=rfl
 simp only[e0,bR,List.set_cons_zero]
 refine fM ?_
 walk_at"wpe"
 rw[gY bB]
 walk_at"wpe"
 refine zI hm hc (by omega) hmany fun aB e=>?_
 refine hQ aB (fun x o n h=>e x o (by rw[bL (by simpa using n)];exact h)) (e a _ bB)
end
end L3
end
section
namespace L3
open PySem
inductive W1 where
 |not|before|once|sofar
 deriving DecidableEq
inductive W2 where
 |and|or|aV|same|since
 deriving DecidableEq
inductive Sy where
 |yes|no|cJ (n:List Nat)|one (w:W1)(s:Sy)|two (w:W2)(s t:Sy)
 deriving DecidableEq
noncomputable def c1:W1->List Nat
 |.not=>W "not"
 |.before=>W "before"
 |.once=>W "once"
 |.sofar=>W "sofar"
noncomputable def c2:W2->List Nat
 |.and=>W "and"
 |.or=>W "or"
 |.aV=>W "then"
 |.same=>W "same"
 |.since=>W "since"
noncomputable def toD:Sy->D
 |.yes=>.tup [.str (W "yes")]
 |.no=>.tup [.str (W "no")]
 |.cJ n=>.tup [.str (W "lamp"),.str n]
 |.one w s=>.tup [.str (c1 w),toD s]
 |.two w s t=>.tup [.str (c2 w),toD s,toD t]
noncomputable def aR:Sy->Nat
 |.one _ s=>aR s+1
 |.two _ s t=>max (aR s) (aR t)+1
 |_=>1
noncomputable def p1:W1->Bool
 |.not=>false
 |_=>true
noncomputable def p2:W2->Bool
 |.since=>true
 |_=>false
noncomputable def cnt:Sy->Nat
 |.one w s=>(if p1 w then 1 else 0)+cnt s
 |.two w s t=>(if p2 w then 1 else 0)+(cnt s+cnt t)
 |_=>0
noncomputable def over (names:List (List Nat)):Sy->Prop
 |.cJ n=>n∈names
 |.one _ s=>over names s
 |.two _ s t=>over names s/\over names t
 |_=>True
theorem kU:∀ s:Sy,bS (toD s)=true
 |.yes=>rfl
 |.no=>rfl
 |.cJ n=>rfl
 |.one w s=>by simp only[toD,bS,bQ,kU s,Bool.and_self]
 |.two w s t=>by simp only[toD,bS,bQ,kU s,kU t,Bool.and_self]
theorem oS:∀ s:Sy,cM (toD s)=aR s
 |.yes=>rfl
 |.no=>rfl
 |.cJ n=>rfl
 |.one w s=>by simp only[toD,cM,cK,oS s,aR];omega
 |.two w s t=>by simp only[toD,cM,cK,oS s,oS t,aR];omega
noncomputable def xC (iB is:Nat):Fn:=⟨5,7,[.asg (.nm 5) (.call iB [(.v 0),(.v 1),(.c (.int 13))]),.iff (.or_ (.cmp .eq (.v 3) (.c (.int 0))) (.cmp .lt (.v 5) (.c (.int 3)))) [.ret (.tup [(.c (.str (W "lamp"))),(.ix (.v 2) (.call iB [(.v 0),(.v 1),(.bi .len [(.v 2)])]))])] [],.iff (.cmp .eq (.v 5) (.c (.int 3))) [.ret (.tup [(.ix (.lst [(.c (.str (W "yes"))),(.c (.str (W "no")))]) (.call iB [(.v 0),(.v 1),(.c (.int 2))]))])] [],.iff (.and_ (.cmp .gt (.v 5) (.c (.int 8))) (.cmp .gt (.ix (.v 4) (.c (.int 0))) (.c (.int 0)))) [.asg (.ix (.v 4) (.c (.int 0))) (.bin .sub (.ix (.v 4) (.c (.int 0))) (.c (.int 1))),.asg (.nm 6) (.call is [(.v 0),(.v 1),(.v 2),(.bin .sub (.v 3) (.c (.int 1))),(.v 4)]),.iff (.cmp .eq (.v 5) (.c (.int 12))) [.ret (.tup [(.c (.str (W "since"))),(.v 6),(.call is [(.v 0),(.v 1),(.v 2),(.bin .sub (.v 3) (.c (.int 1))),(.v 4)])])] [],.ret (.tup [(.ix (.lst [(.c (.str (W "before"))),(.c (.str (W "once"))),(.c (.str (W "sofar")))]) (.bin .sub (.v 5) (.c (.int 9)))),(.v 6)])] [],.asg (.nm 6) (.call is [(.v 0),(.v 1),(.v 2),(.bin .sub (.v 3) (.c (.int 1))),(.v 4)]),.iff (.or_ (.cmp .eq (.v 5) (.c (.int 4))) (.cmp .gt (.v 5) (.c (.int 8)))) [.ret (.tup [(.c (.str (W "not"))),(.v 6)])] [],.ret (.tup [(.ix (.lst [(.c (.str (W "and"))),(.c (.str (W "or"))),(.c (.str (W "then"))),(.c (.str (W "same")))]) (.bin .sub (.v 5) (.c (.int 5)))),(.v 6),(.call is [(.v 0),(.v 1),(.v 2),(.bin .sub (.v 3) (.c (.int 1))),(.v 4)])])]⟩
noncomputable def Drawn (a b:Nat)(i l:Int)(st aB:aA)(i' l':Int):Prop:=cC [a,b] st aB/\0<=i'/\aB a=some (.lst [.int i'])/\aB b=some (.lst [.int l'])
section
variable {G:Prog}{k ic im iB is:Nat}{st:aA}{Q:VK}{E:XK}{ns:List Int}
theorem U7 {xs:List (List Nat)}{v:Int}(h0:0<=v)(h1:v<xs.length):∃ x∈xs,eO (xs.map D.str) v=some (.str x):=by
 obtain⟨n,rfl⟩:∃ n:Nat,v=n:=⟨v.toNat,by omega⟩
 have h:n<xs.length:=by omega
 refine⟨xs[n],List.getElem_mem h,?_⟩
 rw[dY (by simpa using h)]
 simp only[List.getElem?_map]
 rw[List.getElem?_eq_getElem h]
 rfl
theorem Dd {d:D}{r:List D}:lZ (d::r).length 0=some 0:=by
 unfold lZ
 rw[if_pos (by omega),if_pos (by simp only[List.length_cons];omega)]
 rfl
theorem cI {ds:List D}{Q:VK}(hl:ds.length<=bG)(h:∀ p aB,Ext st aB->st p=none->aB p=some (.lst ds)->Q (.ref p) aB):fZ ds st Q:=⟨hl,fun p hp=>h p _ (Ext.new hp) hp bB⟩
theorem DH (hs:G.fns is=some (xC iB is))(hn:G.fns iB=some (A7 im))(hm:G.fns im=some (oX ic))(hc:G.fns ic=some qW){names:List (List Nat)}(kB:0<names.length){a b:Nat}(eF:a≠b):
  ∀(n:Nat){st:aA}{Q:VK}{E:XK}{i l:Int},st a=some (.lst [.int i])->st b=some (.lst [.int l])->0<=i->0<=l ->
   (∀ s aB i',over names s->aR s<=n+1->(cnt s:Int)<=l->cC [a,b] st aB->0<=i'->aB a=some (.lst [.int i'])->aB b=some (.lst [.int (l-cnt s)])->Q (toD s) aB) ->
   aM G (k+n+4) is [.bF (ns.map .int),.ref a,.tup (names.map .str),.int n,.ref b] st Q E:=by
 intro n
 have cJ:∀{n:Nat}{st:aA}{Q:VK}{E:XK}{i l:Int}{K:Nat}{P:fV}{r:St},st a=some (.lst [.int i])->st b=some (.lst [.int l])->0<=i->0<=l ->
   (∀ s aB i',over names s->aR s<=n+1->(cnt s:Int)<=l->cC [a,b] st aB->0<=i'->aB a=some (.lst [.int i'])->aB b=some (.lst [.int (l-cnt s)])->P.rt (toD s) aB) ->
   cN (aM G (K+3)) G.sub [.ret (.tup [(.c (.str (W "lamp"))),(.ix (.v 2) (.call iB [(.v 0),(.v 1),(.bi .len [(.v 2)])]))])] P (some (.bF (ns.map .int))::some (.ref a)::some (.tup (names.map .str))::r) st:=by
  intro n st Q E i l K P r ha hb hi hl hQ
  walk_at"st"
  simp only[List.length_map]
  refine mQ hn hm hc ha hi (by omega) fun aC k1 a1=>?_
  walk_at"ex"
  obtain⟨x,hx,e⟩:=U7 (xs:=names) (mO (ns:=ns) (k:=i+1) (many:=names.length) (by omega)) (mP (by omega))
  rw[e]
  walk_at"ex"
  have b1:aC b=some (.lst [.int l]):=k1 b _ (by simpa using eF.symm) hb
  exact hQ (.cJ x) aC (i+1) hx (by simp [aR]) (by simp [cnt];omega) (k1.mono (by simp)) (by omega) a1 (by simpa [cnt]using b1)
 induction n with
 |zero =>
  intro st Q E i l ha hb hi hl hQ
  rw[bA hs]
  simp only[xC,start]
  refine⟨rfl,?_⟩
  walk_at"st"
  refine mQ hn hm hc ha hi (by omega) fun aC k1 a1=>?_
  walk_at"st"
  simp only[Int.natCast_zero,beq_self_eq_true,if_true]
  have b1:aC b=some (.lst [.int l]):=k1 b _ (by simpa using eF.symm) hb
  have kk:cC [a,b] st aC:=k1.mono (by simp)
  exact cJ (n:=0) (Q:=Q) (E:=E) a1 b1 (by omega) hl fun s aB i' h1 h2 h3 h4 h5 h6 h7=>hQ s aB i' h1 h2 h3 (kk.trans h4) h5 h6 h7
 |succ n ih =>
  intro st Q E i l ha hb hi hl hQ
  rw[bA hs]
  simp only[xC,start]
  refine⟨rfl,?_⟩
  walk_at"st"
  refine mQ hn hm hc ha hi (by omega) fun aC k1 a1=>?_
  have v0:=mO (ns:=ns) (k:=i+1) (many:=13) (by omega)
  have v1:=mP (ns:=ns) (k:=i+1) (many:=13) (by omega)
  generalize pN ns (i+1) 13=v at v0 v1
  have b1:aC b=some (.lst [.int l]):=k1 b _ (by simpa using eF.symm) hb
  have kk:cC [a,b] st aC:=k1.mono (by simp)
  have hn0:(((n+1:Nat):Int)==0)=false:=by rw[beq_eq_false_iff_ne];omega
  have hn1:((n+1:Nat):Int)-1=(n:Int):=by omega
  walk_at"st"
  simp only[hn0,Bool.false_eq_true,if_false]
  by_cases h3:v<3
  ·simp only[h3,decide_true,if_true]
   exact cJ (n:=n+1) (Q:=Q) (E:=E) a1 b1 (by omega) hl fun s aB i' h1 h2 h3 h4 h5 h6 h7=>hQ s aB i' h1 h2 h3 (kk.trans h4) h5 h6 h7
  simp only[h3,decide_false,Bool.false_eq_true,if_false,aE]
  walk_at"st"
  by_cases e3:v=3
  ·subst e3
   simp only[beq_self_eq_true,if_true]
   walk_at"st"
   refine cI (by decide) fun p aF x2 hp jX=>?_
   walk_at"ex"
   have pa:p≠a:=fun z=>by rw[z,a1]at hp;cases hp
   have pb:p≠b:=fun z=>by rw[z,b1]at hp;cases hp
   refine mQ hn hm hc (x2 a _ a1) (by omega) (by omega) fun bC k3 a3=>?_
   walk_at"ex"
   have w0:=mO (ns:=ns) (k:=i+1+1) (many:=2) (by omega)
   have w1:=mP (ns:=ns) (k:=i+1+1) (many:=2) (by omega)
   generalize pN ns (i+1+1) 2=w at w0 w1
   rw[gY (k3 p _ (by simpa using pa) jX)]
   have b3:bC b=some (.lst [.int l]):=k3 b _ (by simpa using eF.symm) (x2 b _ b1)
   have kk3:cC [a,b] st bC:=(kk.trans x2.keep).trans (k3.mono (by simp))
   obtain rfl|rfl:w=0∨w=1:=by omega
   ·walk_at"ex"
    exact hQ .yes bC _ trivial (by simp [aR]) (by simp [cnt];omega) kk3 (by omega) a3 (by simpa [cnt]using b3)
   ·walk_at"ex"
    exact hQ .no bC _ trivial (by simp [aR]) (by simp [cnt];omega) kk3 (by omega) a3 (by simpa [cnt]using b3)
  have e3':(v==3)=false:=by rw[beq_eq_false_iff_ne];exact e3
  simp only[e3',Bool.false_eq_true,if_false,aE]
  walk_at"st"
  have plain:∀{P:fV},(∀ s aB i',over names s->aR s<=n+1+1->(cnt s:Int)<=l->cC [a,b] st aB->0<=i'->aB a=some (.lst [.int i'])->aB b=some (.lst [.int (l-cnt s)])->P.rt (toD s) aB) ->
    cN (aM G (k+n+4)) G.sub [.asg (.nm 6) (.call is [(.v 0),(.v 1),(.v 2),(.bin .sub (.v 3) (.c (.int 1))),(.v 4)]),.iff (.or_ (.cmp .eq (.v 5) (.c (.int 4))) (.cmp .gt (.v 5) (.c (.int 8)))) [.ret (.tup [(.c (.str (W "not"))),(.v 6)])] [],.ret (.tup [(.ix (.lst [(.c (.str (W "and"))),(.c (.str (W "or"))),(.c (.str (W "then"))),(.c (.str (W "same")))]) (.bin .sub (.v 5) (.c (.int 5)))),(.v 6),(.call is [(.v 0),(.v 1),(.v 2),(.bin .sub (.v 3) (.c (.int 1))),(.v 4)])])] P [some (.bF (ns.map .int)),some (.ref a),some (.tup (names.map .str)),some (.int ((n+1:Nat):Int)),some (.ref b),some (.int v),none] aC:=by
   intro P hQ
   walk_at"st"
   rw[hn1]
   refine ih a1 b1 (by omega) hl fun s1 aF i2 o1 d1 cc1 k2 hi2 a2 b2=>?_
   walk_at"st"
   have hor:((v==4)||decide (8<v))=true∨(v=5∨v=6∨v=7∨v=8):=by
    by_cases q:v=4
    ·left;simp [q]
    ·by_cases q':8<v
     ·left;simp [q']
     ·right;omega
   rcases hor with hor|hor
   ·have go:cN (aM G (k+n+4)) G.sub [.ret (.tup [.c (.str (W "not")),.v 6])] { P with nx:=cN (aM G (k+n+4)) G.sub [.ret (.tup [(.ix (.lst [(.c (.str (W "and"))),(.c (.str (W "or"))),(.c (.str (W "then"))),(.c (.str (W "same")))]) (.bin .sub (.v 5) (.c (.int 5)))),(.v 6),(.call is [(.v 0),(.v 1),(.v 2),(.bin .sub (.v 3) (.c (.int 1))),(.v 4)])])] P } [some (.bF (ns.map .int)),some (.ref a),some (.tup (names.map .str)),some (.int ((n+1:Nat):Int)),some (.ref b),some (.int v),some (toD s1)] aF:=by
     walk_at"st"
     exact hQ (.one .not s1) aF i2 o1 (by simp only[aR];omega) (by simp [cnt,p1];omega) (kk.trans k2) hi2 a2 (by simpa [cnt,p1]using b2)
    by_cases q:v=4
    ·simp only[q,beq_self_eq_true,if_true]
     rw[q]at go;exact go
    ·have q1:(v==4)=false:=by rw[beq_eq_false_iff_ne];exact q
     have q2:8<v:=by simpa [q1]using hor
     simp only[q1,q2,Bool.false_eq_true,if_false,if_true]
     exact go
   ·have q1:(v==4)=false:=by rw[beq_eq_false_iff_ne];omega
    have q2:¬8<v:=by omega
    simp only[q1,q2,Bool.false_eq_true,if_false,aE]
    walk_at"st"
    refine cI (by decide) fun p bC x3 hp hp3=>?_
    walk_at"ex"
    rw[gY hp3]
    have pa:p≠a:=fun z=>by rw[z,a2]at hp;cases hp
    have pb:p≠b:=fun z=>by rw[z,b2]at hp;cases hp
    have step:∀ w:W2,p2 w=false->∀{Q:VK},(∀ s aB i',over names s->aR s<=n+1+1->(cnt s:Int)<=l->cC [a,b] st aB->0<=i'->aB a=some (.lst [.int i'])->aB b=some (.lst [.int (l-cnt s)])->Q (toD s) aB) ->
      aM G (k+n+4) is [.bF (ns.map .int),.ref a,.tup (names.map .str),.int (((n+1:Nat):Int)-1),.ref b] bC (fun d aB=>Q (.tup [.str (c2 w),toD s1,d]) aB) fun c aB=>P.ex c [some (.bF (ns.map .int)),some (.ref a),some (.tup (names.map .str)),some (.int ((n+1:Nat):Int)),some (.ref b),some (.int v),some (toD s1)] aB:=by
     intro w hw Q hQ
     rw[hn1]
     refine ih (x3 a _ a2) (x3 b _ b2) hi2 (by omega) fun s2 dR i4 o2 d2 c2' k4 hi4 a4 b4=>?_
     refine hQ (.two w s1 s2) dR i4 ⟨o1,o2⟩ (by simp only[aR];omega) (by simp only[cnt,hw];simp;omega) ((kk.trans k2).trans (x3.keep.trans k4)) hi4 a4 ?_
     rw[b4];simp only[cnt,hw];simp;omega
    rcases hor with rfl|rfl|rfl|rfl
    ·walk_at"ex"; exact step .and rfl hQ
    ·walk_at"ex"; exact step .or rfl hQ
    ·walk_at"ex"; exact step .aV rfl hQ
    ·walk_at"ex"; exact step .same rfl hQ
  by_cases h8:8<v
  ·simp only[h8,if_true]
   rw[gY b1]
   walk_at"ex"
   by_cases hl0:0<l
   ·simp only[hl0,if_true]
    walk_at"st"
    rw[gY b1]
    walk_at"ex"
    rw[aK b1]
    simp only[Dd,bR,List.set_cons_zero]
    have a2:(put aC b (.lst [.int (l-1)])) a=some (.lst [.int (i+1)]):=by rw[bL eF];exact a1
    have kp:cC [a,b] st (put aC b (.lst [.int (l-1)])):=kk.trans (cC.put (by simp))
    walk_at"st"
    rw[hn1]
    refine ih a2 bB (by omega) (by omega) fun s1 aF i2 o1 d1 cc1 k2 hi2 a3 b3=>?_
    walk_at"st"
    by_cases e12:v=12
    ·simp only[e12,beq_self_eq_true,if_true]
     walk_at"st"
     rw[hn1]
     refine ih a3 b3 hi2 (by omega) fun s2 dR i4 o2 d2 c2' k4 hi4 a4 b4=>?_
     refine hQ (.two .since s1 s2) dR i4 ⟨o1,o2⟩ (by simp only[aR];omega) (by simp [cnt,p2];omega) ((kp.trans k2).trans k4) hi4 a4 ?_
     rw[b4];simp [cnt,p2];omega
    ·have e12':(v==12)=false:=by rw[beq_eq_false_iff_ne];exact e12
     simp only[e12',Bool.false_eq_true,if_false,aE]
     walk_at"st"
     refine cI (by decide) fun p bC x3 hp hp3=>?_
     walk_at"ex"
     rw[gY hp3]
     have fin:∀ w:W1,p1 w=true->Q (.tup [.str (c1 w),toD s1]) bC:=fun w hw=>by
      refine hQ (.one w s1) bC i2 o1 (by simp only[aR];omega) (by simp [cnt,hw];omega) ((kp.trans k2).trans x3.keep) hi2 (x3 _ _ a3) ?_
      rw[x3 _ _ b3];simp [cnt,hw];omega
     obtain rfl|rfl|rfl:v=9∨v=10∨v=11:=by omega
     ·walk_at"ex"; exact fin .before rfl
     ·walk_at"ex"; exact fin .once rfl
     ·walk_at"ex"; exact fin .sofar rfl
   ·simp only[hl0,if_false,aE]
    exact plain hQ
  ·simp only[h8,if_false,aE]
   exact plain hQ
end
end L3
end
section
namespace L3
open PySem
noncomputable def oQ:List (List Nat):=[W "a", W "b", W "x", W "y", W "lamp", W "far", W "yesno", W "abcdefgh"]
noncomputable def oT (fs gs:List (List Nat)):Bool:=decide (1<=fs.length)&&decide (fs.length<=2)&&decide (1<=gs.length)&&decide (gs.length<=2)&&decide ((fs++gs).Nodup)&&(fs++gs).all fun n=>oQ.contains n
noncomputable def oB (t:Int):List (List Nat):=cut oQ (some t) none++cut oQ none (some t)
theorem ME:∀(t:Fin 8)(f g:Fin 2),oT (cut (oB (t.val:Nat)) none (some (1+(f.val:Nat)))) (cut (oB (t.val:Nat)) (some (1+(f.val:Nat))) (some (1+(f.val:Nat)+(1+(g.val:Nat)))))=true:=by decide +kernel
theorem M7 {t f g:Int}(h0:0<=t)(h1:t<8)(h2:0<=f)(h3:f<2)(h4:0<=g)(h5:g<2):oT (cut (oB t) none (some (1+f))) (cut (oB t) (some (1+f)) (some (1+f+(1+g))))=true:=by
 have:=ME ⟨t.toNat,by omega⟩ ⟨f.toNat,by omega⟩ ⟨g.toNat,by omega⟩
 simp only[Int.toNat_of_nonneg h0,Int.toNat_of_nonneg h2,Int.toNat_of_nonneg h4]at this
 exact this
theorem xO {α β:Type}(f:α->β)(xs:List α)(lo hi:Option Int):cut (xs.map f) lo hi=(cut xs lo hi).map f:=by
 simp only[cut,List.length_map,List.map_take,List.map_drop]
noncomputable def G8 (iB:Nat):Fn:=⟨2,7,[.asg (.nm 2) (.lst [(.c (.str (W "a"))),(.c (.str (W "b"))),(.c (.str (W "x"))),(.c (.str (W "y"))),(.c (.str (W "lamp"))),(.c (.str (W "far"))),(.c (.str (W "yesno"))),(.c (.str (W "abcdefgh")))]),.asg (.nm 3) (.call iB [(.v 0),(.v 1),(.c (.int 8))]),.asg (.nm 4) (.bin .add (.sl (.v 2) [(.v 3)] []) (.sl (.v 2) [] [(.v 3)])),.asg (.nm 5) (.bin .add (.c (.int 1)) (.call iB [(.v 0),(.v 1),(.c (.int 2))])),.asg (.nm 6) (.bin .add (.c (.int 1)) (.call iB [(.v 0),(.v 1),(.c (.int 2))])),.ret (.tup [(.bi .tuple [(.sl (.v 4) [] [(.v 5)])]),(.bi .tuple [(.sl (.v 4) [(.v 5)] [(.bin .add (.v 5) (.v 6))])])])]⟩
section
variable {G:Prog}{k ic im iB is:Nat}{st:aA}{Q:VK}{E:XK}{ns:List Int}
theorem QT {inm:Nat}(hm':G.fns inm=some (G8 iB))(hn:G.fns iB=some (A7 im))(hm:G.fns im=some (oX ic))(hc:G.fns ic=some qW){a:Nat}{i:Int}(ha:st a=some (.lst [.int i]))(hi:0<=i)
  (hQ:∀ fs gs aB i',oT fs gs=true->cC [a] st aB->0<=i'->aB a=some (.lst [.int i'])->Q (.tup [.tup (fs.map .str),.tup (gs.map .str)]) aB):
  aM G (k+4) inm [.bF (ns.map .int),.ref a] st Q E:=by
 have hL:bG=16777216:=rfl
 rw[bA hm']
 simp only[G8,start]
 refine⟨rfl,?_⟩
 walk_at"st"
 refine cI (by decide) fun p aC x1 hp hp1=>?_
 have pa:p≠a:=fun z=>by rw[z,ha]at hp;cases hp
 walk_at"st"
 refine mQ hn hm hc (x1 a _ ha) hi (by omega) fun aF k2 a2=>?_
 have t0:=mO (ns:=ns) (k:=i+1) (many:=8) (by omega)
 have t1:=mP (ns:=ns) (k:=i+1) (many:=8) (by omega)
 generalize pN ns (i+1) 8=t at t0 t1
 have p2:=k2 p _ (by simpa using pa) hp1
 walk_at"st"
 rw[aK p2]
 intro q hq
 have x3:Ext aF (put aF q (.lst (cut [.str (W "a"),.str (W "b"),.str (W "x"),.str (W "y"),.str (W "lamp"),.str (W "far"),.str (W "yesno"),.str (W "abcdefgh")] (some t) none))):=Ext.new hq
 walk_at"ex"
 rw[aK (x3 p _ p2)]
 intro q' hq'
 have x4:=Ext.new (o:=.lst (cut [.str (W "a"),.str (W "b"),.str (W "x"),.str (W "y"),.str (W "lamp"),.str (W "far"),.str (W "yesno"),.str (W "abcdefgh")] none (some t))) hq'
 walk_at"ex"
 rw[aK (x4 q _ bB),aK bB]
 have eL:([.str (W "a"),.str (W "b"),.str (W "x"),.str (W "y"),.str (W "lamp"),.str (W "far"),.str (W "yesno"),.str (W "abcdefgh")]:List D)=oQ.map .str:=rfl
 have er:cut ([.str (W "a"),.str (W "b"),.str (W "x"),.str (W "y"),.str (W "lamp"),.str (W "far"),.str (W "yesno"),.str (W "abcdefgh")]:List D) (some t) none++cut [.str (W "a"),.str (W "b"),.str (W "x"),.str (W "y"),.str (W "lamp"),.str (W "far"),.str (W "yesno"),.str (W "abcdefgh")] none (some t)=(oB t).map .str:=by
  rw[eL,xO,xO,<-List.map_append];rfl
 have lr:(oB t).length<=16:=by
  have l1:=xV (xs:=oQ) (lo:=some t) (hi:=none)
  have l2:=xV (xs:=oQ) (lo:=none) (hi:=some t)
  have l3:oQ.length=8:=rfl
  simp only[oB,List.length_append];omega
 rw[er]
 refine cI (by simp only[List.length_map];omega) fun r gB x5 hr hr5=>?_
 have k5:cC [a] st gB:=((x1.keep.trans k2).trans x3.keep).trans (x4.keep.trans x5.keep)
 have a5:gB a=some (.lst [.int (i+1)]):=x5 _ _ (x4 _ _ (x3 _ _ a2))
 have ra:r≠a:=fun z=>by rw[z,x4 _ _ (x3 _ _ a2)]at hr;cases hr
 walk_at"st"
 refine mQ hn hm hc a5 (by omega) (by omega) fun mK k6 a6=>?_
 have f0:=mO (ns:=ns) (k:=i+1+1) (many:=2) (by omega)
 have f1:=mP (ns:=ns) (k:=i+1+1) (many:=2) (by omega)
 generalize pN ns (i+1+1) 2=f at f0 f1
 walk_at"ex"
 walk_at"st"
 refine mQ hn hm hc a6 (by omega) (by omega) fun sP k7 a7=>?_
 have g0:=mO (ns:=ns) (k:=i+1+1+1) (many:=2) (by omega)
 have g1:=mP (ns:=ns) (k:=i+1+1+1) (many:=2) (by omega)
 generalize pN ns (i+1+1+1) 2=g at g0 g1
 have r7:sP r=some (.lst ((oB t).map .str)):=k7 r _ (by simpa using ra) (k6 r _ (by simpa using ra) hr5)
 walk_at"ex"
 walk_at"st"
 rw[aK r7]
 intro u hu
 walk_at"ex"
 rw[aK bB]
 have xu:=Ext.new (o:=.lst (cut ((oB t).map D.str) none (some (1+f)))) hu
 have c1:=xV (xs:=(oB t).map D.str) (lo:=none) (hi:=some (1+f))
 have c2:=xV (xs:=(oB t).map D.str) (lo:=some (1+f)) (hi:=some (1+f+(1+g)))
 simp only[List.length_map]at c1 c2
 refine⟨by omega,?_⟩
 rw[aK (xu r _ r7)]
 intro u' hu'
 walk_at"ex"
 rw[aK bB]
 refine⟨by omega,?_⟩
 have xu':=Ext.new (o:=.lst (cut ((oB t).map D.str) (some (1+f)) (some (1+f+(1+g))))) hu'
 rw[xO,xO]at *
 exact hQ _ _ _ (i+1+1+1) (M7 t0 t1 f0 f1 g0 g1) ((k5.trans (k6.trans k7)).trans (xu.keep.trans xu'.keep)) (by omega) (xu' _ _ (xu _ _ a7))
end
end L3
end
section
namespace L3
open PySem
theorem ZK (w w':W1):(c1 w==c1 w')=decide (w=w'):=by cases w<;>cases w'<;>decide +kernel
theorem W8 (w w':W2):(c2 w==c2 w')=decide (w=w'):=by cases w<;>cases w'<;>decide +kernel
theorem JZ (w:W1):(W "lamp" == c1 w)=false/\(c1 w==W "lamp")=false:=by cases w<;>decide +kernel
theorem cF {st:aA}{as bs:List D}:bM st (.tup as) (.tup bs)=iO st as bs:=by simp only[bM]
theorem bT {st:aA}{a b:D}{as bs:List D}:iO st (a::as) (b::bs)=(bM st a b&&iO st as bs):=by simp only[iO]
theorem pA {st:aA}:iO st [] []=true:=rfl
theorem lB {st:aA}{b:D}{bs:List D}:iO st [] (b::bs)=false:=rfl
theorem lD {st:aA}{b:D}{bs:List D}:iO st (b::bs) []=false:=rfl
theorem NP:(W "yes" == W "no")=false/\(W "no" == W "yes")=false:=by decide +kernel
theorem oR {st:aA}:∀ s t:Sy,bM st (toD s) (toD t)=decide (s=t)
 |.yes,.yes=>by simp only[toD,cF,bT,gM,pA,beq_self_eq_true,Bool.and_self,decide_true]
 |.yes,.no=>by simp only[toD,cF,bT,gM,NP.1,Bool.false_and];rfl
 |.yes,.cJ _=>by simp only[toD,cF,bT,lB,Bool.and_false];rfl
 |.yes,.one _ _=>by simp only[toD,cF,bT,lB,Bool.and_false];rfl
 |.yes,.two _ _ _=>by simp only[toD,cF,bT,lB,Bool.and_false];rfl
 |.no,.yes=>by simp only[toD,cF,bT,gM,NP.2,Bool.false_and];rfl
 |.no,.no=>by simp only[toD,cF,bT,gM,pA,beq_self_eq_true,Bool.and_self,decide_true]
 |.no,.cJ _=>by simp only[toD,cF,bT,lB,Bool.and_false];rfl
 |.no,.one _ _=>by simp only[toD,cF,bT,lB,Bool.and_false];rfl
 |.no,.two _ _ _=>by simp only[toD,cF,bT,lB,Bool.and_false];rfl
 |.cJ _,.yes=>by simp only[toD,cF,bT,lD,Bool.and_false];rfl
 |.cJ _,.no=>by simp only[toD,cF,bT,lD,Bool.and_false];rfl
 |.cJ m,.cJ n=>by
  simp only[toD,cF,bT,pA,gM,beq_self_eq_true,Bool.and_true,Bool.true_and,Sy.cJ.injEq]
  rw[Bool.beq_eq_decide_eq]
 |.cJ m,.one w s=>by simp only[toD,cF,bT,gM,(JZ w).1,Bool.false_and];rfl
 |.cJ _,.two _ _ _=>by simp only[toD,cF,bT,lB,Bool.and_false];rfl
 |.one _ _,.yes=>by simp only[toD,cF,bT,lD,Bool.and_false];rfl
 |.one _ _,.no=>by simp only[toD,cF,bT,lD,Bool.and_false];rfl
 |.one w s,.cJ m=>by simp only[toD,cF,bT,gM,(JZ w).2,Bool.false_and];rfl
 |.one w s,.one w' s'=>by
  simp only[toD,cF,bT,pA,gM,ZK,oR s s',Bool.and_true,Sy.one.injEq]
  by_cases h:w=w'<;>by_cases h':s=s'<;>simp [h,h']
 |.one _ _,.two _ _ _=>by simp only[toD,cF,bT,lB,Bool.and_false];rfl
 |.two _ _ _,.yes=>by simp only[toD,cF,bT,lD,Bool.and_false];rfl
 |.two _ _ _,.no=>by simp only[toD,cF,bT,lD,Bool.and_false];rfl
 |.two _ _ _,.cJ _=>by simp only[toD,cF,bT,lD,Bool.and_false];rfl
 |.two _ _ _,.one _ _=>by simp only[toD,cF,bT,lD,Bool.and_false];rfl
 |.two w s t,.two w' s' t'=>by
  simp only[toD,cF,bT,pA,gM,W8,oR s s',oR t t',Bool.and_true,Sy.two.injEq]
  by_cases h:w=w'<;>by_cases h':s=s'<;>by_cases h'':t=t'<;>simp [h,h',h'']
theorem KC {st:aA}(x:Sy)(f:List Sy):((f.map toD).any fun d=>bM st d (toD x))=f.contains x:=by
 induction f with
 |nil=>rfl
 |cons y r ih =>
 simp only[List.map_cons,List.any_cons,ih,oR,List.contains_cons]
 congr 1
 by_cases h:y=x
 ·simp [h]
 ·simp [h,Ne.symm h]
theorem MA (f:List Sy):bQ (f.map toD)=true:=by
 induction f with
 |nil=>rfl
 |cons x r ih=>simp only[List.map_cons,bQ,kU,ih,Bool.and_self]
theorem RH {n:Nat}(f:List Sy)(h:∀ s∈f,aR s<=n):cK (f.map toD)<=n:=by
 induction f with
 |nil=>exact Nat.zero_le _
 |cons x r ih =>
 simp only[List.map_cons,cK,oS]
 have:=h x (by simp)
 have:=ih fun s hs=>h s (by simp [hs])
 omega
theorem DE {st:aA}{s:Sy}(h:aR s<=60):plainS st (toD s):=⟨yV _ (kU s),Nat.le_trans (by rw[oS];exact h) (by decide)⟩
theorem BD {st:aA}{f:List Sy}(h:∀ s∈f,aR s<=60):dM st (f.map toD):=⟨qS _ (MA f),Nat.le_trans (RH f h) (by decide)⟩
noncomputable def wd:Sy->List Nat
 |.yes=>W "yes"
 |.no=>W "no"
 |.cJ _=>W "lamp"
 |.one w _=>c1 w
 |.two w _ _=>c2 w
noncomputable def subs:Sy->List Sy
 |.one _ s=>[s]
 |.two _ s t=>[s,t]
 |_=>[]
noncomputable def bV:Sy->Bool
 |.one w _=>p1 w
 |.two w _ _=>p2 w
 |_=>false
noncomputable def fN:Sy->Bool
 |.cJ _=>true
 |_=>false
theorem nL (s:Sy):∃ r,toD s=.tup (.str (wd s)::r):=by cases s<;>exact⟨_,rfl⟩
theorem P7 {s:Sy}(h:fN s=false):toD s=.tup (.str (wd s)::(subs s).map toD):=by cases s<;>first|rfl|cases h
noncomputable def lU:List (List Nat):=[W "before", W "once", W "sofar", W "since"]
theorem B1 (s:Sy):lU.contains (wd s)=bV s:=by
 cases s with
 |one w s=>cases w<;>(simp only[wd,bV];decide +kernel)
 |two w s t=>cases w<;>(simp only[wd,bV];decide +kernel)
 |_=>(simp only[wd,bV];decide +kernel)
theorem B5 (s:Sy):(wd s==W "lamp")=fN s:=by
 cases s with
 |one w s=>cases w<;>(simp only[wd,fN];decide +kernel)
 |two w s t=>cases w<;>(simp only[wd,fN];decide +kernel)
 |_=>(simp only[wd,fN];decide +kernel)
noncomputable def eR (f:List Sy)(s:Sy):List Sy:=if bV s && !f.contains s then f++[s]else f
noncomputable def aW:Sy->List Sy->List Sy
 |.one w s,f=>aW s (eR f (.one w s))
 |.two w s t,f=>aW t (aW s (eR f (.two w s t)))
 |_,f=>f
noncomputable def cU:List Sy->List Sy->List Sy
 |[],f=>f
 |s::r,f=>cU r (aW s f)
theorem X9 (s:Sy)(f:List Sy):aW s f=cU (subs s) (eR f s):=by
 cases s<;>simp [aW,subs,cU,eR,bV]
theorem ID (a b:List Sy)(f:List Sy):cU (a++b) f=cU b (cU a f):=by
 induction a generalizing f with
 |nil=>rfl
 |cons x r ih=>simp only[List.cons_append,cU,ih]
theorem NS (s:Sy)(r f:List Sy):cU (s::r) f=cU (subs s++r) (eR f s):=by rw[ID,<-X9];rfl
noncomputable def sz:Sy->Nat
 |.one _ s=>sz s+1
 |.two _ s t=>sz s+sz t+1
 |_=>1
noncomputable def fE (l:List Sy):Nat:=(l.map sz).sum
theorem EI:∀ s:Sy,sz s+1<=2 ^ aR s
 |.yes=>by decide
 |.no=>by decide
 |.cJ _=>by simp only[sz,aR];decide
 |.one w s=>by have:=EI s;simp only[sz,aR,Nat.pow_succ];omega
 |.two w s t=>by
  have h1:=EI s
  have h2:=EI t
  have a:=Nat.pow_le_pow_right (n:=2) (by omega) (Nat.le_max_left (aR s) (aR t))
  have b:=Nat.pow_le_pow_right (n:=2) (by omega) (Nat.le_max_right (aR s) (aR t))
  simp only[sz,aR,Nat.pow_succ];omega
theorem KG (s:Sy):fE (subs s)+1=sz s:=by cases s<;>simp [subs,fE,sz]
theorem yW {s t:Sy}(h:t∈subs s):aR t<aR s:=by cases s<;>simp [subs]at h<;>simp only[aR]<;>(try rcases h with rfl|rfl)<;>(try subst h)<;>omega
theorem zL {f:List Sy}{s:Sy}{n:Nat}(h:∀ x∈f,aR x<=n)(hs:aR s<=n):∀ x∈eR f s,aR x<=n:=by
 unfold eR
 split
 ·intro x hx
  rcases List.mem_append.mp hx with hx|hx
  ·exact h x hx
  ·simp at hx;subst hx;exact hs
 ·exact h
theorem P6 (f:List Sy)(s:Sy):(eR f s).length<=f.length+1:=by unfold eR;split<;>simp
theorem xQ:∀(s:Sy){f:List Sy}{n:Nat},(∀ x∈f,aR x<=n)->aR s<=n->∀ x∈aW s f,aR x<=n
 |.yes,_,_,h,_=>h
 |.no,_,_,h,_=>h
 |.cJ _,_,_,h,_=>h
 |.one w s,f,n,h,hs=>xQ s (zL h hs) (by simp only[aR]at hs;omega)
 |.two w s t,f,n,h,hs=>xQ t (xQ s (zL h hs) (by simp only[aR]at hs;omega)) (by simp only[aR]at hs;omega)
end L3
end
section
namespace L3
open PySem
noncomputable def iF:Fn:=⟨1,1,[.iff (.cmp .eq (.ix (.v 0) (.c (.int 0))) (.c (.str (W "lamp")))) [.ret (.tup [])] [],.ret (.sl (.v 0) [(.c (.int 1))] [])]⟩
noncomputable def tO:D:=.tup (lU.map .str)
noncomputable def lJ (iw:Nat):Fn:=⟨1,4,[.asg (.nm 1) (.lst []),.asg (.nm 2) (.bit .list .rev [(.v 0)]),.whl (.v 2) [.asg (.nm 3) (.cD .pop (.v 2) []),.iff (.and_ (.cmp .in_ (.ix (.v 3) (.c (.int 0))) (.c tO)) (.cmp .iW (.v 3) (.v 1))) [.ex (.cD .append (.v 1) [(.v 3)])] [],.ex (.cD .extend (.v 2) [(.bit .list .rev [(.call iw [(.v 3)])])])],.ret (.v 1)]⟩
section
variable {G:Prog}{k ip iw:Nat}{st:aA}{Q:VK}{E:XK}
theorem qO (hw:G.fns iw=some iF){s:Sy}(hQ:Q (.tup ((subs s).map toD)) st):aM G (k+1) iw [toD s] st Q E:=by
 rw[bA hw]
 simp only[iF,start]
 refine⟨rfl,?_⟩
 obtain⟨r,er⟩:=nL s
 walk_at"st"
 rw[er]
 walk_at"ex"
 rw[B5,<-er]
 cases h:fN s with
 |true =>
 simp only[if_true]
 walk_at"st"
 cases s<;>first|exact hQ|cases h
 |false =>
 simp only[Bool.false_eq_true,if_false,aE]
 walk_at"st"
 rw[P7 h]
 walk_at"ex"
 exact hQ
end
end L3
end
section
namespace L3
open PySem
theorem K5 {C:aX}{sub:Nat->Nat->Bool}(hC:bI C C){c:Ex}{b:List Sx}{P:fV}(I:Nat->St->aA->Prop)
  (step:∀ m σ st,I m σ st->aG C sub (fun c aB=>P.ex c σ aB) c σ st fun d aB=>dQ d aB fun k =>
   if k=true then cN C sub b { P with nx:=fun σ st=>∃ m',m'<m/\I m' σ st,ct:=fun σ st=>∃ m',m'<m/\I m' σ st,bk:=P.nx } σ aB else P.nx σ aB){m:Nat}{σ:St}{st:aA}(h:I m σ st):wpS C sub (.whl c b) P σ st:=by
 refine⟨m+1,?_⟩
 have key:∀(n m:Nat)(σ:St)(st:aA),m<n->I m σ st->nM (fun next σ st=>aG C sub (fun c aB=>P.ex c σ aB) c σ st fun d aB=>dQ d aB fun k =>
   if k=true then cN C sub b { P with nx:=next,ct:=next,bk:=P.nx } σ aB else P.nx σ aB) n σ st:=by
  intro n
  induction n with
  |zero=>intro m σ st h;omega
  |succ n ih =>
   intro m σ st hm hI
   refine aS hC (fun _ _ z=>z) c (fun d aB=>iJ fun k=>?_) (step m σ st hI)
   split
   ·exact gU hC b ⟨fun σ st ⟨m',h1,h2⟩=>ih m' σ st (by omega) h2,fun _ _ z=>z,fun _ _ z=>z,fun σ st ⟨m',h1,h2⟩=>ih m' σ st (by omega) h2,fun _ _ _ z=>z⟩
   ·exact id
 exact key (m+1) m σ st (by omega) h
section
variable {G:Prog}{k ip iw iz:Nat}{st:aA}{Q:VK}{E:XK}
theorem jU (s:Sy)(r:List Sy):fE (s::r)=sz s+fE r:=by simp [fE]
theorem kA (a b:List Sy):fE (a++b)=fE a+fE b:=by simp [fE]
theorem OF (s:Sy):0<sz s:=by cases s<;>simp [sz]
theorem BU (r:List Sy):r.length<=fE r:=by
 induction r with
 |nil=>simp
 |cons s r ih=>have:=OF s;simp only[jU,List.length_cons];omega
theorem vS (hz:G.fns iz=some (lJ iw))(hw:G.fns iw=some iF){l:Nat}{ss:List Sy}(hl:st l=some (.lst (ss.map toD)))(hd:∀ x∈ss,aR x<=60)(hs:fE ss<bG)
  (hQ:∀ p aB,Ext st aB->aB p=some (.lst ((cU ss []).map toD))->Q (.ref p) aB):aM G (k+2) iz [.ref l] st Q E:=by
 rw[bA hz]
 simp only[lJ,start]
 refine⟨rfl,?_⟩
 walk_at"st"
 refine cI (by decide) fun p aC x1 hp hp1=>?_
 walk_at"st"
 rw[aK (x1 l _ hl)]
 refine cI (by have:=BU ss;simp only[List.length_reverse,List.length_map];omega) fun q aF x2 hq hq2=>?_
 have hpq:p≠q:=fun z=>by rw[z]at hp1;rw[hq]at hp1;cases hp1
 have p2:=x2 p _ hp1
 try dsimp only
 refine fM ?_
 refine K5 (lC G (Nat.le_refl _)) (fun m σ aB=>∃(stack f:List Sy)(o:Option D),σ=[some (.ref l),some (.ref p),some (.ref q),o]/\aB p=some (.lst (f.map toD))/\aB q=some (.lst (stack.map toD).reverse)/\fE stack=m /\
  (∀ x∈stack,aR x<=60)/\(∀ x∈f,aR x<=60)/\f.length+fE stack<bG/\cU stack f=cU ss []/\Ext st aB) ?_ (m:=fE ss) ⟨ss,[],none,rfl,p2,hq2,rfl,hd,by simp,by simpa using hs,rfl,fun a o e=>x2 a o (x1 a o e)⟩
 rintro m σ bC ⟨stack,f,o,rfl,hp3,hq3,hm,hds,hdf,hlen,yU,x3⟩
 walk_at"ex"
 rw[KD,gQ hq3]
 cases stack with
 |nil =>
  simp only[List.map_nil,List.reverse_nil,List.isEmpty_nil,Bool.not_true,Bool.false_eq_true,if_false]
  walk_at"st"
  refine hQ p bC x3 ?_
  rw[<-yU];exact hp3
 |cons s r =>
  have hne:(!((List.map toD (s::r)).reverse).isEmpty)=true:=by simp
  rw[hne]
  simp only[if_true]
  have hds':=hds s (by simp)
  rw[jU]at hm hlen
  have hsp:=OF s
  have hss:=KG s
  walk_at"st"
  rw[aK hq3]
  refine⟨trivial,?_⟩
  rw[aK hq3]
  have elast:((List.map toD (s::r)).reverse)[((List.map toD (s::r)).reverse).length-1]? = some (toD s):=by
   simp only[List.map_cons,List.reverse_cons,List.length_append,List.length_cons,List.length_nil]
   rw[List.getElem?_append_right (by simp)]
   simp
  have edrop:((List.map toD (s::r)).reverse).dropLast=(r.map toD).reverse:=by simp
  rw[elast,edrop,bR]
  try dsimp only
  have hp4:(put bC q (.lst (r.map toD).reverse)) p=some (.lst (f.map toD)):=by rw[bL hpq];exact hp3
  have hx4:Ext st (put bC q (.lst (r.map toD).reverse)):=fun a u e=>by
   by_cases ha:a=q
   ·exfalso
    rw[ha]at e
    rw[x1 q _ e]at hq;cases hq
   ·rw[bL ha];exact x3 a u e
  have head:∀{P:fV}{dR:aA}{rest:List Sx},dR p=some (.lst (f.map toD)) ->
    (∀ aB,cC [p] dR aB->aB p=some (.lst ((eR f s).map toD))->cN (aM G (k+1)) G.sub rest P [some (.ref l),some (.ref p),some (.ref q),some (toD s)] aB) ->
    cN (aM G (k+1)) G.sub ((.iff (.and_ (.cmp .in_ (.ix (.v 3) (.c (.int 0))) (.c tO)) (.cmp .iW (.v 3) (.v 1))) [.ex (.cD .append (.v 1) [(.v 3)])] [])::rest) P [some (.ref l),some (.ref p),some (.ref q),some (toD s)] dR:=by
   intro P dR rest hb hN
   obtain⟨rr,er⟩:=nL s
   walk_at"st"
   rw[er]
   simp only[tO]
   walk_at"ex"
   rw[<-er]
   refine⟨(mZ lU).s,?_⟩
   have e1:(List.any (lU.map .str) fun d=>bM dR d (.str (wd s)))=bV s:=(tE (wd s) lU).trans (B1 s)
   rw[e1]
   cases hpp:bV s with
   |false =>
    simp only[Bool.false_eq_true,if_false,aE]
    refine hN dR .refl ?_
    simp only[eR,hpp,Bool.false_and,Bool.false_eq_true,if_false]
    exact hb
   |true =>
    simp only[if_true]
    rw[IB,gQ hb,KC]
    refine⟨DE hds',BD hdf,?_⟩
    cases hc:f.contains s with
    |true =>
     simp only[Bool.not_true,Bool.false_eq_true,if_false,aE]
     refine hN dR .refl ?_
     simp only[eR,hpp,hc,Bool.not_true,Bool.and_false,Bool.false_eq_true,if_false]
     exact hb
    |false =>
     simp only[Bool.not_false,if_true]
     walk_at"st"
     rw[aK hb]
     refine⟨trivial,?_⟩
     rw[aK hb]
     refine⟨by simp only[List.length_map];omega,?_⟩
     rw[aE]
     refine hN _ (cC.put (by simp)) ?_
     rw[bB]
     simp only[eR,hpp,hc,Bool.not_false,Bool.and_self,if_true,List.map_append,List.map_cons,List.map_nil]
  refine head hp4 fun gB k5 hp5=>?_
  have hq5:gB q=some (.lst (r.map toD).reverse):=k5 q _ (by simpa using Ne.symm hpq) bB
  have hx5:Ext st gB:=fun a u e=>by
   by_cases ha:a=p
   ·exfalso
    rw[ha]at e;rw[hp]at e;cases e
   ·exact k5 a u (by simpa using ha) (hx4 a u e)
  walk_at"st"
  rw[aK hq5]
  refine⟨trivial,qO hw ?_⟩
  walk_at"ex"
  have hsl:=BU (subs s)
  have hrl:=BU r
  refine cI (by simp only[List.length_reverse,List.length_map];omega) fun u mK x6 hu hu6=>?_
  walk_at"ex"
  rw[aK (x6 q _ hq5),aK hu6]
  refine⟨by simp only[List.length_reverse,List.length_map];omega,?_⟩
  rw[aE]
  dsimp only
  refine⟨fE (subs s++r),by rw[kA];omega,subs s++r,eR f s,_,rfl,?_,?_,rfl,fun x hx=>?_,zL hdf hds',?_,?_,fun a v e=>?_⟩
  ·rw[bL hpq];exact x6 p _ hp5
  ·rw[bB];simp
  ·rcases List.mem_append.mp hx with hx|hx
   ·have:=yW hx;omega
   ·exact hds x (by simp [hx])
  ·have:=P6 f s;rw[kA];omega
  ·rw[<-NS];exact yU
  ·by_cases ha:a=q
   ·exfalso
    rw[ha]at e
    rw[x1 q _ e]at hq;cases hq
   ·rw[bL ha];exact x6 a v (hx5 a v e)
end
end L3
end
section
namespace L3
open PySem
noncomputable def eH:List (List Nat):=[W "yes", W "no", W "not", W "and", W "or", W "then", W "same", W "before", W "once", W "sofar", W "since", W "foe", W "friend", W "promise", W "must", W "wish"]
noncomputable def dW:List Nat:=W "abcdefghijklmnopqrstuvwxyz"
noncomputable def gK (nn lt lg:D):Fn:=⟨1,1,[.iff (.or_ (.not_ (.isi (.v 0) [.str])) (.cmp .in_ (.v 0) (.c nn))) [.ret (.c (.bl false))] [],.ret (.and_ (.chain .le .le (.c (.int 1)) (.bi .len [(.v 0)]) (.c lg)) (.bi .all [(.comp 1 [] [0] true none [(.v 0)] [] (.cmp .in_ (.v 0) (.c lt)))]))]⟩
noncomputable def fB (w:List Nat):Bool:=!(eH.any (·== w))&&decide (1<=w.length)&&decide (w.length<=8)&&w.all fun c=>occurs [c] dW
section
variable {G:Prog}{k i:Nat}{st:aA}{Q:VK}{E:XK}
theorem VO (st:aA)(w:List Nat):((eH.map D.str).any fun d=>bM st d (.str w))=eH.any (·== w):=by
 rw[List.any_map];rfl
theorem NV (st:aA):dM st (eH.map D.str):=⟨rfl,by decide⟩
noncomputable def RG:D->Bool
 |.str x=>occurs x dW
 |_=>false
theorem DV:∀(w:List Nat),boolsOf ((w.map fun c=>D.str [c]).map fun d=>.bl (RG d))=some (w.map fun c=>occurs [c] dW)
 |[]=>rfl
 |c::r=>by
  show(boolsOf ((r.map fun c=>D.str [c]).map fun d=>.bl (RG d))).map (_ :: ·)=_
  rw[DV r];rfl
theorem A3 (h:G.fns i=some (gK (.tup (eH.map .str)) (.str dW) (.int 8))){w:List Nat}(hw:w.length<=bG)(hQ:∀ aB,Ext st aB->Q (.bl (fB w)) aB):aM G (k+1) i [.str w] st Q E:=by
 have hL:bG=16777216:=rfl
 rw[bA h]
 simp only[gK,start]
 refine⟨rfl,?_⟩
 walk_at"st"
 refine⟨NV st,?_⟩
 rw[VO]
 cases c1:eH.any (·== w)with
 |true =>
  simp only[if_true]
  walk_at"st"
  have e:fB w=false:=by simp [fB,c1]
  rw[<-e];exact hQ _ (fun _ _ z=>z)
 |false =>
  simp only[Bool.false_eq_true,if_false]
  rw[aE]
  walk_at"st"
  refine⟨hw,?_⟩
  split
  ·rename_i g1
   split
   ·rename_i g2
    refine⟨hw,?_⟩
    refine comp_map (fun d=>.bl (RG d)) _ [] st (fun aB x a ha=>by cases ha) ?_ (by simp only[List.length_map,List.length_nil];omega) fun aB x=>?_
    ·intro x hx aB K x1 hK
     obtain⟨c,hc,rfl⟩:=List.mem_map.mp hx
     exact hK aB .refl
    ·rw[List.nil_append]
     refine cI (by simp only[List.length_map];omega) fun p aF x2 hp jX=>?_
     simp only[dN]
     rw[aK jX,DV]
     have e:fB w=(w.map fun c=>occurs [c] dW).all id:=by
      simp only[fB,c1,List.all_map]
      have h1:decide (1<=w.length)=true:=decide_eq_true (by omega)
      have h2:decide (w.length<=8)=true:=decide_eq_true (by omega)
      rw[h1,h2]
      rfl
     show Q _ _
     rw[<-e]
     exact hQ _ (x.trans x2)
   ·rename_i g2
    have e:fB w=decide ((w.length:Int)<=8):=by
     have h2:decide (w.length<=8)=false:=decide_eq_false (by omega)
     have h3:decide ((w.length:Int)<=8)=false:=decide_eq_false g2
     simp only[fB,h2,h3,Bool.and_false,Bool.false_and]
    rw[<-e];exact hQ _ .refl
  ·rename_i g1
   have e:fB w=false:=by
    have h1:decide (1<=w.length)=false:=decide_eq_false (by omega)
    simp only[fB,h1,Bool.and_false,Bool.false_and]
   rw[<-e];exact hQ _ .refl
end
end L3
end
section
namespace L3
open PySem
noncomputable def kO (eZ dJ:Nat)(sw:D):Fn:=⟨3,3,[.iff (.or_ (.cmp .lt (.v 2) (.c (.int 1))) (.or_ (.not_ (.isi (.v 1) [.tuple])) (.or_ (.cmp .lt (.bi .len [(.v 1)]) (.c (.int 1))) (.not_ (.isi (.ix (.v 1) (.c (.int 0))) [.str]))))) [.ret (.c (.bl false))] [],.iff (.cmp .eq (.ix (.v 1) (.c (.int 0))) (.c (.str (W "lamp")))) [.ret (.and_ (.cmp .eq (.bi .len [(.v 1)]) (.c (.int 2))) (.and_ (.call eZ [(.ix (.v 1) (.c (.int 1)))]) (.cmp .in_ (.ix (.v 1) (.c (.int 1))) (.v 0))))] [],.iff (.or_ (.cmp .iW (.ix (.v 1) (.c (.int 0))) (.c sw)) (.cmp .ne (.bi .len [(.v 1)]) (.bin .add (.c (.int 1)) (.ix (.c sw) (.ix (.v 1) (.c (.int 0))))))) [.ret (.c (.bl false))] [],.ret (.bi .all [(.comp 1 [0,2] [0] true none [(.sl (.v 1) [(.c (.int 1))] [])] [] (.call dJ [(.v 1),(.v 0),(.bin .sub (.v 2) (.c (.int 1)))]))])]⟩
section
variable {G:Prog}{k eZ dJ:Nat}{Q:VK}{E:XK}
noncomputable def uD:List D:=[(.str (W "yes")),(.str (W "no")),(.str (W "not")),(.str (W "before")),(.str (W "once")),(.str (W "sofar")),(.str (W "and")),(.str (W "or")),(.str (W "then")),(.str (W "same")),(.str (W "since"))]
noncomputable def vR:List D:=[(.int 0),(.int 0),(.int 1),(.int 1),(.int 1),(.int 1),(.int 2),(.int 2),(.int 2),(.int 2),(.int 2)]
theorem iQ {α:Type}:∀(ps:List α),boolsOf (ps.map fun _=>.bl true)=some (ps.map fun _=>true)
 |[]=>rfl
 |_::r=>by
  show(boolsOf (r.map fun _=>.bl true)).map (true :: ·)=_
  rw[iQ r];rfl
theorem tF (h:G.fns dJ=some (kO eZ dJ (.cO uD vR))){nm:D}{w:List Nat}{ps:List D}{st:aA}{d:Int}(hd:1<=d)(hl:¬(w==W "lamp")=true)(hin:(uD.any fun x=>bH x (.str w))=true)(har:sY uD vR (.str w)=some (.int ps.length))(hps:ps.length<=2)
  (hp:∀ x∈ps,∀(aB:aA)(Q':VK)(E':XK),Ext st aB->(∀ aU,Ext aB aU->Q' (.bl true) aU)->aM G k dJ [nm,x,.int (d-1)] aB Q' E')(hQ:∀ aB,Ext st aB->Q (.bl true) aB):aM G (k+1) dJ [nm,.tup (.str w::ps),.int d] st Q E:=by
 have hL:bG=16777216:=rfl
 rw[bA h]
 simp only[kO,start]
 refine⟨rfl,?_⟩
 walk_at"st"
 have n1:¬d<1:=by omega
 simp only[if_neg n1]
 have n2:¬((ps.length+1:Nat):Int)<1:=by omega
 simp only[List.length_cons,if_neg n2]
 walk_at"ex"
 rw[aE]
 walk_at"st"
 rw[if_neg hl]
 rw[aE]
 walk_at"st"
 rw[hin]
 simp only[Bool.not_true,Bool.false_eq_true,if_false]
 rw[har]
 show plainS st (.int (1+(ps.length:Int)))/\_
 refine⟨⟨rfl,Nat.zero_le _⟩,?_⟩
 have n3:¬(!bM st (.int ((ps.length+1:Nat):Int)) (.int (1+(ps.length:Int))))=true:=by
  have e:(((ps.length+1:Nat):Int)==1+(ps.length:Int))=true:=beq_iff_eq.mpr (by omega)
  simp only[bM,e,Bool.not_true,Bool.false_eq_true,not_false_iff]
 rw[if_neg n3,aE]
 walk_at"st"
 refine comp_map (fun _=>.bl true) ps [] st (fun aB x a ha=>by cases ha) (fun x hx aB K x1 hK=>hp x hx aB _ _ x1 fun aU x2=>hK aU x2) (by simp only[List.length_nil];omega) fun aB x1=>?_
 rw[List.nil_append]
 refine cI (by simp only[List.length_map];omega) fun p aF x2 hp' jX=>?_
 simp only[dN]
 rw[aK jX,iQ]
 show Q (.bl (((ps.map fun _=>true).all id))) _
 have e:(ps.map fun _=>true).all id=true:=by simp
 rw[e]
 exact hQ _ (x1.trans x2)
theorem D0 {n:List Nat}(h:fB n=true):n.length<=8:=by
 simp only[fB,Bool.and_eq_true,decide_eq_true_eq]at h
 exact h.1.2
theorem jB (st:aA):∀(names:List (List Nat)),dM st (names.map D.str)
 |[]=>⟨rfl,Nat.zero_le _⟩
 |n::r=>⟨by simp only[List.map_cons,fY,fJ,Bool.true_and];exact(jB st r).1,by simp only[List.map_cons,cK,cM];have:=(jB st r).2;omega⟩
theorem OY (st:aA)(names:List (List Nat))(n:List Nat)(h:n∈names):((names.map D.str).any fun d=>bM st d (.str n))=true:=by
 rw[List.any_map]
 exact List.any_eq_true.mpr ⟨n,h,by show(n==n)=true;simp⟩
theorem MM (h:G.fns dJ=some (kO eZ dJ (.cO uD vR)))(hn:G.fns eZ=some (gK (.tup (eH.map .str)) (.str dW) (.int 8))){names:List (List Nat)}(kB:∀ n∈names,fB n=true){n:List Nat}(ho:n∈names){st:aA}{d:Int}(hd:1<=d)
 (hQ:∀ aB,Ext st aB->Q (.bl true) aB):aM G (k+1+1) dJ [.tup (names.map .str),.tup [.str (W "lamp"),.str n],.int d] st Q E:=by
 have hL:bG=16777216:=rfl
 rw[bA h]
 simp only[kO,start]
 refine⟨rfl,?_⟩
 walk_at"st"
 have n1:¬d<1:=by omega
 simp only[if_neg n1]
 walk_at"ex"
 have n2:¬((0+1+1:Nat):Int)<1:=by decide
 simp only[if_neg n2]
 walk_at"ex"
 rw[aE]
 walk_at"st"
 have n3:(W "lamp" == W "lamp")=true:=by simp
 simp only[n3,if_true]
 walk_at"st"
 rw[if_pos (by decide)]
 refine A3 (w:=n) hn (by have:=D0 (kB n ho);omega) fun aB x1=>?_
 rw[kB n ho]
 show dM aB (names.map .str)/\Q (.bl ((names.map D.str).any fun d=>bM aB d (.str n))) aB
 refine⟨jB aB names,?_⟩
 rw[OY aB names n ho]
 exact hQ _ x1
theorem xN (h:G.fns dJ=some (kO eZ dJ (.cO uD vR)))(hn:G.fns eZ=some (gK (.tup (eH.map .str)) (.str dW) (.int 8))){names:List (List Nat)}(kB:∀ n∈names,fB n=true):
  ∀(s:Sy){k:Nat}{st:aA}{Q:VK}{E:XK}{d:Int},over names s->(aR s:Int)<=d->(∀ aB,Ext st aB->Q (.bl true) aB)->aM G (k+aR s+1) dJ [.tup (names.map .str),toD s,.int d] st Q E
 |.yes,k,st,Q,E,d,ho,hd,hQ=>by
  simp only[aR]at hd
  exact tF h (by omega) (by decide) (by decide) rfl (by decide) (fun x hx=>by cases hx) hQ
 |.no,k,st,Q,E,d,ho,hd,hQ=>by
  simp only[aR]at hd
  exact tF h (by omega) (by decide) (by decide) rfl (by decide) (fun x hx=>by cases hx) hQ
 |.cJ n,k,st,Q,E,d,ho,hd,hQ=>by
  simp only[aR]at hd ⊢
  exact MM h hn kB ho (by omega) hQ
 |.one w s,k,st,Q,E,d,ho,hd,hQ=>by
  simp only[aR]at hd ⊢
  refine tF (ps:=[toD s]) h (by omega) (by cases w<;>decide) (by cases w<;>decide) (by cases w<;>rfl) (by simp) (fun x hx aB Q' E' x1 hQ'=>?_) hQ
  simp only[List.mem_singleton]at hx
  subst hx
  have:=xN h hn kB s (k:=k) (st:=aB) (Q:=Q') (E:=E') (d:=d-1) ho (by omega) hQ'
  exact this
 |.two w s t,k,st,Q,E,d,ho,hd,hQ=>by
  simp only[aR]at hd ⊢
  refine tF (ps:=[toD s,toD t]) h (by omega) (by cases w<;>decide) (by cases w<;>decide) (by cases w<;>rfl) (by simp) (fun x hx aB Q' E' x1 hQ'=>?_) hQ
  have l1:=Nat.le_max_left (aR s) (aR t)
  have l2:=Nat.le_max_right (aR s) (aR t)
  simp only[List.mem_cons,List.not_mem_nil,or_false]at hx
  rcases hx with rfl|rfl
  ·have:=xN h hn kB s (k:=k+(max (aR s) (aR t)-aR s)) (st:=aB) (Q:=Q') (E:=E') (d:=d-1) ho.1 (by omega) hQ'
   have e:k+(max (aR s) (aR t)-aR s)+aR s+1=k+(max (aR s) (aR t)+1):=by omega
   rw[e]at this;exact this
  ·have:=xN h hn kB t (k:=k+(max (aR s) (aR t)-aR t)) (st:=aB) (Q:=Q') (E:=E') (d:=d-1) ho.2 (by omega) hQ'
   have e:k+(max (aR s) (aR t)-aR t)+aR t+1=k+(max (aR s) (aR t)+1):=by omega
   rw[e]at this;exact this
end
end L3
end
section
namespace L3
open PySem
noncomputable def kK:Fn:=⟨3,3,[.ret (.and_ (.isi (.v 0) [.tuple]) (.chain .le .le (.v 1) (.bi .len [(.v 0)]) (.v 2)))]⟩
noncomputable def GG (ir eZ:Nat)(ml:D):Fn:=⟨2,3,[.iff (.or_ (.not_ (.call ir [(.v 0),(.c (.int 1)),(.c ml)])) (.not_ (.call ir [(.v 1),(.c (.int 1)),(.c ml)]))) [.ret (.c (.bl false))] [],.asg (.nm 2) (.bin .add (.v 0) (.v 1)),.ret (.and_ (.bi .all [(.comp 1 [] [0] true none [(.v 2)] [] (.call eZ [(.v 0)]))]) (.cmp .eq (.bi .qB [(.v 2)]) (.bi .len [(.v 2)])))]⟩
section
variable {G:Prog}{k ir eZ il:Nat}{st:aA}{Q:VK}{E:XK}
theorem lI (h:G.fns ir=some kK){ds:List D}{lo hi:Int}(hQ:Q (.bl (decide (lo<=(ds.length:Int))&&decide ((ds.length:Int)<=hi))) st):aM G (k+1) ir [.tup ds,.int lo,.int hi] st Q E:=by
 rw[bA h]
 simp only[kK,start]
 refine⟨rfl,?_⟩
 walk_at"st"
 by_cases c:lo<=(ds.length:Int)
 ·rw[if_pos c]
  rw[decide_eq_true c,Bool.true_and]at hQ
  exact hQ
 ·rw[if_neg c]
  rw[decide_eq_false c,Bool.false_and]at hQ
  exact hQ
theorem CY:∀(ws seen:List (List Nat)),(seen++ws).Nodup->vP seen ws=ws.length
 |[],_,_=>rfl
 |w::r,seen,h=>by
  have e:seen.any (·== w)=false:=by
   rw[List.any_eq_false]
   intro x hx z
   have:x=w:=by simpa using z
   subst this
   rw[List.nodup_append]at h
   exact h.2.2 x hx x (by simp) rfl
  show(if seen.any (·== w)=true then 0 else 1)+vP (seen++[w]) r=_
  rw[e,CY r (seen++[w]) (by simpa using h)]
  simp only[Bool.false_eq_true,if_false,List.length_cons]
  omega
theorem AG:∀(ws:List (List Nat)),strsOf (ws.map .str)=some ws
 |[]=>rfl
 |w::r=>by
  show(strsOf (r.map .str)).map (w :: ·)=_
  rw[AG r];rfl
theorem PB (h:G.fns il=some (GG ir eZ (.int 2)))(hr:G.fns ir=some kK)(hn:G.fns eZ=some (gK (.tup (eH.map .str)) (.str dW) (.int 8))){fs gs:List (List Nat)}(h1:1<=fs.length)(h2:fs.length<=2)(h3:1<=gs.length)(h4:gs.length<=2)(h5:(fs++gs).Nodup)(h6:∀ n∈fs++gs,fB n=true)
  (hQ:∀ aB,Ext st aB->Q (.bl true) aB):aM G (k+2) il [.tup (fs.map .str),.tup (gs.map .str)] st Q E:=by
 have hL:bG=16777216:=rfl
 rw[bA h]
 simp only[GG,start]
 refine⟨rfl,?_⟩
 walk_at"st"
 refine lI hr ?_
 have e1:(decide ((1:Int)<=((fs.map D.str).length:Int))&&decide (((fs.map D.str).length:Int)<=2))=true:=by simp only[List.length_map,Bool.and_eq_true,decide_eq_true_eq];omega
 rw[e1]
 walk_at"ex"
 refine lI hr ?_
 have e2:(decide ((1:Int)<=((gs.map D.str).length:Int))&&decide (((gs.map D.str).length:Int)<=2))=true:=by simp only[List.length_map,Bool.and_eq_true,decide_eq_true_eq];omega
 rw[e2]
 walk_at"ex"
 rw[aE]
 walk_at"st"
 refine⟨by simp only[List.length_map];omega,?_⟩
 rw[<-List.map_append]
 walk_at"st"
 refine comp_map (fun _=>.bl true) _ [] st (fun aB x a ha=>by cases ha) (fun x hx aB K x1 hK=>?_) (by simp only[List.length_map,List.length_append,List.length_nil];omega) fun aB x1=>?_
 ·obtain⟨n,hn',rfl⟩:=List.mem_map.mp hx
  refine A3 (w:=n) hn (by have:=D0 (h6 n hn');omega) fun aU x2=>?_
  rw[h6 n hn']
  exact hK aU x2
 ·rw[List.nil_append]
  refine cI (by simp only[List.length_map,List.length_append];omega) fun p aF x2 hp' jX=>?_
  simp only[dN]
  rw[aK jX,iQ]
  rw[bR,AG,bR]
  have e3:(List.map (fun _=>true) ((fs++gs).map D.str)).all id=true:=by simp
  rw[if_pos e3]
  refine⟨by simp only[List.length_append];omega,?_⟩
  have e4:(((vP [] (fs++gs):Nat):Int)==((((fs++gs).map D.str).length:Nat):Int))=true:=by
   rw[CY (fs++gs) [] (by simpa using h5),List.length_map];simp
  rw[e4]
  exact hQ _ (x1.trans x2)
end
end L3
end
section
namespace L3
open PySem
noncomputable def nR (dJ:Nat)(dp:D):Fn:=⟨2,2,[.ret (.call dJ [(.v 0),(.v 1),(.c dp)])]⟩
noncomputable def xT (ir iy:Nat):Fn:=⟨3,3,[.ret (.and_ (.call ir [(.v 1),(.c (.int 0)),(.v 2)]) (.bi .all [(.comp 1 [0] [0] true none [(.v 1)] [] (.call iy [(.v 1),(.v 0)]))]))]⟩
noncomputable def pV (hp:D):Fn:=⟨1,1,[.ret (.and_ (.isi (.v 0) [.int]) (.and_ (.not_ (.isi (.v 0) [.bool])) (.chain .le .le (.c (.int 1)) (.v 0) (.c hp))))]⟩
noncomputable def xP (ir ip iy:Nat):Fn:=⟨2,2,[.ret (.and_ (.call ir [(.v 1),(.c (.int 2)),(.c (.int 2))]) (.and_ (.call ip [(.ix (.v 1) (.c (.int 0)))]) (.call iy [(.v 0),(.ix (.v 1) (.c (.int 1)))])))]⟩
noncomputable def zG (ir iw:Nat)(mw:D):Fn:=⟨2,2,[.ret (.and_ (.call ir [(.v 1),(.c (.int 1)),(.c mw)]) (.bi .all [(.comp 1 [0] [0] true none [(.v 1)] [] (.call iw [(.v 1),(.v 0)]))]))]⟩
section
variable {G:Prog}{k ir eZ dJ iy ip iw ia:Nat}{st:aA}{Q:VK}{E:XK}{names:List (List Nat)}
theorem vQ (hy:G.fns iy=some (nR dJ (.int 8)))(h:G.fns dJ=some (kO eZ dJ (.cO uD vR)))(hn:G.fns eZ=some (gK (.tup (eH.map .str)) (.str dW) (.int 8)))(kB:∀ n∈names,fB n=true){s:Sy}(ho:over names s)(hd:aR s<=8)
 (hQ:∀ aB,Ext st aB->Q (.bl true) aB):aM G (k+10) iy [.tup (names.map .str),toD s] st Q E:=by
 rw[bA hy]
 simp only[nR,start]
 refine⟨rfl,?_⟩
 walk_at"st"
 have:=xN h hn kB s (k:=k+(8-aR s)) (st:=st) (Q:=Q) (E:=E) (d:=8) ho (by omega) hQ
 have e:k+(8-aR s)+aR s+1=k+9:=by omega
 rw[e]at this;exact this
theorem AQ (ha:G.fns ia=some (xT ir iy))(hr:G.fns ir=some kK)(hy:G.fns iy=some (nR dJ (.int 8)))(h:G.fns dJ=some (kO eZ dJ (.cO uD vR)))(hn:G.fns eZ=some (gK (.tup (eH.map .str)) (.str dW) (.int 8)))(kB:∀ n∈names,fB n=true){ss:List Sy}{m:Int}
  (ho:∀ s∈ss,over names s/\aR s<=8)(hl:(ss.length:Int)<=m)(hl2:ss.length<=1000)(hQ:∀ aB,Ext st aB->Q (.bl true) aB):aM G (k+11) ia [.tup (names.map .str),.tup (ss.map toD),.int m] st Q E:=by
 have hL:bG=16777216:=rfl
 rw[bA ha]
 simp only[xT,start]
 refine⟨rfl,?_⟩
 walk_at"st"
 refine lI hr ?_
 have e1:(decide ((0:Int)<=((ss.map toD).length:Int))&&decide (((ss.map toD).length:Int)<=m))=true:=by simp only[List.length_map,Bool.and_eq_true,decide_eq_true_eq];omega
 rw[e1]
 walk_at"ex"
 refine comp_map (fun _=>.bl true) _ [] st (fun aB x a ha=>by cases ha) (fun x hx aB K x1 hK=>?_) (by simp only[List.length_map,List.length_nil];omega) fun aB x1=>?_
 ·obtain⟨s,hs,rfl⟩:=List.mem_map.mp hx
  exact vQ hy h hn kB (ho s hs).1 (ho s hs).2 fun aU x2=>hK aU x2
 ·rw[List.nil_append]
  refine cI (by simp only[List.length_map];omega) fun p aF x2 hp' jX=>?_
  simp only[dN]
  rw[aK jX,iQ,bR]
  have e3:(List.map (fun _=>true) (ss.map toD)).all id=true:=by simp
  rw[e3]
  exact hQ _ (x1.trans x2)
theorem IM (h:G.fns ip=some (pV (.int 99))){p:Int}(h1:1<=p)(h2:p<=99)(hQ:Q (.bl true) st):aM G (k+1) ip [.int p] st Q E:=by
 rw[bA h]
 simp only[pV,start]
 refine⟨rfl,?_⟩
 walk_at"st"
 rw[if_pos h1,decide_eq_true h2]
 exact hQ
theorem KN (hw:G.fns iw=some (xP ir ip iy))(hr:G.fns ir=some kK)(hp:G.fns ip=some (pV (.int 99)))(hy:G.fns iy=some (nR dJ (.int 8)))(h:G.fns dJ=some (kO eZ dJ (.cO uD vR)))(hn:G.fns eZ=some (gK (.tup (eH.map .str)) (.str dW) (.int 8)))(kB:∀ n∈names,fB n=true){s:Sy}{p:Int}
 (h1:1<=p)(h2:p<=99)(ho:over names s)(hd:aR s<=8)(hQ:∀ aB,Ext st aB->Q (.bl true) aB):aM G (k+11) iw [.tup (names.map .str),.tup [.int p,toD s]] st Q E:=by
 rw[bA hw]
 simp only[xP,start]
 refine⟨rfl,?_⟩
 walk_at"st"
 refine lI hr ?_
 have e1:(decide ((2:Int)<=(([.int p,toD s]:List D).length:Int))&&decide ((([.int p,toD s]:List D).length:Int)<=2))=true:=rfl
 rw[e1]
 walk_at"ex"
 refine IM hp h1 h2 ?_
 walk_at"ex"
 exact vQ hy h hn kB ho hd fun aU x2=>hQ aU x2
end
end L3
end
section
namespace L3
open PySem
noncomputable def tT (ih ib:Nat):Fn:=⟨2,2,[.iff (.cmp .eq (.ix (.v 1) (.c (.int 0))) (.c (.str (W "before")))) [.ret (.c (.bl false))] [],.iff (.cmp .eq (.ix (.v 1) (.c (.int 0))) (.c (.str (W "lamp")))) [.ret (.cmp .in_ (.ix (.v 1) (.c (.int 1))) (.v 0))] [],.ret (.bi .any [(.comp 1 [0] [0] true none [(.call ih [(.v 1)])] [] (.call ib [(.v 1),(.v 0)]))])]⟩
noncomputable def jF (gs:List (List Nat)):Sy->Bool
 |.cJ n=>gs.any (·== n)
 |.one .before _=>false
 |.one _ s=>jF gs s
 |.two _ s t=>jF gs s||jF gs t
 |_=>false
section
variable {G:Prog}{k ih ib ir eZ dJ iy ip iw ia:Nat}{st:aA}{Q:VK}{E:XK}{names:List (List Nat)}
theorem HU (ha:G.fns ia=some (zG ir iw (.int 5)))(hw:G.fns iw=some (xP ir ip iy))(hr:G.fns ir=some kK)(hp:G.fns ip=some (pV (.int 99)))(hy:G.fns iy=some (nR dJ (.int 8)))(h:G.fns dJ=some (kO eZ dJ (.cO uD vR)))(hn:G.fns eZ=some (gK (.tup (eH.map .str)) (.str dW) (.int 8)))(kB:∀ n∈names,fB n=true){ws:List (Int×Sy)}
  (ho:∀ w∈ws,1<=w.1/\w.1<=99/\over names w.2/\aR w.2<=8)(h1:1<=ws.length)(h2:ws.length<=5)(hQ:∀ aB,Ext st aB->Q (.bl true) aB):aM G (k+12) ia [.tup (names.map .str),.tup (ws.map fun w=>.tup [.int w.1,toD w.2])] st Q E:=by
 have hL:bG=16777216:=rfl
 rw[bA ha]
 simp only[zG,start]
 refine⟨rfl,?_⟩
 walk_at"st"
 refine lI hr ?_
 have e1:(decide ((1:Int)<=((ws.map fun w=>D.tup [.int w.1,toD w.2]).length:Int))&&decide (((ws.map fun w=>D.tup [.int w.1,toD w.2]).length:Int)<=5))=true:=by simp only[List.length_map,Bool.and_eq_true,decide_eq_true_eq];omega
 rw[e1]
 walk_at"ex"
 refine comp_map (fun _=>.bl true) _ [] st (fun aB x a ha=>by cases ha) (fun x hx aB K x1 hK=>?_) (by simp only[List.length_map,List.length_nil];omega) fun aB x1=>?_
 ·obtain⟨s,hs,rfl⟩:=List.mem_map.mp hx
  obtain⟨o1,o2,o3,o4⟩:=ho s hs
  exact KN hw hr hp hy h hn kB o1 o2 o3 o4 fun aU x2=>hK aU x2
 ·rw[List.nil_append]
  refine cI (by simp only[List.length_map];omega) fun p aF x2 hp' jX=>?_
  simp only[dN]
  rw[aK jX,iQ,bR]
  have e3:(List.map (fun _=>true) (ws.map fun w=>D.tup [.int w.1,toD w.2])).all id=true:=by simp
  rw[e3]
  exact hQ _ (x1.trans x2)
end
end L3
end
section
namespace L3
open PySem
theorem gL {α:Type}{g:aA->Prop}{turn:D->aA->(Option D->aA->Prop)->Prop}{R:List D->aA->Prop}(t f:α->D):∀(xs:List α)(acc:List D)(st:aA),
  (∀ aB,Ext st aB->g aB)->(∀ x∈xs,∀ aB (K:Option D->aA->Prop),Ext st aB->(∀ aU,Ext aB aU->K (some (f x)) aU)->turn (t x) aB K) ->
  acc.length+xs.length<=bG->(∀ aB,Ext st aB->R (acc++xs.map f) aB)->iN g turn (xs.map t) acc st R
 |[],acc,st,hg,_,_,hR=>⟨hg st .refl,by simpa using hR st .refl⟩
 |x::xs,acc,st,hg,ht,hl,hR=>by
  simp only[List.length_cons]at hl
  refine⟨hg st .refl,by omega,ht x (by simp) st _ .refl fun aU h''=>?_⟩
  exact gL t f xs (acc++[f x]) aU (fun aB h=>hg aB (h''.trans h)) (fun y hy aB K h=>ht y (by simp [hy]) aB K (h''.trans h)) (by simp only[List.length_append,List.length_cons,List.length_nil];omega) fun aB h=>by simpa using hR aB (h''.trans h)
theorem zM {α:Type}(b:α->Bool):∀(ps:List α),boolsOf (ps.map fun x=>.bl (b x))=some (ps.map b)
 |[]=>rfl
 |x::r=>by
  show(boolsOf (r.map fun x=>.bl (b x))).map (b x :: ·)=_
  rw[zM b r];rfl
section
variable {G:Prog}{k ih ib:Nat}{Q:VK}{E:XK}{gs:List (List Nat)}
theorem sZ (h:G.fns ib=some (tT ih ib))(hh:G.fns ih=some iF){s:Sy}{st:aA}(h1:¬(wd s==W "before")=true)(h2:fN s=false)(h3:¬(wd s==W "lamp")=true)(h4:(subs s).length<=2)
 (hp:∀ x∈subs s,∀(aB:aA)(Q':VK)(E':XK),Ext st aB->(∀ aU,Ext aB aU->Q' (.bl (jF gs x)) aU)->aM G (k+1) ib [.tup (gs.map .str),toD x] aB Q' E')(hQ:∀ aB,Ext st aB->Q (.bl ((subs s).any (jF gs))) aB):aM G (k+2) ib [.tup (gs.map .str),toD s] st Q E:=by
 have hL:bG=16777216:=rfl
 rw[bA h]
 simp only[tT,start]
 refine⟨rfl,?_⟩
 obtain⟨r,er⟩:=nL s
 rw[er]
 walk_at"st"
 rw[if_neg h1,aE]
 walk_at"st"
 rw[if_neg h3,aE]
 walk_at"st"
 rw[<-er]
 refine qO hh ?_
 walk_at"ex"
 refine gL toD (fun x=>.bl (jF gs x)) _ [] st (fun aB x a ha=>by cases ha) (fun x hx aB K x1 hK=>hp x hx aB _ _ x1 fun aU x2=>hK aU x2) (by simp only[List.length_nil];omega) fun aB x1=>?_
 rw[List.nil_append]
 refine cI (by simp only[List.length_map];omega) fun p aF x2 hp' jX=>?_
 simp only[dN]
 rw[aK jX,zM,bR,List.any_map]
 exact hQ _ (x1.trans x2)
theorem wX (h:G.fns ib=some (tT ih ib))(hh:G.fns ih=some iF):∀(s:Sy){k:Nat}{st:aA}{Q:VK}{E:XK},(∀ aB,Ext st aB->Q (.bl (jF gs s)) aB)->aM G (k+aR s+1) ib [.tup (gs.map .str),toD s] st Q E
 |.yes,k,st,Q,E,hQ=>sZ (k:=k) h hh (by decide) rfl (by decide) (by decide) (fun x hx=>by cases hx) hQ
 |.no,k,st,Q,E,hQ=>sZ (k:=k) h hh (by decide) rfl (by decide) (by decide) (fun x hx=>by cases hx) hQ
 |.cJ n,k,st,Q,E,hQ=>by
  rw[bA h]
  simp only[tT,start,toD]
  refine⟨rfl,?_⟩
  walk_at"st"
  have n1:¬(W "lamp" == W "before")=true:=by decide
  rw[if_neg n1,aE]
  walk_at"st"
  have n3:(W "lamp" == W "lamp")=true:=by decide
  rw[if_pos n3]
  walk_at"st"
  refine⟨jB st gs,?_⟩
  have e:((gs.map D.str).any fun d=>bM st d (.str n))=jF gs (.cJ n):=by rw[List.any_map];rfl
  rw[e]
  exact hQ _ .refl
 |.one w s,k,st,Q,E,hQ=>by
  by_cases hw:w=.before
  ·subst hw
   rw[bA h]
   simp only[tT,start,toD,c1]
   refine⟨rfl,?_⟩
   walk_at"st"
   have n1:(W "before" == W "before")=true:=by decide
   rw[if_pos n1]
   walk_at"st"
   exact hQ _ .refl
  ·have e0:k+aR (.one w s)+1=(k+aR s)+2:=by simp only[aR];omega
   rw[e0]
   refine sZ h hh (show ¬(c1 w==W "before")=true by cases w<;>first|decide|exact absurd rfl hw) rfl (show ¬(c1 w==W "lamp")=true by cases w<;>decide) (by simp [subs]) (fun x hx aB Q' E' x1 hQ'=>?_) (fun aB x1=>?_)
   ·simp only[subs,List.mem_cons,List.not_mem_nil,or_false]at hx
    rw[hx]at hQ' ⊢
    exact wX h hh s (k:=k) (st:=aB) (Q:=Q') (E:=E') hQ'
   ·have e1:(subs (.one w s)).any (jF gs)=jF gs (.one w s):=by
     cases w<;>first|exact absurd rfl hw|simp [subs,jF]
    rw[e1];exact hQ aB x1
 |.two w s t,k,st,Q,E,hQ=>by
  have l1:=Nat.le_max_left (aR s) (aR t)
  have l2:=Nat.le_max_right (aR s) (aR t)
  have e0:k+aR (.two w s t)+1=(k+max (aR s) (aR t))+2:=by simp only[aR];omega
  rw[e0]
  refine sZ h hh (show ¬(c2 w==W "before")=true by cases w<;>decide) rfl (show ¬(c2 w==W "lamp")=true by cases w<;>decide) (by simp [subs]) (fun x hx aB Q' E' x1 hQ'=>?_) (fun aB x1=>by simpa [subs,jF]using hQ aB x1)
  simp only[subs,List.mem_cons,List.not_mem_nil,or_false]at hx
  rcases hx with hx|hx
  ·rw[hx]at hQ' ⊢
   have:=wX h hh s (k:=k+(max (aR s) (aR t)-aR s)) (st:=aB) (Q:=Q') (E:=E') hQ'
   have e:k+(max (aR s) (aR t)-aR s)+aR s+1=k+max (aR s) (aR t)+1:=by omega
   rw[e]at this;exact this
  ·rw[hx]at hQ' ⊢
   have:=wX h hh t (k:=k+(max (aR s) (aR t)-aR t)) (st:=aB) (Q:=Q') (E:=E') hQ'
   have e:k+(max (aR s) (aR t)-aR t)+aR t+1=k+max (aR s) (aR t)+1:=by omega
   rw[e]at this;exact this
end
end L3
end
section
namespace L3
open PySem
noncomputable def B4 (ia ib:Nat)(mp:D):Fn:=⟨3,3,[.ret (.and_ (.call ia [(.v 0),(.v 2),(.c mp)]) (.not_ (.bi .any [(.comp 1 [1] [0] true none [(.v 2)] [] (.call ib [(.v 1),(.v 0)]))])))]⟩
noncomputable def GH:Fn:=⟨3,3,[.ret (.bin .add (.bin .add (.bi .list [(.v 0)]) (.bi .list [(.v 1)])) (.comp 1 [] [0] true none [(.v 2)] [] (.ix (.v 0) (.c (.int 1)))))]⟩
section
variable {G:Prog}{k ih ib ir eZ dJ iy ia iap io:Nat}{st:aA}{Q:VK}{E:XK}{names gs:List (List Nat)}
theorem LP (hp:G.fns iap=some (B4 ia ib (.int 3)))(hb:G.fns ib=some (tT ih ib))(hh:G.fns ih=some iF)(ha:G.fns ia=some (xT ir iy))(hr:G.fns ir=some kK)(hy:G.fns iy=some (nR dJ (.int 8)))(h:G.fns dJ=some (kO eZ dJ (.cO uD vR)))(hn:G.fns eZ=some (gK (.tup (eH.map .str)) (.str dW) (.int 8)))(kB:∀ n∈names,fB n=true){ss:List Sy}
  (ho:∀ s∈ss,over names s/\aR s<=8)(hl:ss.length<=3)(hbare:∀ s∈ss,jF gs s=false)(hQ:∀ aB,Ext st aB->Q (.bl true) aB):aM G (k+12) iap [.tup (names.map .str),.tup (gs.map .str),.tup (ss.map toD)] st Q E:=by
 have hL:bG=16777216:=rfl
 rw[bA hp]
 simp only[B4,start]
 refine⟨rfl,?_⟩
 walk_at"st"
 refine AQ ha hr hy h hn kB ho (by omega) (by omega) fun aC y1=>?_
 walk_at"ex"
 refine gL toD (fun _=>.bl false) _ [] aC (fun aB x a ha=>by cases ha) (fun x hx aB K x1 hK=>?_) (by simp only[List.length_nil];omega) fun aB x1=>?_
 ·have e:k+11=(k+10-aR x)+aR x+1:=by have:=(ho x hx).2;omega
  rw[e]
  refine wX hb hh x fun aU x2=>?_
  rw[hbare x hx]
  exact hK aU x2
 ·rw[List.nil_append]
  refine cI (by simp only[List.length_map];omega) fun p aF x2 hp' jX=>?_
  simp only[dN]
  rw[aK jX,zM (fun _=>false),bR]
  have e3:(ss.map fun _=>false).any id=false:=by simp
  rw[e3]
  exact hQ _ ((y1.trans x1).trans x2)
theorem M6 (h:G.fns io=some GH){ps ms:List Sy}{ws:List (Int×Sy)}(h1:ps.length<=1000)(h2:ms.length<=1000)(h3:ws.length<=1000)
 (hQ:∀ p aB,Ext st aB->aB p=some (.lst ((ps++ms++ws.map (·.2)).map toD))->Q (.ref p) aB):aM G (k+1) io [.tup (ps.map toD),.tup (ms.map toD),.tup (ws.map fun w=>.tup [.int w.1,toD w.2])] st Q E:=by
 have hL:bG=16777216:=rfl
 rw[bA h]
 simp only[GH,start]
 refine⟨rfl,?_⟩
 walk_at"st"
 refine cI (by simp only[List.length_map];omega) fun p aC x1 hp hp1=>?_
 walk_at"ex"
 refine cI (by simp only[List.length_map];omega) fun q aF x2 hq hq2=>?_
 walk_at"ex"
 rw[aK (x2 _ _ hp1),aK hq2]
 refine cI (by simp only[List.length_map,List.length_append];omega) fun r bC x3 hr hr3=>?_
 refine gL (fun w:Int×Sy=>D.tup [.int w.1,toD w.2]) (fun w=>toD w.2) _ [] bC (fun aB x a ha=>by cases ha) (fun x hx aB K y1 hK=>hK aB .refl) (by simp only[List.length_nil];omega) fun dR x4=>?_
 rw[List.nil_append]
 refine cI (by simp only[List.length_map];omega) fun u gB x5 hu hu5=>?_
 show bZ gB r fun xs=>bZ gB u fun ys=>fZ (xs++ys) gB Q
 rw[aK (x5 _ _ (x4 _ _ hr3)),aK hu5]
 refine cI (by simp only[List.length_map,List.length_append];omega) fun v mK x6 hv hv6=>?_
 refine hQ v mK (((((x1.trans x2).trans x3).trans x4).trans x5).trans x6) ?_
 rw[hv6]
 simp only[List.map_append,List.map_map]
 rfl
end
end L3
end
section
namespace L3
open PySem
noncomputable def BK (ir il iap ia iaw ipi io:Nat)(mm mp:D):Fn:=⟨1,6,[.iff (.or_ (.not_ (.call ir [(.v 0),(.c (.int 5)),(.c (.int 5))])) (.not_ (.call il [(.ix (.v 0) (.c (.int 0))),(.ix (.v 0) (.c (.int 1)))]))) [.ret (.c (.bl false))] [],.asg (.nm 1) (.ix (.v 0) (.c (.int 1))),.asg (.nm 2) (.bin .add (.ix (.v 0) (.c (.int 0))) (.v 1)),.asg (.nm 3) (.ix (.v 0) (.c (.int 2))),.asg (.nm 4) (.ix (.v 0) (.c (.int 3))),.asg (.nm 5) (.ix (.v 0) (.c (.int 4))),.iff (.or_ (.not_ (.call iap [(.v 2),(.v 1),(.v 3)])) (.not_ (.call ia [(.v 2),(.v 4),(.c mm)]))) [.ret (.c (.bl false))] [],.ret (.and_ (.call iaw [(.v 2),(.v 5)]) (.cmp .le (.bi .len [(.call ipi [(.call io [(.v 3),(.v 4),(.v 5)])])]) (.c mp)))]⟩
structure Bk where
 fs:List (List Nat)
 gs:List (List Nat)
 ps:List Sy
 ms:List Sy
 ws:List (Int×Sy)
noncomputable def Bk.d (b:Bk):D:=.tup [.tup (b.fs.map .str),.tup (b.gs.map .str),.tup (b.ps.map toD),.tup (b.ms.map toD),.tup (b.ws.map fun w=>.tup [.int w.1,toD w.2])]
noncomputable def Bk.names (b:Bk):List (List Nat):=b.fs++b.gs
noncomputable def Bk.says (b:Bk):List Sy:=b.ps++b.ms++b.ws.map (·.2)
structure Bk.Ok (b:Bk):Prop where
 f1:1<=b.fs.length
 f2:b.fs.length<=2
 g1:1<=b.gs.length
 g2:b.gs.length<=2
 nd:b.names.Nodup
 nm:∀ n∈b.names,fB n=true
 p1:b.ps.length<=3
 p2:∀ s∈b.ps,over b.names s/\aR s<=8
 p3:∀ s∈b.ps,jF b.gs s=false
 m1:b.ms.length<=3
 m2:∀ s∈b.ms,over b.names s/\aR s<=8
 w1:1<=b.ws.length
 w2:b.ws.length<=5
 w3:∀ w∈b.ws,1<=w.1/\w.1<=99/\over b.names w.2/\aR w.2<=8
section
variable {G:Prog}{k ih ib ir eZ dJ iy ia iap io il iaw ipi ip iw ibk:Nat}{st:aA}{Q:VK}{E:XK}
theorem HY (h:G.fns ir=some kK){ds:List D}{lo hi:Int}(h1:lo<=(ds.length:Int))(h2:(ds.length:Int)<=hi)(hQ:Q (.bl true) st):aM G (k+1) ir [.tup ds,.int lo,.int hi] st Q E :=
 lI h (by rw[decide_eq_true h1,decide_eq_true h2];exact hQ)
end
end L3
end
section
namespace L3
open PySem
section
variable {G:Prog}{k ir il iap ia iaw ipi io ibk:Nat}{Q:VK}{E:XK}
theorem IF (hbk:G.fns ibk=some (BK ir il iap ia iaw ipi io (.int 3) (.int 4)))(hr:G.fns ir=some kK){F J P M V N:D}{st:aA}{Φ:Nat->aA->Prop}
 (h1:∀(st:aA)(Q:VK)(E:XK),(∀ aB,Ext st aB->Q (.bl true) aB)->aM G (k+12) il [F,J] st Q E)(h2:∀(st:aA)(Q:VK),Q N st->hU .add F J st Q)
 (h3:∀(st:aA)(Q:VK)(E:XK),(∀ aB,Ext st aB->Q (.bl true) aB)->aM G (k+12) iap [N,J,P] st Q E)(h4:∀(st:aA)(Q:VK)(E:XK),(∀ aB,Ext st aB->Q (.bl true) aB)->aM G (k+12) ia [N,M,.int 3] st Q E)
 (h5:∀(st:aA)(Q:VK)(E:XK),(∀ aB,Ext st aB->Q (.bl true) aB)->aM G (k+12) iaw [N,V] st Q E)(h6:∀(st:aA)(Q:VK)(E:XK),(∀ l aB,Ext st aB->Φ l aB->Q (.ref l) aB)->aM G (k+12) io [P,M,V] st Q E)
 (h7:∀(l:Nat)(st:aA)(Q:VK)(E:XK),Φ l st->(∀ p aB (xs:List D),Ext st aB->xs.length<=4->aB p=some (.lst xs)->Q (.ref p) aB)->aM G (k+12) ipi [.ref l] st Q E)
 (hQ:∀ aB,Ext st aB->Q (.bl true) aB):aM G (k+13) ibk [.tup [F,J,P,M,V]] st Q E:=by
 rw[bA hbk]
 simp only[BK,start]
 refine⟨rfl,?_⟩
 walk_at"st"
 refine HY hr (Int.le_refl 5) (Int.le_refl 5) ?_
 walk_at"ex"
 refine h1 _ _ _ fun aC x1=>?_
 walk_at"ex"
 rw[aE]
 try dsimp only
 refine fM ?_
 rw[rT,zD,DQ]
 simp only[↓BY,↓FV]
 rw[jO,show eO [F,J,P,M,V] 1=some J from rfl,bR,xK]
 simp only[List.set_cons_succ,List.set_cons_zero]
 refine fM ?_
 rw[rT,KJ,zD,DQ]
 simp only[↓BY,↓FV]
 rw[jO,show eO [F,J,P,M,V] 0=some F from rfl,bR,DQ]
 simp only[List.set_cons_succ,List.set_cons_zero,↓XW]
 refine h2 _ _ ?_
 rw[xK]
 simp only[List.set_cons_succ,List.set_cons_zero]
 refine fM ?_
 rw[rT,zD,DQ]
 simp only[List.set_cons_succ,List.set_cons_zero,↓BY,↓FV]
 rw[jO,show eO [F,J,P,M,V] 2=some P from rfl,bR,xK]
 simp only[List.set_cons_succ,List.set_cons_zero]
 refine fM ?_
 rw[rT,zD,DQ]
 simp only[List.set_cons_succ,List.set_cons_zero,↓BY,↓FV]
 rw[jO,show eO [F,J,P,M,V] 3=some M from rfl,bR,xK]
 simp only[List.set_cons_succ,List.set_cons_zero]
 refine fM ?_
 rw[rT,zD,DQ]
 simp only[List.set_cons_succ,List.set_cons_zero,↓BY,↓FV]
 rw[jO,show eO [F,J,P,M,V] 4=some V from rfl,bR,xK]
 simp only[List.set_cons_succ,List.set_cons_zero]
 walk_at"st"
 refine h3 _ _ _ fun aF x2=>?_
 walk_at"ex"
 refine h4 _ _ _ fun bC x3=>?_
 walk_at"ex"
 rw[aE]
 walk_at"st"
 refine h5 _ _ _ fun dR x4=>?_
 walk_at"ex"
 refine h6 _ _ _ fun l gB x5 hl=>?_
 walk_at"ex"
 refine h7 _ _ _ _ hl fun p mK xs x6 hx hp=>?_
 walk_at"ex"
 unfold dH
 rw[hp]
 show Q (.bl (decide ((xs.length:Int)<=4))) mK
 rw[decide_eq_true (show(xs.length:Int)<=4 by omega)]
 exact hQ _ (((((x1.trans x2).trans x3).trans x4).trans x5).trans x6)
end
end L3
end
section
namespace L3
open PySem
section
variable {G:Prog}{k ih ib ir eZ dJ iy ia iap io il iaw ipi ip iw ibk:Nat}{st:aA}{Q:VK}{E:XK}
theorem KU (hbk:G.fns ibk=some (BK ir il iap ia iaw ipi io (.int 3) (.int 4)))(hla:G.fns il=some (GG ir eZ (.int 2)))(hap:G.fns iap=some (B4 ia ib (.int 3)))(hb:G.fns ib=some (tT ih ib))(hh:G.fns ih=some iF)(ha:G.fns ia=some (xT ir iy))(hr:G.fns ir=some kK)(hy:G.fns iy=some (nR dJ (.int 8)))(h:G.fns dJ=some (kO eZ dJ (.cO uD vR)))
  (hn:G.fns eZ=some (gK (.tup (eH.map .str)) (.str dW) (.int 8)))(haw:G.fns iaw=some (zG ir iw (.int 5)))(hw:G.fns iw=some (xP ir ip iy))(hp:G.fns ip=some (pV (.int 99)))(ho:G.fns io=some GH)(hpi:G.fns ipi=some (lJ ih)){b:Bk}(B:b.Ok)(hs:fE b.says<bG)(hd:∀ x∈b.says,aR x<=60)(hc:(cU b.says []).length<=4)
  (hQ:∀ aB,Ext st aB->Q (.bl true) aB):aM G (k+13) ibk [b.d] st Q E:=by
 have hL:bG=16777216:=rfl
 have f2:=B.f2
 have g2:=B.g2
 have p1:=B.p1
 have m1:=B.m1
 have w2:=B.w2
 refine IF hbk hr (N:=.tup (b.names.map .str)) (Φ:=fun l st=>st l=some (.lst (b.says.map toD))) (fun st Q E q=>PB (k:=k+10) hla hr hn B.f1 B.f2 B.g1 B.g2 B.nd B.nm q) (fun st Q q=>?_) (fun st Q E q=>LP (k:=k) hap hb hh ha hr hy h hn B.nm B.p2 B.p1 B.p3 q)
  (fun st Q E q=>AQ (k:=k+1) ha hr hy h hn B.nm B.m2 (by omega) (by omega) q) (fun st Q E q=>HU (k:=k) haw hw hr hp hy h hn B.nm B.w3 B.w1 B.w2 q) (fun st Q E q=>M6 (k:=k+11) ho (by omega) (by omega) (by omega) fun p aB x e=>q p aB x e)
  (fun l st Q E e q=>vS (k:=k+10) hpi hh e hd hs fun p aB x e'=>q p aB _ x (by simpa using hc) e') hQ
 show _/\Q _ st
 refine⟨by simp only[List.length_map];omega,?_⟩
 rw[<-List.map_append]
 exact q
end
end L3
end
section
namespace L3
noncomputable def fS (f g:Nat->Bool):Nat->Bool
 |0=>g 0
 |t+1=>g (t+1)||(f (t+1)&&fS f g t)
noncomputable def EL (names:List (List Nat))(aH:List (List Bool))(n:List Nat)(t:Nat):Bool:=(((aH[t]?).getD [])[names.idxOf n]?).getD false
noncomputable def hv (names:List (List Nat))(aH:List (List Bool)):Sy->Nat->Bool
 |.yes,_=>true
 |.no,_=>false
 |.cJ n,t=>EL names aH n t
 |.one .not s,t=>!hv names aH s t
 |.one .before s,t=>decide (0<t)&&hv names aH s (t-1)
 |.one .once s,t=>(List.range (t+1)).any (hv names aH s)
 |.one .sofar s,t=>(List.range (t+1)).all (hv names aH s)
 |.two .and s u,t=>hv names aH s t&&hv names aH u t
 |.two .or s u,t=>hv names aH s t||hv names aH u t
 |.two .aV s u,t=>hv names aH u t || !hv names aH s t
 |.two .same s u,t=>hv names aH s t==hv names aH u t
 |.two .since s u,t=>fS (hv names aH s) (hv names aH u) t
noncomputable def oG:Sy->Sy
 |.one .before s=>s
 |s=>s
noncomputable def fR:Sy->Bool
 |.one .sofar _=>true
 |_=>false
noncomputable def kX (names:List (List Nat))(aH:List (List Bool))(t:Nat)(p:Sy):Bool:=if t=0 then fR p else hv names aH (oG p) (t-1)
noncomputable def gC:Sy->Bool->List Bool->Bool
 |.one .before _,m,_=>m
 |.one .once _,m,a::_=>m||a
 |.one .sofar _,m,a::_=>m&&a
 |.two .since _ _,m,a::b::_=>b||(m&&a)
 |_,_,_=>false
noncomputable def tS:Sy->List Bool->Bool
 |.yes,_=>true
 |.one .not _,a::_=>!a
 |.two .and _ _,a::b::_=>a&&b
 |.two .or _ _,a::b::_=>a||b
 |.two .aV _ _,a::b::_=>b || !a
 |.two .same _ _,a::b::_=>a==b
 |_,_=>false
section
variable {names:List (List Nat)}{aH:List (List Bool)}
theorem CB (f:Nat->Bool)(t:Nat):(List.range (t+1)).any f=((List.range t).any f||f t):=by rw[List.range_succ];simp
theorem BZ (f:Nat->Bool)(t:Nat):(List.range (t+1)).all f=((List.range t).all f&&f t):=by rw[List.range_succ];simp
theorem VF {s:Sy}(h:bV s=true)(t:Nat):hv names aH s t=gC s (kX names aH t s) ((subs s).map fun u=>hv names aH u t):=by
 cases s with
 |one w a =>
  cases w with
  |not=>cases h
  |before =>
   cases t with
   |zero=>simp [hv,gC,kX,fR]
   |succ t=>simp [hv,gC,kX,oG]
  |once =>
   cases t with
   |zero=>simp [hv,gC,kX,fR,subs]
   |succ t=>simp only[hv,gC,kX,oG,subs,List.map_cons];rw[CB];simp
  |sofar =>
   cases t with
   |zero=>simp [hv,gC,kX,fR,subs]
   |succ t=>simp only[hv,gC,kX,oG,subs,List.map_cons];rw[BZ];simp
 |two w a b =>
  cases w with
  |since =>
   cases t with
   |zero=>simp [hv,gC,kX,fR,subs,fS]
   |succ t =>
    simp only[hv,gC,kX,oG,subs,List.map_cons,fS]
    simp [Bool.and_comm]
  |_=>cases h
 |_=>cases h
theorem ZJ {s:Sy}(h:bV s=false)(hl:fN s=false)(t:Nat):hv names aH s t=tS s ((subs s).map fun u=>hv names aH u t):=by
 cases s with
 |one w a=>cases w<;>first|rfl|cases h
 |two w a b=>cases w<;>first|rfl|cases h
 |cJ n=>cases hl
 |_=>rfl
end
end L3
end
section
namespace L3
open PySem
local macro_rules|`(tactic| walk_at"wd")=>`(tactic| (first|rw[if_pos (by decide +kernel)]|rw[if_neg (by decide +kernel)]))
noncomputable def BL:Fn:=⟨2,2,[.iff (.cmp .eq (.v 0) (.c (.str (W "not")))) [.ret (.not_ (.ix (.v 1) (.c (.int 0))))] [],.iff (.cmp .eq (.v 0) (.c (.str (W "and")))) [.ret (.and_ (.ix (.v 1) (.c (.int 0))) (.ix (.v 1) (.c (.int 1))))] [],.iff (.cmp .eq (.v 0) (.c (.str (W "or")))) [.ret (.or_ (.ix (.v 1) (.c (.int 0))) (.ix (.v 1) (.c (.int 1))))] [],.iff (.cmp .eq (.v 0) (.c (.str (W "then")))) [.ret (.or_ (.ix (.v 1) (.c (.int 1))) (.not_ (.ix (.v 1) (.c (.int 0)))))] [],.iff (.cmp .eq (.v 0) (.c (.str (W "same")))) [.ret (.cmp .eq (.ix (.v 1) (.c (.int 0))) (.ix (.v 1) (.c (.int 1))))] [],.ret (.cmp .eq (.v 0) (.c (.str (W "yes"))))]⟩
noncomputable def xM:Fn:=⟨3,3,[.iff (.cmp .eq (.v 0) (.c (.str (W "before")))) [.ret (.v 1)] [],.iff (.cmp .eq (.v 0) (.c (.str (W "once")))) [.ret (.or_ (.v 1) (.ix (.v 2) (.c (.int 0))))] [],.iff (.cmp .eq (.v 0) (.c (.str (W "sofar")))) [.ret (.and_ (.v 1) (.ix (.v 2) (.c (.int 0))))] [],.ret (.or_ (.ix (.v 2) (.c (.int 1))) (.and_ (.v 1) (.ix (.v 2) (.c (.int 0)))))]⟩
section
variable {G:Prog}{k i:Nat}{st:aA}{Q:VK}{E:XK}
theorem wW {q:Nat}{bs:List Bool}{j:Nat}{b:Bool}(hq:st q=some (.lst (bs.map .bl)))(hb:bs[j]? = some b):lS (.ref q) (.int (j:Nat)) st Q=Q (.bl b) st:=by
 have hj:j<bs.length:=by
  by_cases h:j<bs.length
  ·exact h
  ·rw[List.getElem?_eq_none (by omega)]at hb;cases hb
 rw[gY hq,dY (by simpa using hj),List.getElem?_map,hb]
 rfl
theorem ZM (h:G.fns i=some BL){s:Sy}(hp:bV s=false)(hl:fN s=false){q:Nat}{bs:List Bool}(hb:bs.length=(subs s).length)(hq:st q=some (.lst (bs.map .bl)))(hQ:Q (.bl (tS s bs)) st):aM G (k+1) i [.str (wd s),.ref q] st Q E:=by
 rw[bA h]
 simp only[BL,start]
 refine⟨rfl,?_⟩
 cases s with
 |yes =>
  simp only[wd]
  iterate 5 (walk_at"st"; walk_at"wd"; rw[aE])
  walk_at"st"
  have e:(W "yes" == W "yes")=true:=by decide +kernel
  rw[e]
  exact hQ
 |no =>
  simp only[wd]
  iterate 5 (walk_at"st"; walk_at"wd"; rw[aE])
  walk_at"st"
  have e:(W "no" == W "yes")=false:=by decide +kernel
  rw[e]
  exact hQ
 |cJ n=>cases hl
 |one w a =>
  cases w with
  |not =>
   simp only[wd,c1]
   match bs,hb,hq,hQ with
   |[b],_,hq,hQ =>
    have i0:=fun(Q:VK)=>wW (st:=st) (Q:=Q) (j:=0) hq rfl
    simp only[Int.natCast_zero]at i0
    walk_at"st"; walk_at"wd"
    walk_at"st"
    rw[i0]
    walk_at"ex"
    exact hQ
  |_=>cases hp
 |two w a c =>
  match bs,hb,hq,hQ with
  |[b,b'],_,hq,hQ =>
   have i0:=fun(Q:VK)=>wW (st:=st) (Q:=Q) (j:=0) hq rfl
   have i1:=fun(Q:VK)=>wW (st:=st) (Q:=Q) (j:=1) hq rfl
   simp only[Int.natCast_zero]at i0
   have e1:((1:Nat):Int)=1:=rfl
   rw[e1]at i1
   cases w with
   |and =>
    simp only[wd,c2]
    iterate 1 (walk_at"st"; walk_at"wd"; rw[aE])
    walk_at"st"; walk_at"wd"
    walk_at"st"
    rw[i0]
    walk_at"ex"
    cases b with
    |false=>simpa [tS]using hQ
    |true=>simp only[if_true];rw[i1];simpa [tS]using hQ
   |or =>
    simp only[wd,c2]
    iterate 2 (walk_at"st"; walk_at"wd"; rw[aE])
    walk_at"st"; walk_at"wd"
    walk_at"st"
    rw[i0]
    walk_at"ex"
    cases b with
    |true=>simpa [tS]using hQ
    |false=>simp only[Bool.false_eq_true,if_false];rw[i1];simpa [tS]using hQ
   |aV =>
    simp only[wd,c2]
    iterate 3 (walk_at"st"; walk_at"wd"; rw[aE])
    walk_at"st"; walk_at"wd"
    walk_at"st"
    rw[i1]
    walk_at"ex"
    cases b' with
    |true=>simpa [tS]using hQ
    |false=>simp only[Bool.false_eq_true,if_false];walk_at"ex"; rw[i0];walk_at"ex"; simpa [tS]using hQ
   |same =>
    simp only[wd,c2]
    iterate 4 (walk_at"st"; walk_at"wd"; rw[aE])
    walk_at"st"; walk_at"wd"
    walk_at"st"
    rw[i0]
    rw[i1]
    walk_at"ex"
    exact hQ
   |since=>cases hp
theorem U8 (h:G.fns i=some xM){s:Sy}(hp:bV s=true){q:Nat}{m:Bool}{bs:List Bool}(hb:bs.length=(subs s).length)(hq:st q=some (.lst (bs.map .bl)))(hQ:Q (.bl (gC s m bs)) st):aM G (k+1) i [.str (wd s),.bl m,.ref q] st Q E:=by
 rw[bA h]
 simp only[xM,start]
 refine⟨rfl,?_⟩
 cases s with
 |one w a =>
  match bs,hb,hq,hQ with
  |[b],_,hq,hQ =>
   have i0:=fun(Q:VK)=>wW (st:=st) (Q:=Q) (j:=0) hq rfl
   simp only[Int.natCast_zero]at i0
   cases w with
   |not=>cases hp
   |before =>
    simp only[wd,c1]
    walk_at"st"; walk_at"wd"
    walk_at"st"
    exact hQ
   |once =>
    simp only[wd,c1]
    iterate 1 (walk_at"st"; walk_at"wd"; rw[aE])
    walk_at"st"; walk_at"wd"
    walk_at"st"
    cases m with
    |true=>simpa [gC]using hQ
    |false=>simp only[Bool.false_eq_true,if_false];rw[i0];simpa [gC]using hQ
   |sofar =>
    simp only[wd,c1]
    iterate 2 (walk_at"st"; walk_at"wd"; rw[aE])
    walk_at"st"; walk_at"wd"
    walk_at"st"
    cases m with
    |false=>simpa [gC]using hQ
    |true=>simp only[if_true];rw[i0];simpa [gC]using hQ
 |two w a c =>
  match bs,hb,hq,hQ with
  |[b,b'],_,hq,hQ =>
   have i0:=fun(Q:VK)=>wW (st:=st) (Q:=Q) (j:=0) hq rfl
   have i1:=fun(Q:VK)=>wW (st:=st) (Q:=Q) (j:=1) hq rfl
   simp only[Int.natCast_zero]at i0
   have e1:((1:Nat):Int)=1:=rfl
   rw[e1]at i1
   cases w with
   |since =>
    simp only[wd,c2]
    iterate 3 (walk_at"st"; walk_at"wd"; rw[aE])
    walk_at"st"
    rw[i1]
    walk_at"ex"
    cases b' with
    |true=>simpa [gC]using hQ
    |false =>
     simp only[Bool.false_eq_true,if_false]
     cases m with
     |false=>simpa [gC]using hQ
     |true=>simp only[if_true];rw[i0];simpa [gC]using hQ
   |_=>cases hp
 |_=>cases hp
end
end L3
end
section
namespace L3
open PySem
mutual
theorem Q8 {st:aA}:∀(a b:D),bS a=true->bM st a b=bH a b
 |.non,b,_=>by cases b<;>simp only[bM,bH]
 |.bl _,b,_=>by cases b<;>simp only[bM,bH]
 |.int _,b,_=>by cases b<;>simp only[bM,bH]
 |.str _,b,_=>by cases b<;>simp only[bM,bH]
 |.tup as,b,h=>by
  cases b with
  |tup bs=>simp only[bM,bH];exact R0 as bs (by simpa [bS]using h)
  |_=>simp only[bM,bH]
 |.ref _,_,h=>by simp [bS]at h
 |.cO _ _,_,h=>by simp [bS]at h
 |.bF _,_,h=>by simp [bS]at h
 |.exc _,_,h=>by simp [bS]at h
theorem R0 {st:aA}:∀(as bs:List D),bQ as=true->iO st as bs=gI as bs
 |[],[],_=>rfl
 |[],_::_,_=>rfl
 |_::_,[],_=>rfl
 |a::as,b::bs,h=>by
  simp only[bQ,Bool.and_eq_true]at h
  simp only[iO,gI]
  rw[Q8 a b h.1,R0 as bs h.2]
end
theorem JV (s t:Sy):bH (toD s) (toD t)=decide (s=t):=by rw[<-Q8 (st:=fun _=>none) _ _ (kU s)];exact oR s t
theorem HL (x:Sy)(f:List Sy):((f.map toD).any fun d=>bH d (toD x))=f.contains x:=by
 rw[<-KC (st:=fun _=>none),List.any_map,List.any_map]
 congr 1
 funext y
 simp only[Function.comp]
 rw[Q8 _ _ (kU y)]
theorem xI:∀ s:Sy,iG (toD s)=true
 |.yes=>rfl
 |.no=>rfl
 |.cJ n=>rfl
 |.one w s=>by simp only[toD,iG,iS,xI s,Bool.and_self]
 |.two w s t=>by simp only[toD,iG,iS,xI s,xI t,Bool.and_self]
theorem nC {s:Sy}(h:aR s<=8):keyed (toD s):=by
 have h1:=xI s
 have h2:=oS s
 obtain⟨r,e⟩:=nL s
 rw[e]at h1 h2 ⊢
 simp only[iG]at h1
 simp only[cM]at h2
 exact⟨h1,by omega⟩
theorem vN {st:aA}{n:List Nat}:∀{names:List (List Nat)},n∈names->findD st (.str n) (names.map .str)=some (names.idxOf n)
 |[],h=>by cases h
 |m::r,h=>by
  simp only[List.map_cons,findD,gM]
  by_cases e:m=n
  ·subst e;simp [List.idxOf_cons]
  ·rw[if_neg (by simpa using e),vN (by simpa [Ne.symm e]using h)]
   rw[List.idxOf_cons,beq_eq_false_iff_ne.mpr e];rfl
theorem DI {st:aA}{s:Sy}:∀{ps:List Sy},s∈ps->findD st (toD s) (ps.map toD)=some (ps.idxOf s)
 |[],h=>by cases h
 |m::r,h=>by
  simp only[List.map_cons,findD,oR]
  by_cases e:m=s
  ·subst e;simp [List.idxOf_cons]
  ·rw[if_neg (by simpa using e),DI (by simpa [Ne.symm e]using h)]
   rw[List.idxOf_cons,beq_eq_false_iff_ne.mpr e];rfl
noncomputable def iX (names:List (List Nat))(aW:List Sy):Sy->D
 |.cJ n=>.int (names.idxOf n:Nat)
 |s=>if bV s then .int (aW.idxOf s:Nat)else .non
noncomputable def C2 (aW:List Sy):Sy->Prop
 |.one w s=>(p1 w=true->Sy.one w s∈aW)/\C2 aW s
 |.two w s t=>(p2 w=true->Sy.two w s t∈aW)/\C2 aW s/\C2 aW t
 |_=>True
structure Good (names:List (List Nat))(aW:List Sy)(s:Sy):Prop where
 ov:over names s
 dp:aR s<=8
 pp:C2 aW s
theorem Good.subs {names:List (List Nat)}{aW:List Sy}{s t:Sy}(h:Good names aW s)(ht:t∈subs s):Good names aW t:=by
 have hd:=yW ht
 have h0:=h.dp
 cases s with
 |one w a =>
 simp only[L3.subs,List.mem_singleton]at ht;subst ht
 exact⟨h.ov,by omega,h.pp.2⟩
 |two w a b =>
 simp only[L3.subs,List.mem_cons,List.not_mem_nil,or_false]at ht
 rcases ht with rfl|rfl
 ·exact⟨h.ov.1,by omega,h.pp.2.1⟩
 ·exact⟨h.ov.2,by omega,h.pp.2.2⟩
 |_=>cases ht
theorem Good.mem {names:List (List Nat)}{aW:List Sy}{s:Sy}(h:Good names aW s)(hp:bV s=true):s∈aW:=by
 cases s with
 |one w a=>exact h.pp.1 hp
 |two w a b=>exact h.pp.1 hp
 |_=>cases hp
noncomputable def Fo (st:aA)(lr:Nat)(names:List (List Nat))(aW R:List Sy)(j:Nat)(s:Sy)(d:D):Prop:=∃(q:Nat)(is:List Nat),d=.tup [.str (wd s),iX names aW s,.ref q]/\q≠lr/\st q=some (.lst (is.map fun i=>.int (i:Nat)))/\is.length=(subs s).length /\
 ∀(m i:Nat)(t:Sy),is[m]? = some i->(subs s)[m]? = some t->i<j/\R[i]? = some t
noncomputable def Y7 (st:aA)(lr:Nat)(names:List (List Nat))(aW R:List Sy)(rows:List D):Prop:=rows.length=R.length/\∀ j s d,R[j]? = some s->rows[j]? = some d->Fo st lr names aW R j s d
noncomputable def wC (n:Nat):List D:=(List.range n).map fun i=>.int (i:Nat)
noncomputable def oJ (names:List (List Nat))(lp lr ld:Nat):List (List Nat×D):=[(W "names", .tup (names.map .str)),(W "pieces", .ref lp),(W "rows", .ref lr),(W "row_of", .ref ld)]
structure gO (st:aA)(p lp lr ld:Nat)(names:List (List Nat))(aW R:List Sy)(xs:List (List Nat×D)):Prop where
 ins:st p=some (.ins (W "Table") (oJ names lp lr ld++xs))
 pc:st lp=some (.lst (aW.map toD))
 rows:∃ rows,st lr=some (.lst rows)/\Y7 st lr names aW R rows
 tab:st ld=some (.tab (R.map toD) (wC R.length))
 ne:lp≠lr
 nd:R.Nodup
 gd:∀ s∈R,Good names aW s
 len:R.length<=5000
 pd:∀ s∈aW,aR s<=60
theorem RE {names:List (List Nat)}{lp lr ld:Nat}{xs:List (List Nat×D)}:dA (oJ names lp lr ld++xs) (W "names")=some (.tup (names.map .str)):=by
 simp only[oJ,List.cons_append,dA];rw[if_pos True.intro]
theorem wJ {names:List (List Nat)}{lp lr ld:Nat}{xs:List (List Nat×D)}:dA (oJ names lp lr ld++xs) (W "pieces")=some (.ref lp):=by
 simp only[oJ,List.cons_append,dA];rw[if_neg (by decide +kernel),if_pos True.intro]
theorem BS {names:List (List Nat)}{lp lr ld:Nat}{xs:List (List Nat×D)}:dA (oJ names lp lr ld++xs) (W "rows")=some (.ref lr):=by
 simp only[oJ,List.cons_append,dA];rw[if_neg (by decide +kernel),if_neg (by decide +kernel),if_pos True.intro]
theorem mR {names:List (List Nat)}{lp lr ld:Nat}{xs:List (List Nat×D)}:dA (oJ names lp lr ld++xs) (W "row_of")=some (.ref ld):=by
 simp only[oJ,List.cons_append,dA];rw[if_neg (by decide +kernel),if_neg (by decide +kernel),if_neg (by decide +kernel),if_pos True.intro]
theorem jA {names:List (List Nat)}{lp lr ld:Nat}{xs:List (List Nat×D)}{f:List Nat}(h1:W "names" ≠ f)(h2:W "pieces" ≠ f)(h3:W "rows" ≠ f)(h4:W "row_of" ≠ f):dA (oJ names lp lr ld++xs) f=dA xs f:=by
 simp only[oJ,List.cons_append,List.nil_append,dA];rw[if_neg h1,if_neg h2,if_neg h3,if_neg h4]
theorem gO.keep {st aB:aA}{p lp lr ld:Nat}{names:List (List Nat)}{aW R:List Sy}{xs:List (List Nat×D)}(T:gO st p lp lr ld names aW R xs)(h:Ext st aB):gO aB p lp lr ld names aW R xs:=by
 obtain⟨rows,r1,r2,r3⟩:=T.rows
 refine⟨h _ _ T.ins,h _ _ T.pc,⟨rows,h _ _ r1,r2,fun j s d e1 e2=>?_⟩,h _ _ T.tab,T.ne,T.nd,T.gd,T.len,T.pd⟩
 obtain⟨q,is,a1,a2,a3,a4⟩:=r3 j s d e1 e2
 exact⟨q,is,a1,a2,h _ _ a3,a4⟩
theorem GQ {s:Sy}:∀{R:List Sy}{vs:List D}{j:Nat}{d:D},R.Nodup->R[j]? = some s->vs[j]? = some d->vs.length=R.length->kQ (R.map toD) vs (toD s)=some d
 |[],_,_,_,_,h,_,_=>by simp at h
 |x::R,[],_,_,_,_,_,h=>by simp at h
 |x::R,v::vs,0,d,nd,h,hv,hl=>by
  simp at h hv
  subst h hv
  simp only[List.map_cons,kQ,JV,decide_true,if_true]
 |x::R,v::vs,j+1,d,nd,h,hv,hl=>by
  simp at h hv hl
  have hx:x≠s:=fun e=>by subst e;exact(List.nodup_cons.mp nd).1 (List.mem_of_getElem? h)
  simp only[List.map_cons,kQ,JV]
  rw[if_neg (by simpa using hx)]
  exact GQ (List.nodup_cons.mp nd).2 h hv hl
theorem S3 (n:Nat):(wC n).length=n:=by simp [wC]
theorem WO {n j:Nat}(h:j<n):(wC n)[j]? = some (.int (j:Nat)):=by simp [wC,h]
theorem gO.look {st:aA}{p lp lr ld:Nat}{names:List (List Nat)}{aW R:List Sy}{xs:List (List Nat×D)}(T:gO st p lp lr ld names aW R xs){s:Sy}{j:Nat}(h:R[j]? = some s):kQ (R.map toD) (wC R.length) (toD s)=some (.int (j:Nat)):=by
 have hj:j<R.length:=by
  by_cases q:j<R.length
  ·exact q
  ·rw[List.getElem?_eq_none (by omega)]at h;cases h
 exact GQ T.nd h (WO hj) (S3 _)
end L3
end
section
namespace L3
open PySem
noncomputable def rM:Fn:=⟨2,2,[.iff (.cmp .eq (.ix (.v 1) (.c (.int 0))) (.c (.str (W "lamp")))) [.ret (.cD .index (.fld (W "Table") (W "names") (.v 0)) [(.ix (.v 1) (.c (.int 1)))])] [],.iff (.cmp .in_ (.ix (.v 1) (.c (.int 0))) (.c tO)) [.ret (.cD .index (.fld (W "Table") (W "pieces") (.v 0)) [(.v 1)])] [],.ret (.c .non)]⟩
noncomputable def FQ:Fn:=⟨2,2,[.iff (.cmp .eq (.ix (.v 1) (.c (.int 0))) (.c (.str (W "before")))) [.ret (.dix (.fld (W "Table") (W "row_of") (.v 0)) (.ix (.v 1) (.c (.int 1))))] [],.ret (.dix (.fld (W "Table") (W "row_of") (.v 0)) (.v 1))]⟩
noncomputable def AJ (iph inh:Nat):Fn:=⟨3,8,[.asg (.nm 3) (.lst []),.gJ (.tp [4,5,6]) none [(.fld (W "Table") (W "rows") (.v 0))] [.asg (.nm 7) (.comp 1 [3] [0] true none [(.v 6)] [] (.ix (.v 1) (.v 0))),.iff (.cmp .eq (.v 4) (.c (.str (W "lamp")))) [.ex (.cD .append (.v 3) [(.ix (.v 2) (.v 5))])] [.iff (.cmp .in_ (.v 4) (.c tO)) [.ex (.cD .append (.v 3) [(.call iph [(.v 4),(.ix (.v 1) (.v 5)),(.v 7)])])] [.ex (.cD .append (.v 3) [(.call inh [(.v 4),(.v 7)])])]]],.ret (.v 3)]⟩
noncomputable def G5:Fn:=⟨2,2,[.ret (.bi .tuple [(.comp 1 [1] [0] true none [(.fld (W "Table") (W "remembered_rows") (.v 0))] [] (.ix (.v 1) (.v 0)))])]⟩
theorem lL {α:Type}(t:α->D){g:aA->Prop}{turn:D->(St->aA->Prop)->St->aA->Prop}{N:St->aA->Prop}(I:List α->St->aA->Prop)(hg:∀ xs σ st,I xs σ st->g st)
 (ht:∀ x r σ st (M:St->aA->Prop),I (x::r) σ st->(∀ σ' aB,I r σ' aB->M σ' aB)->turn (t x) M σ st)(hN:∀ σ st,I [] σ st->N σ st):∀(xs:List α)(σ:St)(st:aA),I xs σ st->vA g turn N (xs.map t) σ st
 |[],σ,st,h=>⟨hg _ _ _ h,hN _ _ h⟩
 |x::xs,σ,st,h=>⟨hg _ _ _ h,ht x xs σ st _ h fun σ' aB h'=>lL t I hg ht hN xs σ' aB h'⟩
theorem yG {names:List (List Nat)}{aW:List Sy}{s:Sy}(hl:fN s=false)(hp:bV s=true):iX names aW s=.int (aW.idxOf s:Nat):=by
 unfold iX
 split
 ·simp [fN]at hl
 ·rw[if_pos hp]
theorem K1 {names:List (List Nat)}{aW:List Sy}{s:Sy}(hl:fN s=false)(hp:bV s=false):iX names aW s=.non:=by
 unfold iX
 split
 ·simp [fN]at hl
 ·rw[hp];rfl
section
variable {G:Prog}{k i iph inh:Nat}{st:aA}{Q:VK}{E:XK}{p lp lr ld:Nat}{names:List (List Nat)}{aW R:List Sy}{xs:List (List Nat×D)}
theorem N7 (h:G.fns i=some rM)(tins:st p=some (.ins (W "Table") (oJ names lp lr ld++xs)))(tpc:st lp=some (.lst (aW.map toD)))(tpd:∀ s∈aW,aR s<=60){s:Sy}(g:Good names aW s)(hQ:Q (iX names aW s) st):aM G (k+1) i [.ref p,toD s] st Q E:=by
 rw[bA h]
 simp only[rM,start]
 refine⟨rfl,?_⟩
 obtain⟨r,er⟩:=nL s
 cases hl:fN s with
 |true =>
  cases s with
  |cJ n =>
   simp only[toD]
   walk_at"st"
   rw[if_pos (by decide +kernel)]
   walk_at"st"
   rw[gA tins RE]
   walk_at"ex"
   rw[vK,rO,zN,rO]
   refine⟨True.intro,sS,jB st names,?_⟩
   rw[vN g.ov,bR]
   exact hQ
  |_=>cases hl
 |false =>
  have h1:(wd s==W "lamp")=false:=by rw[B5];exact hl
  have eP:∀ st:aA,(List.any (lU.map .str) fun d=>bM st d (.str (wd s)))=bV s:=fun st=>(tE (wd s) lU).trans (B1 s)
  rw[er]
  walk_at"st"
  rw[if_neg (by rw[h1];exact Bool.false_ne_true),aE]
  walk_at"st"
  simp only[tO]
  walk_at"ex"
  refine⟨(mZ lU).s,?_⟩
  rw[eP st]
  cases hp:bV s with
  |true =>
   simp only[if_true]
   walk_at"st"
   rw[gA tins wJ]
   walk_at"ex"
   rw[vK,B6,aK tpc,zN,B6,aK tpc,<-er]
   refine⟨True.intro,DE (by have:=g.dp;omega),BD tpd,?_⟩
   rw[DI (g.mem hp),bR]
   have e:iX names aW s=.int (aW.idxOf s:Nat):=yG hl hp
   rw[e]at hQ
   exact hQ
  |false =>
   simp only[Bool.false_eq_true,if_false,aE]
   walk_at"st"
   have e:iX names aW s=.non:=K1 hl hp
   rw[e]at hQ
   exact hQ
theorem MZ (s:Sy)(hp:bV s=true):(wd s==W "before")=true/\(∃ a,s=.one .before a)∨(wd s==W "before")=false/\oG s=s:=by
 cases s with
 |one w a=>cases w<;>first|exact .inl ⟨by simp only[wd,c1];decide +kernel,a,rfl⟩|exact .inr ⟨by simp only[wd,c1];decide +kernel,rfl⟩|cases hp
 |two w a b=>cases w<;>first|exact .inr ⟨by simp only[wd,c2];decide +kernel,rfl⟩|cases hp
 |_=>cases hp
theorem XE (h:G.fns i=some FQ)(T:gO st p lp lr ld names aW R xs){s:Sy}(hp:bV s=true)(hd:aR s<=8){j:Nat}(hj:R[j]? = some (oG s))(hQ:Q (.int (j:Nat)) st):aM G (k+1) i [.ref p,toD s] st Q E:=by
 rw[bA h]
 simp only[FQ,start]
 refine⟨rfl,?_⟩
 rcases MZ s hp with⟨e1,a,rfl⟩|⟨e1,e2⟩
 ·simp only[toD,c1]
  walk_at"st"
  rw[if_pos (by decide +kernel)]
  walk_at"st"
  rw[gA T.ins mR]
  walk_at"ex"
  simp only[oG]at hj
  simp only[aR]at hd
  rw[A2 T.tab (nC (by omega)) (T.look hj)]
  exact hQ
 ·obtain⟨r,er⟩:=nL s
  rw[er]
  walk_at"st"
  rw[if_neg (by rw[e1];exact Bool.false_ne_true),aE]
  walk_at"st"
  rw[gA T.ins mR]
  walk_at"ex"
  rw[e2]at hj
  rw[<-er,A2 T.tab (nC hd) (T.look hj)]
  exact hQ
theorem UX (h:G.fns i=some (AJ iph inh))(hn:G.fns inh=some BL)(hpa:G.fns iph=some xM)(T:gO st p lp lr ld names aW R xs){mem set:List Bool}(V:Sy->Bool)
  (v1:∀ n∈names,set[names.idxOf n]? = some (V (.cJ n)))(v2:∀ s∈aW,bV s=true->∃ m,mem[aW.idxOf s]? = some m/\V s=gC s m ((subs s).map V))(v3:∀ s,bV s=false->fN s=false->V s=tS s ((subs s).map V))
  (hQ:∀ aB q,st q=none->Ext st aB->aB q=some (.lst (R.map fun s=>.bl (V s)))->Q (.ref q) aB):aM G (k+2) i [.ref p,.tup (mem.map .bl),.tup (set.map .bl)] st Q E:=by
 have hL:bG=16777216:=rfl
 rw[bA h]
 simp only[AJ,start]
 refine⟨rfl,?_⟩
 walk_at"st"
 refine cI (by simp) fun q aC x1 hq hq1=>?_
 obtain⟨rows,r1,r2,r3⟩:=T.rows
 have T1:=T.keep x1
 walk_at"st"
 rw[gA T1.ins BS]
 rw[pY,aK (x1 _ _ r1)]
 have ez:rows=(R.zip rows).map Prod.snd:=by rw[List.map_snd_zip (by omega)]
 rw[ez]
 have qlr:q≠lr:=fun z=>by rw[z,r1]at hq;cases hq
 refine lL Prod.snd (I:=fun r σ aB=>∃ j o4 o5 o6 o7,r=(R.zip rows).drop j/\σ=[some (.ref p),some (.tup (mem.map .bl)),some (.tup (set.map .bl)),some (.ref q),o4,o5,o6,o7]/\cC [q] aC aB/\aB q=some (.lst ((R.take j).map fun s=>.bl (V s)))) (fun r σ aB ⟨j,_,_,_,_,_,_,k1,_⟩=>?_) (fun x r σ aB M ⟨j,o4,o5,o6,o7,e1,e2,k1,k2⟩ hM=>?_) (fun σ aB ⟨j,o4,o5,o6,o7,e1,e2,k1,k2⟩=>?_) _ _ _ ⟨0,none,none,none,none,rfl,rfl,.refl,by simpa using hq1⟩
 ·intro a ha
  simp only[List.mem_singleton]at ha
  subst ha
  rw[x1 _ _ r1]
  exact k1 _ _ (by simpa using qlr.symm) (x1 _ _ r1)
 ·-- a row
  have hz:j<(R.zip rows).length:=by
   by_cases z:j<(R.zip rows).length
   ·exact z
   ·rw[List.drop_eq_nil_of_le (by omega)]at e1;cases e1
  have hjR:j<R.length:=by rw[List.length_zip]at hz;omega
  have hjr:j<rows.length:=by rw[List.length_zip]at hz;omega
  rw[List.drop_eq_getElem_cons hz]at e1
  injection e1 with e3 e4
  have ex:x=(R[j],rows[j]):=by rw[e3];simp
  obtain⟨s,d⟩:=x
  injection ex with es ed
  have hs:R[j]? = some s:=by rw[List.getElem?_eq_getElem hjR,es]
  have hd:rows[j]? = some d:=by rw[List.getElem?_eq_getElem hjr,ed]
  obtain⟨qq,is,f1,f2,f3,f4,f5⟩:=r3 j s d hs hd
  have gs:=T.gd s (List.mem_of_getElem? hs)
  have hlR:=T.len
  subst e2
  have qqq:qq≠q:=fun z=>by rw[z,hq]at f3;cases f3
  have f3':aB qq=some (.lst (is.map fun i=>.int (i:Nat))):=k1 _ _ (by simpa using qqq) (x1 _ _ f3)
  have hsub:(subs s).length<=2:=by cases s<;>simp [subs]
  show jG false [4,5,6] d _ _
  rw[f1]
  walk_at"ex"
  walk_at"st"
  rw[aK f3']
  have hval:∀ i∈is,∃ t,R[i]? = some t/\i<j:=fun i hi=>by
   obtain⟨m,hm⟩:=List.mem_iff_getElem?.mp hi
   have hml:m<(subs s).length:=by
    have:m<is.length:=by
     by_cases z:m<is.length
     ·exact z
     ·rw[List.getElem?_eq_none (by omega)]at hm;cases hm
    omega
   obtain⟨a,b⟩:=f5 m i _ hm (List.getElem?_eq_getElem hml)
   exact⟨_,b,a⟩
  refine gL (fun i:Nat=>D.int (i:Nat)) (fun i=>.bl (V ((R[i]?).getD .yes))) is [] aB (fun aU y a ha=>?_) (fun i hi aU K y1 hK=>?_) (by simp only[List.length_nil];omega) fun aF y2=>?_
  ·simp only[List.mem_singleton]at ha
   subst ha
   rw[f3',y _ _ f3']
  ·obtain⟨t,ht,hij⟩:=hval i hi
   show lS _ _ aU _
   have hlen:i<((R.take j).map fun s=>D.bl (V s)).length:=by simp;omega
   rw[gY (y1 _ _ k2),dY hlen,List.getElem?_map,List.getElem?_take,if_pos hij,ht]
   have:=hK aU .refl
   rw[ht]at this
   exact this
  rw[List.nil_append]
  have hparts:(is.map fun i=>D.bl (V ((R[i]?).getD .yes)))=((subs s).map V).map .bl:=by
   apply List.ext_getElem?
   intro m
   rw[List.getElem?_map,List.getElem?_map,List.getElem?_map]
   cases hm:is[m]? with
   |none =>
    have:is.length<=m:=by
     by_cases z:m<is.length
     ·rw[List.getElem?_eq_getElem z]at hm;cases hm
     ·omega
    rw[List.getElem?_eq_none (by omega)];rfl
   |some i =>
    have hml:m<(subs s).length:=by
     have:m<is.length:=by
      by_cases z:m<is.length
      ·exact z
      ·rw[List.getElem?_eq_none (by omega)]at hm;cases hm
     omega
    obtain⟨_,b⟩:=f5 m i _ hm (List.getElem?_eq_getElem hml)
    rw[List.getElem?_eq_getElem hml]
    simp only[Option.map_some]
    rw[b];rfl
  rw[hparts]
  refine cI (by simp only[List.length_map];omega) fun pp bC y3 hpp rK=>?_
  walk_at"ex"
  have k3:bC q=some (.lst ((R.take j).map fun s=>.bl (V s))):=y3 _ _ (y2 _ _ k2)
  have kk3:cC [q] aC bC:=fun a o na e=>y3 _ _ (y2 _ _ (k1 a o na e))
  have fin:∀(σ':St),(∃ o4 o5 o6 o7,σ'=[some (.ref p),some (.tup (mem.map .bl)),some (.tup (set.map .bl)),some (.ref q),o4,o5,o6,o7])->∀ b,b=V s->M σ' (put bC q (.lst (((R.take j).map fun s=>.bl (V s))++[.bl b]))):=fun σ' ⟨o4,o5,o6,o7,e⟩ b hb=>by
   refine hM σ' _ ⟨j+1,o4,o5,o6,o7,e4,e,fun a o na e=>by rw[bL (by simpa using na)];exact kk3 a o na e,?_⟩
   rw[bB,List.take_succ,hs,hb]
   simp
  have hlq:((R.take j).map fun s=>D.bl (V s)).length<bG:=by simp;omega
  cases hl:fN s with
  |true =>
   cases s with
   |cJ n =>
    simp only[wd]
    walk_at"st"
    rw[if_pos (by decide +kernel)]
    walk_at"st"
    rw[aK k3]
    refine⟨True.intro,?_⟩
    simp only[iX]
    have hv:=v1 n gs.ov
    have hlen:names.idxOf n<(set.map D.bl).length:=by
     rw[List.length_map]
     by_cases z:names.idxOf n<set.length
     ·exact z
     ·rw[List.getElem?_eq_none (by omega)]at hv;cases hv
    rw[jO,dY hlen,List.getElem?_map,hv,Option.map_some,bR,aK k3]
    refine⟨hlq,?_⟩
    simp only[aE]
    exact fin _ ⟨_,_,_,_,rfl⟩ _ rfl
   |_=>cases hl
  |false =>
   have h1:(wd s==W "lamp")=false:=by rw[B5];exact hl
   have eP:∀ st:aA,(List.any (lU.map .str) fun d=>bM st d (.str (wd s)))=bV s:=fun st=>(tE (wd s) lU).trans (B1 s)
   walk_at"st"
   rw[if_neg (by rw[h1];exact Bool.false_ne_true)]
   walk_at"st"
   simp only[tO]
   walk_at"ex"
   refine⟨(mZ lU).s,?_⟩
   rw[eP bC]
   cases hp:bV s with
   |true =>
    simp only[if_true]
    walk_at"st"
    rw[aK k3]
    refine⟨True.intro,?_⟩
    obtain⟨m,hm,hV⟩:=v2 s (gs.mem hp) hp
    have e:iX names aW s=.int (aW.idxOf s:Nat):=yG hl hp
    rw[e]
    have hlen:aW.idxOf s<(mem.map D.bl).length:=by
     rw[List.length_map]
     by_cases z:aW.idxOf s<mem.length
     ·exact z
     ·rw[List.getElem?_eq_none (by omega)]at hm;cases hm
    walk_at"ex"
    (try rw[jO])
    rw[dY hlen,List.getElem?_map,hm,Option.map_some,bR]
    refine U8 hpa hp (by simp) rK ?_
    rw[aK k3]
    refine⟨hlq,?_⟩
    simp only[aE]
    exact fin _ ⟨_,_,_,_,rfl⟩ _ hV.symm
   |false =>
    simp only[Bool.false_eq_true,if_false]
    walk_at"st"
    rw[aK k3]
    refine⟨True.intro,?_⟩
    refine ZM hn hp hl (by simp) rK ?_
    rw[aK k3]
    refine⟨hlq,?_⟩
    simp only[aE]
    exact fin _ ⟨_,_,_,_,rfl⟩ _ (v3 s hp hl).symm
 ·-- the end
  subst e2
  have hj:R.length<=j:=by
   have:(R.zip rows).length<=j:=by
    by_cases z:j<(R.zip rows).length
    ·rw[List.drop_eq_getElem_cons z]at e1;cases e1
    ·omega
   rw[List.length_zip]at this;omega
  rw[List.take_of_length_le hj]at k2
  walk_at"st"
  exact hQ aB q hq (fun a o e=>k1 a o (by intro z;simp only[List.mem_singleton]at z;rw[z,hq]at e;cases e) (x1 a o e)) k2
end
end L3
end
section
namespace L3
open PySem
noncomputable def uT (ie iw ipo:Nat):Fn:=⟨2,4,[.iff (.din false (.v 1) (.fld (W "Table") (W "row_of") (.v 0))) [.ret (.c .non)] [],.gJ (.nm 2) none [(.call iw [(.v 1)])] [.ex (.mcl (W "Table") (W "enter") ie (.v 0) [(.v 2)])],.asg (.nm 3) (.comp 1 [0] [0] true none [(.call iw [(.v 1)])] [] (.dix (.fld (W "Table") (W "row_of") (.v 1)) (.v 0))),.asg (.dk (.fld (W "Table") (W "row_of") (.v 0)) (.v 1)) (.bi .len [(.fld (W "Table") (W "rows") (.v 0))]),.ex (.cD .append (.fld (W "Table") (W "rows") (.v 0)) [(.tup [(.ix (.v 1) (.c (.int 0))),(.mcl (W "Table") (W "place_of") ipo (.v 0) [(.v 1)]),(.v 3)])])]⟩
theorem gW {α:Type}{xs:List α}{j:Nat}{x:α}(h:xs[j]? = some x):j<xs.length:=by
 by_cases q:j<xs.length
 ·exact q
 ·rw[List.getElem?_eq_none (by omega)]at h;cases h
section
variable {G:Prog}{k i ie iw ipo:Nat}{st:aA}{Q:VK}{E:XK}{p lp lr ld lm:Nat}{names:List (List Nat)}{aW R:List Sy}{xs fs:List (List Nat×D)}
theorem YJ (h:G.fns i=some G5)(ins:st p=some (.ins (W "Table") fs))(hf:dA fs (W "remembered_rows")=some (.ref lm)){js:List Nat}(hlm:st lm=some (.lst (js.map fun j=>.int (j:Nat)))){q:Nat}{V:Sy->Bool}(hq:st q=some (.lst (R.map fun s=>.bl (V s))))(hl:js.length=aW.length)(hl2:aW.length<=5000)
  (hj:∀(m j:Nat)(s:Sy),js[m]? = some j->aW[m]? = some s->R[j]? = some (oG s))(hQ:∀ aB,Ext st aB->Q (.tup (aW.map fun s=>.bl (V (oG s)))) aB):aM G (k+1) i [.ref p,.ref q] st Q E:=by
 have hL:bG=16777216:=rfl
 rw[bA h]
 simp only[G5,start]
 refine⟨rfl,?_⟩
 walk_at"st"
 rw[gA ins hf,pY,aK hlm]
 refine gL (fun j:Nat=>D.int (j:Nat)) (fun j=>.bl (V ((R[j]?).getD .yes))) js [] st (fun aU y a ha=>?_) (fun j hjs aU K y1 hK=>?_) (by simp only[List.length_nil];omega) fun aF y2=>?_
 ·simp only[List.mem_singleton]at ha
  subst ha
  rw[hlm,y _ _ hlm]
 ·obtain⟨m,hm⟩:=List.mem_iff_getElem?.mp hjs
  have hml:m<aW.length:=by have:=gW hm;omega
  have ht:=hj m j _ hm (List.getElem?_eq_getElem hml)
  show lS _ _ aU _
  have hlen:j<(R.map fun s=>D.bl (V s)).length:=by simpa using gW ht
  rw[gY (y1 _ _ hq),dY hlen,List.getElem?_map,ht]
  have:=hK aU .refl
  rw[ht]at this
  exact this
 rw[List.nil_append]
 have e:(js.map fun j=>D.bl (V ((R[j]?).getD .yes)))=aW.map fun s=>.bl (V (oG s)):=by
  apply List.ext_getElem?
  intro m
  rw[List.getElem?_map,List.getElem?_map]
  cases hm:js[m]? with
  |none =>
   have:js.length<=m:=by
    by_cases z:m<js.length
    ·rw[List.getElem?_eq_getElem z]at hm;cases hm
    ·omega
   rw[List.getElem?_eq_none (by omega)];rfl
  |some j =>
   have hml:m<aW.length:=by have:=gW hm;omega
   have ht:=hj m j _ hm (List.getElem?_eq_getElem hml)
   rw[List.getElem?_eq_getElem hml]
   simp only[Option.map_some]
   rw[ht];rfl
 rw[e]
 refine cI (by simp only[List.length_map];omega) fun pp bC y3 hpp rK=>?_
 walk_at"ex"
 rw[aK rK]
 refine⟨by simp only[List.length_map];omega,hQ bC (y2.trans y3)⟩
theorem QO (h:G.fns ie=some (uT ie iw ipo))(hw:G.fns iw=some iF)(hpo:G.fns ipo=some rM)(hxe:dA xs (W "enter")=none)(hxp:dA xs (W "place_of")=none):∀(n:Nat){s:Sy}{k:Nat}{st:aA}{Q:VK}{E:XK}{R:List Sy},aR s<=n->gO st p lp lr ld names aW R xs->Good names aW s->R.length+sz s<=5000 ->
  (∀ aB R',cC [lr,ld] st aB->gO aB p lp lr ld names aW R' xs->(∀ x∈R,x∈R')->s∈R'->(∀ x∈R',x∈R∨sz x<=sz s)->R'.length<=R.length+sz s->Q .non aB) ->
  aM G (k+n+2) ie [.ref p,toD s] st Q E:=by
 have hL:bG=16777216:=rfl
 intro n
 induction n with
 |zero=>intro s k st Q E R hn;cases s<;>simp [aR]at hn
 |succ n ih =>
  intro s k st Q E R hn T g hlen hQ
  rw[bA h]
  simp only[uT,start]
  refine⟨rfl,?_⟩
  have kd:=nC g.dp
  walk_at"st"
  rw[gA T.ins mR,WI T.tab kd,HL]
  (try walk_at"ex")
  cases hc:R.contains s with
  |true =>
   simp only[if_true]
   walk_at"st"
   have hs:s∈R:=by simpa using hc
   exact hQ st R .refl T (fun x hx=>hx) hs (fun x hx=>.inl hx) (by omega)
  |false =>
   have hs:s∉R:=by simpa using hc
   simp only[Bool.false_eq_true,if_false,aE]
   walk_at"st"
   refine qO (k:=k+n+1) hw ?_
   walk_at"ex"
   have hss:=KG s
   have hsub:(subs s).length<=2:=by cases s<;>simp [subs]
   have hszL:∀(l:List Sy)(t:Sy),t∈l->sz t<=fE l:=fun l=>by
    induction l with
    |nil=>intro t ht;cases ht
    |cons a l ihl =>
     intro t ht
     rw[jU]
     rcases List.mem_cons.mp ht with rfl|ht
     ·omega
     ·have:=ihl t ht;omega
   refine lL toD (I:=fun r σ aB=>∃ R1 o2 dn,subs s=dn++r/\σ=[some (.ref p),some (toD s),o2,none]/\cC [lr,ld] st aB/\gO aB p lp lr ld names aW R1 xs/\(∀ x∈R,x∈R1)/\(∀ t∈dn,t∈R1)/\(∀ x∈R1,x∈R∨sz x<sz s)/\R1.length<=R.length+fE dn) (fun r σ aB hI a ha=>by cases ha) (fun x r σ aB M ⟨R1,o2,dn,e1,e2,k1,T1,a1,a2,a3,a4⟩ hM=>?_) (fun σ aB ⟨R1,o2,dn,e1,e2,k1,T1,a1,a2,a3,a4⟩=>?_) _ _ _ ⟨R,none,[],rfl,rfl,.refl,T,fun x hx=>hx,fun t ht=>(by cases ht),fun x hx=>.inl hx,by simp [fE]⟩
   ·-- a part
    subst e2
    have hx:x∈subs s:=by rw[e1];simp
    have hxd:=yW hx
    have hdn:fE dn+sz x<=fE (subs s):=by rw[e1,kA,jU];omega
    walk_at"st"
    rw[sI T1.ins (by rw[jA (by decide +kernel) (by decide +kernel) (by decide +kernel) (by decide +kernel)];exact hxe)]
    refine⟨True.intro,?_⟩
    refine ih (k:=k) (by omega) T1 (g.subs hx) (by omega) fun aF R2 b1 b2 b3 b4 b5 b6=>?_
    rw[aE]
    refine hM _ aF ⟨R2,_,dn++[x],by simp [e1],rfl,k1.trans b1,b2,fun y hy=>b3 y (a1 y hy),fun t ht=>?_,fun y hy=>?_,?_⟩
    ·rcases List.mem_append.mp ht with ht|ht
     ·exact b3 t (a2 t ht)
     ·simp only[List.mem_singleton]at ht;subst ht;exact b4
    ·rcases b5 y hy with hy|hy
     ·exact a3 y hy
     ·exact .inr (by omega)
    ·rw[kA];simp only[jU];simp only[fE,List.map_nil,List.sum_nil]at *;omega
   ·-- the saying itself
    subst e2
    rw[List.append_nil]at e1
    subst e1
    have hs1:s∉R1:=fun z=>by
     rcases a3 s z with z|z
     ·exact hs z
     ·omega
    walk_at"st"
    refine qO (k:=k+n+1) hw ?_
    walk_at"ex"
    have hidx:∀ t∈subs s,R1[R1.idxOf t]? = some t:=fun t ht=>by
     have hm:=a2 t ht
     have:=List.idxOf_lt_length_iff.mpr hm
     rw[List.getElem?_eq_getElem this]
     simp
    refine gL toD (fun t=>.int (R1.idxOf t:Nat)) _ [] aB (fun aU y a ha=>by cases ha) (fun t ht aU K y1 hK=>?_) (by simp only[List.length_nil];omega) fun aF y2=>?_
    ·have T'':=T1.keep y1
     show rG _ _ _ aU _
     rw[gA T''.ins mR]
     have gt:=g.subs ht
     show rH _ _ aU _
     rw[A2 T''.tab (nC gt.dp) (T''.look (hidx t ht))]
     exact hK aU .refl
    rw[List.nil_append]
    refine cI (by simp only[List.length_map];omega) fun q bC y3 hq hq3=>?_
    have T3:=T1.keep (y2.trans y3)
    have kk3:cC [lr,ld] st bC:=k1.trans (y2.trans y3).keep
    obtain⟨rows,r1,r2,r3⟩:=T3.rows
    walk_at"ex"
    walk_at"st"
    rw[gA T3.ins BS]
    rw[IX,gQ r1]
    rw[gA T3.ins mR]
    have hnew:(((R1.map toD).any fun d=>bH d (toD s))=false):=by rw[HL];simpa using hs1
    have hl1:R1.length<5000:=by omega
    rw[Eh T3.tab kd hnew (by simp;omega)]
    generalize hst4:put bC ld (.tab (R1.map toD++[toD s]) (wC R1.length++[.int (rows.length:Nat)]))=dR
    have lrld:lr≠ld:=fun z=>by rw[z,T3.tab]at r1;cases r1
    have pld:p≠ld:=fun z=>by have:=T3.ins;rw[z,T3.tab]at this;cases this
    have plr:p≠lr:=fun z=>by have:=T3.ins;rw[z,r1]at this;cases this
    have lpld:lp≠ld:=fun z=>by have:=T3.pc;rw[z,T3.tab]at this;cases this
    have ins4:dR p=some (.ins (W "Table") (oJ names lp lr ld++xs)):=by rw[<-hst4,bL pld];exact T3.ins
    have lr4:dR lr=some (.lst rows):=by rw[<-hst4,bL lrld];exact r1
    have q4:dR q=some (.lst ((subs s).map fun t=>.int (R1.idxOf t:Nat))):=by
     rw[<-hst4,bL (fun z=>by rw[z,T3.tab]at hq3;cases hq3)];exact hq3
    have tab4:dR ld=some (.tab ((R1++[s]).map toD) (wC (R1++[s]).length)):=by
     rw[<-hst4,bB,r2]
     simp [wC,List.range_succ]
    have qlr:q≠lr:=fun z=>by
     rw[z]at hq
     obtain⟨rows',r1',_⟩:=(T1.keep y2).rows
     rw[r1']at hq;cases hq
    walk_at"st"
    rw[gA ins4 BS,zV,aK lr4]
    refine⟨True.intro,?_⟩
    obtain⟨r,er⟩:=nL s
    rw[er]
    walk_at"ex"
    rw[<-er,sI ins4 (by rw[jA (by decide +kernel) (by decide +kernel) (by decide +kernel) (by decide +kernel)];exact hxp)]
    refine⟨True.intro,?_⟩
    have T4:gO (put dR lr (.lst (rows++[.tup [.str (wd s),iX names aW s,.ref q]]))) p lp lr ld names aW (R1++[s]) xs:=by
     have keep4:∀ a o,a≠lr->a≠ld->bC a=some o->(put dR lr (.lst (rows++[.tup [.str (wd s),iX names aW s,.ref q]]))) a=some o:=fun a o n1 n2 e=>by
      rw[bL n1,<-hst4,bL n2];exact e
     refine⟨keep4 _ _ plr pld T3.ins,keep4 _ _ T3.ne lpld T3.pc,⟨_,bB,by simp [r2],fun j t d ht hd=>?_⟩,?_,T3.ne,?_,?_,by simp;omega,T3.pd⟩
     ·by_cases hj:j<R1.length
      ·rw[List.getElem?_append_left hj]at ht
       rw[List.getElem?_append_left (by omega)]at hd
       obtain⟨q',is,c1,c2,c3,c4,c5⟩:=r3 j t d ht hd
       refine⟨q',is,c1,c2,keep4 _ _ c2 (fun z=>by rw[z,T3.tab]at c3;cases c3) c3,c4,fun m i' t' h1 h2=>?_⟩
       obtain⟨d1,d2⟩:=c5 m i' t' h1 h2
       exact⟨d1,by rw[List.getElem?_append_left (gW d2)];exact d2⟩
      ·have hj2:j=R1.length:=by have:=gW ht;simp at this;omega
       subst hj2
       rw[List.getElem?_append_right (Nat.le_refl _)]at ht
       rw[List.getElem?_append_right (by omega)]at hd
       simp at ht
       simp [r2]at hd
       subst ht hd
       refine⟨q,(subs s).map fun t=>R1.idxOf t,rfl,qlr,?_,by simp,fun m i' t' h1 h2=>?_⟩
       ·rw[bL qlr,q4,List.map_map];rfl
       ·rw[List.getElem?_map,h2]at h1
        simp at h1
        subst h1
        have ht':=List.mem_of_getElem? h2
        have:=hidx t' ht'
        exact⟨gW this,by rw[List.getElem?_append_left (gW this)];exact this⟩
     ·rw[bL lrld.symm];exact tab4
     ·rw[List.nodup_append]
      exact⟨T3.nd,by simp,fun a ha b hb=>by simp only[List.mem_singleton]at hb;subst hb;exact fun z=>hs1 (z▸ha)⟩
     ·intro t ht
      rcases List.mem_append.mp ht with ht|ht
      ·exact T3.gd t ht
      ·simp only[List.mem_singleton]at ht;subst ht;exact g
    refine N7 (k:=k+n+1) hpo ins4 (by rw[<-hst4,bL lpld];exact T3.pc) T3.pd g ?_
    rw[aK lr4]
    refine⟨by omega,?_⟩
    simp only[aE]
    refine hQ _ (R1++[s]) (fun a o na e=>?_) T4 (fun x hx=>by simp [a1 x hx]) (by simp) (fun x hx=>?_) (by simp;omega)
    ·simp only[List.mem_cons,List.not_mem_nil,or_false,not_or]at na
     rw[bL na.1,<-hst4,bL na.2]
     exact kk3 a o (by simp [na]) e
    ·rcases List.mem_append.mp hx with hx|hx
     ·rcases a3 x hx with hx|hx
      ·exact .inl hx
      ·exact .inr (by omega)
     ·simp only[List.mem_singleton]at hx;subst hx;exact .inr (Nat.le_refl _)
end
end L3
end
section
namespace L3
open PySem
noncomputable def tI (iz ie irr:Nat):Fn:=⟨3,4,[.asg (.fl (W "Table") (W "names") (.v 0)) (.v 1),.asg (.fl (W "Table") (W "pieces") (.v 0)) (.call iz [(.v 2)]),.asg (.fl (W "Table") (W "rows") (.v 0)) (.lst []),.asg (.fl (W "Table") (W "row_of") (.v 0)) .dnew,.gJ (.nm 3) none [(.v 2)] [.ex (.mcl (W "Table") (W "enter") ie (.v 0) [(.v 3)])],.asg (.fl (W "Table") (W "first_memory") (.v 0)) (.bi .tuple [(.comp 1 [] [0] true none [(.fld (W "Table") (W "pieces") (.v 0))] [] (.cmp .eq (.ix (.v 0) (.c (.int 0))) (.c (.str (W "sofar")))))]),.asg (.fl (W "Table") (W "remembered_rows") (.v 0)) (.comp 1 [0] [0] true none [(.fld (W "Table") (W "pieces") (.v 0))] [] (.mcl (W "Table") (W "remembered_row") irr (.v 1) [(.v 0)]))]⟩
theorem HK {f:List Sy}{s x:Sy}(h:x∈f):x∈eR f s:=by
 unfold eR;split
 ·exact List.mem_append_left _ h
 ·exact h
theorem GY {f:List Sy}{s:Sy}(h:bV s=true):s∈eR f s:=by
 unfold eR
 rw[h]
 cases hc:f.contains s with
 |true=>simpa using hc
 |false=>simp
theorem lE:∀(s:Sy){f:List Sy}{x:Sy},x∈f->x∈aW s f
 |.yes,_,_,h=>h
 |.no,_,_,h=>h
 |.cJ _,_,_,h=>h
 |.one w s,_,_,h=>lE s (HK h)
 |.two w s t,_,_,h=>lE t (lE s (HK h))
theorem pM {f g:List Sy}(h:∀ x∈f,x∈g):∀ s:Sy,C2 f s->C2 g s
 |.yes,_=>trivial
 |.no,_=>trivial
 |.cJ _,_=>trivial
 |.one w s,⟨a,b⟩=>⟨fun q=>h _ (a q),pM h s b⟩
 |.two w s t,⟨a,b,c⟩=>⟨fun q=>h _ (a q),pM h s b,pM h t c⟩
theorem AF:∀(s:Sy)(f:List Sy),C2 (aW s f) s
 |.yes,_=>trivial
 |.no,_=>trivial
 |.cJ _,_=>trivial
 |.one w s,f=>⟨fun q=>lE s (GY q),AF s _⟩
 |.two w s t,f=>⟨fun q=>lE t (lE s (GY q)),pM (fun x hx=>lE t hx) s (AF s _),AF t _⟩
theorem FO:∀(l:List Sy){f:List Sy}{x:Sy},x∈f->x∈cU l f
 |[],_,_,h=>h
 |s::l,_,_,h=>FO l (lE s h)
theorem KE:∀(l:List Sy)(f:List Sy)(s:Sy),s∈l->C2 (cU l f) s
 |[],_,_,h=>by cases h
 |a::l,f,s,h=>by
  rcases List.mem_cons.mp h with rfl|h
  ·exact pM (fun x hx=>FO l hx) s (AF s f)
  ·exact KE l _ s h
theorem N4 {R f:List Sy}{s:Sy}(hf:∀ x∈f,x∈R)(hs:s∈R):∀ x∈eR f s,x∈R:=by
 unfold eR;split
 ·intro x hx
  rcases List.mem_append.mp hx with hx|hx
  ·exact hf x hx
  ·simp only[List.mem_singleton]at hx;subst hx;exact hs
 ·exact hf
theorem EE {R:List Sy}(cl:∀ s∈R,∀ t∈subs s,t∈R):∀(s:Sy){f:List Sy},s∈R->(∀ x∈f,x∈R)->∀ x∈aW s f,x∈R
 |.yes,_,hs,hf=>hf
 |.no,_,hs,hf=>hf
 |.cJ _,_,hs,hf=>hf
 |.one w s,f,hs,hf=>EE cl s (cl _ hs s (by simp [subs])) (N4 hf hs)
 |.two w s t,f,hs,hf=>EE cl t (cl _ hs t (by simp [subs])) (EE cl s (cl _ hs s (by simp [subs])) (N4 hf hs))
theorem OW {R:List Sy}(cl:∀ s∈R,∀ t∈subs s,t∈R):∀(l f:List Sy),(∀ s∈l,s∈R)->(∀ x∈f,x∈R)->∀ x∈cU l f,x∈R
 |[],_,_,hf=>hf
 |s::l,f,hl,hf=>OW cl l _ (fun t ht=>hl t (by simp [ht])) (EE cl s (hl s (by simp)) hf)
theorem CN {f:List Sy}{s:Sy}(hf:∀ x∈f,bV x=true):∀ x∈eR f s,bV x=true:=by
 unfold eR
 by_cases h:(bV s && !f.contains s)=true
 ·rw[if_pos h]
  simp only[Bool.and_eq_true]at h
  intro x hx
  rcases List.mem_append.mp hx with hx|hx
  ·exact hf x hx
  ·simp only[List.mem_singleton]at hx;subst hx;exact h.1
 ·rw[if_neg h];exact hf
theorem tG:∀(s:Sy){f:List Sy},(∀ x∈f,bV x=true)->∀ x∈aW s f,bV x=true
 |.yes,_,hf=>hf
 |.no,_,hf=>hf
 |.cJ _,_,hf=>hf
 |.one w s,f,hf=>tG s (CN hf)
 |.two w s t,f,hf=>tG t (tG s (CN hf))
theorem CL:∀(l f:List Sy),(∀ x∈f,bV x=true)->∀ x∈cU l f,bV x=true
 |[],_,hf=>hf
 |s::l,f,hf=>CL l _ (tG s hf)
theorem yY:∀(l:List Sy){f:List Sy}{n:Nat},(∀ x∈f,aR x<=n)->(∀ x∈l,aR x<=n)->∀ x∈cU l f,aR x<=n
 |[],_,_,hf,_=>hf
 |s::l,f,n,hf,hl=>yY l (xQ s hf (hl s (by simp))) fun x hx=>hl x (by simp [hx])
theorem PU (s:Sy):(wd s==W "sofar")=fR s:=by
 cases s with
 |one w s=>cases w<;>(simp only[wd,fR,c1];decide +kernel)
 |two w s t=>cases w<;>(simp only[wd,fR,c2];decide +kernel)
 |_=>(simp only[wd,fR];decide +kernel)
theorem mM {f:List Nat}{d:D}:∀{fs:List (List Nat×D)},dA fs f=none->oW f d fs=fs++[(f,d)]
 |[],_=>rfl
 |(g,x)::r,h=>by
  simp only[dA]at h
  by_cases q:g=f
  ·rw[if_pos q]at h;cases h
  ·rw[if_neg q]at h
   simp only[oW,if_neg q,mM h,List.cons_append]
theorem gO.closed {st:aA}{p lp lr ld:Nat}{names:List (List Nat)}{aW R:List Sy}{xs:List (List Nat×D)}(T:gO st p lp lr ld names aW R xs):∀ s∈R,∀ t∈subs s,t∈R:=by
 intro s hs t ht
 obtain⟨rows,_,r2,r3⟩:=T.rows
 obtain⟨j,hj⟩:=List.mem_iff_getElem?.mp hs
 have hjr:j<rows.length:=by have:=gW hj;omega
 obtain⟨q,is,_,_,_,c4,c5⟩:=r3 j s _ hj (List.getElem?_eq_getElem hjr)
 obtain⟨m,hm⟩:=List.mem_iff_getElem?.mp ht
 have hmi:m<is.length:=by have:=gW hm;omega
 exact List.mem_of_getElem? (c5 m _ t (List.getElem?_eq_getElem hmi) hm).2
noncomputable def OL (aW:List Sy)(lm:Nat):List (List Nat×D):=[(W "first_memory", .tup (aW.map fun s=>.bl (fR s))),(W "remembered_rows", .ref lm)]
section
variable {G:Prog}{k i ie iw ipo iz irr iti:Nat}{st:aA}{Q:VK}{E:XK}{p l:Nat}{names:List (List Nat)}{ss:List Sy}
structure Table (st:aA)(p:Nat)(names:List (List Nat))(aW R:List Sy):Prop where
 h:∃(lp lr ld lm:Nat)(js:List Nat),gO st p lp lr ld names aW R (OL aW lm)/\st lm=some (.lst (js.map fun(j:Nat)=>.int (j:Nat)))/\js.length=aW.length/\(∀(m j:Nat)(s:Sy),js[m]? = some j->aW[m]? = some s->R[j]? = some (oG s))/\(∀ s∈aW,bV s=true)
theorem HV (h:G.fns iti=some (tI iz ie irr))(hz:G.fns iz=some (lJ iw))(he:G.fns ie=some (uT ie iw ipo))(hw:G.fns iw=some iF)(hpo:G.fns ipo=some rM)(hrr:G.fns irr=some FQ)(hp:st p=some (.ins (W "Table") []))(hl:st l=some (.lst (ss.map toD)))
  (ho:∀ s∈ss,over names s/\aR s<=8)(hs:fE ss<=5000)(yU:(cU ss []).length<=5000)(hQ:∀ aB R,cC [p] st aB->Table aB p names (cU ss []) R->(∀ s∈ss,s∈R)->Q .non aB):aM G (k+12) iti [.ref p,.tup (names.map .str),.ref l] st Q E:=by
 have hL:bG=16777216:=rfl
 rw[bA h]
 simp only[tI,start]
 refine⟨rfl,?_⟩
 have pl:p≠l:=fun z=>by rw[z,hl]at hp;cases hp
 walk_at"st"
 rw[wU hp (by simp)]
 have e1:oW (W "names") (.tup (names.map .str)) []=[(W "names", .tup (names.map .str))]:=rfl
 rw[e1]
 generalize hst1:put st p (.ins (W "Table") [(W "names", .tup (names.map .str))])=aC
 have p1:aC p=some (.ins (W "Table") [(W "names", .tup (names.map .str))]):=by rw[<-hst1,bB]
 have k1:cC [p] st aC:=by rw[<-hst1];exact cC.put (by simp)
 have l1:aC l=some (.lst (ss.map toD)):=k1 _ _ (by simpa using pl.symm) hl
 walk_at"st"
 refine vS (k:=k+9) hz hw l1 (fun x hx=>by have:=(ho x hx).2;omega) (by omega) fun lp aF x2 lp2=>?_
 walk_at"ex"
 rw[wU (x2 _ _ p1) (by simp),mM (by simp only[dA];rw[if_neg (by decide +kernel)])]
 generalize hst3:put aF p _=bC
 have p3:bC p=some (.ins (W "Table") ([(W "names", .tup (names.map .str))]++[(W "pieces", .ref lp)])):=by rw[<-hst3,bB]
 have k3:cC [p] st bC:=k1.trans (x2.keep.trans (by rw[<-hst3];exact cC.put (by simp)))
 have plp:p≠lp:=fun z=>by rw[<-z,x2 _ _ p1]at lp2;cases lp2
 have lp3:bC lp=some (.lst ((cU ss []).map toD)):=by rw[<-hst3,bL plp.symm];exact lp2
 walk_at"st"
 refine cI (by decide) fun lr dR x4 hlr lr4=>?_
 walk_at"ex"
 rw[wU (x4 _ _ p3) (by simp),mM (by simp only[List.cons_append,List.nil_append,dA];rw[if_neg (by decide +kernel),if_neg (by decide +kernel)])]
 generalize hst5:put dR p _=gB
 have plr:p≠lr:=fun z=>by rw[<-z,p3]at hlr;cases hlr
 have lplr:lp≠lr:=fun z=>by rw[<-z,lp3]at hlr;cases hlr
 have llr:l≠lr:=fun z=>by rw[<-z,k3 _ _ (by simpa using pl.symm) hl]at hlr;cases hlr
 have p5:gB p=some (.ins (W "Table") ([(W "names", .tup (names.map .str))]++[(W "pieces", .ref lp)]++[(W "rows", .ref lr)])):=by rw[<-hst5,bB]
 have k5:cC [p] st gB:=k3.trans (x4.keep.trans (by rw[<-hst5];exact cC.put (by simp)))
 have lp5:gB lp=some (.lst ((cU ss []).map toD)):=by rw[<-hst5,bL plp.symm];exact x4 _ _ lp3
 have lr5:gB lr=some (.lst []):=by rw[<-hst5,bL plr.symm];exact lr4
 walk_at"st"
 intro ld hld
 generalize hst6:put gB ld (.tab [] [])=mK
 have x6:Ext gB mK:=by rw[<-hst6];exact Ext.new hld
 have ld6:mK ld=some (.tab [] []):=by rw[<-hst6,bB]
 rw[wU (x6 _ _ p5) (by simp),mM (by simp only[List.cons_append,List.nil_append,dA];rw[if_neg (by decide +kernel),if_neg (by decide +kernel),if_neg (by decide +kernel)])]
 generalize hst7:put mK p _=sP
 have pld:p≠ld:=fun z=>by rw[<-z,p5]at hld;cases hld
 have lld:l≠ld:=fun z=>by rw[<-z,k5 _ _ (by simpa using pl.symm) hl]at hld;cases hld
 have p7:sP p=some (.ins (W "Table") (oJ names lp lr ld++[])):=by rw[<-hst7,bB];rfl
 have k7:cC [p] st sP:=k5.trans (x6.keep.trans (by rw[<-hst7];exact cC.put (by simp)))
 have o7:∀ a o,a≠p->gB a=some o->sP a=some o:=fun a o na e=>by rw[<-hst7,bL na];exact x6 _ _ e
 have pd:∀ s∈cU ss [],aR s<=60:=fun s oK=>yY ss (n:=60) (by simp) (fun x hx=>by have:=(ho x hx).2;omega) s oK
 have T7:gO sP p lp lr ld names (cU ss []) [] []:=⟨p7,o7 _ _ plp.symm lp5,⟨[],o7 _ _ plr.symm lr5,rfl,fun j s d e=>by simp at e⟩,by rw[<-hst7,bL pld.symm];exact ld6,lplr,List.nodup_nil,fun s oK=>(by cases oK),by simp,pd⟩
 have l7:sP l=some (.lst (ss.map toD)):=k7 _ _ (by simpa using pl.symm) hl
 have hszL:∀(l:List Sy)(t:Sy),t∈l->sz t<=fE l:=fun l=>by
  induction l with
  |nil=>intro t ht;cases ht
  |cons a l ihl =>
   intro t ht
   rw[jU]
   rcases List.mem_cons.mp ht with rfl|ht
   ·omega
   ·have:=ihl t ht;omega
 walk_at"st"
 rw[aK l7]
 refine lL toD (I:=fun r σ aB=>∃ R1 o3 dn,ss=dn++r/\σ=[some (.ref p),some (.tup (names.map .str)),some (.ref l),o3]/\cC [lr,ld] sP aB/\gO aB p lp lr ld names (cU ss []) R1 []/\(∀ t∈dn,t∈R1)/\R1.length<=fE dn) (fun r σ aB ⟨R1,o3,dn,e1,e2,k1,T1,a2,a4⟩=>?_) (fun x r σ aB M ⟨R1,o3,dn,e1,e2,k1,T1,a2,a4⟩ hM=>?_) (fun σ aB ⟨R1,o3,dn,e1,e2,k1,T1,a2,a4⟩=>?_) _ _ _ ⟨[],none,[],rfl,rfl,.refl,T7,fun t ht=>(by cases ht),by simp [fE]⟩
 ·intro a ha
  simp only[List.mem_singleton]at ha
  subst ha
  rw[l7,k1 _ _ (by simp [llr,lld]) l7]
 ·-- a saying
  subst e2
  have hx:x∈ss:=by rw[e1];simp
  have hdn:fE dn+sz x<=fE ss:=by rw[e1,kA,jU];omega
  walk_at"st"
  rw[sI T1.ins (by rw[jA (by decide +kernel) (by decide +kernel) (by decide +kernel) (by decide +kernel)];rfl)]
  refine⟨True.intro,?_⟩
  refine QO (k:=k+1) he hw hpo rfl rfl 8 (ho x hx).2 T1 ⟨(ho x hx).1,(ho x hx).2,KE ss [] x hx⟩ (by omega) fun aF R2 b1 b2 b3 b4 b5 b6=>?_
  rw[aE]
  refine hM _ aF ⟨R2,_,dn++[x],by simp [e1],rfl,k1.trans b1,b2,fun t ht=>?_,?_⟩
  ·rcases List.mem_append.mp ht with ht|ht
   ·exact b3 t (a2 t ht)
   ·simp only[List.mem_singleton]at ht;subst ht;exact b4
  ·rw[kA];simp only[jU];simp only[fE,List.map_nil,List.sum_nil]at *;omega
 ·-- behind them
  subst e2
  rw[List.append_nil]at e1
  have zP:∀ s∈ss,s∈R1:=fun s oK=>a2 s (by rw[<-e1];exact oK)
  have kk:cC [p,lr,ld] st aB:=(k7.mono (by simp)).trans (k1.mono (by simp))
  walk_at"st"
  rw[gA T1.ins wJ,pY,aK T1.pc]
  refine gL toD (fun s=>.bl (fR s)) (cU ss []) [] aB (fun aU y a ha=>?_) (fun t ht aU K y1 hK=>?_) (by simp only[List.length_nil];omega) fun aF y2=>?_
  ·simp only[List.mem_singleton]at ha
   subst ha
   rw[T1.pc,y _ _ T1.pc]
  ·obtain⟨r,er⟩:=nL t
   rw[er]
   walk_at"ex"
   rw[PU]
   exact hK aU .refl
  rw[List.nil_append]
  refine cI (by simp only[List.length_map];omega) fun pp bC y3 hpp rK=>?_
  walk_at"ex"
  rw[aK rK]
  refine⟨by simp only[List.length_map];omega,?_⟩
  have T3:=T1.keep (y2.trans y3)
  rw[wU T3.ins (by simp [oJ]),mM (by rw[jA (by decide +kernel) (by decide +kernel) (by decide +kernel) (by decide +kernel)];rfl)]
  generalize hst8:put bC p _=qC
  have nep:∀ a o,a≠p->bC a=some o->qC a=some o:=fun a o na e=>by rw[<-hst8,bL na];exact e
  have lpp:lp≠p:=plp.symm
  have T8:gO qC p lp lr ld names (cU ss []) R1 [(W "first_memory", .tup ((cU ss []).map fun s=>.bl (fR s)))]:=by
   obtain⟨rows,r1,r2,r3⟩:=T3.rows
   refine⟨by rw[<-hst8,bB,List.append_assoc];rfl,nep _ _ lpp T3.pc,⟨rows,nep _ _ plr.symm r1,r2,fun j s d h1 h2=>?_⟩,nep _ _ pld.symm T3.tab,T3.ne,T3.nd,T3.gd,T3.len,T3.pd⟩
   obtain⟨q,is,c1,c2,c3,c4⟩:=r3 j s d h1 h2
   exact⟨q,is,c1,c2,nep _ _ (fun z=>by rw[z,T3.ins]at c3;cases c3) c3,c4⟩
  have cl:=T8.closed
  have hin:∀ s∈cU ss [],oG s∈R1:=fun s oK=>by
   have h1:=OW cl ss [] zP (fun x hx=>by cases hx) s oK
   cases s with
   |one w a =>
    cases w with
    |before=>exact cl _ h1 a (by simp [subs])
    |_=>exact h1
   |_=>exact h1
  have hpast:=CL ss [] (fun x hx=>by cases hx)
  walk_at"st"
  rw[gA T8.ins wJ,pY,aK T8.pc]
  refine gL toD (fun s=>.int (R1.idxOf (oG s):Nat)) (cU ss []) [] qC (fun aU y a ha=>?_) (fun t ht aU K y1 hK=>?_) (by simp only[List.length_nil];omega) fun Az y9=>?_
  ·simp only[List.mem_singleton]at ha
   subst ha
   rw[T8.pc,y _ _ T8.pc]
  ·have T'':=T8.keep y1
   walk_at"ex"
   rw[sI T''.ins (by rw[jA (by decide +kernel) (by decide +kernel) (by decide +kernel) (by decide +kernel)];simp only[dA];rw[if_neg (by decide +kernel)])]
   refine⟨True.intro,?_⟩
   have cQ:=List.idxOf_lt_length_iff.mpr (hin t ht)
   have hd8:aR t<=8:=yY ss (n:=8) (by simp) (fun x hx=>(ho x hx).2) t ht
   refine XE (k:=k+10) hrr T'' (hpast t ht) hd8 (j:=R1.idxOf (oG t)) (by rw[List.getElem?_eq_getElem cQ];simp) ?_
   exact hK aU .refl
  rw[List.nil_append]
  refine cI (by simp only[List.length_map];omega) fun lm Ba y10 hlm hlm10=>?_
  walk_at"ex"
  have T10:=T8.keep (y9.trans y10)
  rw[wU T10.ins (by simp [oJ]),mM (by rw[jA (by decide +kernel) (by decide +kernel) (by decide +kernel) (by decide +kernel)];simp only[dA];rw[if_neg (by decide +kernel)])]
  simp only[aE]
  generalize hst11:put Ba p _=Bb
  have nep2:∀ a o,a≠p->Ba a=some o->Bb a=some o:=fun a o na e=>by rw[<-hst11,bL na];exact e
  refine hQ Bb R1 (fun a o na e=>?_) ⟨lp,lr,ld,lm,(cU ss []).map fun s=>R1.idxOf (oG s),?_,?_,by simp,fun m j s h1 h2=>?_,hpast⟩ zP
  ·simp only[List.mem_singleton]at na
   have h7:=k7 a o (by simpa using na) e
   have alr:a≠lr:=fun z=>by rw[<-z,k3 a o (by simpa using na) e]at hlr;cases hlr
   have ald:a≠ld:=fun z=>by rw[<-z,k5 a o (by simpa using na) e]at hld;cases hld
   exact nep2 a o na ((y9.trans y10) _ _ (nep a o na ((y2.trans y3) _ _ (k1 a o (by simp [alr,ald]) h7))))
  ·obtain⟨rows,r1,r2,r3⟩:=T10.rows
   refine⟨by rw[<-hst11,bB,List.append_assoc];rfl,nep2 _ _ lpp T10.pc,⟨rows,nep2 _ _ plr.symm r1,r2,fun j s d h1 h2=>?_⟩,nep2 _ _ pld.symm T10.tab,T10.ne,T10.nd,T10.gd,T10.len,T10.pd⟩
   obtain⟨q,is,c1,c2,c3,c4⟩:=r3 j s d h1 h2
   exact⟨q,is,c1,c2,nep2 _ _ (fun z=>by rw[z,T10.ins]at c3;cases c3) c3,c4⟩
  ·rw[nep2 _ _ (fun z=>by rw[z,(T8.keep y9).ins]at hlm;cases hlm) hlm10,List.map_map];rfl
  ·rw[List.getElem?_map,h2]at h1
   simp at h1
   subst h1
   have cQ:=List.idxOf_lt_length_iff.mpr (hin s (List.mem_of_getElem? h2))
   rw[List.getElem?_eq_getElem cQ];simp
end
end L3
end
section
namespace L3
open PySem
noncomputable def oZ:Fn:=⟨2,2,[.ret (.and_ (.isi (.v 0) [.tuple]) (.and_ (.cmp .eq (.bi .len [(.v 0)]) (.v 1)) (.bi .all [(.comp 1 [] [0] true none [(.v 0)] [] (.isi (.v 0) [.bool]))])))]⟩
theorem Table.keep {st aB:aA}{p:Nat}{names:List (List Nat)}{aW R:List Sy}(T:Table st p names aW R)(h:Ext st aB):Table aB p names aW R:=by
 obtain⟨lp,lr,ld,lm,js,a,b,c⟩:=T.h
 exact⟨lp,lr,ld,lm,js,a.keep h,h _ _ b,c⟩
theorem Table.row {st:aA}{p:Nat}{names:List (List Nat)}{aW R:List Sy}(T:Table st p names aW R):∃ ld fs,st p=some (.ins (W "Table") fs)/\dA fs (W "row_of")=some (.ref ld)/\st ld=some (.tab (R.map toD) (wC R.length))/\∀ s∈R,aR s<=8/\kQ (R.map toD) (wC R.length) (toD s)=some (.int (R.idxOf s:Nat)):=by
 obtain⟨lp,lr,ld,lm,js,a,b,c⟩:=T.h
 refine⟨ld,_,a.ins,mR,a.tab,fun s hs=>⟨(a.gd s hs).dp,?_⟩⟩
 have cQ:=List.idxOf_lt_length_iff.mpr hs
 exact a.look (by rw[List.getElem?_eq_getElem cQ];simp)
end L3
end
section
namespace L3
open PySem
noncomputable def jT (bs:List Bool):D:=.tup (bs.map .bl)
noncomputable def L6 (G:Prog)(ibk kb:Nat)(b:Bk):Prop:=∀(k:Nat)(st:aA)(Q:VK)(E:XK),(∀ aB,Ext st aB->Q (.bl true) aB)->aM G (k+kb) ibk [b.d] st Q E
section
variable {G:Prog}{k i ibk kb ich icp ist ie iw ipo iz irr iti io iri ima lK iph inh:Nat}{st:aA}{Q:VK}{E:XK}{b:Bk}
theorem LX (h:G.fns ist=some oZ){bs:List Bool}{n:Nat}(hn:bs.length=n)(hl:n<=100)(hQ:∀ aB,Ext st aB->Q (.bl true) aB):aM G (k+1) ist [jT bs,.int n] st Q E:=by
 have hL:bG=16777216:=rfl
 rw[bA h]
 simp only[oZ,start,jT]
 refine⟨rfl,?_⟩
 walk_at"st"
 have e1:(((bs.map D.bl).length:Int)==(n:Int))=true:=by rw[List.length_map,hn];simp
 simp only[e1,if_true]
 walk_at"ex"
 refine gL D.bl (fun _=>.bl true) bs [] st (fun aU y a ha=>by cases ha) (fun t ht aU K y1 hK=>hK aU .refl) (by simp only[List.length_nil];omega) fun aF y2=>?_
 rw[List.nil_append]
 refine cI (by simp only[List.length_map];omega) fun pp bC y3 hpp rK=>?_
 walk_at"ex"
 rw[aK rK,iQ,bR]
 have e2:(bs.map fun _=>true).all id=true:=by simp
 rw[e2]
 exact hQ bC (y2.trans y3)
end
end L3
end
section
namespace L3
open PySem
local macro_rules|`(tactic| walk_at"wd")=>`(tactic| (first|rw[if_pos (by decide +kernel)]|rw[if_neg (by decide +kernel)]))
noncomputable def HI (ih:Nat):Fn:=⟨4,8,[.asg (.nm 4) (.ix (.v 1) (.c (.int 0))),.iff (.cmp .eq (.v 4) (.c (.str (W "lamp")))) [.ret (.ix (.ix (.v 2) (.v 3)) (.cD .index (.v 0) [(.ix (.v 1) (.c (.int 1)))]))] [],.iff (.or_ (.cmp .eq (.v 4) (.c (.str (W "yes")))) (.cmp .eq (.v 4) (.c (.str (W "no"))))) [.ret (.cmp .eq (.v 4) (.c (.str (W "yes"))))] [],.iff (.cmp .eq (.v 4) (.c (.str (W "before")))) [.ret (.and_ (.cmp .gt (.v 3) (.c (.int 0))) (.call ih [(.v 0),(.ix (.v 1) (.c (.int 1))),(.v 2),(.bin .sub (.v 3) (.c (.int 1)))]))] [],.iff (.cmp .eq (.v 4) (.c (.str (W "once")))) [.ret (.cmp .ne (.comp 1 [0,1,2] [0] true (some .range) [(.bin .add (.v 3) (.c (.int 1)))] [(.call ih [(.v 1),(.ix (.v 2) (.c (.int 1))),(.v 3),(.v 0)])] (.v 0)) (.lst []))] [],.iff (.cmp .eq (.v 4) (.c (.str (W "sofar")))) [.ret (.cmp .eq (.comp 1 [0,1,2] [0] true (some .range) [(.bin .add (.v 3) (.c (.int 1)))] [(.not_ (.call ih [(.v 1),(.ix (.v 2) (.c (.int 1))),(.v 3),(.v 0)]))] (.v 0)) (.lst []))] [],.iff (.cmp .eq (.v 4) (.c (.str (W "since")))) [.gJ (.nm 5) (some .range) [(.v 3),(.neg (.c (.int 1))),(.neg (.c (.int 1)))] [.iff (.call ih [(.v 0),(.ix (.v 1) (.c (.int 2))),(.v 2),(.v 5)]) [.ret (.c (.bl true))] [],.iff (.not_ (.call ih [(.v 0),(.ix (.v 1) (.c (.int 1))),(.v 2),(.v 5)])) [.ret (.c (.bl false))] []],.ret (.c (.bl false))] [],.asg (.nm 6) (.call ih [(.v 0),(.ix (.v 1) (.c (.int 1))),(.v 2),(.v 3)]),.iff (.cmp .eq (.v 4) (.c (.str (W "not")))) [.ret (.not_ (.v 6))] [],.asg (.nm 7) (.call ih [(.v 0),(.ix (.v 1) (.c (.int 2))),(.v 2),(.v 3)]),.iff (.cmp .eq (.v 4) (.c (.str (W "and")))) [.ret (.and_ (.v 6) (.v 7))] [],.iff (.cmp .eq (.v 4) (.c (.str (W "or")))) [.ret (.or_ (.v 6) (.v 7))] [],.iff (.cmp .eq (.v 4) (.c (.str (W "then")))) [.ret (.or_ (.v 7) (.not_ (.v 6)))] [],.ret (.cmp .eq (.v 6) (.v 7))]⟩
theorem pU {α:Type}{g:aA->Prop}{turn:D->aA->(Option D->aA->Prop)->Prop}{R:List D->aA->Prop}(t:α->D)(f:α->Option D):∀(xs:List α)(acc:List D)(st:aA),
  (∀ aB,Ext st aB->g aB)->(∀ x∈xs,∀ aB (K:Option D->aA->Prop),Ext st aB->(∀ aU,Ext aB aU->K (f x) aU)->turn (t x) aB K) ->
  acc.length+xs.length<=bG->(∀ aB,Ext st aB->R (acc++xs.filterMap f) aB)->iN g turn (xs.map t) acc st R
 |[],acc,st,hg,_,_,hR=>⟨hg st .refl,by simpa using hR st .refl⟩
 |x::xs,acc,st,hg,ht,hl,hR=>by
  simp only[List.length_cons]at hl
  refine⟨hg st .refl,by omega,ht x (by simp) st _ .refl fun aU h''=>?_⟩
  cases hf:f x with
  |none =>
   exact pU t f xs acc aU (fun aB h=>hg aB (h''.trans h)) (fun y hy aB K h=>ht y (by simp [hy]) aB K (h''.trans h)) (by omega) fun aB h=>by simpa [hf]using hR aB (h''.trans h)
  |some d =>
   exact pU t f xs (acc++[d]) aU (fun aB h=>hg aB (h''.trans h)) (fun y hy aB K h=>ht y (by simp [hy]) aB K (h''.trans h)) (by simp only[List.length_append,List.length_cons,List.length_nil];omega) fun aB h=>by simpa [hf]using hR aB (h''.trans h)
theorem BC:∀ is:List Int,bQ (is.map .int)=true
 |[]=>rfl
 |i::is=>by simp only[List.map_cons,bQ,bS,BC is,Bool.and_self]
theorem DX:∀ is:List Int,cK (is.map .int)=0
 |[]=>rfl
 |i::is=>by simp only[List.map_cons,cK,cM,DX is];rfl
theorem oN {st:aA}{p:Nat}{is:List Int}(h:st p=some (.lst (is.map .int))):plainS st (.ref p):=by
 refine⟨?_,Nat.zero_le _⟩
 simp only[fJ,h,N1,BC,DX];rfl
theorem eq_nil {st:aA}{p q:Nat}{xs:List D}(h:st p=some (.lst xs))(h':st q=some (.lst [])):bM st (.ref p) (.ref q)=xs.isEmpty:=by
 simp only[bM,h,h',AA]
 cases xs<;>rfl
theorem E9 (f:Nat->Bool)(n:Nat):((List.range n).filterMap fun k=>if f k=true then some (D.int (k:Nat))else none)=(((List.range n).filter f).map fun(k:Nat)=>(k:Int)).map .int:=by
 generalize List.range n=l
 induction l with
 |nil=>rfl
 |cons a l ih =>
 by_cases h:f a=true
 ·simp only[List.filterMap_cons,h,if_true,List.filter_cons,List.map_cons,ih]
 ·simp only[List.filterMap_cons,h,List.filter_cons,ih];simp [h]
theorem CS (f:Nat->Bool)(l:List Nat):((((l.filter f).map fun(k:Nat)=>(k:Int)).map D.int).isEmpty) = !l.any f:=by
 induction l with
 |nil=>rfl
 |cons a l ih =>
 by_cases h:f a=true
 ·simp [h]
 ·simp only[List.filter_cons,h,List.any_cons];simp [h]at ih ⊢;exact ih
theorem lA (n:Nat):jR 0 n=(List.range n).map fun k=>D.int (k:Nat):=by
 unfold jR;congr 1;funext k;simp
section
variable {G:Prog}{ih l:Nat}{names:List (List Nat)}{aH:List (List Bool)}
theorem G2 (h:G.fns ih=some (HI ih))(hp:∀ bs∈aH,bs.length=names.length)(cT:aH.length<=1000):∀(n:Nat){s:Sy}{k t:Nat}{st:aA}{Q:VK}{E:XK},aR s<=n->over names s->t<aH.length->st l=some (.lst (aH.map jT)) ->
  (∀ aB,Ext st aB->Q (.bl (hv names aH s t)) aB)->aM G (k+n) ih [.tup (names.map .str),toD s,.ref l,.int t] st Q E:=by
 have hL:bG=16777216:=rfl
 intro n
 induction n with
 |zero=>intro s k t st Q E hn;cases s<;>simp [aR]at hn
 |succ n ih' =>
  intro s k t st Q E hn ho ht hl hQ
  rw[show k+(n+1)=(k+n)+1 from rfl,bA h]
  simp only[HI,start]
  refine⟨rfl,?_⟩
  cases s with
  |yes =>
   simp only[toD]
   walk_at"st"
   walk_at"st"; walk_at"wd"; rw[aE]
   walk_at"st"; walk_at"wd"
   have e:(W "yes" == W "yes")=true:=by decide +kernel
   simp only[e,if_true]
   walk_at"st"
   rw[e]
   exact hQ st .refl
  |no =>
   simp only[toD]
   walk_at"st"
   walk_at"st"; walk_at"wd"; rw[aE]
   walk_at"st"; walk_at"wd"
   have e:(W "no" == W "no")=true:=by decide +kernel
   simp only[e,if_true]
   walk_at"st"
   have e:(W "no" == W "yes")=false:=by decide +kernel
   rw[e]
   exact hQ st .refl
  |cJ m =>
   simp only[toD]
   walk_at"st"
   walk_at"st"; walk_at"wd"
   walk_at"st"
   have hx:=List.getElem?_eq_getElem ht
   rw[gY hl,dY (by simpa using ht),List.getElem?_map,hx,Option.map_some,bR]
   walk_at"ex"
   rw[vK,rO,zN,rO]
   refine⟨True.intro,sS,jB st names,?_⟩
   rw[vN ho,bR]
   have hlen:=hp _ (List.mem_of_getElem? hx)
   have cQ:names.idxOf m<(aH[t]).length:=by rw[hlen];exact List.idxOf_lt_length_iff.mpr ho
   simp only[jT]
   rw[jO,dY (by simpa using cQ),List.getElem?_map,List.getElem?_eq_getElem cQ,Option.map_some,bR]
   have:=hQ st .refl
   simp only[hv,EL,hx,Option.getD_some]at this
   rw[List.getElem?_eq_getElem cQ]at this
   exact this
  |one w a =>
   simp only[aR]at hn
   have ho':over names a:=ho
   cases w with
   |not =>
    simp only[toD,c1]
    walk_at"st"
    walk_at"st"; walk_at"wd"; rw[aE]
    walk_at"st"; walk_at"wd"; walk_at"wd"; rw[aE]
    iterate 4 (walk_at"st"; walk_at"wd"; rw[aE])
    walk_at"st"
    refine ih' (s:=a) (by omega) ho' ht hl fun aC x1=>?_
    walk_at"st"; walk_at"wd"
    walk_at"st"
    exact hQ aC x1
   |before =>
    simp only[toD,c1]
    walk_at"st"
    walk_at"st"; walk_at"wd"; rw[aE]
    walk_at"st"; walk_at"wd"; walk_at"wd"; rw[aE]
    walk_at"st"; walk_at"wd"
    walk_at"st"
    by_cases h0:t=0
    ·subst h0
     rw[if_neg (by simp)]
     exact hQ st .refl
    ·rw[if_pos (by simp;omega),show(t:Int)-1=((t-1:Nat):Int)by omega]
     refine ih' (s:=a) (by omega) ho' (by omega) hl fun aC x1=>?_
     have:=hQ aC x1
     simp only[hv]at this
     rw[decide_eq_true (by omega),Bool.true_and]at this
     exact this
   |once =>
    simp only[toD,c1]
    walk_at"st"
    walk_at"st"; walk_at"wd"; rw[aE]
    walk_at"st"; walk_at"wd"; walk_at"wd"; rw[aE]
    walk_at"st"; walk_at"wd"; rw[aE]
    walk_at"st"; walk_at"wd"
    walk_at"st"
    refine⟨by unfold dE;omega,?_⟩
    rw[show((t:Int)+1).toNat=t+1 by omega,lA]
    refine pU (fun k:Nat=>D.int (k:Nat)) (fun k=>if hv names aH a k=true then some (D.int (k:Nat))else none) (List.range (t+1)) [] st (fun aB y a ha=>by cases ha) (fun j hj aB K y1 hK=>?_) (by simp;omega) fun aC y1=>?_
    ·refine ih' (s:=a) (by omega) ho' (by have:=List.mem_range.mp hj;omega) (y1 _ _ hl) fun aF x2=>?_
     have:=hK aF x2
     walk_at"ex"
     cases hb:hv names aH a j with
     |true=>simpa [hb]using this
     |false=>simpa [hb]using this
    rw[List.nil_append,E9]
    refine cI (by simp only[List.length_map];have:=List.length_filter_le (hv names aH a) (List.range (t+1));simp at this;omega) fun p aF x2 hp' jX=>?_
    walk_at"ex"
    refine cI (by simp) fun q bC x3 hq hq3=>?_
    walk_at"ex"
    refine⟨oN (x3 _ _ jX),oN (is:=[]) hq3,?_⟩
    rw[eq_nil (x3 _ _ jX) hq3,CS,Bool.not_not]
    exact hQ bC ((y1.trans x2).trans x3)
   |sofar =>
    simp only[toD,c1]
    walk_at"st"
    walk_at"st"; walk_at"wd"; rw[aE]
    walk_at"st"; walk_at"wd"; walk_at"wd"; rw[aE]
    iterate 2 (walk_at"st"; walk_at"wd"; rw[aE])
    walk_at"st"; walk_at"wd"
    walk_at"st"
    refine⟨by unfold dE;omega,?_⟩
    rw[show((t:Int)+1).toNat=t+1 by omega,lA]
    refine pU (fun k:Nat=>D.int (k:Nat)) (fun k=>if(!hv names aH a k)=true then some (D.int (k:Nat))else none) (List.range (t+1)) [] st (fun aB y a ha=>by cases ha) (fun j hj aB K y1 hK=>?_) (by simp;omega) fun aC y1=>?_
    ·refine ih' (s:=a) (by omega) ho' (by have:=List.mem_range.mp hj;omega) (y1 _ _ hl) fun aF x2=>?_
     have:=hK aF x2
     walk_at"ex"
     cases hb:hv names aH a j with
     |true=>simpa [hb]using this
     |false=>simpa [hb]using this
    rw[List.nil_append,E9 (fun k=>!hv names aH a k)]
    refine cI (by simp only[List.length_map];have:=List.length_filter_le (fun k=>!hv names aH a k) (List.range (t+1));simp at this ⊢;omega) fun p aF x2 hp' jX=>?_
    walk_at"ex"
    refine cI (by simp) fun q bC x3 hq hq3=>?_
    walk_at"ex"
    refine⟨oN (x3 _ _ jX),oN (is:=[]) hq3,?_⟩
    rw[eq_nil (x3 _ _ jX) hq3,CS]
    have:=hQ bC ((y1.trans x2).trans x3)
    simp only[hv]at this
    have e:(!(List.range (t+1)).any fun k=>!hv names aH a k)=(List.range (t+1)).all (hv names aH a):=by
     rw[List.not_any_eq_all_not];simp
    rw[e]
    exact this
  |two w a b =>
   simp only[aR]at hn
   have ho1:over names a:=ho.1
   have ho2:over names b:=ho.2
   cases w with
   |since =>
    simp only[toD,c2]
    walk_at"st"
    walk_at"st"; walk_at"wd"; rw[aE]
    walk_at"st"; walk_at"wd"; walk_at"wd"; rw[aE]
    iterate 3 (walk_at"st"; walk_at"wd"; rw[aE])
    walk_at"st"; walk_at"wd"
    walk_at"st"
    rw[A9]
    refine⟨rfl,by unfold dE;omega,by unfold dE;omega,?_⟩
    rw[show((t:Int) - -1).toNat=t+1 by omega]
    have er:mT (t:Int) (t+1)=(List.range (t+1)).map fun k=>D.int ((t:Int)-(k:Nat)):=rfl
    rw[er]
    have hsf:∀ u,fS (hv names aH a) (hv names aH b) u=(hv names aH b u||(hv names aH a u&&(decide (0<u)&&fS (hv names aH a) (hv names aH b) (u-1)))):=fun u=>by
     cases u with
     |zero=>simp [fS]
     |succ u=>simp [fS]
    refine lL (fun k:Nat=>D.int ((t:Int)-(k:Nat))) (I:=fun rest σ aB=>∃ m o5,m<=t+1/\rest=(List.range (t+1)).drop m/\σ=[some (.tup (names.map .str)),some (.tup [.str (W "since"),toD a,toD b]),some (.ref l),some (.int (t:Nat)),some (.str (W "since")),o5,none,none]/\Ext st aB/\hv names aH (Sy.two .since a b) t=(decide (m<=t)&&fS (hv names aH a) (hv names aH b) (t-m))) (fun rest σ aB _ x hx=>?_) (fun x rest σ aB M ⟨m,o5,e0,e1,e2,x4,e5⟩ hM=>?_) (fun σ aB ⟨m,o5,e0,e1,e2,x4,e5⟩=>?_) _ _ _ ⟨0,none,Nat.zero_le _,rfl,rfl,.refl,by simp [hv]⟩
    ·cases hx
    ·subst e2
     have hm:m<(List.range (t+1)).length:=by
      by_cases z:m<(List.range (t+1)).length
      ·exact z
      ·rw[List.drop_eq_nil_of_le (by omega)]at e1;cases e1
     rw[List.drop_eq_getElem_cons hm]at e1
     injection e1 with e3 e4
     simp only[List.getElem_range]at e3
     subst e3
     simp only[List.length_range]at hm
     have eu:(t:Int)-(x:Nat)=((t-x:Nat):Int):=by omega
     rw[eu]
     rw[decide_eq_true (by omega),Bool.true_and,hsf]at e5
     walk_at"st"
     refine ih' (s:=b) (by omega) ho2 (by omega) (x4 _ _ hl) fun aC x1=>?_
     walk_at"ex"
     cases hb:hv names aH b (t-x)with
     |true =>
      simp only[if_true]
      walk_at"st"
      rw[hb,Bool.true_or]at e5
      have:=hQ aC (x4.trans x1)
      rw[e5]at this
      exact this
     |false =>
      simp only[Bool.false_eq_true,if_false,aE]
      walk_at"st"
      refine ih' (s:=a) (by omega) ho1 (by omega) (x1 _ _ (x4 _ _ hl)) fun aF x2=>?_
      walk_at"ex"
      cases ha:hv names aH a (t-x)with
      |false =>
       simp only[Bool.not_false,if_true]
       walk_at"st"
       rw[hb,ha]at e5
       have:=hQ aF ((x4.trans x1).trans x2)
       rw[e5]at this
       exact this
      |true =>
       simp only[Bool.not_true,Bool.false_eq_true,if_false,aE]
       rw[hb,ha,Bool.false_or,Bool.true_and]at e5
       refine hM _ aF ⟨x+1,_,by omega,e4,rfl,(x4.trans x1).trans x2,?_⟩
       rw[e5]
       have e7:t-x-1=t-(x+1):=by omega
       rw[e7]
       congr 1
       rw[decide_eq_decide]
       omega
    ·subst e2
     have hm:t+1<=m:=by
      by_cases z:m<(List.range (t+1)).length
      ·rw[List.drop_eq_getElem_cons z]at e1;cases e1
      ·simpa using z
     rw[decide_eq_false (by omega),Bool.false_and]at e5
     walk_at"st"
     have:=hQ aB x4
     rw[e5]at this
     exact this
   |and =>
    simp only[toD,c2]
    walk_at"st"
    walk_at"st"; walk_at"wd"; rw[aE]
    walk_at"st"; walk_at"wd"; walk_at"wd"; rw[aE]
    iterate 4 (walk_at"st"; walk_at"wd"; rw[aE])
    walk_at"st"
    refine ih' (s:=a) (by omega) ho1 ht hl fun aC x1=>?_
    walk_at"st"; walk_at"wd"; rw[aE]
    walk_at"st"
    refine ih' (s:=b) (by omega) ho2 ht (x1 _ _ hl) fun aF x2=>?_
    walk_at"st"; walk_at"wd"
    walk_at"st"
    have:=hQ aF (x1.trans x2)
    simp only[hv]at this
    cases ha:hv names aH a t with
    |false=>simpa [ha]using this
    |true=>simpa [ha]using this
   |or =>
    simp only[toD,c2]
    walk_at"st"
    walk_at"st"; walk_at"wd"; rw[aE]
    walk_at"st"; walk_at"wd"; walk_at"wd"; rw[aE]
    iterate 4 (walk_at"st"; walk_at"wd"; rw[aE])
    walk_at"st"
    refine ih' (s:=a) (by omega) ho1 ht hl fun aC x1=>?_
    walk_at"st"; walk_at"wd"; rw[aE]
    walk_at"st"
    refine ih' (s:=b) (by omega) ho2 ht (x1 _ _ hl) fun aF x2=>?_
    walk_at"st"; walk_at"wd"; rw[aE]
    walk_at"st"; walk_at"wd"
    walk_at"st"
    have:=hQ aF (x1.trans x2)
    simp only[hv]at this
    cases ha:hv names aH a t with
    |false=>simpa [ha]using this
    |true=>simpa [ha]using this
   |aV =>
    simp only[toD,c2]
    walk_at"st"
    walk_at"st"; walk_at"wd"; rw[aE]
    walk_at"st"; walk_at"wd"; walk_at"wd"; rw[aE]
    iterate 4 (walk_at"st"; walk_at"wd"; rw[aE])
    walk_at"st"
    refine ih' (s:=a) (by omega) ho1 ht hl fun aC x1=>?_
    walk_at"st"; walk_at"wd"; rw[aE]
    walk_at"st"
    refine ih' (s:=b) (by omega) ho2 ht (x1 _ _ hl) fun aF x2=>?_
    iterate 2 (walk_at"st"; walk_at"wd"; rw[aE])
    walk_at"st"; walk_at"wd"
    walk_at"st"
    have:=hQ aF (x1.trans x2)
    simp only[hv]at this
    cases hb:hv names aH b t with
    |false=>simpa [hb]using this
    |true=>simpa [hb]using this
   |same =>
    simp only[toD,c2]
    walk_at"st"
    walk_at"st"; walk_at"wd"; rw[aE]
    walk_at"st"; walk_at"wd"; walk_at"wd"; rw[aE]
    iterate 4 (walk_at"st"; walk_at"wd"; rw[aE])
    walk_at"st"
    refine ih' (s:=a) (by omega) ho1 ht hl fun aC x1=>?_
    walk_at"st"; walk_at"wd"; rw[aE]
    walk_at"st"
    refine ih' (s:=b) (by omega) ho2 ht (x1 _ _ hl) fun aF x2=>?_
    iterate 3 (walk_at"st"; walk_at"wd"; rw[aE])
    walk_at"st"
    exact hQ aF (x1.trans x2)
end
end L3
end
section
namespace L3
open PySem
noncomputable def LA (im:Nat):Fn:=⟨4,8,[.asg (.nm 4) (.call im [(.v 0),(.v 1),(.bin .pow (.c (.int 10)) (.c (.int 9)))]),.asg (.nm 5) (.lst []),.gJ (.nm 6) (some .range) [(.call im [(.v 0),(.bin .add (.v 1) (.c (.int 1))),(.bin .add (.v 3) (.c (.int 1)))])] [.asg (.nm 7) (.bin .mod (.bin .mul (.bin .add (.bin .add (.v 4) (.bin .mul (.bin .mul (.c (.int 104729)) (.v 6)) (.v 6))) (.bin .mul (.c (.int 7919)) (.v 6))) (.c (.int 48271))) (.c (.int 2147483647))),.ex (.cD .append (.v 5) [(.bi .tuple [(.comp 1 [7] [0] true (some .range) [(.v 2)] [] (.cmp .eq (.bin .mod (.bin .fdiv (.v 1) (.ix (.lst [(.c (.int 13)),(.c (.int 26)),(.c (.int 52)),(.c (.int 104))]) (.v 0))) (.c (.int 2))) (.c (.int 1))))])])],.ret (.v 5)]⟩
noncomputable def cst (j:Nat):Int:=([13,26,52,104]:List Int).getD j 1
theorem TK (j:Nat)(h:j<4):0<cst j/\cst j<1073741824:=by
 match j,h with
 |0,_=>decide
 |1,_=>decide
 |2,_=>decide
 |3,_=>decide
section
variable {G:Prog}{k i im ic:Nat}{st:aA}{Q:VK}{E:XK}{ns:List Int}
theorem JM (h:G.fns i=some (LA im))(hm:G.fns im=some (oX ic))(hc:G.fns ic=some qW){at_ most:Int}{n:Nat}(ha:0<=at_)(hn:n<=4)(hmo:0<=most)(hmo2:most<=100)
  (hQ:∀ p aB (aH:List (List Bool)),Ext st aB->aB p=some (.lst (aH.map jT))->(∀ bs∈aH,bs.length=n)->(aH.length:Int)<=most->Q (.ref p) aB):aM G (k+3) i [.bF (ns.map .int),.int at_,.int n,.int most] st Q E:=by
 have hL:bG=16777216:=rfl
 rw[bA h]
 simp only[LA,start]
 refine⟨rfl,?_⟩
 walk_at"st"
 refine⟨by decide,?_⟩
 refine zI hm hc ha (by decide) fun aC x1=>?_
 walk_at"st"
 refine cI (by simp) fun q aF x2 hq hq2=>?_
 walk_at"st"
 refine zI hm hc (by omega) (by omega) fun bC x3=>?_
 have v0:=mO (ns:=ns) (k:=at_+1) (many:=most+1) (by omega)
 have v1:=mP (ns:=ns) (k:=at_+1) (many:=most+1) (by omega)
 generalize pN ns (at_+1) (most+1)=v at v0 v1
 generalize pN ns at_ (10 ^ Int.toNat 9)=seed
 walk_at"ex"
 refine⟨by unfold dE;omega,?_⟩
 rw[lA]
 have hq1:aC q=none:=hq
 refine lL (fun j:Nat=>D.int (j:Nat)) (I:=fun rest σ aB=>∃ m o6 o7 aH,m<=v.toNat/\rest=(List.range v.toNat).drop m/\σ=[some (.bF (ns.map .int)),some (.int at_),some (.int n),some (.int most),some (.int seed),some (.ref q),o6,o7]/\cC [q] bC aB/\aB q=some (.lst (aH.map jT))/\(∀ bs∈aH,bs.length=n)/\aH.length=m) (fun rest σ aB _ a ha=>?_) (fun x rest σ aB M ⟨m,o6,o7,aH,e0,e1,e2,x4,e5,e6,e7⟩ hM=>?_) (fun σ aB ⟨m,o6,o7,aH,e0,e1,e2,x4,e5,e6,e7⟩=>?_) _ _ _ ⟨0,none,none,[],Nat.zero_le _,rfl,rfl,.refl,x3 _ _ hq2,by simp,rfl⟩
 ·cases ha
 ·subst e2
  have hm':m<(List.range v.toNat).length:=by
   by_cases z:m<(List.range v.toNat).length
   ·exact z
   ·rw[List.drop_eq_nil_of_le (by omega)]at e1;cases e1
  rw[List.drop_eq_getElem_cons hm']at e1
  injection e1 with e3 e4
  simp only[List.getElem_range]at e3
  subst e3
  simp only[List.length_range]at hm'
  walk_at"st"
  refine⟨.inl (by unfold nH;omega),.inr (by unfold nH;omega),.inl (by unfold nH;omega),.inr (by unfold nH;omega),by decide,?_⟩
  generalize (seed+104729*(x:Int)*(x:Int)+7919*(x:Int))*48271 % 2147483647=dr
  walk_at"st"
  rw[aK e5]
  refine⟨True.intro,by unfold dE;omega,?_⟩
  rw[show((n:Int)).toNat=n by omega,lA]
  refine gL (fun j:Nat=>D.int (j:Nat)) (fun j=>.bl (dr / cst j % 2==1)) (List.range n) [] aB (fun aU y a ha=>by cases ha) (fun j hj aU K y1 hK=>?_) (by simp;omega) fun gB y5=>?_
  ·have hj':=List.mem_range.mp hj
   refine cI (by decide) fun u mK x6 hu hu6=>?_
   have hat:eO [D.int 13,D.int 26,D.int 52,D.int 104] ((j:Nat):Int)=some (.int (cst j)):=by
    rw[dY (by simp;omega)]
    match j,(by omega:j<4)with
    |0,_=>rfl
    |1,_=>rfl
    |2,_=>rfl
    |3,_=>rfl
   rw[gY hu6,hat,bR]
   walk_at"ex"
   refine⟨TK j (by omega),by decide,?_⟩
   exact hK mK x6
  rw[List.nil_append]
  refine cI (by simp;omega) fun u mK x6 hu hu6=>?_
  walk_at"ex"
  rw[aK hu6]
  refine⟨by simp;omega,?_⟩
  have q6:=x6 _ _ (y5 _ _ e5)
  rw[aK q6]
  refine⟨by simp;omega,?_⟩
  simp only[aE]
  refine hM _ _ ⟨x+1,_,_,aH++[(List.range n).map fun j=>dr / cst j % 2==1],by omega,e4,rfl,fun a o na e=>by rw[bL (by simpa using na)];exact x6 _ _ (y5 _ _ (x4 a o na e)),?_,fun bs hbs=>?_,by simp [e7]⟩
  ·rw[bB];simp [jT,List.map_map,Function.comp]
  ·rcases List.mem_append.mp hbs with hbs|hbs
   ·exact e6 bs hbs
   ·simp only[List.mem_singleton]at hbs;subst hbs;simp
 ·subst e2
  have hm':v.toNat<=m:=by
   by_cases z:m<(List.range v.toNat).length
   ·rw[List.drop_eq_getElem_cons z]at e1;cases e1
   ·simpa using z
  walk_at"st"
  refine hQ q aB aH (fun a o e=>x4 a o (fun z=>?_) (x3 _ _ (x2 _ _ (x1 _ _ e)))) e5 e6 (by omega)
  simp only[List.mem_singleton]at z
  rw[z]at e
  rw[x1 _ _ e]at hq;cases hq
end
end L3
end
section
namespace L3
open PySem
theorem E5 {fs gs:List (List Nat)}(h:oT fs gs=true):1<=fs.length/\fs.length<=2/\1<=gs.length/\gs.length<=2/\(fs++gs).Nodup/\∀ n∈fs++gs,n∈oQ:=by
 simp only[oT,Bool.and_eq_true,decide_eq_true_eq,List.all_eq_true]at h
 obtain⟨⟨⟨⟨⟨a,b⟩,c⟩,d⟩,e⟩,f⟩:=h
 exact⟨a,b,c,d,e,fun n hn=>by simpa using f n hn⟩
theorem zQ:∀ n∈oQ,fB n=true:=by decide +kernel
noncomputable def lX (l:List Sy):Nat:=(l.map cnt).sum
theorem G7 (f:List Sy)(s:Sy):(eR f s).length<=f.length+(if bV s=true then 1 else 0):=by
 unfold eR
 cases h:bV s with
 |true=>simp only[Bool.true_and,if_true];split<;>simp
 |false=>simp
theorem xF:∀(s:Sy)(f:List Sy),(aW s f).length<=f.length+cnt s
 |.yes,f=>by simp [aW]
 |.no,f=>by simp [aW]
 |.cJ _,f=>by simp [aW]
 |.one w s,f=>by
  have h1:=xF s (eR f (.one w s))
  have h2:=G7 f (.one w s)
  simp only[bV]at h2
  simp only[aW,cnt]
  cases h:p1 w<;>simp [h]at h2 ⊢<;>omega
 |.two w s t,f=>by
  have h1:=xF s (eR f (.two w s t))
  have h2:=G7 f (.two w s t)
  have h3:=xF t (aW s (eR f (.two w s t)))
  simp only[bV]at h2
  simp only[aW,cnt]
  cases h:p2 w<;>simp [h]at h2 ⊢<;>omega
theorem HQ:∀(l f:List Sy),(cU l f).length<=f.length+lX l
 |[],f=>by simp [cU,lX]
 |s::l,f=>by
  have h1:=HQ l (aW s f)
  have h2:=xF s f
  have:lX (s::l)=cnt s+lX l:=by simp [lX]
  simp only[cU];omega
theorem Kd {a b c:Nat}{x:Int}(h:(a:Int)<=x)(h':(b:Int)<=x-a):((a+b:Nat):Int)<=x:=by omega
theorem Ki {a b:Nat}{x:Int}:x-(a:Int)-(b:Int)=x-((a+b:Nat):Int):=by omega
theorem Jw {b:Nat}{x:Int}(h:(b:Int)<=x):0<=x-(b:Int):=by omega
theorem draws {turn:D->aA->(Option D->aA->Prop)->Prop}{R:List D->aA->Prop}{m lf:Nat}{ok:Sy->Prop}{SU:aA}
 (ht:∀(x:D)(st:aA)(K:Option D->aA->Prop)(i c:Int),0<=i->0<=c->st m=some (.lst [.int i])->st lf=some (.lst [.int c])->(∀ s aB i',ok s->(cnt s:Int)<=c->cC [m,lf] st aB->0<=i'->aB m=some (.lst [.int i'])->aB lf=some (.lst [.int (c-cnt s)])->K (some (toD s)) aB)->turn x st K):
 ∀(xs:List D)(ss:List Sy){st:aA}{i c:Int},0<=i->0<=c->st m=some (.lst [.int i])->st lf=some (.lst [.int c])->ss.length+xs.length<bG ->
  (∀ ss' aB i',(∀ s∈ss',ok s)->ss'.length=xs.length->(lX ss':Int)<=c->cC [m,lf] st aB->0<=i'->aB m=some (.lst [.int i'])->aB lf=some (.lst [.int (c-lX ss')])->R ((ss++ss').map toD) aB) ->
  iN (same [] SU) turn xs (ss.map toD) st R
 |[],ss,st,i,c,hi,hc,hm,hl,hn,h=>⟨FJ,by have q:=h [] st i (fun _ h=>nomatch h) rfl (by simpa [lX]using hc) .refl hi hm (by simpa [lX]using hl);rw[List.append_nil]at q;exact q⟩
 |x::xs,ss,st,i,c,hi,hc,hm,hl,hn,h=>⟨FJ,by rw[List.length_map];simp only[List.length_cons]at hn;omega,ht x st _ i c hi hc hm hl fun s aB i' o1 o2 k1 hi' m1 l1=>by
 have q:=draws (SU:=SU) ht xs (ss++[s]) hi' (Jw o2) m1 l1 (by simp only[List.length_append,List.length_cons,List.length_nil]at hn ⊢;omega) (fun ss' aU i'' p1 p2 p3 p4 p5 p6 p7=>by
  have e:lX (s::ss')=cnt s+lX ss':=by simp [lX]
  have z:=h (s::ss') aU i'' (fun s' oK=>by
  rcases List.mem_cons.mp oK with rfl|oK
  ·exact o1
  ·exact p1 s' oK) (by simp [p2]) (by rw[e];exact Kd (c:=0) o2 p3) (k1.trans p4) p5 p6 (by rw[e,<-Ki];exact p7)
  rw[List.append_assoc]
  exact z)
 rw[List.map_append]at q
 exact q⟩
end L3
end
section
namespace L3
open PySem
theorem QV {α:Type}(xs:List α){t:Nat}(h:t<=xs.length):cut xs none (some (t:Int))=xs.take t:=by
 simp only[cut,bX]
 rw[if_neg (by omega)]
 simp [Nat.min_eq_left h]
end L3
end
section
namespace L3
open PySem
section
variable {G:Prog}{k i:Nat}{st:aA}{Q:VK}{E:XK}{b:Bk}{r p l1 l2 l3:Nat}{R:List Sy}{V:Sy->Bool}{q:Nat}
theorem YW (hR:∀ s∈R,True){s:Sy}(hs:s∈R)(hq:st q=some (.lst (R.map fun s=>.bl (V s)))){Q':VK}:lS (.ref q) (.int (R.idxOf s:Nat)) st Q'=Q' (.bl (V s)) st:=by
 have cQ:=List.idxOf_lt_length_iff.mpr hs
 rw[gY hq,dY (by simpa using cQ),List.getElem?_map,List.getElem?_eq_getElem cQ]
 simp [cV]
end
end L3
end
section
namespace L3
open PySem
section
variable {names:List (List Nat)}{pl:List (List Bool)}{x:List Bool}
theorem CZ {f g f' g':Nat->Bool}:∀ t,(∀ k,k<=t->f k=f' k/\g k=g' k)->fS f g t=fS f' g' t
 |0,h=>(h 0 (Nat.le_refl _)).2
 |t+1,h=>by
  simp only[fS]
  rw[(h (t+1) (Nat.le_refl _)).1,(h (t+1) (Nat.le_refl _)).2,CZ t fun k hk=>h k (by omega)]
theorem V3 {f g:Nat->Bool}(n:Nat)(h:∀ k,k<n->f k=g k):(List.range n).any f=(List.range n).any g:=by
 induction n with
 |zero=>rfl
 |succ n ih=>rw[CB,CB,ih fun k hk=>h k (by omega),h n (by omega)]
theorem VU {f g:Nat->Bool}(n:Nat)(h:∀ k,k<n->f k=g k):(List.range n).all f=(List.range n).all g:=by
 induction n with
 |zero=>rfl
 |succ n ih=>rw[BZ,BZ,ih fun k hk=>h k (by omega),h n (by omega)]
theorem fX:∀(s:Sy)(t:Nat),t<pl.length->hv names (pl++[x]) s t=hv names pl s t
 |.yes,_,_=>rfl
 |.no,_,_=>rfl
 |.cJ n,t,h=>by simp only[hv,EL];rw[List.getElem?_append_left h]
 |.one .not s,t,h=>by simp only[hv];rw[fX s t h]
 |.one .before s,t,h=>by simp only[hv];rw[fX s (t-1) (by omega)]
 |.one .once s,t,h=>by simp only[hv];exact V3 _ fun k hk=>fX s k (by omega)
 |.one .sofar s,t,h=>by simp only[hv];exact VU _ fun k hk=>fX s k (by omega)
 |.two .and s u,t,h=>by simp only[hv];rw[fX s t h,fX u t h]
 |.two .or s u,t,h=>by simp only[hv];rw[fX s t h,fX u t h]
 |.two .aV s u,t,h=>by simp only[hv];rw[fX s t h,fX u t h]
 |.two .same s u,t,h=>by simp only[hv];rw[fX s t h,fX u t h]
 |.two .since s u,t,h=>by simp only[hv];exact CZ t fun k hk=>⟨fX s k (by omega),fX u k (by omega)⟩
end
end L3
end
section
namespace L3
open PySem
theorem DY {α:Type}(f:α->D){n:Nat}(h:∀ x,bS (f x)=true/\cM (f x)<=n):∀ l:List α,bQ (l.map f)=true/\cK (l.map f)<=n
 |[]=>⟨rfl,Nat.zero_le _⟩
 |a::l=>by
  have h1:=h a
  have h2:=DY f h l
  simp only[List.map_cons,bQ,h1.1,h2.1,Bool.and_self,cK,true_and]
  omega
end L3
end
section
namespace L3
open PySem
noncomputable def EK (lK ima:Nat):Fn:=⟨3,7,[.asg (.nm 3) (.lst []),.asg (.nm 4) (.fld (W "Table") (W "first_memory") (.v 0)),.gJ (.nm 5) none [(.v 1)] [.asg (.nm 6) (.mcl (W "Table") (W "held_at") lK (.v 0) [(.v 4),(.v 5)]),.ex (.cD .append (.v 3) [(.cv 2 [(.v 6)])]),.asg (.nm 4) (.mcl (W "Table") (W "memory_after") ima (.v 0) [(.v 6)])],.ret (.v 3)]⟩
theorem RC {st aB:aA}{a:Nat}(x:Ext st aB):Ext (del st a) (del aB a):=fun b o e=>by
 by_cases z:b=a
 ·rw[z]at e;unfold del at e;rw[if_pos rfl]at e;cases e
 ·rw[vD z]at e ⊢;exact x _ _ e
theorem UD {st aB:aA}{a:Nat}{o:MO}(h:st a=some o)(x:Ext (del st a) aB):Ext st (put aB a o):=fun b o' e=>by
 by_cases z:b=a
 ·subst z;rw[h]at e;cases e;exact bB
 ·rw[bL z];exact x _ _ (by rw[vD z];exact e)
section
variable {G:Prog}{k i ima lK iph inh p l f:Nat}{st:aA}{Q:VK}{E:XK}{names:List (List Nat)}{aW R:List Sy}{aH:List (List Bool)}{cs:List D}{cl:Nat}
theorem U4 (h:G.fns i=some (EK lK ima))(hma:G.fns ima=some G5)(hha:G.fns lK=some (AJ iph inh))(hn:G.fns inh=some BL)(hpa:G.fns iph=some xM)(T0:Table st p names aW R)(yU:aW.length<=5000)(hl:st l=some (.lst (aH.map jT)))(hp:∀ bs∈aH,bs.length=names.length)(cT:aH.length<=1000)(hc:st cl=some (.fn f cs))(F:Nat->D)
  (hf:∀(t q:Nat)(aB:aA)(K:VK)(E':XK),t<aH.length->Ext (del st cl) aB->aB q=some (.lst (R.map fun s=>.bl (hv names aH s t)))->(∀ aU,Ext aB aU->K (F t) aU)->aM G (k+2) f (cs++[.ref q]) aB K E')
  (hQ:∀ u aB,st u=none->Ext st aB->aB u=some (.lst ((List.range aH.length).map F))->Q (.ref u) aB):aM G (k+3) i [.ref p,.ref l,.ref cl] st Q E:=by
 have hL:bG=16777216:=rfl
 obtain⟨lp,lr,ld,lm,js,T,hlm,hjl,hjs,hpast⟩:=T0.h
 rw[bA h]
 simp only[EK,start]
 refine⟨rfl,?_⟩
 walk_at"st"
 refine cI (by simp) fun u aC x1 hu hu1=>?_
 walk_at"ex"
 walk_at"st"
 rw[gA (T.keep x1).ins (x:=.tup (aW.map fun s=>.bl (fR s))) (by rw[jA (by decide +kernel) (by decide +kernel) (by decide +kernel) (by decide +kernel)];simp only[OL,dA];rw[if_pos True.intro])]
 walk_at"ex"
 have l1:=x1 _ _ hl
 walk_at"st"
 rw[aK l1]
 have lu:l≠u:=fun z=>by rw[<-z,hl]at hu;cases hu
 refine lL jT (I:=fun rest σ aB=>∃ t o5 o6,t<=aH.length/\rest=aH.drop t/\σ=[some (.ref p),some (.ref l),some (.ref cl),some (.ref u),some (.tup (aW.map fun s=>.bl (kX names aH t s))),o5,o6]/\Ext st aB/\aB u=some (.lst ((List.range t).map F))) (fun rest σ aB h=>?_) (fun x rest σ aB M h hM=>?_) (fun σ aB h=>?_) _ _ _ ⟨0,none,none,Nat.zero_le _,rfl,by simp [kX],x1,hu1⟩
 ·obtain⟨t,o5,o6,e0,e1,e2,x4,u4⟩:=h
  intro a ha
  simp only[List.mem_singleton]at ha
  subst ha
  rw[l1,x4 _ _ hl]
 ·obtain⟨t,o5,o6,e0,e1,e2,x4,u4⟩:=h
  subst e2
  have ht':t<aH.length:=by
   by_cases z:t<aH.length
   ·exact z
   ·rw[List.drop_eq_nil_of_le (by omega)]at e1;cases e1
  rw[List.drop_eq_getElem_cons ht']at e1
  injection e1 with e3 e4
  have hx:aH[t]? = some x:=by rw[List.getElem?_eq_getElem ht',e3]
  have hxl:x.length=names.length:=hp x (List.mem_of_getElem? hx)
  have T4:=T.keep x4
  walk_at"st"
  rw[sI T4.ins (by rw[jA (by decide +kernel) (by decide +kernel) (by decide +kernel) (by decide +kernel)];simp only[OL,dA];rw[if_neg (by decide +kernel),if_neg (by decide +kernel)])]
  refine⟨True.intro,?_⟩
  have em:(aW.map fun s=>D.bl (kX names aH t s))=(aW.map fun s=>kX names aH t s).map .bl:=by rw[List.map_map];rfl
  rw[em]
  refine UX (k:=k) hha hn hpa T4 (set:=x) (fun s=>hv names aH s t) (fun n hn'=>?_) (fun s oK hps=>⟨kX names aH t s,?_,VF hps t⟩) (fun s h1 h2=>ZJ h1 h2 t) fun gB q hq0 x5 hq=>?_
  ·have cQ:names.idxOf n<x.length:=by rw[hxl];exact List.idxOf_lt_length_iff.mpr hn'
   simp only[hv,EL,hx,Option.getD_some]
   rw[List.getElem?_eq_getElem cQ];rfl
  ·have cQ:=List.idxOf_lt_length_iff.mpr oK
   rw[List.getElem?_map,List.getElem?_eq_getElem cQ];simp
  walk_at"ex"
  have u5:=x5 _ _ u4
  walk_at"st"
  rw[aK u5]
  refine⟨True.intro,?_⟩
  rw[SQ (x5 _ _ (x4 _ _ hc)),SQ (x5 _ _ (x4 _ _ hc))]
  refine⟨True.intro,?_⟩
  have x45:=x4.trans x5
  have qc:q≠cl:=fun z=>by rw[z,x4 _ _ hc]at hq0;cases hq0
  refine hf t q _ _ _ ht' (RC x45) (by rw[vD qc];exact hq) fun st6' x6'=>?_
  have x6:=UD (x45 _ _ hc) x6'
  generalize put st6' cl (.fn f cs)=mK at x6
  walk_at"ex"
  have u6:=x6 _ _ u5
  rw[aK u6]
  refine⟨by simp only[List.length_map,List.length_range];omega,?_⟩
  have qu:q≠u:=fun z=>by rw[z,u4]at hq0;cases hq0
  generalize hst7:put mK u (.lst ((List.range t).map F++[F t]))=sP
  have x7:Ext st sP:=fun a o e=>by
   have au:a≠u:=fun z=>by rw[z,hu]at e;cases e
   rw[<-hst7,bL au];exact x6 _ _ (x5 _ _ (x4 _ _ e))
  have u7:sP u=some (.lst ((List.range t).map F++[F t])):=by rw[<-hst7,bB]
  have q7:sP q=some (.lst (R.map fun s=>.bl (hv names aH s t))):=by rw[<-hst7,bL qu];exact x6 _ _ hq
  have T7:=T.keep x7
  walk_at"st"
  rw[sI T7.ins (by rw[jA (by decide +kernel) (by decide +kernel) (by decide +kernel) (by decide +kernel)];simp only[OL,dA];rw[if_neg (by decide +kernel),if_neg (by decide +kernel)])]
  refine⟨True.intro,?_⟩
  refine YJ (k:=k+1) (aW:=aW) hma T7.ins (lm:=lm) (by rw[jA (by decide +kernel) (by decide +kernel) (by decide +kernel) (by decide +kernel)];simp only[OL,dA];rw[if_neg (by decide +kernel),if_pos True.intro]) (x7 _ _ hlm) q7 hjl yU hjs fun qC x8=>?_
  walk_at"ex"
  simp only[aE]
  refine hM _ qC ⟨t+1,some (jT x),some (.ref q),ht',e4,?_,x7.trans x8,?_⟩
  ·simp [kX]
  ·rw[x8 _ _ u7,List.range_succ,List.map_append];rfl
 ·obtain⟨t,o5,o6,e0,e1,e2,x4,u4⟩:=h
  subst e2
  have hj:aH.length<=t:=by
   by_cases z:t<aH.length
   ·rw[List.drop_eq_getElem_cons z]at e1;cases e1
   ·omega
  have et:t=aH.length:=by omega
  subst et
  walk_at"st"
  exact hQ u _ hu x4 u4
end
theorem VC {st aF:aA}{a:Nat}{o:MO}(ha:st a=none)(x:Ext (put st a o) aF):Ext st (del aF a):=fun b o' e=>by
 have ne:b≠a:=fun z=>by rw[z,ha]at e;cases e
 rw[vD ne];exact x _ _ (CI ha e)
theorem U5 {st aF:aA}{a u:Nat}{o o':MO}(hu:put st a o u=none)(h:aF u=some o'):del aF a u=some o':=by
 have ne:u≠a:=fun z=>by rw[z,bB]at hu;cases hu
 rw[vD ne];exact h
end L3
end
section
namespace L3
open PySem
theorem MI {names:List (List Nat)}(s:Sy){t:Nat}:∀(rest pl:List (List Bool)),t<pl.length->hv names (pl++rest) s t=hv names pl s t
 |[],pl,_=>by rw[List.append_nil]
 |x::rest,pl,h=>by
  have e:pl++x::rest=(pl++[x])++rest:=by simp
  rw[e,MI s rest (pl++[x]) (by simp;omega),fX s t h]
theorem VV {names:List (List Nat)}(aH:List (List Bool))(s:Sy){t:Nat}(h:t<aH.length):hv names (aH.take (t+1)) s t=hv names aH s t:=by
 have e:=MI (names:=names) s (aH.drop (t+1)) (aH.take (t+1)) (t:=t) (by simp;omega)
 rw[List.take_append_drop]at e
 exact e.symm
end L3
end
section
namespace L3
open PySem
noncomputable def qK (ibk:Nat):Fn:=⟨1,1,[.iff (.not_ (.call ibk [(.v 0)])) [.rais 3 [(.c (.str (W "no book")))]] [],.ret (.v 0)]⟩
noncomputable def sR (ist:Nat):Fn:=⟨2,3,[.asg (.nm 2) (.bin .add (.bi .len [(.ix (.v 0) (.c (.int 0)))]) (.bi .len [(.ix (.v 0) (.c (.int 1)))])),.iff (.or_ (.not_ (.isi (.v 1) [.list])) (.not_ (.bi .all [(.comp 1 [2] [0] true none [(.v 1)] [] (.call ist [(.v 0),(.v 1)]))]))) [.rais 4 [(.c (.str (W "no play for this book")))]] [],.ret (.v 1)]⟩
noncomputable def GV (iy:Nat):Fn:=⟨2,2,[.iff (.not_ (.call iy [(.v 0),(.v 1)])) [.rais 2 [(.c (.str (W "no saying over these names")))]] [],.ret (.v 1)]⟩
noncomputable def CF (ich ics icp iti itd ihl:Nat)(κ:CK):Fn:=⟨3,6,[.ex (.call ich [(.v 0)]),.asg (.nm 3) (.bin .add (.ix (.v 0) (.c (.int 0))) (.ix (.v 0) (.c (.int 1)))),.ex (.call ics [(.v 3),(.v 1)]),.ex (.call icp [(.v 0),(.v 2)]),.iff (.not_ (.v 2)) [.rais 4 [(.c (.str (W "a play without a turn has no last one")))]] [],.asg (.nm 4) (.mk (W "Table") iti [(.v 3),(.lst [(.v 1)])]),.asg (.nm 5) (.dix (.fld (W "Table") (W "row_of") (.v 4)) (.v 1)),.ret (.ix (.callL itd [(.v 4),(.v 2)] ihl [5] κ) (.neg (.c (.int 1))))]⟩
noncomputable def BP:Fn:=⟨2,2,[.ret (.ix (.v 1) (.v 0))]⟩
section
variable {G:Prog}{k i ich ics icp ibk ist iy iti itd ihl iz ie irr iw ipo ima lK iph inh:Nat}{st:aA}{Q:VK}{E:XK}{b:Bk}{κ:CK}
theorem HS (h:G.fns ich=some (qK ibk))(hb:L6 G ibk 13 b)(hQ:∀ aB,Ext st aB->Q b.d aB):aM G (k+14) ich [b.d] st Q E:=by
 rw[bA h]
 simp only[qK,start]
 refine⟨rfl,?_⟩
 walk_at"st"
 refine hb k _ _ _ fun aC x1=>?_
 walk_at"ex"
 simp only[aE]
 walk_at"st"
 exact hQ aC x1
theorem HX (h:G.fns icp=some (sR ist))(hs:G.fns ist=some oZ)(B:b.Ok){l:Nat}{aH:List (List Bool)}(hl:st l=some (.lst (aH.map jT)))(hp:∀ bs∈aH,bs.length=b.names.length)(cT:aH.length<=1000)
  (hQ:∀ aB,Ext st aB->Q (.ref l) aB):aM G (k+2) icp [b.d,.ref l] st Q E:=by
 have hL:bG=16777216:=rfl
 have f2:=B.f2
 have g2:=B.g2
 have kB:b.names.length=b.fs.length+b.gs.length:=by simp [Bk.names]
 rw[bA h]
 simp only[sR,start,Bk.d]
 refine⟨rfl,?_⟩
 walk_at"st"
 walk_at"st"
 rw[gQ hl]
 (try simp only[Bool.not_true,Bool.false_eq_true,if_false])
 walk_at"ex"
 rw[aK hl]
 have en:((b.fs.map D.str).length:Int)+((b.gs.map D.str).length:Int)=(b.names.length:Nat):=by rw[kB];simp
 refine gL jT (fun _=>.bl true) aH [] st (fun aU y a ha=>?_) (fun t ht aU K y1 hK=>?_) (by simp only[List.length_nil];omega) fun aF y2=>?_
 ·simp only[List.mem_singleton]at ha
  subst ha
  rw[hl,y _ _ hl]
 ·rw[en]
  exact LX hs (hp t ht) (by omega) fun bC y3=>hK bC y3
 rw[List.nil_append]
 refine cI (by simp only[List.length_map];omega) fun pp bC y3 hpp rK=>?_
 walk_at"ex"
 rw[aK rK,iQ,bR]
 have e2:(aH.map fun _=>true).all id=true:=by simp
 rw[e2]
 simp only[Bool.not_true,Bool.false_eq_true,if_false,aE]
 walk_at"st"
 exact hQ bC (y2.trans y3)
theorem MU (h:G.fns i=some (CF ich ics icp iti itd ihl κ))(hcod:∃ P,st P=some (.cod κ))(hch:G.fns ich=some (qK ibk))(hb:L6 G ibk 13 b)(hcs:G.fns ics=some (GV iy)){s:Sy}(hy:∀(k:Nat)(st:aA)(Q:VK)(E:XK),(∀ aB,Ext st aB->Q (.bl true) aB)->aM G (k+10) iy [.tup (b.names.map .str),toD s] st Q E)(hcp:G.fns icp=some (sR ist))(eB:G.fns ist=some oZ)
  (ht:G.fns iti=some (tI iz ie irr))(hz:G.fns iz=some (lJ iw))(he:G.fns ie=some (uT ie iw ipo))(hw:G.fns iw=some iF)(hpo:G.fns ipo=some rM)(hrr:G.fns irr=some FQ)
  (hma:G.fns ima=some G5)(hha:G.fns lK=some (AJ iph inh))(hn:G.fns inh=some BL)(hpa:G.fns iph=some xM)(htd:G.fns itd=some (EK lK ima))(hhl:G.fns ihl=some BP)
  (B:b.Ok)(ho:over b.names s)(hd8:aR s<=8)(jK:fE [s]<=5000)(yU:(cU [s] []).length<=5000){l:Nat}{aH:List (List Bool)}(hl:st l=some (.lst (aH.map jT)))(hp:∀ bs∈aH,bs.length=b.names.length)(cT:aH.length<=1000)(hp0:0<aH.length)
  (hQ:∀ aB,Ext st aB->Q (.bl (hv b.names aH s (aH.length-1))) aB):aM G (k+15) i [b.d,toD s,.ref l] st Q E:=by
 have hL:bG=16777216:=rfl
 have f2:=B.f2
 have g2:=B.g2
 have Q0:∀{Q:VK}{st:aA},lS b.d (.int 0) st Q=Q (.tup (b.fs.map .str)) st:=rfl
 have Q1:∀{Q:VK}{st:aA},lS b.d (.int 1) st Q=Q (.tup (b.gs.map .str)) st:=rfl
 have en:(b.fs.map D.str++b.gs.map D.str)=b.names.map .str:=by simp [Bk.names]
 rw[bA h]
 simp only[CF,start]
 refine⟨rfl,?_⟩
 walk_at"st"
 refine HS (k:=k) hch hb fun aC x1=>?_
 walk_at"st"
 rw[Q0,Q1]
 walk_at"ex"
 refine⟨by simp only[List.length_map];omega,?_⟩
 rw[en]
 walk_at"st"
 rw[bA hcs]
 simp only[GV,start]
 refine⟨rfl,?_⟩
 walk_at"st"
 refine hy (k+3) _ _ _ fun aF x2=>?_
 walk_at"ex"
 simp only[aE]
 walk_at"st"
 walk_at"st"
 refine HX (k:=k+12) hcp eB B (x2 _ _ (x1 _ _ hl)) hp cT fun bC x3=>?_
 have l3:=x3 _ _ (x2 _ _ (x1 _ _ hl))
 walk_at"st"
 rw[KD,gQ l3]
 have hne:(aH.map jT).isEmpty=false:=by
  cases aH with
  |nil=>cases hp0
  |cons _ _=>rfl
 rw[hne]
 walk_at"ex"
 simp only[Bool.not_false,Bool.not_true,Bool.false_eq_true,if_false,aE]
 walk_at"st"
 refine cI (by show 1<=bG;decide) fun sl dR x4 hsl sl4=>?_
 intro p hp4
 have psl:p≠sl:=fun z=>by rw[z,sl4]at hp4;cases hp4
 refine HV (k:=k+2) ht hz he hw hpo hrr bB (l:=sl) (ss:=[s]) (by rw[bL psl.symm];exact sl4) (fun x hx=>by simp only[List.mem_singleton]at hx;subst hx;exact⟨ho,hd8⟩) jK yU fun gB R k5 T5 hR=>⟨rfl,?_⟩
 have x5:Ext dR gB:=fun a o e=>k5 a o (by intro z;simp only[List.mem_singleton]at z;rw[z,hp4]at e;cases e) (CI hp4 e)
 walk_at"ex"
 obtain⟨ld,fs,i1,i2,i3,i4⟩:=T5.row
 have hsR:s∈R:=hR s (by simp)
 walk_at"st"
 rw[gA i1 i2]
 walk_at"ex"
 rw[A2 i3 (nC (i4 s hsR).1) (i4 s hsR).2]
 walk_at"ex"
 walk_at"st"
 have l5:=x5 _ _ (x4 _ _ l3)
 refine⟨hcod.imp fun P e=>x5 _ _ (x4 _ _ (x3 _ _ (x2 _ _ (x1 _ _ e)))),?_⟩
 intro ca hca
 have xn:=Ext.new (o:=.fn ihl [.int (R.idxOf s:Nat)]) hca
 refine U4 (k:=k+11) htd hma hha hn hpa (T5.keep xn) yU (xn _ _ l5) hp cT bB (fun t=>D.bl (hv b.names aH s t)) (fun t q aB K E' ht' x6 hq hK=>?_) fun u st6' hu x6' hu6'=>?_
 ·rw[bA hhl]
  simp only[BP,start]
  refine⟨rfl,?_⟩
  simp only[List.cons_append,List.nil_append,List.map_cons,List.map_nil]
  walk_at"st"
  rw[YW (fun _ _=>trivial) hsR hq]
  exact hK aB .refl
 ·have hu6:=U5 hu hu6'
  have x6:=VC hca x6'
  generalize del st6' ca=mK at hu6 x6
  walk_at"ex"
  rw[gY hu6]
  have ea:eO ((List.range aH.length).map fun t=>D.bl (hv b.names aH s t)) (-1)=some (.bl (hv b.names aH s (aH.length-1))):=by
   unfold eO lZ
   rw[List.length_map,List.length_range,if_neg (by decide),if_pos (by omega)]
   simp only[Option.bind_some]
   rw[show((-1:Int)+(aH.length:Int)).toNat=aH.length-1 by omega,List.getElem?_map,List.getElem?_range (by omega)]
   rfl
  rw[ea,bR]
  exact hQ mK (x1.trans (x2.trans (x3.trans (x4.trans (x5.trans x6)))))
end
end L3
end
section
namespace L3
open PySem
noncomputable def iH (fs gs:List (List Nat)):Bk:=⟨fs,gs,[],[],[(1,.yes)]⟩
theorem S2 {fs gs:List (List Nat)}(h:oT fs gs=true):(iH fs gs).Ok:=by
 obtain⟨f1,f2,g1,g2,nd,n8⟩:=E5 h
 refine⟨f1,f2,g1,g2,nd,fun n hn=>zQ n (n8 n hn),Nat.zero_le _,?_,?_,Nat.zero_le _,?_,Nat.le_refl _,by show 1<=5;decide,?_⟩
 ·intro s hs;cases hs
 ·intro s hs;cases hs
 ·intro s hs;cases hs
 ·intro w hw
  simp only[iH,List.mem_singleton]at hw
  subst hw
  exact⟨by decide,by decide,True.intro,by decide⟩
theorem Y8 (fs gs:List (List Nat)):(iH fs gs).d=.tup [.tup (fs.map .str),.tup (gs.map .str),.tup [],.tup [],.tup [.tup [.int 1,.tup [.str (W "yes")]]]]:=rfl
theorem UI (s:Sy):(cU [s] []).length<=cnt s:=by
 have:=HQ [s] []
 have e:lX [s]=cnt s:=by simp [lX]
 simp at this;omega
end L3
end
section
namespace L3
open PySem
noncomputable def NQ (inm is ipl iho ih iwa:Nat):Fn:=⟨1,13,[.asg (.nm 1) (.lst [(.c (.int 4))]),.asg (.tp [2,3]) (.call inm [(.v 0),(.v 1)]),.asg (.nm 4) (.bin .add (.v 2) (.v 3)),.asg (.nm 5) (.call is [(.v 0),(.v 1),(.v 4),(.c (.int 2)),(.lst [(.c (.int 2))])]),.asg (.nm 6) (.call is [(.v 0),(.v 1),(.v 4),(.c (.int 2)),(.lst [(.c (.int 2))])]),.asg (.nm 7) (.bin .add (.call ipl [(.v 0),(.c (.int 0)),(.bi .len [(.v 4)]),(.c (.int 5))]) (.call ipl [(.v 0),(.c (.int 2)),(.bi .len [(.v 4)]),(.c (.int 1))])),.asg (.nm 8) (.tup [(.v 2),(.v 3),(.tup []),(.tup []),(.tup [(.tup [(.c (.int 1)),(.tup [(.c (.str (W "yes")))])])])]),.gJ (.nm 9) (some .range) [(.bi .len [(.v 7)])] [.asg (.nm 10) (.c (.bl false)),.gJ (.nm 11) (some .range) [(.bin .add (.v 9) (.c (.int 1)))] [.asg (.nm 12) (.comp 1 [4,6,7] [0] true (some .range) [(.v 11),(.bin .add (.v 9) (.c (.int 1)))] [(.call ih [(.v 1),(.v 2),(.v 3),(.v 0)])] (.v 0)),.asg (.nm 10) (.or_ (.v 10) (.and_ (.call ih [(.v 4),(.v 5),(.v 7),(.v 11)]) (.cmp .eq (.v 12) (.lst []))))],.iff (.cmp .ne (.call iho [(.v 8),(.call iwa [(.v 5),(.v 6)]),(.sl (.v 7) [] [(.bin .add (.v 9) (.c (.int 1)))])]) (.not_ (.v 10))) [.ret (.c (.bl false))] []],.ret (.c (.bl true))]⟩
noncomputable def RV:Fn:=⟨2,2,[.ret (.tup [(.c (.str (W "not"))),(.tup [(.c (.str (W "since"))),(.tup [(.c (.str (W "not"))),(.v 1)]),(.tup [(.c (.str (W "and"))),(.v 0),(.tup [(.c (.str (W "not"))),(.v 1)])])])])]⟩
noncomputable def fL (p q:Sy):Sy:=.one .not (.two .since (.one .not q) (.two .and p (.one .not q)))
noncomputable def AU (f g:Nat->Bool)(t:Nat):Bool:=(List.range (t+1)).any fun k=>f k && !(List.range' k (t+1-k)).any g
theorem zU (f g:Nat->Bool):∀ t,fS (fun k=>!g k) (fun k=>f k && !g k) t=AU f g t
 |0=>by simp [fS,AU]
 |t+1=>by
  simp only[fS]
  rw[zU f g t]
  unfold AU
  rw[List.range_succ (n:=t+1),List.any_append]
  simp only[List.any_cons,List.any_nil,Bool.or_false]
  rw[show t+1+1-(t+1)=1 by omega]
  simp only[List.range'_one,List.any_cons,List.any_nil,Bool.or_false]
  rw[Bool.or_comm]
  congr 1
  have e:∀ k,k∈List.range (t+1)->(f k && !(List.range' k (t+1+1-k)).any g)=(!g (t+1)&&(f k && !(List.range' k (t+1-k)).any g)):=fun k hk=>by
   have hk':k<=t:=by have:=List.mem_range.mp hk;omega
   rw[show t+1+1-k=(t+1-k)+1 by omega,List.range'_concat,List.any_append]
   simp only[List.any_cons,List.any_nil,Bool.or_false,Nat.one_mul]
   rw[show k+(t+1-k)=t+1 by omega,Bool.not_or]
   cases f k<;>cases g (t+1)<;>cases (List.range' k (t+1-k)).any g<;>rfl
  rw[Bool.eq_iff_iff,Bool.and_eq_true,List.any_eq_true,List.any_eq_true]
  constructor
  ·rintro⟨h1,k,hk,h2⟩
   exact⟨k,hk,by rw[e k hk,h1,h2];rfl⟩
  ·rintro⟨k,hk,h2⟩
   rw[e k hk,Bool.and_eq_true]at h2
   exact⟨h2.1,k,hk,h2.2⟩
theorem VL {names:List (List Nat)}{aH:List (List Bool)}(p q:Sy)(t:Nat):hv names aH (fL p q) t = !AU (hv names aH p) (hv names aH q) t:=by
 simp only[fL,hv]
 rw[<-zU]
theorem MD (lo n:Nat):jR (lo:Int) n=(List.range' lo n).map fun k=>D.int (k:Nat):=by
 rw[List.range'_eq_map_range,List.map_map];rfl
theorem JF (p:Nat->Bool):∀ l:List Nat,(l.filterMap fun k=>if p k=true then some (D.int (k:Nat))else none)=(l.filter p).map fun k=>D.int (k:Nat)
 |[]=>rfl
 |a::l=>by
  rw[List.filterMap_cons,List.filter_cons,JF p l]
  cases p a<;>rfl
theorem HP (p:Nat->Bool):∀ l:List Nat,((l.filter p).map fun k=>D.int (k:Nat)).isEmpty = !l.any p
 |[]=>rfl
 |a::l=>by
  rw[List.filter_cons,List.any_cons]
  cases hp:p a with
  |true=>rfl
  |false=>simpa using HP p l
theorem J9 {st:aA}{p n:Nat}{ds:List D}(h:st p=some (.lst ds))(hp:bQ ds=true/\cK ds<=n)(hn:n<=kS):plainS st (.ref p):=by
 refine⟨?_,Nat.zero_le _⟩
 simp only[fJ,h,N1,hp.1,Bool.true_and,decide_eq_true_eq]
 exact Nat.le_trans hp.2 hn
theorem Ik {st:aA}{p u:Nat}{ds:List D}(h:st p=some (.lst ds))(hu:st u=some (.lst [])):bM st (.ref p) (.ref u)=ds.isEmpty:=by
 simp only[bM,h,hu,AA]
 cases ds<;>rfl
section
variable {G:Prog}{k il inm is ipl iho ih iwa ic im iB ich ics icp ibk ist iy dJ eZ iti itd ihl iz ie irr iw ipo ima lK iph inh:Nat}{st:aA}{E:XK}{ns:List Int}
theorem Cg {κ:CK}(hcod:∃ P,st P=some (.cod κ))(h:G.fns il=some (NQ inm is ipl iho ih iwa))(hwa:G.fns iwa=some RV)(kB:G.fns inm=some (G8 iB))(hs:G.fns is=some (xC iB is))(hn:G.fns iB=some (A7 im))(hm:G.fns im=some (oX ic))(hc:G.fns ic=some qW)(cT:G.fns ipl=some (LA im))
  (hho:G.fns iho=some (CF ich ics icp iti itd ihl κ))(hch:G.fns ich=some (qK ibk))(hb:∀ b:Bk,b.Ok->fE b.says<bG->(∀ x∈b.says,aR x<=60)->(cU b.says []).length<=4->L6 G ibk 13 b)(hcs:G.fns ics=some (GV iy))(hy:G.fns iy=some (nR dJ (.int 8)))(hsw:G.fns dJ=some (kO eZ dJ (.cO uD vR)))(hsn:G.fns eZ=some (gK (.tup (eH.map .str)) (.str dW) (.int 8)))(hcp:G.fns icp=some (sR ist))(eB:G.fns ist=some oZ)
  (ht:G.fns iti=some (tI iz ie irr))(hz:G.fns iz=some (lJ iw))(he:G.fns ie=some (uT ie iw ipo))(hw:G.fns iw=some iF)(hpo:G.fns ipo=some rM)(hrr:G.fns irr=some FQ)
  (hma:G.fns ima=some G5)(hha:G.fns lK=some (AJ iph inh))(hnh:G.fns inh=some BL)(hpa:G.fns iph=some xM)(htd:G.fns itd=some (EK lK ima))(hhl:G.fns ihl=some BP)(hh:G.fns ih=some (HI ih)):aM G (k+16) il [.bF (ns.map .int)] st (fun d _=>d=.bl true) E:=by
 have hL:bG=16777216:=rfl
 rw[bA h]
 simp only[NQ,start]
 refine⟨rfl,?_⟩
 walk_at"st"
 refine cI (by show 1<=bG;decide) fun m aC x1 hm0 m1=>?_
 walk_at"st"
 refine QT (k:=k+11) kB hn hm hc m1 (by decide) fun fs gs aF i2 bJ k2 hi2 m2=>?_
 obtain⟨f1,f2,g1,g2,nd,n8⟩:=E5 bJ
 have B:=S2 bJ
 have en:(fs.map D.str++gs.map D.str)=(iH fs gs).names.map .str:=by simp [Bk.names,iH]
 have hn4:(iH fs gs).names.length<=4:=by simp [Bk.names,iH];omega
 have hn0:0<(iH fs gs).names.length:=by simp [Bk.names,iH];omega
 walk_at"ex"
 walk_at"st"
 refine⟨by simp only[List.length_map];omega,?_⟩
 rw[en]
 walk_at"st"
 refine cI (by show 1<=bG;decide) fun lf bC x3 hlf lf3=>?_
 have mlf:m≠lf:=fun z=>by rw[<-z,m2]at hlf;cases hlf
 refine DH (k:=k+9) hs hn hm hc (names:=(iH fs gs).names) hn0 mlf 2 (x3 _ _ m2) lf3 hi2 (by decide) fun s dR i4 ho hd4 hcn k4 hi4 m4 lf4=>?_
 walk_at"ex"
 walk_at"st"
 refine cI (by show 1<=bG;decide) fun lg gB x5 hlg lg5=>?_
 have mlg:m≠lg:=fun z=>by rw[<-z,m4]at hlg;cases hlg
 refine DH (k:=k+9) hs hn hm hc (names:=(iH fs gs).names) hn0 mlg 2 (x5 _ _ m4) lg5 hi4 (by decide) fun q mK i6 ho2 hd6 hcn2 k6 hi6 m6 lg6=>?_
 have hB:=hb (iH fs gs) B (by show fE [Sy.yes]<bG;decide) (fun x hx=>by simp [Bk.says,iH]at hx;subst hx;decide) (by show(cU [Sy.yes] []).length<=4;decide)
 have hdw:aR (fL s q)<=8:=by simp only[fL,aR];omega
 have how:over (iH fs gs).names (fL s q):=⟨ho2,ho,ho2⟩
 have jK:fE [fL s q]<=5000:=by
  have h1:=EI (fL s q)
  have h2:2 ^ aR (fL s q)<=2 ^ 8:=Nat.pow_le_pow_right (by decide) hdw
  have h3:fE [fL s q]=sz (fL s q):=by simp [fE]
  omega
 have yU:(cU [fL s q] []).length<=5000:=by
  have:=UI (fL s q)
  have e:cnt (fL s q)=1+(cnt q+(cnt s+cnt q)):=by simp [fL,cnt,p1,p2]
  omega
 have HO:∀{st:aA}{Q:VK}{E:XK}{l:Nat}{aH:List (List Bool)},(∃ P,st P=some (.cod κ))->st l=some (.lst (aH.map jT))->(∀ bs∈aH,bs.length=(iH fs gs).names.length)->aH.length<=1000->0<aH.length->(∀ aB,Ext st aB->Q (.bl (hv (iH fs gs).names aH (fL s q) (aH.length-1))) aB)->aM G (k+15) iho [(iH fs gs).d,toD (fL s q),.ref l] st Q E:=fun h0 h1 h2 h3 h4 hQ =>
  MU (k:=k) hho h0 hch hB hcs (fun k st Q E hq=>vQ hy hsw hsn (fun n hn=>zQ n (n8 n hn)) how hdw hq) hcp eB ht hz he hw hpo hrr hma hha hnh hpa htd hhl B how hdw jK yU h1 h2 h3 h4 hQ
 have hcod4:∃ P,mK P=some (.cod κ):=hcod.imp fun P e=>by
  have nm:P≠m:=fun z=>by rw[z,hm0]at e;cases e
  have e2:=k2 _ _ (by simpa using nm) (x1 _ _ e)
  have nl:P≠lf:=fun z=>by rw[z,hlf]at e2;cases e2
  have e4:=k4 _ _ (by simp [nm,nl]) (x3 _ _ e2)
  have ng:P≠lg:=fun z=>by rw[z,hlg]at e4;cases e4
  exact k6 _ _ (by simp [nm,ng]) (x5 _ _ e4)
 walk_at"ex"
 walk_at"st"
 rw[List.length_map]
 refine JM (k:=k+12) cT hm hc (by decide) hn4 (by decide) (by decide) fun p1 sP pl1 x7 hp7 hb1 hl1=>?_
 walk_at"ex"
 refine JM (k:=k+12) cT hm hc (by decide) hn4 (by decide) (by decide) fun p2 qC pl2 x8 hp8 hb2 hl2=>?_
 rw[JJ,aK (x8 _ _ hp7),aK hp8,<-List.map_append]
 refine cI (by simp only[List.length_map,List.length_append];omega) fun l Az x9 hl hl9=>?_
 have hpb:∀ bs∈pl1++pl2,bs.length=(iH fs gs).names.length:=fun bs hbs=>by
  rcases List.mem_append.mp hbs with z|z
  ·exact hb1 bs z
  ·exact hb2 bs z
 have hpn:(pl1++pl2).length<=100:=by simp only[List.length_append];omega
 generalize pl1++pl2=aH at hl9 hpb hpn
 walk_at"ex"
 walk_at"st"
 rw[<-Y8]
 generalize hnn:(iH fs gs).names=names at *
 generalize (iH fs gs).d=bd at HO ⊢
 walk_at"st"
 rw[gQ hl9]
 walk_at"ex"
 simp only[List.length_map]
 refine⟨by unfold dE;omega,?_⟩
 rw[show((aH.length:Int)).toNat=aH.length by omega,lA]
 refine lL (fun j:Nat=>D.int (j:Nat)) (I:=fun rest σ aB=>∃ t o9 D5 uO wQ,rest=List.range' t (aH.length-t)/\t<=aH.length/\σ=[some (.bF (ns.map .int)),some (.ref m),some (.tup (fs.map .str)),some (.tup (gs.map .str)),some (.tup (names.map .str)),some (toD s),some (toD q),some (.ref l),some bd,o9,D5,uO,wQ]/\Ext Az aB) (fun rest σ aB h=>fun a ha=>by cases ha) (fun t rest σ aB M h hM=>?_) (fun σ aB h=>?_) _ _ _ ⟨0,none,none,none,none,by rw[List.range_eq_range'];rfl,Nat.zero_le _,rfl,.refl⟩
 ·obtain⟨t',o9,D5,uO,wQ,e1,e2,e3,xa⟩:=h
  subst e3
  have htl:t'<aH.length:=by
   refine Nat.lt_of_not_le fun z=>?_
   rw[show aH.length-t'=0 by omega]at e1;cases e1
  rw[show aH.length-t'=(aH.length-(t'+1))+1 by omega,List.range'_succ]at e1
  injection e1 with e1 e1'
  subst e1
  have la:=xa _ _ hl9
  walk_at"st"
  walk_at"st"
  refine⟨by unfold dE;omega,?_⟩
  rw[show((t:Int)+1).toNat=t+1 by omega,lA]
  refine lL (fun j:Nat=>D.int (j:Nat)) (I:=fun rest σ aU=>∃ j uO wQ,rest=List.range' j (t+1-j)/\j<=t+1/\σ=[some (.bF (ns.map .int)),some (.ref m),some (.tup (fs.map .str)),some (.tup (gs.map .str)),some (.tup (names.map .str)),some (toD s),some (toD q),some (.ref l),some bd,some (.int (t:Nat)),some (.bl ((List.range j).any fun k=>hv names aH s k && !(List.range' k (t+1-k)).any (hv names aH q))),uO,wQ]/\Ext aB aU) (fun rest σ aB h=>fun a ha=>by cases ha) (fun j rest σ aU M' h hM'=>?_) (fun σ aU h=>?_) _ _ _ ⟨0,uO,wQ,by rw[List.range_eq_range'];rfl,Nat.zero_le _,rfl,.refl⟩
  ·obtain⟨j',uO,wQ,d1,d2,d3,xb⟩:=h
   subst d3
   have hjl:j'<t+1:=by
    refine Nat.lt_of_not_le fun z=>?_
    rw[show t+1-j'=0 by omega]at d1;cases d1
   rw[show t+1-j'=(t+1-(j'+1))+1 by omega,List.range'_succ]at d1
   injection d1 with d1 d1'
   subst d1
   have lb:=xb _ _ la
   walk_at"st"
   refine⟨by unfold dE;omega,by unfold dE;omega,?_⟩
   rw[show((t:Int)+1-(j:Int)).toNat=t+1-j by omega,MD]
   refine pU (fun k:Nat=>D.int (k:Nat)) (fun k=>if hv names aH q k=true then some (D.int (k:Nat))else none) (List.range' j (t+1-j)) [] aU (fun _ _ _ ha=>by cases ha) (fun k' hk' stc K yc hK=>?_) (by simp only[List.length_nil,List.length_range'];omega) fun stc xc=>?_
   ·have hkt:k'<aH.length:=by have:=List.mem_range'.mp hk';omega
    walk_at"ex"
    refine G2 hh hpb (by omega) 3 (k:=k+12) hd6 ho2 hkt (yc _ _ lb) fun std xd=>?_
    walk_at"ex"
    have:=hK std xd
    cases hb':hv names aH q k' with
    |true=>rw[hb']at this;simpa using this
    |false=>rw[hb']at this;simpa using this
   rw[List.nil_append,JF]
   refine cI (by have:=List.length_filter_le (hv names aH q) (List.range' j (t+1-j));simp only[List.length_range']at this;simp only[List.length_map];omega) fun u std xd hu hud=>?_
   walk_at"ex"
   walk_at"st"
   have ld:=xd _ _ (xc _ _ lb)
   have x_bd:=xc.trans xd
   have es:((List.range (j+1)).any fun k=>hv names aH s k && !(List.range' k (t+1-k)).any (hv names aH q))=(((List.range j).any fun k=>hv names aH s k && !(List.range' k (t+1-k)).any (hv names aH q))||(hv names aH s j && !(List.range' j (t+1-j)).any (hv names aH q))):=by
    rw[List.range_succ,List.any_append];simp
   cases hA:(List.range j).any fun k=>hv names aH s k && !(List.range' k (t+1-k)).any (hv names aH q)with
   |true =>
    rw[hA,Bool.true_or]at es
    simp only[if_true]
    walk_at"ex"
    simp only[aE]
    exact hM' _ _ ⟨j+1,_,_,d1',by omega,by rw[es],xb.trans x_bd⟩
   |false =>
    rw[hA,Bool.false_or]at es
    simp only[Bool.false_eq_true,if_false]
    walk_at"ex"
    refine G2 hh hpb (by omega) 3 (k:=k+12) hd4 ho (by omega) ld fun ste xe=>?_
    walk_at"ex"
    cases hS:hv names aH s j with
    |false =>
     rw[hS,Bool.false_and]at es
     simp only[Bool.false_eq_true,if_false]
     walk_at"ex"
     simp only[aE]
     exact hM' _ _ ⟨j+1,_,_,d1',by omega,by rw[es],xb.trans (x_bd.trans xe)⟩
    |true =>
     rw[hS,Bool.true_and]at es
     simp only[if_true]
     walk_at"ex"
     refine cI (by simp) fun z stf xf hz0 hzf=>?_
     have uf:=xf _ _ (xe _ _ hud)
     have pn:=DY (fun k:Nat=>D.int (k:Nat)) (n:=0) (fun _=>⟨rfl,Nat.le_refl _⟩) ((List.range' j (t+1-j)).filter (hv names aH q))
     refine⟨J9 uf pn (by decide),J9 hzf (n:=0) ⟨rfl,Nat.le_refl _⟩ (by decide),?_⟩
     rw[Ik uf hzf,HP]
     walk_at"ex"
     simp only[aE]
     exact hM' _ _ ⟨j+1,_,_,d1',by omega,by rw[es],xb.trans (x_bd.trans (xe.trans xf))⟩
  ·obtain⟨j',uO,wQ,d1,d2,d3,xb⟩:=h
   subst d3
   have hj:j'=t+1:=by
    have:=congrArg List.length d1
    simp at this;omega
   subst hj
   have lb:=xb _ _ la
   have epre:cut (aH.map jT) none (some ((t:Int)+1))=(aH.take (t+1)).map jT:=by rw[show(t:Int)+1=((t+1:Nat):Int)by omega,QV _ (by simp;omega),List.map_take]
   have pfx:(aH.take (t+1)).length=t+1:=by simp;omega
   walk_at"st"
   rw[bA hwa]
   simp only[RV,start]
   refine⟨rfl,?_⟩
   walk_at"st"
   rw[aK lb]
   intro p3 hp3
   rw[epre]
   refine HO (hcod4.imp fun P e=>Ext.new hp3 _ _ (xb _ _ (xa _ _ (x9 _ _ (x8 _ _ (x7 _ _ e)))))) bB (fun bs hbs=>hpb bs (List.mem_of_mem_take hbs)) (by rw[pfx];omega) (by rw[pfx];omega) fun stg xg=>?_
   rw[pfx,show t+1-1=t by omega,VV aH _ htl,VL]
   have ew:((List.range (t+1)).any fun k=>hv names aH s k && !(List.range' k (t+1-k)).any (hv names aH q))=AU (hv names aH s) (hv names aH q) t:=rfl
   rw[ew]
   walk_at"ex"
   have eb:∀ c:Bool,(c==c)=true:=fun c=>by cases c<;>rfl
   rw[eb]
   simp only[Bool.not_true,Bool.false_eq_true,if_false,aE]
   exact hM _ _ ⟨t+1,_,_,_,_,e1',by omega,rfl,xa.trans (xb.trans ((Ext.new hp3).trans xg))⟩
 ·obtain⟨t',o9,D5,uO,wQ,e1,e2,e3,xa⟩:=h
  subst e3
  walk_at"st"
end
end L3
end
end
namespace L3
open PySem PySem.Spec PyProof.Rows L2
noncomputable def g_LETTERS:D:=(.str (W "abcdefghijklmnopqrstuvwxyz"))
noncomputable def g_LONGEST_NAME:D:=(.int 8)
noncomputable def g_NO_NAMES:D:=(.tup [(.str (W "yes")),(.str (W "no")),(.str (W "not")),(.str (W "and")),(.str (W "or")),(.str (W "then")),(.str (W "same")),(.str (W "before")),(.str (W "once")),(.str (W "sofar")),(.str (W "since")),(.str (W "foe")),(.str (W "friend")),(.str (W "promise")),(.str (W "must")),(.str (W "wish"))])
noncomputable def g_DEEPEST:D:=(.int 8)
noncomputable def g_SAYINGS_WITHIN:D:=(.cO [(.str (W "yes")),(.str (W "no")),(.str (W "not")),(.str (W "before")),(.str (W "once")),(.str (W "sofar")),(.str (W "and")),(.str (W "or")),(.str (W "then")),(.str (W "same")),(.str (W "since"))] [(.int 0),(.int 0),(.int 1),(.int 1),(.int 1),(.int 1),(.int 2),(.int 2),(.int 2),(.int 2),(.int 2)])
noncomputable def g_PAST_WORDS:D:=(.tup [(.str (W "before")),(.str (W "once")),(.str (W "sofar")),(.str (W "since"))])
noncomputable def g_MOST_LAMPS:D:=(.int 2)
noncomputable def g_MOST_PROMISES:D:=(.int 3)
noncomputable def g_MOST_MUSTS:D:=(.int 3)
noncomputable def g_MOST_WISHES:D:=(.int 5)
noncomputable def g_HIGHEST_PRICE:D:=(.int 99)
noncomputable def g_MOST_PIECES:D:=(.int 4)
noncomputable abbrev qR:Nat:=0
noncomputable abbrev kG:Nat:=1
noncomputable abbrev gR:Nat:=2
noncomputable abbrev pC:Nat:=3
noncomputable abbrev eS:Nat:=4
noncomputable abbrev C9:Nat:=5
noncomputable abbrev mY:Nat:=6
noncomputable abbrev kW:Nat:=7
noncomputable abbrev yR:Nat:=8
noncomputable abbrev oC:Nat:=9
noncomputable abbrev nT:Nat:=10
noncomputable abbrev sN:Nat:=11
noncomputable abbrev BB:Nat:=12
noncomputable abbrev D4:Nat:=13
noncomputable abbrev uV:Nat:=14
noncomputable abbrev vM:Nat:=15
noncomputable abbrev vU:Nat:=16
noncomputable abbrev C4:Nat:=17
noncomputable abbrev yK:Nat:=18
noncomputable abbrev vW:Nat:=19
noncomputable abbrev pS:Nat:=20
noncomputable abbrev nW:Nat:=21
noncomputable abbrev pL:Nat:=22
noncomputable abbrev kI:Nat:=23
noncomputable abbrev qI:Nat:=24
noncomputable abbrev lM:Nat:=25
noncomputable abbrev vX:Nat:=26
noncomputable abbrev sH:Nat:=27
noncomputable abbrev sF:Nat:=28
noncomputable abbrev JY:Nat:=29
noncomputable abbrev rP:Nat:=30
noncomputable abbrev lP:Nat:=31
noncomputable abbrev hJ:Nat:=32
noncomputable abbrev fK:Nat:=33
noncomputable abbrev vF:Nat:=34
noncomputable abbrev rB:Nat:=35
noncomputable abbrev dO:Nat:=36
noncomputable abbrev R5:Nat:=37
noncomputable abbrev qP:Nat:=38
noncomputable def jE:CK:=⟨261,189,37,W "holds.<locals>.<lambda>"⟩
noncomputable def D1:Fn:=⟨1,1,[.iff (.or_ (.not_ (.isi (.v 0) [.str])) (.cmp .in_ (.v 0) (.c g_NO_NAMES))) [.ret (.c (.bl false))] [],.ret (.and_ (.chain .le .le (.c (.int 1)) (.bi .len [(.v 0)]) (.c g_LONGEST_NAME)) (.bi .all [(.comp 1 [] [0] true none [(.v 0)] [] (.cmp .in_ (.v 0) (.c g_LETTERS)))]))]⟩
noncomputable def yC:Fn:=⟨2,2,[.ret (.call gR [(.v 0),(.v 1),(.c g_DEEPEST)])]⟩
noncomputable def nJ:Fn:=⟨3,3,[.iff (.or_ (.cmp .lt (.v 2) (.c (.int 1))) (.or_ (.not_ (.isi (.v 1) [.tuple])) (.or_ (.cmp .lt (.bi .len [(.v 1)]) (.c (.int 1))) (.not_ (.isi (.ix (.v 1) (.c (.int 0))) [.str]))))) [.ret (.c (.bl false))] [],.iff (.cmp .eq (.ix (.v 1) (.c (.int 0))) (.c (.str (W "lamp")))) [.ret (.and_ (.cmp .eq (.bi .len [(.v 1)]) (.c (.int 2))) (.and_ (.call qR [(.ix (.v 1) (.c (.int 1)))]) (.cmp .in_ (.ix (.v 1) (.c (.int 1))) (.v 0))))] [],.iff (.or_ (.cmp .iW (.ix (.v 1) (.c (.int 0))) (.c g_SAYINGS_WITHIN)) (.cmp .ne (.bi .len [(.v 1)]) (.bin .add (.c (.int 1)) (.ix (.c g_SAYINGS_WITHIN) (.ix (.v 1) (.c (.int 0))))))) [.ret (.c (.bl false))] [],.ret (.bi .all [(.comp 1 [0,2] [0] true none [(.sl (.v 1) [(.c (.int 1))] [])] [] (.call gR [(.v 1),(.v 0),(.bin .sub (.v 2) (.c (.int 1)))]))])]⟩
noncomputable def pT:Fn:=⟨2,2,[.iff (.not_ (.call kG [(.v 0),(.v 1)])) [.rais 2 [(.c (.str (W "no saying over these names")))]] [],.ret (.v 1)]⟩
noncomputable def oV:Fn:=⟨1,1,[.iff (.cmp .eq (.ix (.v 0) (.c (.int 0))) (.c (.str (W "lamp")))) [.ret (.tup [])] [],.ret (.sl (.v 0) [(.c (.int 1))] [])]⟩
noncomputable def DC:Fn:=⟨2,2,[.ret (.tup [(.c (.str (W "not"))),(.tup [(.c (.str (W "since"))),(.tup [(.c (.str (W "not"))),(.v 1)]),(.tup [(.c (.str (W "and"))),(.v 0),(.tup [(.c (.str (W "not"))),(.v 1)])])])])]⟩
noncomputable def yO:Fn:=⟨1,4,[.asg (.nm 1) (.lst []),.asg (.nm 2) (.bit .list .rev [(.v 0)]),.whl (.v 2) [.asg (.nm 3) (.cD .pop (.v 2) []),.iff (.and_ (.cmp .in_ (.ix (.v 3) (.c (.int 0))) (.c g_PAST_WORDS)) (.cmp .iW (.v 3) (.v 1))) [.ex (.cD .append (.v 1) [(.v 3)])] [],.ex (.cD .extend (.v 2) [(.bit .list .rev [(.call eS [(.v 3)])])])],.ret (.v 1)]⟩
noncomputable def E3:Fn:=⟨3,3,[.ret (.and_ (.isi (.v 0) [.tuple]) (.chain .le .le (.v 1) (.bi .len [(.v 0)]) (.v 2)))]⟩
noncomputable def yI:Fn:=⟨2,3,[.iff (.or_ (.not_ (.call kW [(.v 0),(.c (.int 1)),(.c g_MOST_LAMPS)])) (.not_ (.call kW [(.v 1),(.c (.int 1)),(.c g_MOST_LAMPS)]))) [.ret (.c (.bl false))] [],.asg (.nm 2) (.bin .add (.v 0) (.v 1)),.ret (.and_ (.bi .all [(.comp 1 [] [0] true none [(.v 2)] [] (.call qR [(.v 0)]))]) (.cmp .eq (.bi .qB [(.v 2)]) (.bi .len [(.v 2)])))]⟩
noncomputable def uE:Fn:=⟨3,3,[.ret (.and_ (.call kW [(.v 1),(.c (.int 0)),(.v 2)]) (.bi .all [(.comp 1 [0] [0] true none [(.v 1)] [] (.call kG [(.v 1),(.v 0)]))]))]⟩
noncomputable def uH:Fn:=⟨2,2,[.iff (.cmp .eq (.ix (.v 1) (.c (.int 0))) (.c (.str (W "before")))) [.ret (.c (.bl false))] [],.iff (.cmp .eq (.ix (.v 1) (.c (.int 0))) (.c (.str (W "lamp")))) [.ret (.cmp .in_ (.ix (.v 1) (.c (.int 1))) (.v 0))] [],.ret (.bi .any [(.comp 1 [0] [0] true none [(.call eS [(.v 1)])] [] (.call nT [(.v 1),(.v 0)]))])]⟩
noncomputable def rX:Fn:=⟨3,3,[.ret (.and_ (.call oC [(.v 0),(.v 2),(.c g_MOST_PROMISES)]) (.not_ (.bi .any [(.comp 1 [1] [0] true none [(.v 2)] [] (.call nT [(.v 1),(.v 0)]))])))]⟩
noncomputable def A8:Fn:=⟨1,1,[.ret (.and_ (.isi (.v 0) [.int]) (.and_ (.not_ (.isi (.v 0) [.bool])) (.chain .le .le (.c (.int 1)) (.v 0) (.c g_HIGHEST_PRICE))))]⟩
noncomputable def DG:Fn:=⟨2,2,[.ret (.and_ (.call kW [(.v 1),(.c (.int 2)),(.c (.int 2))]) (.and_ (.call BB [(.ix (.v 1) (.c (.int 0)))]) (.call kG [(.v 0),(.ix (.v 1) (.c (.int 1)))])))]⟩
noncomputable def vV:Fn:=⟨2,2,[.ret (.and_ (.call kW [(.v 1),(.c (.int 1)),(.c g_MOST_WISHES)]) (.bi .all [(.comp 1 [0] [0] true none [(.v 1)] [] (.call D4 [(.v 1),(.v 0)]))]))]⟩
noncomputable def uU:Fn:=⟨3,3,[.ret (.bin .add (.bin .add (.bi .list [(.v 0)]) (.bi .list [(.v 1)])) (.comp 1 [] [0] true none [(.v 2)] [] (.ix (.v 0) (.c (.int 1)))))]⟩
noncomputable def DO:Fn:=⟨1,6,[.iff (.or_ (.not_ (.call kW [(.v 0),(.c (.int 5)),(.c (.int 5))])) (.not_ (.call yR [(.ix (.v 0) (.c (.int 0))),(.ix (.v 0) (.c (.int 1)))]))) [.ret (.c (.bl false))] [],.asg (.nm 1) (.ix (.v 0) (.c (.int 1))),.asg (.nm 2) (.bin .add (.ix (.v 0) (.c (.int 0))) (.v 1)),.asg (.nm 3) (.ix (.v 0) (.c (.int 2))),.asg (.nm 4) (.ix (.v 0) (.c (.int 3))),.asg (.nm 5) (.ix (.v 0) (.c (.int 4))),.iff (.or_ (.not_ (.call sN [(.v 2),(.v 1),(.v 3)])) (.not_ (.call oC [(.v 2),(.v 4),(.c g_MOST_MUSTS)]))) [.ret (.c (.bl false))] [],.ret (.and_ (.call uV [(.v 2),(.v 5)]) (.cmp .le (.bi .len [(.call mY [(.call vM [(.v 3),(.v 4),(.v 5)])])]) (.c g_MOST_PIECES)))]⟩
noncomputable def DU:Fn:=⟨1,1,[.iff (.not_ (.call vU [(.v 0)])) [.rais 3 [(.c (.str (W "no book")))]] [],.ret (.v 0)]⟩
noncomputable def yJ:Fn:=⟨2,2,[.iff (.cmp .eq (.v 0) (.c (.str (W "not")))) [.ret (.not_ (.ix (.v 1) (.c (.int 0))))] [],.iff (.cmp .eq (.v 0) (.c (.str (W "and")))) [.ret (.and_ (.ix (.v 1) (.c (.int 0))) (.ix (.v 1) (.c (.int 1))))] [],.iff (.cmp .eq (.v 0) (.c (.str (W "or")))) [.ret (.or_ (.ix (.v 1) (.c (.int 0))) (.ix (.v 1) (.c (.int 1))))] [],.iff (.cmp .eq (.v 0) (.c (.str (W "then")))) [.ret (.or_ (.ix (.v 1) (.c (.int 1))) (.not_ (.ix (.v 1) (.c (.int 0)))))] [],.iff (.cmp .eq (.v 0) (.c (.str (W "same")))) [.ret (.cmp .eq (.ix (.v 1) (.c (.int 0))) (.ix (.v 1) (.c (.int 1))))] [],.ret (.cmp .eq (.v 0) (.c (.str (W "yes"))))]⟩
noncomputable def vG:Fn:=⟨3,3,[.iff (.cmp .eq (.v 0) (.c (.str (W "before")))) [.ret (.v 1)] [],.iff (.cmp .eq (.v 0) (.c (.str (W "once")))) [.ret (.or_ (.v 1) (.ix (.v 2) (.c (.int 0))))] [],.iff (.cmp .eq (.v 0) (.c (.str (W "sofar")))) [.ret (.and_ (.v 1) (.ix (.v 2) (.c (.int 0))))] [],.ret (.or_ (.ix (.v 2) (.c (.int 1))) (.and_ (.v 1) (.ix (.v 2) (.c (.int 0)))))]⟩
noncomputable def pQ:Fn:=⟨3,4,[.asg (.fl (W "Table") (W "names") (.v 0)) (.v 1),.asg (.fl (W "Table") (W "pieces") (.v 0)) (.call mY [(.v 2)]),.asg (.fl (W "Table") (W "rows") (.v 0)) (.lst []),.asg (.fl (W "Table") (W "row_of") (.v 0)) .dnew,.gJ (.nm 3) none [(.v 2)] [.ex (.mcl (W "Table") (W "enter") nW (.v 0) [(.v 3)])],.asg (.fl (W "Table") (W "first_memory") (.v 0)) (.bi .tuple [(.comp 1 [] [0] true none [(.fld (W "Table") (W "pieces") (.v 0))] [] (.cmp .eq (.ix (.v 0) (.c (.int 0))) (.c (.str (W "sofar")))))]),.asg (.fl (W "Table") (W "remembered_rows") (.v 0)) (.comp 1 [0] [0] true none [(.fld (W "Table") (W "pieces") (.v 0))] [] (.mcl (W "Table") (W "remembered_row") kI (.v 1) [(.v 0)]))]⟩
noncomputable def uN:Fn:=⟨2,4,[.iff (.din false (.v 1) (.fld (W "Table") (W "row_of") (.v 0))) [.ret (.c .non)] [],.gJ (.nm 2) none [(.call eS [(.v 1)])] [.ex (.mcl (W "Table") (W "enter") nW (.v 0) [(.v 2)])],.asg (.nm 3) (.comp 1 [0] [0] true none [(.call eS [(.v 1)])] [] (.dix (.fld (W "Table") (W "row_of") (.v 1)) (.v 0))),.asg (.dk (.fld (W "Table") (W "row_of") (.v 0)) (.v 1)) (.bi .len [(.fld (W "Table") (W "rows") (.v 0))]),.ex (.cD .append (.fld (W "Table") (W "rows") (.v 0)) [(.tup [(.ix (.v 1) (.c (.int 0))),(.mcl (W "Table") (W "place_of") pL (.v 0) [(.v 1)]),(.v 3)])])]⟩
noncomputable def pO:Fn:=⟨2,2,[.iff (.cmp .eq (.ix (.v 1) (.c (.int 0))) (.c (.str (W "lamp")))) [.ret (.cD .index (.fld (W "Table") (W "names") (.v 0)) [(.ix (.v 1) (.c (.int 1)))])] [],.iff (.cmp .in_ (.ix (.v 1) (.c (.int 0))) (.c g_PAST_WORDS)) [.ret (.cD .index (.fld (W "Table") (W "pieces") (.v 0)) [(.v 1)])] [],.ret (.c .non)]⟩
noncomputable def kJ:Fn:=⟨2,2,[.iff (.cmp .eq (.ix (.v 1) (.c (.int 0))) (.c (.str (W "before")))) [.ret (.dix (.fld (W "Table") (W "row_of") (.v 0)) (.ix (.v 1) (.c (.int 1))))] [],.ret (.dix (.fld (W "Table") (W "row_of") (.v 0)) (.v 1))]⟩
noncomputable def qL:Fn:=⟨3,8,[.asg (.nm 3) (.lst []),.gJ (.tp [4,5,6]) none [(.fld (W "Table") (W "rows") (.v 0))] [.asg (.nm 7) (.comp 1 [3] [0] true none [(.v 6)] [] (.ix (.v 1) (.v 0))),.iff (.cmp .eq (.v 4) (.c (.str (W "lamp")))) [.ex (.cD .append (.v 3) [(.ix (.v 2) (.v 5))])] [.iff (.cmp .in_ (.v 4) (.c g_PAST_WORDS)) [.ex (.cD .append (.v 3) [(.call vW [(.v 4),(.ix (.v 1) (.v 5)),(.v 7)])])] [.ex (.cD .append (.v 3) [(.call yK [(.v 4),(.v 7)])])]]],.ret (.v 3)]⟩
noncomputable def lW:Fn:=⟨2,2,[.ret (.bi .tuple [(.comp 1 [1] [0] true none [(.fld (W "Table") (W "remembered_rows") (.v 0))] [] (.ix (.v 1) (.v 0)))])]⟩
noncomputable def wI:Fn:=⟨2,2,[.ret (.and_ (.isi (.v 0) [.tuple]) (.and_ (.cmp .eq (.bi .len [(.v 0)]) (.v 1)) (.bi .all [(.comp 1 [] [0] true none [(.v 0)] [] (.isi (.v 0) [.bool]))])))]⟩
noncomputable def rL:Fn:=⟨2,3,[.asg (.nm 2) (.bin .add (.bi .len [(.ix (.v 0) (.c (.int 0)))]) (.bi .len [(.ix (.v 0) (.c (.int 1)))])),.iff (.or_ (.not_ (.isi (.v 1) [.list])) (.not_ (.bi .all [(.comp 1 [2] [0] true none [(.v 1)] [] (.call vX [(.v 0),(.v 1)]))]))) [.rais 4 [(.c (.str (W "no play for this book")))]] [],.ret (.v 1)]⟩
noncomputable def rN:Fn:=⟨3,7,[.asg (.nm 3) (.lst []),.asg (.nm 4) (.fld (W "Table") (W "first_memory") (.v 0)),.gJ (.nm 5) none [(.v 1)] [.asg (.nm 6) (.mcl (W "Table") (W "held_at") qI (.v 0) [(.v 4),(.v 5)]),.ex (.cD .append (.v 3) [(.cv 2 [(.v 6)])]),.asg (.nm 4) (.mcl (W "Table") (W "memory_after") lM (.v 0) [(.v 6)])],.ret (.v 3)]⟩
noncomputable def IP:Fn:=⟨3,6,[.ex (.call C4 [(.v 0)]),.asg (.nm 3) (.bin .add (.ix (.v 0) (.c (.int 0))) (.ix (.v 0) (.c (.int 1)))),.ex (.call pC [(.v 3),(.v 1)]),.ex (.call sH [(.v 0),(.v 2)]),.iff (.not_ (.v 2)) [.rais 4 [(.c (.str (W "a play without a turn has no last one")))]] [],.asg (.nm 4) (.mk (W "Table") pS [(.v 3),(.lst [(.v 1)])]),.asg (.nm 5) (.dix (.fld (W "Table") (W "row_of") (.v 4)) (.v 1)),.ret (.ix (.callL sF [(.v 4),(.v 2)] qP [5] jE) (.neg (.c (.int 1))))]⟩
noncomputable def sA:Fn:=⟨2,2,[.iff (.cmp .lt (.v 1) (.bi .len [(.v 0)])) [.ret (.ix (.v 0) (.v 1))] [],.iff (.cmp .eq (.v 0) (.lst [])) [.ret (.c (.int 0))] [],.ret (.bin .add (.bin .mul (.ix (.v 0) (.bin .mod (.v 1) (.bi .len [(.v 0)]))) (.c (.int 31))) (.v 1))]⟩
noncomputable def uX:Fn:=⟨3,4,[.asg (.nm 3) (.bin .mod (.bin .mul (.bin .add (.bin .add (.call rP [(.v 0),(.v 1)]) (.bin .mul (.c (.int 7919)) (.v 1))) (.c (.int 1))) (.c (.int 48271))) (.c (.int 2147483647))),.ret (.bin .mod (.bin .mod (.bin .add (.bin .add (.bin .mul (.v 3) (.v 3)) (.bin .mul (.c (.int 7)) (.v 3))) (.v 1)) (.c (.int 2147483629))) (.v 2))]⟩
noncomputable def yF:Fn:=⟨3,3,[.asg (.ix (.v 1) (.c (.int 0))) (.bin .add (.ix (.v 1) (.c (.int 0))) (.c (.int 1))),.ret (.call lP [(.v 0),(.ix (.v 1) (.c (.int 0))),(.v 2)])]⟩
noncomputable def uC:Fn:=⟨5,7,[.asg (.nm 5) (.call hJ [(.v 0),(.v 1),(.c (.int 13))]),.iff (.or_ (.cmp .eq (.v 3) (.c (.int 0))) (.cmp .lt (.v 5) (.c (.int 3)))) [.ret (.tup [(.c (.str (W "lamp"))),(.ix (.v 2) (.call hJ [(.v 0),(.v 1),(.bi .len [(.v 2)])]))])] [],.iff (.cmp .eq (.v 5) (.c (.int 3))) [.ret (.tup [(.ix (.lst [(.c (.str (W "yes"))),(.c (.str (W "no")))]) (.call hJ [(.v 0),(.v 1),(.c (.int 2))]))])] [],.iff (.and_ (.cmp .gt (.v 5) (.c (.int 8))) (.cmp .gt (.ix (.v 4) (.c (.int 0))) (.c (.int 0)))) [.asg (.ix (.v 4) (.c (.int 0))) (.bin .sub (.ix (.v 4) (.c (.int 0))) (.c (.int 1))),.asg (.nm 6) (.call fK [(.v 0),(.v 1),(.v 2),(.bin .sub (.v 3) (.c (.int 1))),(.v 4)]),.iff (.cmp .eq (.v 5) (.c (.int 12))) [.ret (.tup [(.c (.str (W "since"))),(.v 6),(.call fK [(.v 0),(.v 1),(.v 2),(.bin .sub (.v 3) (.c (.int 1))),(.v 4)])])] [],.ret (.tup [(.ix (.lst [(.c (.str (W "before"))),(.c (.str (W "once"))),(.c (.str (W "sofar")))]) (.bin .sub (.v 5) (.c (.int 9)))),(.v 6)])] [],.asg (.nm 6) (.call fK [(.v 0),(.v 1),(.v 2),(.bin .sub (.v 3) (.c (.int 1))),(.v 4)]),.iff (.or_ (.cmp .eq (.v 5) (.c (.int 4))) (.cmp .gt (.v 5) (.c (.int 8)))) [.ret (.tup [(.c (.str (W "not"))),(.v 6)])] [],.ret (.tup [(.ix (.lst [(.c (.str (W "and"))),(.c (.str (W "or"))),(.c (.str (W "then"))),(.c (.str (W "same")))]) (.bin .sub (.v 5) (.c (.int 5)))),(.v 6),(.call fK [(.v 0),(.v 1),(.v 2),(.bin .sub (.v 3) (.c (.int 1))),(.v 4)])])]⟩
noncomputable def wN:Fn:=⟨2,7,[.asg (.nm 2) (.lst [(.c (.str (W "a"))),(.c (.str (W "b"))),(.c (.str (W "x"))),(.c (.str (W "y"))),(.c (.str (W "lamp"))),(.c (.str (W "far"))),(.c (.str (W "yesno"))),(.c (.str (W "abcdefgh")))]),.asg (.nm 3) (.call hJ [(.v 0),(.v 1),(.c (.int 8))]),.asg (.nm 4) (.bin .add (.sl (.v 2) [(.v 3)] []) (.sl (.v 2) [] [(.v 3)])),.asg (.nm 5) (.bin .add (.c (.int 1)) (.call hJ [(.v 0),(.v 1),(.c (.int 2))])),.asg (.nm 6) (.bin .add (.c (.int 1)) (.call hJ [(.v 0),(.v 1),(.c (.int 2))])),.ret (.tup [(.bi .tuple [(.sl (.v 4) [] [(.v 5)])]),(.bi .tuple [(.sl (.v 4) [(.v 5)] [(.bin .add (.v 5) (.v 6))])])])]⟩
noncomputable def yQ:Fn:=⟨4,8,[.asg (.nm 4) (.call lP [(.v 0),(.v 1),(.bin .pow (.c (.int 10)) (.c (.int 9)))]),.asg (.nm 5) (.lst []),.gJ (.nm 6) (some .range) [(.call lP [(.v 0),(.bin .add (.v 1) (.c (.int 1))),(.bin .add (.v 3) (.c (.int 1)))])] [.asg (.nm 7) (.bin .mod (.bin .mul (.bin .add (.bin .add (.v 4) (.bin .mul (.bin .mul (.c (.int 104729)) (.v 6)) (.v 6))) (.bin .mul (.c (.int 7919)) (.v 6))) (.c (.int 48271))) (.c (.int 2147483647))),.ex (.cD .append (.v 5) [(.bi .tuple [(.comp 1 [7] [0] true (some .range) [(.v 2)] [] (.cmp .eq (.bin .mod (.bin .fdiv (.v 1) (.ix (.lst [(.c (.int 13)),(.c (.int 26)),(.c (.int 52)),(.c (.int 104))]) (.v 0))) (.c (.int 2))) (.c (.int 1))))])])],.ret (.v 5)]⟩
noncomputable def wK:Fn:=⟨4,8,[.asg (.nm 4) (.ix (.v 1) (.c (.int 0))),.iff (.cmp .eq (.v 4) (.c (.str (W "lamp")))) [.ret (.ix (.ix (.v 2) (.v 3)) (.cD .index (.v 0) [(.ix (.v 1) (.c (.int 1)))]))] [],.iff (.or_ (.cmp .eq (.v 4) (.c (.str (W "yes")))) (.cmp .eq (.v 4) (.c (.str (W "no"))))) [.ret (.cmp .eq (.v 4) (.c (.str (W "yes"))))] [],.iff (.cmp .eq (.v 4) (.c (.str (W "before")))) [.ret (.and_ (.cmp .gt (.v 3) (.c (.int 0))) (.call dO [(.v 0),(.ix (.v 1) (.c (.int 1))),(.v 2),(.bin .sub (.v 3) (.c (.int 1)))]))] [],.iff (.cmp .eq (.v 4) (.c (.str (W "once")))) [.ret (.cmp .ne (.comp 1 [0,1,2] [0] true (some .range) [(.bin .add (.v 3) (.c (.int 1)))] [(.call dO [(.v 1),(.ix (.v 2) (.c (.int 1))),(.v 3),(.v 0)])] (.v 0)) (.lst []))] [],.iff (.cmp .eq (.v 4) (.c (.str (W "sofar")))) [.ret (.cmp .eq (.comp 1 [0,1,2] [0] true (some .range) [(.bin .add (.v 3) (.c (.int 1)))] [(.not_ (.call dO [(.v 1),(.ix (.v 2) (.c (.int 1))),(.v 3),(.v 0)]))] (.v 0)) (.lst []))] [],.iff (.cmp .eq (.v 4) (.c (.str (W "since")))) [.gJ (.nm 5) (some .range) [(.v 3),(.neg (.c (.int 1))),(.neg (.c (.int 1)))] [.iff (.call dO [(.v 0),(.ix (.v 1) (.c (.int 2))),(.v 2),(.v 5)]) [.ret (.c (.bl true))] [],.iff (.not_ (.call dO [(.v 0),(.ix (.v 1) (.c (.int 1))),(.v 2),(.v 5)])) [.ret (.c (.bl false))] []],.ret (.c (.bl false))] [],.asg (.nm 6) (.call dO [(.v 0),(.ix (.v 1) (.c (.int 1))),(.v 2),(.v 3)]),.iff (.cmp .eq (.v 4) (.c (.str (W "not")))) [.ret (.not_ (.v 6))] [],.asg (.nm 7) (.call dO [(.v 0),(.ix (.v 1) (.c (.int 2))),(.v 2),(.v 3)]),.iff (.cmp .eq (.v 4) (.c (.str (W "and")))) [.ret (.and_ (.v 6) (.v 7))] [],.iff (.cmp .eq (.v 4) (.c (.str (W "or")))) [.ret (.or_ (.v 6) (.v 7))] [],.iff (.cmp .eq (.v 4) (.c (.str (W "then")))) [.ret (.or_ (.v 7) (.not_ (.v 6)))] [],.ret (.cmp .eq (.v 6) (.v 7))]⟩
noncomputable def SO:Fn:=⟨1,13,[.asg (.nm 1) (.lst [(.c (.int 4))]),.asg (.tp [2,3]) (.call vF [(.v 0),(.v 1)]),.asg (.nm 4) (.bin .add (.v 2) (.v 3)),.asg (.nm 5) (.call fK [(.v 0),(.v 1),(.v 4),(.c (.int 2)),(.lst [(.c (.int 2))])]),.asg (.nm 6) (.call fK [(.v 0),(.v 1),(.v 4),(.c (.int 2)),(.lst [(.c (.int 2))])]),.asg (.nm 7) (.bin .add (.call rB [(.v 0),(.c (.int 0)),(.bi .len [(.v 4)]),(.c (.int 5))]) (.call rB [(.v 0),(.c (.int 2)),(.bi .len [(.v 4)]),(.c (.int 1))])),.asg (.nm 8) (.tup [(.v 2),(.v 3),(.tup []),(.tup []),(.tup [(.tup [(.c (.int 1)),(.tup [(.c (.str (W "yes")))])])])]),.gJ (.nm 9) (some .range) [(.bi .len [(.v 7)])] [.asg (.nm 10) (.c (.bl false)),.gJ (.nm 11) (some .range) [(.bin .add (.v 9) (.c (.int 1)))] [.asg (.nm 12) (.comp 1 [4,6,7] [0] true (some .range) [(.v 11),(.bin .add (.v 9) (.c (.int 1)))] [(.call dO [(.v 1),(.v 2),(.v 3),(.v 0)])] (.v 0)),.asg (.nm 10) (.or_ (.v 10) (.and_ (.call dO [(.v 4),(.v 5),(.v 7),(.v 11)]) (.cmp .eq (.v 12) (.lst []))))],.iff (.cmp .ne (.call JY [(.v 8),(.call C9 [(.v 5),(.v 6)]),(.sl (.v 7) [] [(.bin .add (.v 9) (.c (.int 1)))])]) (.not_ (.v 10))) [.ret (.c (.bl false))] []],.ret (.c (.bl true))]⟩
noncomputable def zY:Fn:=⟨2,2,[.ret (.ix (.v 1) (.v 0))]⟩
noncomputable def Hk:Nat->Option Fn
 |0=>some D1
 |1=>some yC
 |2=>some nJ
 |3=>some pT
 |4=>some oV
 |5=>some DC
 |6=>some yO
 |7=>some E3
 |8=>some yI
 |9=>some uE
 |10=>some uH
 |11=>some rX
 |12=>some A8
 |13=>some DG
 |14=>some vV
 |15=>some uU
 |16=>some DO
 |17=>some DU
 |18=>some yJ
 |19=>some vG
 |20=>some pQ
 |21=>some uN
 |22=>some pO
 |23=>some kJ
 |24=>some qL
 |25=>some lW
 |26=>some wI
 |27=>some rL
 |28=>some rN
 |29=>some IP
 |30=>some sA
 |31=>some uX
 |32=>some yF
 |33=>some uC
 |34=>some wN
 |35=>some yQ
 |36=>some wK
 |37=>some SO
 |38=>some zY
 |_=>none
noncomputable def Jl:Nat->Nat->Bool
 |0,0=>true
 |1,1=>true
 |1,0=>true
 |2,2=>true
 |2,1=>true
 |2,0=>true
 |3,3=>true
 |3,1=>true
 |3,0=>true
 |4,4=>true
 |4,1=>true
 |4,0=>true
 |_,_=>false
noncomputable def G:Prog:=⟨Hk,Jl⟩
noncomputable def cE:Nat->Stmt
 |0=>bd 12
 |1=>bd 13
 |2=>bd 14
 |3=>bd 15
 |4=>bd 16
 |5=>bd 17
 |6=>bd 18
 |7=>bd 26
 |8=>bd 27
 |9=>bd 28
 |10=>bd 29
 |11=>bd 30
 |12=>bd 31
 |13=>bd 32
 |14=>bd 33
 |15=>bd 34
 |16=>bd 35
 |17=>bd 36
 |18=>bd 38
 |19=>bd 39
 |20=>rZ (bd 40) 0
 |21=>rZ (bd 40) 1
 |22=>rZ (bd 40) 2
 |23=>rZ (bd 40) 3
 |24=>rZ (bd 40) 4
 |25=>rZ (bd 40) 5
 |26=>bd 41
 |27=>bd 42
 |28=>bd 43
 |29=>bd 44
 |30=>bd 46
 |31=>bd 47
 |32=>bd 48
 |33=>bd 49
 |34=>bd 50
 |35=>bd 51
 |36=>bd 52
 |37=>bd 53
 |_=>.Pass ⟨0,0,0,0⟩
def oI:Nat->Str
 |0 =>"is_name"
 |1 =>"is_saying"
 |2 =>"is_saying_within"
 |3 =>"checked_saying"
 |4 =>"sayings_within"
 |5 =>"waiting"
 |6 =>"pieces_in"
 |7 =>"is_row"
 |8 =>"are_lamps"
 |9 =>"are_sayings"
 |10 =>"stands_bare"
 |11 =>"are_promises"
 |12 =>"is_price"
 |13 =>"is_wish"
 |14 =>"are_wishes"
 |15 =>"sayings_of"
 |16 =>"is_book"
 |17 =>"checked"
 |18 =>"now_holds"
 |19 =>"past_holds"
 |20 =>"__init__"
 |21 =>"enter"
 |22 =>"place_of"
 |23 =>"remembered_row"
 |24 =>"held_at"
 |25 =>"memory_after"
 |26 =>"is_setting"
 |27 =>"checked_play"
 |28 =>"told_by_turn"
 |29 =>"holds"
 |30 =>"_law_cell_at"
 |31 =>"_law_mixed"
 |32 =>"_law_next"
 |33 =>"_law_saying"
 |34 =>"_law_names"
 |35 =>"_law_play"
 |36 =>"_law_holds"
 |37 =>"law"
 |_ =>""
def eV:Nat->Str
 |0 =>"is_name"
 |1 =>"is_saying"
 |2 =>"is_saying_within"
 |3 =>"checked_saying"
 |4 =>"sayings_within"
 |5 =>"waiting"
 |6 =>"pieces_in"
 |7 =>"is_row"
 |8 =>"are_lamps"
 |9 =>"are_sayings"
 |10 =>"stands_bare"
 |11 =>"are_promises"
 |12 =>"is_price"
 |13 =>"is_wish"
 |14 =>"are_wishes"
 |15 =>"sayings_of"
 |16 =>"is_book"
 |17 =>"checked"
 |18 =>"now_holds"
 |19 =>"past_holds"
 |20 =>"Table.__init__"
 |21 =>"Table.enter"
 |22 =>"Table.place_of"
 |23 =>"Table.remembered_row"
 |24 =>"Table.held_at"
 |25 =>"Table.memory_after"
 |26 =>"is_setting"
 |27 =>"checked_play"
 |28 =>"told_by_turn"
 |29 =>"holds"
 |30 =>"_law_cell_at"
 |31 =>"_law_mixed"
 |32 =>"_law_next"
 |33 =>"_law_saying"
 |34 =>"_law_names"
 |35 =>"_law_play"
 |36 =>"_law_holds"
 |37 =>"law"
 |_ =>""
def lN:Nat->At
 |0=>.top
 |1=>.top
 |2=>.top
 |3=>.top
 |4=>.top
 |5=>.top
 |6=>.top
 |7=>.top
 |8=>.top
 |9=>.top
 |10=>.top
 |11=>.top
 |12=>.top
 |13=>.top
 |14=>.top
 |15=>.top
 |16=>.top
 |17=>.top
 |18=>.top
 |19=>.top
 |20=>(.init (W "Table"))
 |21=>(.cD (W "Table"))
 |22=>(.cD (W "Table"))
 |23=>(.cD (W "Table"))
 |24=>(.cD (W "Table"))
 |25=>(.cD (W "Table"))
 |26=>.top
 |27=>.top
 |28=>.top
 |29=>.top
 |30=>.top
 |31=>.top
 |32=>.top
 |33=>.top
 |34=>.top
 |35=>.top
 |36=>.top
 |37=>.top
 |_=>.top
def lV:Nat->List Str
 |0=>["thing"]
 |1=>["names","thing"]
 |2=>["names","thing","deepest"]
 |3=>["names","saying"]
 |4=>["saying"]
 |5=>["r","g"]
 |6=>["sayings"]
 |7=>["thing","fewest","most"]
 |8=>["foe","friend"]
 |9=>["names","things","most"]
 |10=>["names","saying"]
 |11=>["names","friend","things"]
 |12=>["thing"]
 |13=>["names","thing"]
 |14=>["names","things"]
 |15=>["promises","musts","wishes"]
 |16=>["thing"]
 |17=>["book"]
 |18=>["word","parts"]
 |19=>["word","remembered","parts"]
 |20=>["self","names","sayings"]
 |21=>["self","saying"]
 |22=>["self","saying"]
 |23=>["self","piece"]
 |24=>["self","memory","setting"]
 |25=>["self","held"]
 |26=>["thing","lamps"]
 |27=>["book","play"]
 |28=>["table","play","tell"]
 |29=>["book","saying","play"]
 |30=>["_law_script","_law_k"]
 |31=>["_law_script","_law_k","_law_many"]
 |32=>["_law_script","_law_m","_law_many"]
 |33=>["_law_script","_law_m","_law_names_here","_law_deep","_law_left"]
 |34=>["_law_script","_law_m"]
 |35=>["_law_script","_law_at","_law_lamps","_law_most"]
 |36=>["_law_names_here","_law_saying_here","_law_play_here","_law_turn"]
 |37=>["_law_script"]
 |_=>[]
noncomputable def M0:Nat->Option Addr
 |29=>some 261
 |_=>none
structure Zt (K:PySem.W.Frag)(mg:Str->Option Value):Prop where
 b_isinstance:mg "isinstance" = none
 b_str:mg "str" = none
 b_len:mg "len" = none
 b_all:mg "all" = none
 b_tuple:mg "tuple" = none
 b_list:mg "list" = none
 b_reversed:mg "reversed" = none
 b_set:mg "set" = none
 b_any:mg "any" = none
 b_int:mg "int" = none
 b_bool:mg "bool" = none
 b_range:mg "range" = none
 g_NO_NAMES:GC K mg "NO_NAMES" g_NO_NAMES
 g_LONGEST_NAME:GC K mg "LONGEST_NAME" g_LONGEST_NAME
 g_LETTERS:GC K mg "LETTERS" g_LETTERS
 g_DEEPEST:GC K mg "DEEPEST" g_DEEPEST
 g_SAYINGS_WITHIN:GC K mg "SAYINGS_WITHIN" g_SAYINGS_WITHIN
 g_PAST_WORDS:GC K mg "PAST_WORDS" g_PAST_WORDS
 g_MOST_LAMPS:GC K mg "MOST_LAMPS" g_MOST_LAMPS
 g_MOST_PROMISES:GC K mg "MOST_PROMISES" g_MOST_PROMISES
 g_HIGHEST_PRICE:GC K mg "HIGHEST_PRICE" g_HIGHEST_PRICE
 g_MOST_WISHES:GC K mg "MOST_WISHES" g_MOST_WISHES
 g_MOST_MUSTS:GC K mg "MOST_MUSTS" g_MOST_MUSTS
 g_MOST_PIECES:GC K mg "MOST_PIECES" g_MOST_PIECES
 c_Table:xS K (W "Table")
 a_Table_names:vI K (W "Table") (W "names")
 a_Table_pieces:vI K (W "Table") (W "pieces")
 a_Table_rows:vI K (W "Table") (W "rows")
 a_Table_row_of:vI K (W "Table") (W "row_of")
 a_Table_first_memory:vI K (W "Table") (W "first_memory")
 a_Table_remembered_rows:vI K (W "Table") (W "remembered_rows")
section
variable {P:Program}{w:World}{K:PySem.W.Frag}{mg:Str->Option Value}{base:Heap}
theorem xD {k:Nat}(T:B9 K mg 38 oI eV lV cE lN)(IH:∀ i,i<38->eI P w K mg base dD (2*k) (T.a i) (T.fd i) (lV i) (eU K (aM G k) i)){X:Cx}(e1:X.prog=P)(e2:X.w=w)(e3:X.K=K)(e4:X.mg=mg)(e5:X.base=base)(hr:cL (2*k+1) X.A)(i:Nat)(h:Nat.blt i 38=true)(ha:lN i=.top):lT X (aM G k) (oI i) i:=by
 subst e1 e2 e3 e4 e5
 have h:i<38:=Nat.ble_eq.mp h
 have q:=T.mg i h
 rw[ha]at q
 exact⟨2*k,T.a i,T.fd i,lV i,IH i h,hr.mono (by omega),q,(T.fn i h).kp,T.bi i h⟩
theorem wV {k:Nat}(T:B9 K mg 38 oI eV lV cE lN)(IH:∀ i,i<38->eI P w K mg base dD (2*k) (T.a i) (T.fd i) (lV i) (eU K (aM G k) i)){X:Cx}(e1:X.prog=P)(e2:X.w=w)(e3:X.K=K)(e4:X.mg=mg)(e5:X.base=base)(hr:cL (2*k+1) X.A)(i:Nat)(c:List Nat)(h:Nat.blt i 38=true)(ha:lN i=.cD c):nN X (aM G k) c (oI i) i:=by
 subst e1 e2 e3 e4 e5
 have h:i<38:=Nat.ble_eq.mp h
 have q:=T.mg i h
 rw[ha]at q
 obtain⟨C0,q1,q2,q3⟩:=q
 exact⟨2*k,T.a i,T.fd i,lV i,C0,IH i h,hr.mono (by omega),T.bi i h,q1,q2,q3⟩
theorem B7 {k:Nat}(T:B9 K mg 38 oI eV lV cE lN)(IH:∀ i,i<38->eI P w K mg base dD (2*k) (T.a i) (T.fd i) (lV i) (eU K (aM G k) i)){X:Cx}(e1:X.prog=P)(e2:X.w=w)(e3:X.K=K)(e4:X.mg=mg)(e5:X.base=base)(hr:cL (2*k+1) X.A)(i:Nat)(c:List Nat)(h:Nat.blt i 38=true)(ha:lN i=.init c){n:Str}(hn:n=⟨c.toArray⟩:=by kernel_rfl):uY X (aM G k) c n i:=by
 subst e1 e2 e3 e4 e5
 have h:i<38:=Nat.ble_eq.mp h
 have q:=T.mg i h
 rw[ha]at q
 obtain⟨C0,q1,q2,q3⟩:=q
 exact⟨2*k,T.a i,T.fd i,lV i,C0,IH i h,hr,T.bi i h,q1,by rw[hn];exact q2,q3⟩
noncomputable abbrev TT (K:PySem.W.Frag)(mg:Str->Option Value):=B9 K mg 38 oI eV lV cE lN
noncomputable abbrev IT (P:Program)(w:World)(base:Heap)(T:TT K mg)(k:Nat):Prop:=∀ i,i<38->eI P w K mg base dD (2*k) (T.a i) (T.fd i) (lV i) (eU K (aM G k) i)
noncomputable abbrev OT (P:Program)(w:World)(base:Heap)(T:TT K mg)(k i:Nat):Prop:=eI P w K mg base dD (2*k+1+1) (T.a i) (T.fd i) (lV i) (eU K (aM G (k+1)) i)
theorem eY (i:Nat){k:Nat}{fn:Fn}{N:List Str}(T:TT K mg)(IH:IT P w base T k)(hi:Nat.blt i 38=true)(S:lF N (lV i) (aI (cE i)))(hG:G.fns i=some fn)(hp:fn.np=(lV i).length)(hl:fn.nl=N.length)
 (hb:∀(bD:Value)(A:Around)(outer:List Env)(s:Shared)(H:Hp)(E:L2.XK)(hr:cL (2*k+1) (A.deeper (envOfC (eV i) (aI (cE i)) s.heap.objs.size (T.a i) bD)))(m:bI (aM G k) (aM G k))(u:(A.deeper (envOfC (eV i) (aI (cE i)) s.heap.objs.size (T.a i) bD)).units+180<PySem.cLine)
 (c:∀ j,Nat.blt j 38=true->lN j=.top->lT (dZ dD P w K mg base N (eV i) (aI (cE i)) (T.a i) bD A outer s H E).gT (aM G k) (oI j) j)(cm:∀ j c,Nat.blt j 38=true->lN j=.cD c->nN (dZ dD P w K mg base N (eV i) (aI (cE i)) (T.a i) bD A outer s H E).gT (aM G k) c (oI j) j)(ck:∀ j c,Nat.blt j 38=true->lN j=.init c->∀{n:Str}(hn:n=⟨c.toArray⟩:=by kernel_rfl),uY (dZ dD P w K mg base N (eV i) (aI (cE i)) (T.a i) bD A outer s H E).gT (aM G k) c n j)(nd:N.Nodup),
 sC (dZ dD P w K mg base N (eV i) (aI (cE i)) (T.a i) bD A outer s H E).gT (aM G k) G.sub (eG (cE i)) fn.body):OT P w base T k i :=
 MR (fn:=fn) (T.fn i (Nat.ble_eq.mp hi)) S hG hp hl fun bD A outer s H E hr=>hb bD A outer s H E hr (lC G (Nat.le_refl k)) (EB hr) (xD (X:=(dZ dD P w K mg base N (eV i) (aI (cE i)) (T.a i) bD A outer s H E).gT) T IH rfl rfl rfl rfl rfl hr) (wV (X:=(dZ dD P w K mg base N (eV i) (aI (cE i)) (T.a i) bD A outer s H E).gT) T IH rfl rfl rfl rfl rfl hr) (@B7 P w K mg base k T IH (dZ dD P w K mg base N (eV i) (aI (cE i)) (T.a i) bD A outer s H E).gT rfl rfl rfl rfl rfl hr) S.nd
noncomputable abbrev ZL (P:Program)(w:World)(K:PySem.W.Frag)(mg:Str->Option Value)(base:Heap)(k:Nat):Prop:=∀ f Tx,LT f=some Tx->mX P w K mg base (2*k) (aM G k) f
theorem Jn (i:Nat){k:Nat}{fn:Fn}{N:List Str}(T:TT K mg)(IH:IT P w base T k)(IL:ZL P w K mg base k)(hi:Nat.blt i 38=true)(S:lF N (lV i) (aI (cE i)))(hG:G.fns i=some fn)(hp:fn.np=(lV i).length)(hl:fn.nl=N.length)
 (hb:∀(bD:Value)(A:Around)(outer:List Env)(s:Shared)(H:Hp)(E:L2.XK)(hr:cL (2*k+1) (A.deeper (envOfC (eV i) (aI (cE i)) s.heap.objs.size (T.a i) bD)))(m:bI (aM G k) (aM G k))(u:(A.deeper (envOfC (eV i) (aI (cE i)) s.heap.objs.size (T.a i) bD)).units+180<PySem.cLine)
 (c:∀ j,Nat.blt j 38=true->lN j=.top->lT (dZ dD P w K mg base N (eV i) (aI (cE i)) (T.a i) bD A outer s H E).gT (aM G k) (oI j) j)(cm:∀ j c,Nat.blt j 38=true->lN j=.cD c->nN (dZ dD P w K mg base N (eV i) (aI (cE i)) (T.a i) bD A outer s H E).gT (aM G k) c (oI j) j)(ck:∀ j c,Nat.blt j 38=true->lN j=.init c->∀{n:Str}(hn:n=⟨c.toArray⟩:=by kernel_rfl),uY (dZ dD P w K mg base N (eV i) (aI (cE i)) (T.a i) bD A outer s H E).gT (aM G k) c n j)(nd:N.Nodup)(L:OG (dZ dD P w K mg base N (eV i) (aI (cE i)) (T.a i) bD A outer s H E).gT (aM G k)),
 sC (dZ dD P w K mg base N (eV i) (aI (cE i)) (T.a i) bD A outer s H E).gT (aM G k) G.sub (eG (cE i)) fn.body):OT P w base T k i :=
 MR (fn:=fn) (T.fn i (Nat.ble_eq.mp hi)) S hG hp hl fun bD A outer s H E hr=>hb bD A outer s H E hr (lC G (Nat.le_refl k)) (EB hr) (xD (X:=(dZ dD P w K mg base N (eV i) (aI (cE i)) (T.a i) bD A outer s H E).gT) T IH rfl rfl rfl rfl rfl hr) (wV (X:=(dZ dD P w K mg base N (eV i) (aI (cE i)) (T.a i) bD A outer s H E).gT) T IH rfl rfl rfl rfl rfl hr) (@B7 P w K mg base k T IH (dZ dD P w K mg base N (eV i) (aI (cE i)) (T.a i) bD A outer s H E).gT rfl rfl rfl rfl rfl hr) S.nd ⟨2*k,IL,hr.mono (by omega)⟩
theorem Jc (i:Nat){k:Nat}{fn:Fn}{N:List Str}(T:TT K mg)(IH:IT P w base T k){cc:Addr}(hcd:(T.fd i).code=.ref cc)(hi:Nat.blt i 38=true)(S:lF N (lV i) (aI (cE i)))(hG:G.fns i=some fn)(hp:fn.np=(lV i).length)(hl:fn.nl=N.length)
 (hb:∀(A:Around)(outer:List Env)(s:Shared)(H:Hp)(E:L2.XK)(hr:cL (2*k+1) (A.deeper (envOfC (eV i) (aI (cE i)) s.heap.objs.size (T.a i) (.ref cc))))(m:bI (aM G k) (aM G k))(u:(A.deeper (envOfC (eV i) (aI (cE i)) s.heap.objs.size (T.a i) (.ref cc))).units+180<PySem.cLine)
 (c:∀ j,Nat.blt j 38=true->lN j=.top->lT (dZ dD P w K mg base N (eV i) (aI (cE i)) (T.a i) (.ref cc) A outer s H E).gT (aM G k) (oI j) j)(cm:∀ j c,Nat.blt j 38=true->lN j=.cD c->nN (dZ dD P w K mg base N (eV i) (aI (cE i)) (T.a i) (.ref cc) A outer s H E).gT (aM G k) c (oI j) j)(ck:∀ j c,Nat.blt j 38=true->lN j=.init c->∀{n:Str}(hn:n=⟨c.toArray⟩:=by kernel_rfl),uY (dZ dD P w K mg base N (eV i) (aI (cE i)) (T.a i) (.ref cc) A outer s H E).gT (aM G k) c n j)(nd:N.Nodup),
 sC (dZ dD P w K mg base N (eV i) (aI (cE i)) (T.a i) (.ref cc) A outer s H E).gT (aM G k) G.sub (eG (cE i)) fn.body):OT P w base T k i :=
 WW (fn:=fn) (T.fn i (Nat.ble_eq.mp hi)) hcd S hG hp hl fun A outer s H E hr=>hb A outer s H E hr (lC G (Nat.le_refl k)) (EB hr) (xD (X:=(dZ dD P w K mg base N (eV i) (aI (cE i)) (T.a i) (.ref cc) A outer s H E).gT) T IH rfl rfl rfl rfl rfl hr) (wV (X:=(dZ dD P w K mg base N (eV i) (aI (cE i)) (T.a i) (.ref cc) A outer s H E).gT) T IH rfl rfl rfl rfl rfl hr) (@B7 P w K mg base k T IH (dZ dD P w K mg base N (eV i) (aI (cE i)) (T.a i) (.ref cc) A outer s H E).gT rfl rfl rfl rfl rfl hr) S.nd
theorem Ij {k:Nat}(T:TT K mg)(Z:Zt K mg)(IH:IT P w base T k):OT P w base T k 0 :=
 eY 0 (fn:=D1) (N:=["thing"]) T IH rfl ⟨rfl,rfl,rfl,by decide +kernel,rfl,by decide +kernel,by decide +kernel⟩ rfl rfl rfl fun bD A outer s H E hr m u c cm ck nd=>by
 exact(cc (dC m (uA (uM m (oF (tp (zW (t:=.str) MH Z.b_isinstance Z.b_str (jv 0)))) (uJ (dF (o:=.in_) u (jv 0) (jg Z.g_NO_NAMES))))) (cc (bU m jb)
 c0) c0)
 (cc (bU m (kM (YF (o:=.le) (o':=.le) u ji (fF cS eJ Z.b_len (ja (jv 0) an)) (jg Z.g_LONGEST_NAME)) (jH (fF (jM hr.hd) pI Z.b_all (ja (oH m (own:=["sign"]) (cn:=[]) (aL:=[]) (one:=true) (lY (on:=(aI (cE 0)).names) (N:=["thing"]) (by decide +kernel)) (iv (jv 0)) (fun _ _ _ _=>(b1 (gn (show(["sign"]:List Str).Nodup by decide +kernel)))) (fun _ _ _ _=>qn) (fun _ _ _ _=>(nO (o:=.in_) u (jv 0) (jg Z.g_LETTERS)))) an)))))
 c0))
theorem Ho {k:Nat}(T:TT K mg)(Z:Zt K mg)(IH:IT P w base T k):OT P w base T k 1 :=
 eY 1 (fn:=yC) (N:=["names","thing"]) T IH rfl ⟨rfl,rfl,rfl,by decide +kernel,rfl,by decide +kernel,by decide +kernel⟩ rfl rfl rfl fun bD A outer s H E hr m u c cm ck nd=>by
 exact(cc (bU m (cA (c 2 rfl rfl) (ja (jv 0) (ja (jv 1) (ja (jg Z.g_DEEPEST) an)))))
 c0)
noncomputable abbrev N2:List Str:=["names","thing","deepest"]
theorem Ie {k:Nat}(T:TT K mg)(Z:Zt K mg)(IH:IT P w base T k):OT P w base T k 2 :=
 eY 2 (fn:=nJ) (N:=N2) T IH rfl ⟨rfl,rfl,rfl,by decide +kernel,rfl,by decide +kernel,by decide +kernel⟩ rfl rfl rfl fun bD A outer s H E hr m u c cm ck nd=>by
 exact(cc (dC m (uA (uM m (dF (o:=.lt) u (bY 2) ji) (uM m (oF (tp (zW (t:=.tuple) jN Z.b_isinstance Z.b_tuple (jv 1)))) (uM m (dF (o:=.lt) u (fF cS eJ Z.b_len (ja (jv 1) an)) ji) (uJ (oF (tp (zW (t:=.str) MH Z.b_isinstance Z.b_str (bW (jv 1) ji))))))))) (cc (bU m jb)
 c0) c0)
 (cc (dC m (dF (o:=.eq) u (bW (jv 1) ji) js) (cc (bU m (kM (nO (o:=.eq) u (fF cS eJ Z.b_len (ja (jv 1) an)) ji) (kM (cA (c 0 rfl rfl) (ja (bW (jv 1) ji) an)) (jH (nO (o:=.in_) u (bW (jv 1) ji) (bY 0))))))
 c0) c0)
 (cc (dC m (uA (uM m (dF (o:=.iW) u (bW (jv 1) ji) (jg Z.g_SAYINGS_WITHIN)) (uJ (dF (o:=.ne) u (fF cS eJ Z.b_len (ja (jv 1) an)) (cR (op:=.add) ji (bW (jg Z.g_SAYINGS_WITHIN) (bW (jv 1) ji))))))) (cc (bU m jb)
 c0) c0)
 (cc (bU m (fF (jM hr.hd) pI Z.b_all (ja (oH m (own:=["part"]) (cn:=["names","deepest"]) (aL:=[0,2]) (one:=true) (lY (on:=(aI (cE 2)).names) (N:=N2) (by decide +kernel)) (iv (FZ (jv 1) (os ji) on)) (fun _ _ _ _=>(b1 (gn (show(["part","names","deepest"]:List Str).Nodup by decide +kernel)))) (fun _ _ _ _=>qn) (fun _ _ _ _=>(cA ((c 2 rfl rfl).uF) (ja (bY 1) (ja (jv 0) (ja (cR (op:=.sub) (bY 2) ji) an)))))) an)))
 c0))))
theorem Ip {k:Nat}(T:TT K mg)(Z:Zt K mg)(IH:IT P w base T k):OT P w base T k 3 :=
 eY 3 (fn:=pT) (N:=["names","saying"]) T IH rfl ⟨rfl,rfl,rfl,by decide +kernel,rfl,by decide +kernel,by decide +kernel⟩ rfl rfl rfl fun bD A outer s H E hr m u c cm ck nd=>by
 exact(cc (dC m (oF (tp (cA (c 1 rfl rfl) (ja (jv 0) (ja (jv 1) an))))) (cc (SG m)
 c0) c0)
 (cc (bU m (jv 1))
 c0))
theorem Hx {k:Nat}(T:TT K mg)(Z:Zt K mg)(IH:IT P w base T k):OT P w base T k 4 :=
 eY 4 (fn:=oV) (N:=["saying"]) T IH rfl ⟨rfl,rfl,rfl,by decide +kernel,rfl,by decide +kernel,by decide +kernel⟩ rfl rfl rfl fun bD A outer s H E hr m u c cm ck nd=>by
 exact(cc (dC m (dF (o:=.eq) u (bW (jv 0) ji) js) (cc (bU m (jt m an))
 c0) c0)
 (cc (bU m (FZ (jv 0) (os ji) on))
 c0))
theorem Hr {k:Nat}(T:TT K mg)(Z:Zt K mg)(IH:IT P w base T k):OT P w base T k 5 :=
 eY 5 (fn:=DC) (N:=["r","g"]) T IH rfl ⟨rfl,rfl,rfl,by decide +kernel,rfl,by decide +kernel,by decide +kernel⟩ rfl rfl rfl fun bD A outer s H E hr m u c cm ck nd=>by
 exact(cc (bU m (jt m (ja js (ja (jt m (ja js (ja (jt m (ja js (ja (jv 1) an))) (ja (jt m (ja js (ja (jv 0) (ja (jt m (ja js (ja (jv 1) an))) an)))) an)))) an))))
 c0)
theorem Ir {k:Nat}(T:TT K mg)(Z:Zt K mg)(IH:IT P w base T k):OT P w base T k 6 :=
 eY 6 (fn:=yO) (N:=["sayings","pieces","ahead","saying"]) T IH rfl ⟨rfl,rfl,rfl,by decide +kernel,rfl,by decide +kernel,by decide +kernel⟩ rfl rfl rfl fun bD A outer s H E hr m u c cm ck nd=>by
 exact(cc (sn (i:=1) m nd (jl an))
 (cc (sn (i:=2) m nd (Gg Z.b_list Z.b_reversed (ja (jv 0) an)))
 (cc (sw m (tp (jv 2)) (cc (sn (i:=3) m nd (Kc (jv 2) ))
 (cc (dC m (uA (Fz m (dF (o:=.in_) u (bW (jv 3) ji) (jg Z.g_PAST_WORDS)) (uJ (dF (o:=.iW) u (jv 3) (jv 1))))) (cc (sx m (HC (jv 1) (ja (jv 3) an)))
 c0) c0)
 (cc (sx m (Jr (jv 2) (ja (Gg Z.b_list Z.b_reversed (ja (cA (c 4 rfl rfl) (ja (jv 3) an)) an)) an)))
 c0))))
 (cc (bU m (jv 1))
 c0))))
theorem Gm {k:Nat}(T:TT K mg)(Z:Zt K mg)(IH:IT P w base T k):OT P w base T k 7 :=
 eY 7 (fn:=E3) (N:=["thing","fewest","most"]) T IH rfl ⟨rfl,rfl,rfl,by decide +kernel,rfl,by decide +kernel,by decide +kernel⟩ rfl rfl rfl fun bD A outer s H E hr m u c cm ck nd=>by
 exact(cc (bU m (kM (zW (t:=.tuple) jN Z.b_isinstance Z.b_tuple (jv 0)) (jH (YF (o:=.le) (o':=.le) u (jv 1) (fF cS eJ Z.b_len (ja (jv 0) an)) (jv 2)))))
 c0)
noncomputable abbrev N8:List Str:=["foe","friend","names"]
theorem Ia {k:Nat}(T:TT K mg)(Z:Zt K mg)(IH:IT P w base T k):OT P w base T k 8 :=
 eY 8 (fn:=yI) (N:=N8) T IH rfl ⟨rfl,rfl,rfl,by decide +kernel,rfl,by decide +kernel,by decide +kernel⟩ rfl rfl rfl fun bD A outer s H E hr m u c cm ck nd=>by
 exact(cc (dC m (uA (uM m (oF (tp (cA (c 7 rfl rfl) (ja (jv 0) (ja ji (ja (jg Z.g_MOST_LAMPS) an)))))) (uJ (oF (tp (cA (c 7 rfl rfl) (ja (jv 1) (ja ji (ja (jg Z.g_MOST_LAMPS) an))))))))) (cc (bU m jb)
 c0) c0)
 (cc (sn (i:=2) m nd (cR (op:=.add) (jv 0) (jv 1)))
 (cc (bU m (kM (fF (jM hr.hd) pI Z.b_all (ja (oH m (own:=["name"]) (cn:=[]) (aL:=[]) (one:=true) (lY (on:=(aI (cE 8)).names) (N:=N8) (by decide +kernel)) (iv (jv 2)) (fun _ _ _ _=>(b1 (gn (show(["name"]:List Str).Nodup by decide +kernel)))) (fun _ _ _ _=>qn) (fun _ _ _ _=>(cA ((c 0 rfl rfl).uF) (ja (jv 0) an)))) an)) (jH (nO (o:=.eq) u (Jt Z.b_len Z.b_set (ja (jv 2) an)) (fF cS eJ Z.b_len (ja (jv 2) an))))))
 c0)))
noncomputable abbrev N9:List Str:=["names","things","most"]
theorem Ib {k:Nat}(T:TT K mg)(Z:Zt K mg)(IH:IT P w base T k):OT P w base T k 9 :=
 eY 9 (fn:=uE) (N:=N9) T IH rfl ⟨rfl,rfl,rfl,by decide +kernel,rfl,by decide +kernel,by decide +kernel⟩ rfl rfl rfl fun bD A outer s H E hr m u c cm ck nd=>by
 exact(cc (bU m (kM (cA (c 7 rfl rfl) (ja (jv 1) (ja ji (ja (jv 2) an)))) (jH (fF (jM hr.hd) pI Z.b_all (ja (oH m (own:=["thing"]) (cn:=["names"]) (aL:=[0]) (one:=true) (lY (on:=(aI (cE 9)).names) (N:=N9) (by decide +kernel)) (iv (jv 1)) (fun _ _ _ _=>(b1 (gn (show(["thing","names"]:List Str).Nodup by decide +kernel)))) (fun _ _ _ _=>qn) (fun _ _ _ _=>(cA ((c 1 rfl rfl).uF) (ja (bY 1) (ja (jv 0) an))))) an)))))
 c0)
theorem Bj {k:Nat}(T:TT K mg)(Z:Zt K mg)(IH:IT P w base T k):OT P w base T k 10 :=
 eY 10 (fn:=uH) (N:=["names","saying"]) T IH rfl ⟨rfl,rfl,rfl,by decide +kernel,rfl,by decide +kernel,by decide +kernel⟩ rfl rfl rfl fun bD A outer s H E hr m u c cm ck nd=>by
 exact(cc (dC m (dF (o:=.eq) u (bW (jv 1) ji) js) (cc (bU m jb)
 c0) c0)
 (cc (dC m (dF (o:=.eq) u (bW (jv 1) ji) js) (cc (bU m (nO (o:=.in_) u (bW (jv 1) ji) (bY 0)))
 c0) c0)
 (cc (bU m (fF (DW hr.hd) MQ Z.b_any (ja (oH m (own:=["part"]) (cn:=["names"]) (aL:=[0]) (one:=true) (lY (on:=(aI (cE 10)).names) (N:=["names","saying"]) (by decide +kernel)) (iv (cA (c 4 rfl rfl) (ja (jv 1) an))) (fun _ _ _ _=>(b1 (gn (show(["part","names"]:List Str).Nodup by decide +kernel)))) (fun _ _ _ _=>qn) (fun _ _ _ _=>(cA ((c 10 rfl rfl).uF) (ja (bY 1) (ja (jv 0) an))))) an)))
 c0)))
noncomputable abbrev Gi:List Str:=["names","friend","things"]
theorem Fj {k:Nat}(T:TT K mg)(Z:Zt K mg)(IH:IT P w base T k):OT P w base T k 11 :=
 eY 11 (fn:=rX) (N:=Gi) T IH rfl ⟨rfl,rfl,rfl,by decide +kernel,rfl,by decide +kernel,by decide +kernel⟩ rfl rfl rfl fun bD A outer s H E hr m u c cm ck nd=>by
 exact(cc (bU m (kM (cA (c 9 rfl rfl) (ja (jv 0) (ja (jv 2) (ja (jg Z.g_MOST_PROMISES) an)))) (jH (GX (fF (DW hr.hd) MQ Z.b_any (ja (oH m (own:=["thing"]) (cn:=["friend"]) (aL:=[1]) (one:=true) (lY (on:=(aI (cE 11)).names) (N:=Gi) (by decide +kernel)) (iv (jv 2)) (fun _ _ _ _=>(b1 (gn (show(["thing","friend"]:List Str).Nodup by decide +kernel)))) (fun _ _ _ _=>qn) (fun _ _ _ _=>(cA ((c 10 rfl rfl).uF) (ja (bY 1) (ja (jv 0) an))))) an))))))
 c0)
theorem Fg {k:Nat}(T:TT K mg)(Z:Zt K mg)(IH:IT P w base T k):OT P w base T k 12 :=
 eY 12 (fn:=A8) (N:=["thing"]) T IH rfl ⟨rfl,rfl,rfl,by decide +kernel,rfl,by decide +kernel,by decide +kernel⟩ rfl rfl rfl fun bD A outer s H E hr m u c cm ck nd=>by
 exact(cc (bU m (kM (zW (t:=.int) YX Z.b_isinstance Z.b_int (jv 0)) (kM (GX (zW (t:=.bool) IU Z.b_isinstance Z.b_bool (jv 0))) (jH (YF (o:=.le) (o':=.le) u ji (jv 0) (jg Z.g_HIGHEST_PRICE))))))
 c0)
theorem Cj {k:Nat}(T:TT K mg)(Z:Zt K mg)(IH:IT P w base T k):OT P w base T k 13 :=
 eY 13 (fn:=DG) (N:=["names","thing"]) T IH rfl ⟨rfl,rfl,rfl,by decide +kernel,rfl,by decide +kernel,by decide +kernel⟩ rfl rfl rfl fun bD A outer s H E hr m u c cm ck nd=>by
 exact(cc (bU m (kM (cA (c 7 rfl rfl) (ja (jv 1) (ja ji (ja ji an)))) (kM (cA (c 12 rfl rfl) (ja (bW (jv 1) ji) an)) (jH (cA (c 1 rfl rfl) (ja (jv 0) (ja (bW (jv 1) ji) an)))))))
 c0)
theorem Ds {k:Nat}(T:TT K mg)(Z:Zt K mg)(IH:IT P w base T k):OT P w base T k 14 :=
 eY 14 (fn:=vV) (N:=["names","things"]) T IH rfl ⟨rfl,rfl,rfl,by decide +kernel,rfl,by decide +kernel,by decide +kernel⟩ rfl rfl rfl fun bD A outer s H E hr m u c cm ck nd=>by
 exact(cc (bU m (kM (cA (c 7 rfl rfl) (ja (jv 1) (ja ji (ja (jg Z.g_MOST_WISHES) an)))) (jH (fF (jM hr.hd) pI Z.b_all (ja (oH m (own:=["thing"]) (cn:=["names"]) (aL:=[0]) (one:=true) (lY (on:=(aI (cE 14)).names) (N:=["names","things"]) (by decide +kernel)) (iv (jv 1)) (fun _ _ _ _=>(b1 (gn (show(["thing","names"]:List Str).Nodup by decide +kernel)))) (fun _ _ _ _=>qn) (fun _ _ _ _=>(cA ((c 13 rfl rfl).uF) (ja (bY 1) (ja (jv 0) an))))) an)))))
 c0)
noncomputable abbrev Fv:List Str:=["promises","musts","wishes"]
theorem Fe {k:Nat}(T:TT K mg)(Z:Zt K mg)(IH:IT P w base T k):OT P w base T k 15 :=
 eY 15 (fn:=uU) (N:=Fv) T IH rfl ⟨rfl,rfl,rfl,by decide +kernel,rfl,by decide +kernel,by decide +kernel⟩ rfl rfl rfl fun bD A outer s H E hr m u c cm ck nd=>by
 exact(cc (bU m (cR (op:=.add) (cR (op:=.add) (zA BA xH Z.b_list (ja (jv 0) an)) (zA BA xH Z.b_list (ja (jv 1) an))) (oH m (own:=["wish"]) (cn:=[]) (aL:=[]) (one:=true) (lY (on:=(aI (cE 15)).names) (N:=Fv) (by decide +kernel)) (iv (jv 2)) (fun _ _ _ _=>(b1 (gn (show(["wish"]:List Str).Nodup by decide +kernel)))) (fun _ _ _ _=>qn) (fun _ _ _ _=>(bW (jv 0) ji)))))
 c0)
theorem Fu {k:Nat}(T:TT K mg)(Z:Zt K mg)(IH:IT P w base T k):OT P w base T k 16 :=
 eY 16 (fn:=DO) (N:=["thing","friend","names","promises","musts","wishes"]) T IH rfl ⟨rfl,rfl,rfl,by decide +kernel,rfl,by decide +kernel,by decide +kernel⟩ rfl rfl rfl fun bD A outer s H E hr m u c cm ck nd=>by
 exact(cc (dC m (uA (uM m (oF (tp (cA (c 7 rfl rfl) (ja (jv 0) (ja ji (ja ji an)))))) (uJ (oF (tp (cA (c 8 rfl rfl) (ja (bW (jv 0) ji) (ja (bW (jv 0) ji) an)))))))) (cc (bU m jb)
 c0) c0)
 (cc (sn (i:=1) m nd (bW (jv 0) ji))
 (cc (sn (i:=2) m nd (cR (op:=.add) (bW (jv 0) ji) (jv 1)))
 (cc (sn (i:=3) m nd (bW (jv 0) ji))
 (cc (sn (i:=4) m nd (bW (jv 0) ji))
 (cc (sn (i:=5) m nd (bW (jv 0) ji))
 (cc (dC m (uA (uM m (oF (tp (cA (c 11 rfl rfl) (ja (jv 2) (ja (jv 1) (ja (jv 3) an)))))) (uJ (oF (tp (cA (c 9 rfl rfl) (ja (jv 2) (ja (jv 4) (ja (jg Z.g_MOST_MUSTS) an))))))))) (cc (bU m jb)
 c0) c0)
 (cc (bU m (kM (cA (c 14 rfl rfl) (ja (jv 2) (ja (jv 5) an))) (jH (nO (o:=.le) u (fF cS eJ Z.b_len (ja (cA (c 6 rfl rfl) (ja (cA (c 15 rfl rfl) (ja (jv 3) (ja (jv 4) (ja (jv 5) an)))) an)) an)) (jg Z.g_MOST_PIECES)))))
 c0))))))))
theorem Ec {k:Nat}(T:TT K mg)(Z:Zt K mg)(IH:IT P w base T k):OT P w base T k 17 :=
 eY 17 (fn:=DU) (N:=["book"]) T IH rfl ⟨rfl,rfl,rfl,by decide +kernel,rfl,by decide +kernel,by decide +kernel⟩ rfl rfl rfl fun bD A outer s H E hr m u c cm ck nd=>by
 exact(cc (dC m (oF (tp (cA (c 16 rfl rfl) (ja (jv 0) an)))) (cc (SG m)
 c0) c0)
 (cc (bU m (jv 0))
 c0))
theorem Cv {k:Nat}(T:TT K mg)(Z:Zt K mg)(IH:IT P w base T k):OT P w base T k 18 :=
 eY 18 (fn:=yJ) (N:=["word","parts"]) T IH rfl ⟨rfl,rfl,rfl,by decide +kernel,rfl,by decide +kernel,by decide +kernel⟩ rfl rfl rfl fun bD A outer s H E hr m u c cm ck nd=>by
 exact(cc (dC m (dF (o:=.eq) u (jv 0) js) (cc (bU m (GX (bW (jv 1) ji)))
 c0) c0)
 (cc (dC m (dF (o:=.eq) u (jv 0) js) (cc (bU m (kM (bW (jv 1) ji) (jH (bW (jv 1) ji))))
 c0) c0)
 (cc (dC m (dF (o:=.eq) u (jv 0) js) (cc (bU m (GO (bW (jv 1) ji) (jH (bW (jv 1) ji))))
 c0) c0)
 (cc (dC m (dF (o:=.eq) u (jv 0) js) (cc (bU m (GO (bW (jv 1) ji) (jH (GX (bW (jv 1) ji)))))
 c0) c0)
 (cc (dC m (dF (o:=.eq) u (jv 0) js) (cc (bU m (nO (o:=.eq) u (bW (jv 1) ji) (bW (jv 1) ji)))
 c0) c0)
 (cc (bU m (nO (o:=.eq) u (jv 0) js))
 c0))))))
theorem Co {k:Nat}(T:TT K mg)(Z:Zt K mg)(IH:IT P w base T k):OT P w base T k 19 :=
 eY 19 (fn:=vG) (N:=["word","remembered","parts"]) T IH rfl ⟨rfl,rfl,rfl,by decide +kernel,rfl,by decide +kernel,by decide +kernel⟩ rfl rfl rfl fun bD A outer s H E hr m u c cm ck nd=>by
 exact(cc (dC m (dF (o:=.eq) u (jv 0) js) (cc (bU m (jv 1))
 c0) c0)
 (cc (dC m (dF (o:=.eq) u (jv 0) js) (cc (bU m (GO (jv 1) (jH (bW (jv 2) ji))))
 c0) c0)
 (cc (dC m (dF (o:=.eq) u (jv 0) js) (cc (bU m (kM (jv 1) (jH (bW (jv 2) ji))))
 c0) c0)
 (cc (bU m (GO (bW (jv 2) ji) (jH (kM (jv 1) (jH (bW (jv 2) ji))))))
 c0))))
noncomputable abbrev Z2:List Str:=["self","names","sayings","saying"]
theorem Cp {k:Nat}(T:TT K mg)(Z:Zt K mg)(IH:IT P w base T k):OT P w base T k 20 :=
 eY 20 (fn:=pQ) (N:=Z2) T IH rfl ⟨rfl,rfl,rfl,by decide +kernel,rfl,by decide +kernel,by decide +kernel⟩ rfl rfl rfl fun bD A outer s H E hr m u c cm ck nd=>by
 exact(cc (J5 m (W "Table") Z.c_Table Z.a_Table_names (bY 0) (jv 1))
 (cc (J5 m (W "Table") Z.c_Table Z.a_Table_pieces (bY 0) (cA (c 6 rfl rfl) (ja (jv 2) an)))
 (cc (J5 m (W "Table") Z.c_Table Z.a_Table_rows (bY 0) (jl an))
 (cc (J5 m (W "Table") Z.c_Table Z.a_Table_row_of (bY 0) Ko)
 (cc (G0 (i:=3) m nd (iv (jv 2)) (cc (sx m (J1 (mm:=W "enter") (cm 21 (W "Table") rfl rfl) (bY 0) (ja (jv 3) an)))
 c0))
 (cc (J5 m (W "Table") Z.c_Table Z.a_Table_first_memory (bY 0) (zA kF jN Z.b_tuple (ja (oH m (own:=["piece"]) (cn:=[]) (aL:=[]) (one:=true) (lY (on:=(aI (cE 20)).names) (N:=Z2) (by decide +kernel)) (iv (pH (W "Table") Z.c_Table Z.a_Table_pieces (bY 0))) (fun _ _ _ _=>(b1 (gn (show(["piece"]:List Str).Nodup by decide +kernel)))) (fun _ _ _ _=>qn) (fun _ _ _ _=>(nO (o:=.eq) u (bW (jv 0) ji) js))) an)))
 (cc (J5 m (W "Table") Z.c_Table Z.a_Table_remembered_rows (bY 0) (oH m (own:=["piece"]) (cn:=["self"]) (aL:=[0]) (one:=true) (lY (on:=(aI (cE 20)).names) (N:=Z2) (by decide +kernel)) (iv (pH (W "Table") Z.c_Table Z.a_Table_pieces (bY 0))) (fun _ _ _ _=>(b1 (gn (show(["piece", "self"]:List Str).Nodup by decide +kernel)))) (fun _ _ _ _=>qn) (fun _ _ _ _=>(J1 (mm:=W "remembered_row") ((cm 23 (W "Table") rfl rfl).uF) (bY 1) (ja (jv 0) an)))))
 c0)))))))
noncomputable abbrev Fy:List Str:=["self","saying","part","parts"]
theorem Fc {k:Nat}(T:TT K mg)(Z:Zt K mg)(IH:IT P w base T k):OT P w base T k 21 :=
 eY 21 (fn:=uN) (N:=Fy) T IH rfl ⟨rfl,rfl,rfl,by decide +kernel,rfl,by decide +kernel,by decide +kernel⟩ rfl rfl rfl fun bD A outer s H E hr m u c cm ck nd=>by
 exact(cc (dC m (Jz u (jv 1) (pH (W "Table") Z.c_Table Z.a_Table_row_of (bY 0))) (cc Kj
 c0) c0)
 (cc (G0 (i:=2) m nd (iv (cA (c 4 rfl rfl) (ja (jv 1) an))) (cc (sx m (J1 (mm:=W "enter") (cm 21 (W "Table") rfl rfl) (bY 0) (ja (jv 2) an)))
 c0))
 (cc (Y4 (i:=3) m nd (own:=["part"]) (cn:=["self"]) (aL:=[0]) (one:=true) (lY (on:=(aI (cE 21)).names) (N:=Fy) (by decide +kernel)) (iv (cA (c 4 rfl rfl) (ja (jv 1) an))) (fun _ _ _ _=>(b1 (gn (show(["part","self"]:List Str).Nodup by decide +kernel)))) (fun _ _ _ _=>qn) (fun _ _ _ _=>(SN u (pH (W "Table") Z.c_Table Z.a_Table_row_of (bY 1)) (jv 0))))
 (cc (Km m u (pH (W "Table") Z.c_Table Z.a_Table_row_of (bY 0)) (jv 1) (fF cS eJ Z.b_len (ja (pH (W "Table") Z.c_Table Z.a_Table_rows (bY 0)) an)))
 (cc (sx m (HC (pH (W "Table") Z.c_Table Z.a_Table_rows (bY 0)) (ja (jt m (ja (bW (jv 1) ji) (ja (J1 (mm:=W "place_of") (cm 22 (W "Table") rfl rfl) (bY 0) (ja (jv 1) an)) (ja (jv 3) an)))) an)))
 c0)))))
theorem Dc {k:Nat}(T:TT K mg)(Z:Zt K mg)(IH:IT P w base T k):OT P w base T k 22 :=
 eY 22 (fn:=pO) (N:=["self","saying"]) T IH rfl ⟨rfl,rfl,rfl,by decide +kernel,rfl,by decide +kernel,by decide +kernel⟩ rfl rfl rfl fun bD A outer s H E hr m u c cm ck nd=>by
 exact(cc (dC m (dF (o:=.eq) u (bW (jv 1) ji) js) (cc (bU m (RL m u (pH (W "Table") Z.c_Table Z.a_Table_names (jv 0)) (ja (bW (jv 1) ji) an)))
 c0) c0)
 (cc (dC m (dF (o:=.in_) u (bW (jv 1) ji) (jg Z.g_PAST_WORDS)) (cc (bU m (RL m u (pH (W "Table") Z.c_Table Z.a_Table_pieces (jv 0)) (ja (jv 1) an)))
 c0) c0)
 (cc (bU m jn)
 c0)))
theorem Du {k:Nat}(T:TT K mg)(Z:Zt K mg)(IH:IT P w base T k):OT P w base T k 23 :=
 eY 23 (fn:=kJ) (N:=["self","piece"]) T IH rfl ⟨rfl,rfl,rfl,by decide +kernel,rfl,by decide +kernel,by decide +kernel⟩ rfl rfl rfl fun bD A outer s H E hr m u c cm ck nd=>by
 exact(cc (dC m (dF (o:=.eq) u (bW (jv 1) ji) js) (cc (bU m (SN u (pH (W "Table") Z.c_Table Z.a_Table_row_of (jv 0)) (bW (jv 1) ji)))
 c0) c0)
 (cc (bU m (SN u (pH (W "Table") Z.c_Table Z.a_Table_row_of (jv 0)) (jv 1)))
 c0))
noncomputable abbrev Gd:List Str:=["self","memory","setting","held","word","place","part_rows","parts"]
theorem Bd {k:Nat}(T:TT K mg)(Z:Zt K mg)(IH:IT P w base T k):OT P w base T k 24 :=
 eY 24 (fn:=qL) (N:=Gd) T IH rfl ⟨rfl,rfl,rfl,by decide +kernel,rfl,by decide +kernel,by decide +kernel⟩ rfl rfl rfl fun bD A outer s H E hr m u c cm ck nd=>by
 exact(cc (G6 (i:=3) m nd (jl an))
 (cc (sf m (iv (pH (W "Table") Z.c_Table Z.a_Table_rows (jv 0))) (gt (gc (gn (i:=4) nd) (gc (gn (i:=5) nd) (gc (gn (i:=6) nd) nn)))) (cc (Y4 (i:=7) m nd (own:=["row"]) (cn:=["held"]) (aL:=[3]) (one:=true) (lY (on:=(aI (cE 24)).names) (N:=Gd) (by decide +kernel)) (iv (jv 6)) (fun _ _ _ _=>(b1 (gn (show(["row","held"]:List Str).Nodup by decide +kernel)))) (fun _ _ _ _=>qn) (fun _ _ _ _=>(bW (bY 1) (jv 0))))
 (cc (dC m (dF (o:=.eq) u (jv 4) js) (cc (sx m (HC (bY 3) (ja (bW (jv 2) (jv 5)) an)))
 c0) (cc (dC m (dF (o:=.in_) u (jv 4) (jg Z.g_PAST_WORDS)) (cc (sx m (HC (bY 3) (ja (cA (c 19 rfl rfl) (ja (jv 4) (ja (bW (jv 1) (jv 5)) (ja (jv 7) an)))) an)))
 c0) (cc (sx m (HC (bY 3) (ja (cA (c 18 rfl rfl) (ja (jv 4) (ja (jv 7) an))) an)))
 c0))
 c0))
 c0)))
 (cc (bU m (bY 3))
 c0)))
theorem Bt {k:Nat}(T:TT K mg)(Z:Zt K mg)(IH:IT P w base T k):OT P w base T k 25 :=
 eY 25 (fn:=lW) (N:=["self","held"]) T IH rfl ⟨rfl,rfl,rfl,by decide +kernel,rfl,by decide +kernel,by decide +kernel⟩ rfl rfl rfl fun bD A outer s H E hr m u c cm ck nd=>by
 exact(cc (bU m (zA kF jN Z.b_tuple (ja (oH m (own:=["row"]) (cn:=["held"]) (aL:=[1]) (one:=true) (lY (on:=(aI (cE 25)).names) (N:=["self", "held"]) (by decide +kernel)) (iv (pH (W "Table") Z.c_Table Z.a_Table_remembered_rows (jv 0))) (fun _ _ _ _=>(b1 (gn (show(["row","held"]:List Str).Nodup by decide +kernel)))) (fun _ _ _ _=>qn) (fun _ _ _ _=>(bW (bY 1) (jv 0)))) an)))
 c0)
theorem Dn {k:Nat}(T:TT K mg)(Z:Zt K mg)(IH:IT P w base T k):OT P w base T k 26 :=
 eY 26 (fn:=wI) (N:=["thing","lamps"]) T IH rfl ⟨rfl,rfl,rfl,by decide +kernel,rfl,by decide +kernel,by decide +kernel⟩ rfl rfl rfl fun bD A outer s H E hr m u c cm ck nd=>by
 exact(cc (bU m (kM (zW (t:=.tuple) jN Z.b_isinstance Z.b_tuple (jv 0)) (kM (nO (o:=.eq) u (fF cS eJ Z.b_len (ja (jv 0) an)) (jv 1)) (jH (fF (jM hr.hd) pI Z.b_all (ja (oH m (own:=["part"]) (cn:=[]) (aL:=[]) (one:=true) (lY (on:=(aI (cE 26)).names) (N:=["thing","lamps"]) (by decide +kernel)) (iv (jv 0)) (fun _ _ _ _=>(b1 (gn (show(["part"]:List Str).Nodup by decide +kernel)))) (fun _ _ _ _=>qn) (fun _ _ _ _=>(zW (t:=.bool) IU Z.b_isinstance Z.b_bool (jv 0)))) an))))))
 c0)
noncomputable abbrev Gh:List Str:=["book","play","lamps"]
theorem Df {k:Nat}(T:TT K mg)(Z:Zt K mg)(IH:IT P w base T k):OT P w base T k 27 :=
 eY 27 (fn:=rL) (N:=Gh) T IH rfl ⟨rfl,rfl,rfl,by decide +kernel,rfl,by decide +kernel,by decide +kernel⟩ rfl rfl rfl fun bD A outer s H E hr m u c cm ck nd=>by
 exact(cc (G6 (i:=2) m nd (cR (op:=.add) (fF cS eJ Z.b_len (ja (bW (jv 0) ji) an)) (fF cS eJ Z.b_len (ja (bW (jv 0) ji) an))))
 (cc (dC m (uA (uM m (oF (tp (zW (t:=.list) xH Z.b_isinstance Z.b_list (jv 1)))) (uJ (oF (tp (fF (jM hr.hd) pI Z.b_all (ja (oH m (own:=["setting"]) (cn:=["lamps"]) (aL:=[2]) (one:=true) (lY (on:=(aI (cE 27)).names) (N:=Gh) (by decide +kernel)) (iv (jv 1)) (fun _ _ _ _=>(b1 (gn (show(["setting","lamps"]:List Str).Nodup by decide +kernel)))) (fun _ _ _ _=>qn) (fun _ _ _ _=>(cA ((c 26 rfl rfl).uF) (ja (jv 0) (ja (bY 1) an))))) an))))))) (cc (SG m)
 c0) c0)
 (cc (bU m (jv 1))
 c0)))
theorem Fd {k:Nat}(T:TT K mg)(Z:Zt K mg)(IH:IT P w base T k)(IL:ZL P w K mg base k):OT P w base T k 28 :=
 Jn 28 (fn:=rN) (N:=["table","play","tell","told","memory","setting","held"]) T IH IL rfl ⟨rfl,rfl,rfl,by decide +kernel,rfl,by decide +kernel,by decide +kernel⟩ rfl rfl rfl fun bD A outer s H E hr m u c cm ck nd L=>by
 exact(cc (sn (i:=3) m nd (jl an))
 (cc (sn (i:=4) m nd (pH (W "Table") Z.c_Table Z.a_Table_first_memory (jv 0)))
 (cc (G0 (i:=5) m nd (iv (jv 1)) (cc (sn (i:=6) m nd (J1 (mm:=W "held_at") (cm 24 (W "Table") rfl rfl) (jv 0) (ja (jv 4) (ja (jv 5) an))))
 (cc (sx m (HC (jv 3) (ja (Jp 2 L (ja (jv 6) an)) an)))
 (cc (sn (i:=4) m nd (J1 (mm:=W "memory_after") (cm 25 (W "Table") rfl rfl) (jv 0) (ja (jv 6) an)))
 c0))))
 (cc (bU m (jv 3))
 c0))))
theorem Eg {k:Nat}(T:TT K mg)(Z:Zt K mg)(IH:IT P w base T k)(B:rE mg base)(TC:∀ i,i<38->∀ c,M0 i=some c->(T.fd i).code=.ref c):OT P w base T k 29 :=
 Jc 29 (fn:=IP) (N:=["book","saying","play","names","table","row"]) T IH (TC 29 (by decide) _ rfl) rfl ⟨rfl,rfl,rfl,by decide +kernel,rfl,by decide +kernel,by decide +kernel⟩ rfl rfl rfl fun A outer s H E hr m u c cm ck nd=>by
 exact(cc (sx m (cA (c 17 rfl rfl) (ja (jv 0) an)))
 (cc (sn (i:=3) m nd (cR (op:=.add) (bW (jv 0) ji) (bW (jv 0) ji)))
 (cc (sx m (cA (c 3 rfl rfl) (ja (jv 3) (ja (jv 1) an))))
 (cc (sx m (cA (c 27 rfl rfl) (ja (jv 0) (ja (jv 2) an))))
 (cc (dC m (oF (tp (jv 2))) (cc (SG m)
 c0) c0)
 (cc (sn (i:=4) m nd (Kl (ck 20 (W "Table") rfl rfl) (ja (jv 3) (ja (jl (ja (jv 1) an)) an))))
 (cc (G6 (i:=5) m nd (SN u (pH (W "Table") Z.c_Table Z.a_Table_row_of (jv 4)) (jv 1)))
 (cc (bU m (bW (Ke gN (c 28 rfl rfl) (jv 4) (jv 2) B rfl rfl (fun _=>rfl)) (Y6 ji)))
 c0))))))))
theorem Eb {k:Nat}(T:TT K mg)(Z:Zt K mg)(IH:IT P w base T k):OT P w base T k 30 :=
 eY 30 (fn:=sA) (N:=["_law_script","_law_k"]) T IH rfl ⟨rfl,rfl,rfl,by decide +kernel,rfl,by decide +kernel,by decide +kernel⟩ rfl rfl rfl fun bD A outer s H E hr m u c cm ck nd=>by
 exact(cc (dC m (dF (o:=.lt) u (jv 1) (fF cS eJ Z.b_len (ja (jv 0) an))) (cc (bU m (bW (jv 0) (jv 1)))
 c0) c0)
 (cc (dC m (dF (o:=.eq) u (jv 0) (jl an)) (cc (bU m ji)
 c0) c0)
 (cc (bU m (cR (op:=.add) (cR (op:=.mul) (bW (jv 0) (cR (op:=.mod) (jv 1) (fF cS eJ Z.b_len (ja (jv 0) an)))) ji) (jv 1)))
 c0)))
theorem El {k:Nat}(T:TT K mg)(Z:Zt K mg)(IH:IT P w base T k):OT P w base T k 31 :=
 eY 31 (fn:=uX) (N:=["_law_script","_law_k","_law_many","_law_drawn"]) T IH rfl ⟨rfl,rfl,rfl,by decide +kernel,rfl,by decide +kernel,by decide +kernel⟩ rfl rfl rfl fun bD A outer s H E hr m u c cm ck nd=>by
 exact(cc (sn (i:=3) m nd (cR (op:=.mod) (cR (op:=.mul) (cR (op:=.add) (cR (op:=.add) (cA (c 30 rfl rfl) (ja (jv 0) (ja (jv 1) an))) (cR (op:=.mul) ji (jv 1))) ji) ji) ji))
 (cc (bU m (cR (op:=.mod) (cR (op:=.mod) (cR (op:=.add) (cR (op:=.add) (cR (op:=.mul) (jv 3) (jv 3)) (cR (op:=.mul) ji (jv 3))) (jv 1)) ji) (jv 2)))
 c0))
theorem Ef {k:Nat}(T:TT K mg)(Z:Zt K mg)(IH:IT P w base T k):OT P w base T k 32 :=
 eY 32 (fn:=yF) (N:=["_law_script","_law_m","_law_many"]) T IH rfl ⟨rfl,rfl,rfl,by decide +kernel,rfl,by decide +kernel,by decide +kernel⟩ rfl rfl rfl fun bD A outer s H E hr m u c cm ck nd=>by
 exact(cc (sg m (cR (op:=.add) (bW (jv 1) ji) ji) (gi (jv 1) ji))
 (cc (bU m (cA (c 31 rfl rfl) (ja (jv 0) (ja (bW (jv 1) ji) (ja (jv 2) an)))))
 c0))
theorem Fk {k:Nat}(T:TT K mg)(Z:Zt K mg)(IH:IT P w base T k):OT P w base T k 33 :=
 eY 33 (fn:=uC) (N:=["_law_script","_law_m","_law_names_here","_law_deep","_law_left","_law_way","_law_one"]) T IH rfl ⟨rfl,rfl,rfl,by decide +kernel,rfl,by decide +kernel,by decide +kernel⟩ rfl rfl rfl fun bD A outer s H E hr m u c cm ck nd=>by
 exact(cc (sn (i:=5) m nd (cA (c 32 rfl rfl) (ja (jv 0) (ja (jv 1) (ja ji an)))))
 (cc (dC m (uA (uM m (dF (o:=.eq) u (jv 3) ji) (uJ (dF (o:=.lt) u (jv 5) ji)))) (cc (bU m (jt m (ja js (ja (bW (jv 2) (cA (c 32 rfl rfl) (ja (jv 0) (ja (jv 1) (ja (fF cS eJ Z.b_len (ja (jv 2) an)) an))))) an))))
 c0) c0)
 (cc (dC m (dF (o:=.eq) u (jv 5) ji) (cc (bU m (jt m (ja (bW (jl (ja js (ja js an))) (cA (c 32 rfl rfl) (ja (jv 0) (ja (jv 1) (ja ji an))))) an)))
 c0) c0)
 (cc (dC m (uA (Fz m (dF (o:=.gt) u (jv 5) ji) (uJ (dF (o:=.gt) u (bW (jv 4) ji) ji)))) (cc (sg m (cR (op:=.sub) (bW (jv 4) ji) ji) (gi (jv 4) ji))
 (cc (sn (i:=6) m nd (cA (c 33 rfl rfl) (ja (jv 0) (ja (jv 1) (ja (jv 2) (ja (cR (op:=.sub) (jv 3) ji) (ja (jv 4) an)))))))
 (cc (dC m (dF (o:=.eq) u (jv 5) ji) (cc (bU m (jt m (ja js (ja (jv 6) (ja (cA (c 33 rfl rfl) (ja (jv 0) (ja (jv 1) (ja (jv 2) (ja (cR (op:=.sub) (jv 3) ji) (ja (jv 4) an)))))) an)))))
 c0) c0)
 (cc (bU m (jt m (ja (bW (jl (ja js (ja js (ja js an)))) (cR (op:=.sub) (jv 5) ji)) (ja (jv 6) an))))
 c0)))) c0)
 (cc (sn (i:=6) m nd (cA (c 33 rfl rfl) (ja (jv 0) (ja (jv 1) (ja (jv 2) (ja (cR (op:=.sub) (jv 3) ji) (ja (jv 4) an)))))))
 (cc (dC m (uA (uM m (dF (o:=.eq) u (jv 5) ji) (uJ (dF (o:=.gt) u (jv 5) ji)))) (cc (bU m (jt m (ja js (ja (jv 6) an))))
 c0) c0)
 (cc (bU m (jt m (ja (bW (jl (ja js (ja js (ja js (ja js an))))) (cR (op:=.sub) (jv 5) ji)) (ja (jv 6) (ja (cA (c 33 rfl rfl) (ja (jv 0) (ja (jv 1) (ja (jv 2) (ja (cR (op:=.sub) (jv 3) ji) (ja (jv 4) an)))))) an)))))
 c0)))))))
theorem Ej {k:Nat}(T:TT K mg)(Z:Zt K mg)(IH:IT P w base T k):OT P w base T k 34 :=
 eY 34 (fn:=wN) (N:=["_law_script","_law_m","_law_some","_law_turn","_law_row","_law_foe","_law_friend"]) T IH rfl ⟨rfl,rfl,rfl,by decide +kernel,rfl,by decide +kernel,by decide +kernel⟩ rfl rfl rfl fun bD A outer s H E hr m u c cm ck nd=>by
 exact(cc (sn (i:=2) m nd (jl (ja js (ja js (ja js (ja js (ja js (ja js (ja js (ja js an))))))))))
 (cc (sn (i:=3) m nd (cA (c 32 rfl rfl) (ja (jv 0) (ja (jv 1) (ja ji an)))))
 (cc (sn (i:=4) m nd (cR (op:=.add) (FZ (jv 2) (os (jv 3)) on) (FZ (jv 2) on (os (jv 3)))))
 (cc (sn (i:=5) m nd (cR (op:=.add) ji (cA (c 32 rfl rfl) (ja (jv 0) (ja (jv 1) (ja ji an))))))
 (cc (sn (i:=6) m nd (cR (op:=.add) ji (cA (c 32 rfl rfl) (ja (jv 0) (ja (jv 1) (ja ji an))))))
 (cc (bU m (jt m (ja (zA kF jN Z.b_tuple (ja (FZ (jv 4) on (os (jv 5))) an)) (ja (zA kF jN Z.b_tuple (ja (FZ (jv 4) (os (jv 5)) (os (cR (op:=.add) (jv 5) (jv 6)))) an)) an))))
 c0))))))
noncomputable abbrev Gb:List Str:=["_law_script","_law_at","_law_lamps","_law_most","_law_seed","_law_made","_law_k","_law_drawn"]
theorem Cr {k:Nat}(T:TT K mg)(Z:Zt K mg)(IH:IT P w base T k):OT P w base T k 35 :=
 eY 35 (fn:=yQ) (N:=Gb) T IH rfl ⟨rfl,rfl,rfl,by decide +kernel,rfl,by decide +kernel,by decide +kernel⟩ rfl rfl rfl fun bD A outer s H E hr m u c cm ck nd=>by
 exact(cc (sn (i:=4) m nd (cA (c 31 rfl rfl) (ja (jv 0) (ja (jv 1) (ja (cR (op:=.pow) ji ji) an)))))
 (cc (sn (i:=5) m nd (jl an))
 (cc (G0 (i:=6) m nd (J8 m Z.b_range (ja (cA (c 31 rfl rfl) (ja (jv 0) (ja (cR (op:=.add) (jv 1) ji) (ja (cR (op:=.add) (jv 3) ji) an)))) an)) (cc (G6 (i:=7) m nd (cR (op:=.mod) (cR (op:=.mul) (cR (op:=.add) (cR (op:=.add) (jv 4) (cR (op:=.mul) (cR (op:=.mul) ji (jv 6)) (jv 6))) (cR (op:=.mul) ji (jv 6))) ji) ji))
 (cc (sx m (HC (jv 5) (ja (zA kF jN Z.b_tuple (ja (oH m (own:=["_law_j"]) (cn:=["_law_drawn"]) (aL:=[7]) (one:=true) (lY (on:=(aI (cE 35)).names) (N:=Gb) (by decide +kernel)) (J8 m Z.b_range (ja (jv 2) an)) (fun _ _ _ _=>(b1 (gn (show(["_law_j","_law_drawn"]:List Str).Nodup by decide +kernel)))) (fun _ _ _ _=>qn) (fun _ _ _ _=>(nO (o:=.eq) u (cR (op:=.mod) (cR (op:=.fdiv) (bY 1) (bW (jl (ja ji (ja ji (ja ji (ja ji an))))) (jv 0))) ji) ji))) an)) an)))
 c0)))
 (cc (bU m (jv 5))
 c0))))
noncomputable abbrev Aa:List Str:=["_law_names_here","_law_saying_here","_law_play_here","_law_turn","_law_head","_law_k","_law_one","_law_other"]
theorem By {k:Nat}(T:TT K mg)(Z:Zt K mg)(IH:IT P w base T k):OT P w base T k 36 :=
 eY 36 (fn:=wK) (N:=Aa) T IH rfl ⟨rfl,rfl,rfl,by decide +kernel,rfl,by decide +kernel,by decide +kernel⟩ rfl rfl rfl fun bD A outer s H E hr m u c cm ck nd=>by
 exact(cc (sn (i:=4) m nd (bW (bY 1) ji))
 (cc (dC m (dF (o:=.eq) u (jv 4) js) (cc (bU m (bW (bW (bY 2) (jv 3)) (RL m u (bY 0) (ja (bW (bY 1) ji) an))))
 c0) c0)
 (cc (dC m (uA (uM m (dF (o:=.eq) u (jv 4) js) (uJ (dF (o:=.eq) u (jv 4) js)))) (cc (bU m (nO (o:=.eq) u (jv 4) js))
 c0) c0)
 (cc (dC m (dF (o:=.eq) u (jv 4) js) (cc (bU m (kM (nO (o:=.gt) u (jv 3) ji) (jH (cA (c 36 rfl rfl) (ja (bY 0) (ja (bW (bY 1) ji) (ja (bY 2) (ja (cR (op:=.sub) (jv 3) ji) an))))))))
 c0) c0)
 (cc (dC m (dF (o:=.eq) u (jv 4) js) (cc (bU m (nO (o:=.ne) u (oH m (own:=["_law_k"]) (cn:=["_law_names_here","_law_saying_here","_law_play_here"]) (aL:=[0,1,2]) (one:=true) (lY (on:=(aI (cE 36)).names) (N:=Aa) (by decide +kernel)) (J8 m Z.b_range (ja (cR (op:=.add) (jv 3) ji) an)) (fun _ _ _ _=>(b1 (gn (show(["_law_k","_law_names_here","_law_saying_here","_law_play_here"]:List Str).Nodup by decide +kernel)))) (fun _ _ _ _=>(qc (tp (cA ((c 36 rfl rfl).uF) (ja (bY 1) (ja (bW (bY 2) ji) (ja (bY 3) (ja (jv 0) an)))))) qn)) (fun _ _ _ _=>(jv 0))) (jl an)))
 c0) c0)
 (cc (dC m (dF (o:=.eq) u (jv 4) js) (cc (bU m (nO (o:=.eq) u (oH m (own:=["_law_k"]) (cn:=["_law_names_here","_law_saying_here","_law_play_here"]) (aL:=[0,1,2]) (one:=true) (lY (on:=(aI (cE 36)).names) (N:=Aa) (by decide +kernel)) (J8 m Z.b_range (ja (cR (op:=.add) (jv 3) ji) an)) (fun _ _ _ _=>(b1 (gn (show(["_law_k","_law_names_here","_law_saying_here","_law_play_here"]:List Str).Nodup by decide +kernel)))) (fun _ _ _ _=>(qc (oF (tp (cA ((c 36 rfl rfl).uF) (ja (bY 1) (ja (bW (bY 2) ji) (ja (bY 3) (ja (jv 0) an))))))) qn)) (fun _ _ _ _=>(jv 0))) (jl an)))
 c0) c0)
 (cc (dC m (dF (o:=.eq) u (jv 4) js) (cc (G0 (i:=5) m nd (Jq m Z.b_range (ja (jv 3) (ja (Y6 ji) (ja (Y6 ji) an)))) (cc (dC m (tp (cA (c 36 rfl rfl) (ja (bY 0) (ja (bW (bY 1) ji) (ja (bY 2) (ja (jv 5) an)))))) (cc (bU m jb)
 c0) c0)
 (cc (dC m (oF (tp (cA (c 36 rfl rfl) (ja (bY 0) (ja (bW (bY 1) ji) (ja (bY 2) (ja (jv 5) an))))))) (cc (bU m jb)
 c0) c0)
 c0)))
 (cc (bU m jb)
 c0)) c0)
 (cc (sn (i:=6) m nd (cA (c 36 rfl rfl) (ja (bY 0) (ja (bW (bY 1) ji) (ja (bY 2) (ja (jv 3) an))))))
 (cc (dC m (dF (o:=.eq) u (jv 4) js) (cc (bU m (GX (jv 6)))
 c0) c0)
 (cc (sn (i:=7) m nd (cA (c 36 rfl rfl) (ja (bY 0) (ja (bW (bY 1) ji) (ja (bY 2) (ja (jv 3) an))))))
 (cc (dC m (dF (o:=.eq) u (jv 4) js) (cc (bU m (kM (jv 6) (jH (jv 7))))
 c0) c0)
 (cc (dC m (dF (o:=.eq) u (jv 4) js) (cc (bU m (GO (jv 6) (jH (jv 7))))
 c0) c0)
 (cc (dC m (dF (o:=.eq) u (jv 4) js) (cc (bU m (GO (jv 7) (jH (GX (jv 6)))))
 c0) c0)
 (cc (bU m (nO (o:=.eq) u (jv 6) (jv 7)))
 c0))))))))))))))
noncomputable abbrev Ge:List Str:=["_law_script","_law_m","_law_foe","_law_friend","_law_names_here","_law_one","_law_other","_law_play_here","_law_book","_law_turn","_law_wanting","_law_k","_law_met"]
theorem Bw {k:Nat}(T:TT K mg)(Z:Zt K mg)(IH:IT P w base T k):OT P w base T k 37 :=
 eY 37 (fn:=SO) (N:=Ge) T IH rfl ⟨rfl,rfl,rfl,by decide +kernel,rfl,by decide +kernel,by decide +kernel⟩ rfl rfl rfl fun bD A outer s H E hr m u c cm ck nd=>by
 exact(cc (sn (i:=1) m nd (jl (ja ji an)))
 (cc (sg m (cA (c 34 rfl rfl) (ja (jv 0) (ja (jv 1) an))) (gt (gc (gn (i:=2) nd) (gc (gn (i:=3) nd) nn))))
 (cc (G6 (i:=4) m nd (cR (op:=.add) (jv 2) (jv 3)))
 (cc (sn (i:=5) m nd (cA (c 33 rfl rfl) (ja (jv 0) (ja (jv 1) (ja (bY 4) (ja ji (ja (jl (ja ji an)) an)))))))
 (cc (G6 (i:=6) m nd (cA (c 33 rfl rfl) (ja (jv 0) (ja (jv 1) (ja (bY 4) (ja ji (ja (jl (ja ji an)) an)))))))
 (cc (G6 (i:=7) m nd (cR (op:=.add) (cA (c 35 rfl rfl) (ja (jv 0) (ja ji (ja (fF cS eJ Z.b_len (ja (bY 4) an)) (ja ji an))))) (cA (c 35 rfl rfl) (ja (jv 0) (ja ji (ja (fF cS eJ Z.b_len (ja (bY 4) an)) (ja ji an)))))))
 (cc (sn (i:=8) m nd (jt m (ja (jv 2) (ja (jv 3) (ja (jt m an) (ja (jt m an) (ja (jt m (ja (jt m (ja ji (ja (jt m (ja js an)) an))) an)) an)))))))
 (cc (G0 (i:=9) m nd (J8 m Z.b_range (ja (fF cS eJ Z.b_len (ja (bY 7) an)) an)) (cc (sn (i:=10) m nd jb)
 (cc (G0 (i:=11) m nd (J8 m Z.b_range (ja (cR (op:=.add) (jv 9) ji) an)) (cc (Y4 (i:=12) m nd (own:=["_law_j"]) (cn:=["_law_names_here","_law_other","_law_play_here"]) (aL:=[4,6,7]) (one:=true) (lY (on:=(aI (cE 37)).names) (N:=Ge) (by decide +kernel)) (Kr m Z.b_range (ja (jv 11) (ja (cR (op:=.add) (jv 9) ji) an))) (fun _ _ _ _=>(b1 (gn (show(["_law_j","_law_names_here","_law_other","_law_play_here"]:List Str).Nodup by decide +kernel)))) (fun _ _ _ _=>(qc (tp (cA ((c 36 rfl rfl).uF) (ja (bY 1) (ja (bY 2) (ja (bY 3) (ja (jv 0) an)))))) qn)) (fun _ _ _ _=>(jv 0)))
 (cc (sn (i:=10) m nd (GO (jv 10) (jH (kM (cA (c 36 rfl rfl) (ja (bY 4) (ja (jv 5) (ja (bY 7) (ja (jv 11) an))))) (jH (nO (o:=.eq) u (jv 12) (jl an)))))))
 c0)))
 (cc (dC m (dF (o:=.ne) u (cA (c 29 rfl rfl) (ja (jv 8) (ja (cA (c 5 rfl rfl) (ja (jv 5) (ja (bY 6) an))) (ja (FZ (bY 7) on (os (cR (op:=.add) (jv 9) ji))) an)))) (GX (jv 10))) (cc (bU m jb)
 c0) c0)
 c0))))
 (cc (bU m jb)
 c0)))))))))
theorem Dq {k:Nat}(T:TT K mg)(Z:Zt K mg)(IH:IT P w base T k):mX P w K mg base (2*k+1+1) (aM G (k+1)) 38 :=
 TU (T:=gN) (n:=2) (x:=(.ix (.v 1) (.v 0))) rfl P2 rfl rfl (fun _ _ _ _ us hl=>match us,hl with|[_],_=>rfl) fun clos a c' A outer s H hr=>by
 have m:=lC G (Nat.le_refl k)
 have u:=EB hr
 have c:=xD (X:=MX P w K mg base gN clos a c' A outer s H) T IH rfl rfl rfl rfl rfl hr
 have cm:=wV (X:=MX P w K mg base gN clos a c' A outer s H) T IH rfl rfl rfl rfl rfl hr
 exact(bW (jv 1) (Ju 0))
theorem Hc {k:Nat}(T:TT K mg)(Z:Zt K mg)(IH:IT P w base T k):∀ f Tx,LT f=some Tx->mX P w K mg base (2*k+1+1) (aM G (k+1)) f:=by
 intro f Tx h
 unfold LT at h
 split at h
 ·exact Dq T Z IH
 ·cases h
theorem Kn {k:Nat}(T:TT K mg)(Z:Zt K mg)(B:rE mg base)(TC:∀ i,i<38->∀ c,M0 i=some c->(T.fd i).code=.ref c)(IH:IT P w base T k)(IL:ZL P w K mg base k):∀ i,i<38->OT P w base T k i
 |0,_=>Ij T Z IH
 |1,_=>Ho T Z IH
 |2,_=>Ie T Z IH
 |3,_=>Ip T Z IH
 |4,_=>Hx T Z IH
 |5,_=>Hr T Z IH
 |6,_=>Ir T Z IH
 |7,_=>Gm T Z IH
 |8,_=>Ia T Z IH
 |9,_=>Ib T Z IH
 |10,_=>Bj T Z IH
 |11,_=>Fj T Z IH
 |12,_=>Fg T Z IH
 |13,_=>Cj T Z IH
 |14,_=>Ds T Z IH
 |15,_=>Fe T Z IH
 |16,_=>Fu T Z IH
 |17,_=>Ec T Z IH
 |18,_=>Cv T Z IH
 |19,_=>Co T Z IH
 |20,_=>Cp T Z IH
 |21,_=>Fc T Z IH
 |22,_=>Dc T Z IH
 |23,_=>Du T Z IH
 |24,_=>Bd T Z IH
 |25,_=>Bt T Z IH
 |26,_=>Dn T Z IH
 |27,_=>Df T Z IH
 |28,_=>Fd T Z IH IL
 |29,_=>Eg T Z IH B TC
 |30,_=>Eb T Z IH
 |31,_=>El T Z IH
 |32,_=>Ef T Z IH
 |33,_=>Fk T Z IH
 |34,_=>Ej T Z IH
 |35,_=>Cr T Z IH
 |36,_=>By T Z IH
 |37,_=>Bw T Z IH
 |n+38,h=>absurd h (by omega)
end
theorem PN:∀(ns:List Int)(st:aA),ns.length<=63->(∀ p∈[(jE,257)],∃ P,st P=some (.cod p.1))->aM G 16 R5 [.bF (ns.map .int)] st (fun d _=>d=.bl true) fun _ _=>False:=fun ns st _ hc =>
 Cg (k:=0) (G:=G) (κ:=jE) (iwa:=C9) (il:=R5) (inm:=vF) (is:=fK) (ipl:=rB) (iho:=JY) (ih:=dO) (iB:=hJ) (im:=lP) (ic:=rP) (ich:=C4) (ics:=pC) (icp:=sH) (iti:=pS) (itd:=sF) (ihl:=qP) (ibk:=vU) (iy:=kG) (dJ:=gR) (eZ:=qR) (ist:=vX) (iz:=mY) (ie:=nW) (irr:=kI) (iw:=eS) (ipo:=pL) (ima:=lM) (lK:=qI) (iph:=vW) (inh:=yK)
 (hc _ (List.mem_cons_self ..)) rfl rfl rfl rfl rfl rfl rfl rfl rfl rfl
 (fun b B hs hd hc k st Q E hQ=>KU (G:=G) (ir:=kW) (eZ:=qR) (dJ:=gR) (iy:=kG) (ia:=oC) (iap:=sN) (io:=vM) (il:=yR) (iaw:=uV) (ipi:=mY) (ip:=BB) (iw:=D4) (ibk:=vU) (ih:=eS) (ib:=nT) rfl rfl rfl rfl rfl rfl rfl rfl rfl rfl rfl rfl rfl rfl rfl B hs hd hc hQ)
 rfl rfl rfl rfl rfl rfl rfl rfl rfl rfl rfl rfl rfl rfl rfl rfl rfl rfl rfl
theorem FT {α:Type}{P:List α->Prop}(h:∀ a0,P [a0]):∀ us:List α,us.length=1->P us
 |[a0],_=>h a0
theorem ln2 {α:Type}{P:List α->Prop}(h:∀ a0 a1,P [a0,a1]):∀ us:List α,us.length=2->P us
 |[a0,a1],_=>h a0 a1
theorem uB {α:Type}{P:List α->Prop}(h:∀ a0 a1 a2,P [a0,a1,a2]):∀ us:List α,us.length=3->P us
 |[a0,a1,a2],_=>h a0 a1 a2
theorem Fw {α:Type}{P:List α->Prop}(h:∀ a0 a1 a2 a3,P [a0,a1,a2,a3]):∀ us:List α,us.length=4->P us
 |[a0,a1,a2,a3],_=>h a0 a1 a2 a3
theorem Kq {α:Type}{P:List α->Prop}(h:∀ a0 a1 a2 a3 a4,P [a0,a1,a2,a3,a4]):∀ us:List α,us.length=5->P us
 |[a0,a1,a2,a3,a4],_=>h a0 a1 a2 a3 a4
theorem Gf:∀ i,i<38->CH (oI i) (eV i) (lV i) (cE i)
 |0,_=>fun _ _ _ _ _ _=>FT fun _=>rfl
 |1,_=>fun _ _ _ _ _ _=>ln2 fun _ _=>rfl
 |2,_=>fun _ _ _ _ _ _=>uB fun _ _ _=>rfl
 |3,_=>fun _ _ _ _ _ _=>ln2 fun _ _=>rfl
 |4,_=>fun _ _ _ _ _ _=>FT fun _=>rfl
 |5,_=>fun _ _ _ _ _ _=>ln2 fun _ _=>rfl
 |6,_=>fun _ _ _ _ _ _=>FT fun _=>rfl
 |7,_=>fun _ _ _ _ _ _=>uB fun _ _ _=>rfl
 |8,_=>fun _ _ _ _ _ _=>ln2 fun _ _=>rfl
 |9,_=>fun _ _ _ _ _ _=>uB fun _ _ _=>rfl
 |10,_=>fun _ _ _ _ _ _=>ln2 fun _ _=>rfl
 |11,_=>fun _ _ _ _ _ _=>uB fun _ _ _=>rfl
 |12,_=>fun _ _ _ _ _ _=>FT fun _=>rfl
 |13,_=>fun _ _ _ _ _ _=>ln2 fun _ _=>rfl
 |14,_=>fun _ _ _ _ _ _=>ln2 fun _ _=>rfl
 |15,_=>fun _ _ _ _ _ _=>uB fun _ _ _=>rfl
 |16,_=>fun _ _ _ _ _ _=>FT fun _=>rfl
 |17,_=>fun _ _ _ _ _ _=>FT fun _=>rfl
 |18,_=>fun _ _ _ _ _ _=>ln2 fun _ _=>rfl
 |19,_=>fun _ _ _ _ _ _=>uB fun _ _ _=>rfl
 |20,_=>fun _ _ _ _ _ _=>uB fun _ _ _=>rfl
 |21,_=>fun _ _ _ _ _ _=>ln2 fun _ _=>rfl
 |22,_=>fun _ _ _ _ _ _=>ln2 fun _ _=>rfl
 |23,_=>fun _ _ _ _ _ _=>ln2 fun _ _=>rfl
 |24,_=>fun _ _ _ _ _ _=>uB fun _ _ _=>rfl
 |25,_=>fun _ _ _ _ _ _=>ln2 fun _ _=>rfl
 |26,_=>fun _ _ _ _ _ _=>ln2 fun _ _=>rfl
 |27,_=>fun _ _ _ _ _ _=>ln2 fun _ _=>rfl
 |28,_=>fun _ _ _ _ _ _=>uB fun _ _ _=>rfl
 |29,_=>fun _ _ _ _ _ _=>uB fun _ _ _=>rfl
 |30,_=>fun _ _ _ _ _ _=>ln2 fun _ _=>rfl
 |31,_=>fun _ _ _ _ _ _=>uB fun _ _ _=>rfl
 |32,_=>fun _ _ _ _ _ _=>uB fun _ _ _=>rfl
 |33,_=>fun _ _ _ _ _ _=>Kq fun _ _ _ _ _=>rfl
 |34,_=>fun _ _ _ _ _ _=>ln2 fun _ _=>rfl
 |35,_=>fun _ _ _ _ _ _=>Fw fun _ _ _ _=>rfl
 |36,_=>fun _ _ _ _ _ _=>Fw fun _ _ _ _=>rfl
 |37,_=>fun _ _ _ _ _ _=>FT fun _=>rfl
 |n+38,h=>absurd h (by omega)
noncomputable abbrev FF (K:PySem.W.Frag)(mg:Str->Option Value)(i:Nat):=sJ K mg (oI i) (eV i) (cE i) (lN i) (M0 i)
theorem Kf {K:PySem.W.Frag}{mg:Str->Option Value}(F0:FF K mg 0)(F1:FF K mg 1)(F2:FF K mg 2)(F3:FF K mg 3)(F4:FF K mg 4)(F5:FF K mg 5)(F6:FF K mg 6)(F7:FF K mg 7)(F8:FF K mg 8)(F9:FF K mg 9)(F10:FF K mg 10)(F11:FF K mg 11)(F12:FF K mg 12)(F13:FF K mg 13)(F14:FF K mg 14)(F15:FF K mg 15)(F16:FF K mg 16)(F17:FF K mg 17)(F18:FF K mg 18)(F19:FF K mg 19)(F20:FF K mg 20)(F21:FF K mg 21)(F22:FF K mg 22)(F23:FF K mg 23)(F24:FF K mg 24)(F25:FF K mg 25)(F26:FF K mg 26)(F27:FF K mg 27)(F28:FF K mg 28)(F29:FF K mg 29)(F30:FF K mg 30)(F31:FF K mg 31)(F32:FF K mg 32)(F33:FF K mg 33)(F34:FF K mg 34)(F35:FF K mg 35)(F36:FF K mg 36)(F37:FF K mg 37):∀ i,i<38->sJ K mg (oI i) (eV i) (cE i) (lN i) (M0 i)
 |0,_=>F0
 |1,_=>F1
 |2,_=>F2
 |3,_=>F3
 |4,_=>F4
 |5,_=>F5
 |6,_=>F6
 |7,_=>F7
 |8,_=>F8
 |9,_=>F9
 |10,_=>F10
 |11,_=>F11
 |12,_=>F12
 |13,_=>F13
 |14,_=>F14
 |15,_=>F15
 |16,_=>F16
 |17,_=>F17
 |18,_=>F18
 |19,_=>F19
 |20,_=>F20
 |21,_=>F21
 |22,_=>F22
 |23,_=>F23
 |24,_=>F24
 |25,_=>F25
 |26,_=>F26
 |27,_=>F27
 |28,_=>F28
 |29,_=>F29
 |30,_=>F30
 |31,_=>F31
 |32,_=>F32
 |33,_=>F33
 |34,_=>F34
 |35,_=>F35
 |36,_=>F36
 |37,_=>F37
 |n+38,h=>absurd h (by omega)
theorem all_mk {P:Program}{w:World}{K:PySem.W.Frag}{mg:Str->Option Value}{fa:Addr}(hfa:mg "law" = some (.ref fa))(Z:Zt K mg)(F:∀ i,i<38->sJ K mg (oI i) (eV i) (cE i) (lN i) (M0 i)):
 ∃ fd:FuncData,(∀(s:Shared)(u:Value),BindsTo s fd ⟨[u],[]⟩ [("_law_script", u)])/\∀ base:Heap,K.In base->base.Ns mainGlobals mg->rE mg base->eI P w K mg base dD (2*16) fa fd ["_law_script"] (eU K (aM G 16) 37):=by
 obtain⟨_,d,_⟩:=F 0 (by decide)
 obtain⟨T,TC⟩:=FC 38 Gf F d
 have e:=hfa.symm.trans (show mg "law" = some (.ref (T.a 37))from T.mg 37 (by decide))
 cases e
 exact⟨T.fd 37,LD (T.fn 37 (by decide)) (Gf 37 (by decide)),fun base _ _ B=>(CA T (fun k IH IL=>⟨Kn T Z B TC IH IL,Hc T Z IH⟩) 16).1 37 (by decide)⟩
end L3
open PySem PySem.W PyProof.Rows
local macro_rules|`(tactic| walk_at"ft")=>`(tactic| (refine' L3.qJ.Z7 (L3.Ep (by assumption) (by assumption) ?a ?l ?c ?k);(case a=>k_is);(case l=>k_is);(case c=>k_is);(case k=>k_is)))
local macro_rules|`(tactic| walk_at"fi")=>`(tactic| (refine' L3.qJ.Z7 (L3.Cy (by assumption) (by assumption) ?cl ?mk ?kp ?a ?fn ?l ?cc ?k);(case cl=>k_is);(case mk=>k_is);(case kp=>k_is);(case a=>k_is);(case fn=>k_is);(case l=>k_is);(case cc=>k_is);(case k=>k_is)))
local macro_rules|`(tactic| walk_at"fm")=>`(tactic| (refine' L3.qJ.Z7 (L3.Dg (by assumption) (by assumption) ?cl ?pg ?hd ?po ?sa ?a ?fn ?l ?cc ?k);(case cl=>k_is);(case pg=>k_is);(case hd=>k_is);(case po=>k_is);(case sa=>k_is);(case a=>k_is);(case fn=>k_is);(case l=>k_is);(case cc=>k_is);(case k=>k_is)))
local macro_rules|`(tactic| walk_at"fc")=>`(tactic| (refine' L3.ZZ ?cl ?pg ?hd ?po ?sa;(case cl=>k_is);(case pg=>k_is);(case hd=>k_is);(case po=>k_is);(case sa=>k_is)))
local macro_rules|`(tactic| walk_at"fa")=>`(tactic| (refine' L3.XD ?cl ?na;(case cl=>k_is);(case na=>k_is)))
local macro_rules|`(tactic| walk_at"fn")=>`(tactic| (refine' PySem.W.mg_none_of (by assumption) (by assumption) ?x;(case x=>k_is)))
local macro_rules|`(tactic| walk_at"fg")=>`(tactic| (refine' L3.ZU (by assumption) (by assumption) ?a;(case a=>k_is)))
def PySem.W.Fast.tw4818374801275767079:Unit:=()
def PySem.W.Fast.tw12816662481919889942:Unit:=()
def PySem.W.Fast.tw8455371542857211522:Unit:=()
def PySem.W.Fast.tw5954320694715194719:Unit:=()
def PySem.W.Fast.tw18073336674582542307:Unit:=()
def PySem.W.Fast.tw2283773152353504675:Unit:=()
def PySem.W.Fast.tw15746556266984949638:Unit:=()
def PySem.W.Fast.tw15617519984509491016:Unit:=()
def PySem.W.Fast.tw3680832942175728255:Unit:=()
def PySem.W.Fast.tw18198022224162674802:Unit:=()
def PySem.W.Fast.tw17806243112829301885:Unit:=()
def PySem.W.Fast.tw11581007222488834165:Unit:=()
def PySem.W.Fast.tw17843316818752830187:Unit:=()
def PySem.W.Fast.tw18334644650428878387:Unit:=()
def PySem.W.Fast.tw4519232505721888667:Unit:=()
def PySem.W.Fast.tw3735018790152678608:Unit:=()
def PySem.W.Fast.tw17983933912412159071:Unit:=()
def PySem.W.Fast.tw9949745289374800410:Unit:=()
def PySem.W.Fast.tw7856088022575866899:Unit:=()
def PySem.W.Fast.tw9148470722327859748:Unit:=()
def PySem.W.Fast.tw9940881878179554082:Unit:=()
def PySem.W.Fast.tw12221458592120022310:Unit:=()
def PySem.W.Fast.tw6044491340515328467:Unit:=()
def PySem.W.Fast.tw5354512146780618262:Unit:=()
def PySem.W.Fast.tw2406977721561046224:Unit:=()
def PySem.W.Fast.tw700322481430957047:Unit:=()
def PySem.W.Fast.tw13947210648526303929:Unit:=()
def PySem.W.Fast.tw15191453767085980131:Unit:=()
def PySem.W.Fast.tw1050947678160084162:Unit:=()
def PySem.W.Fast.tw4744369524706858092:Unit:=()
def PySem.W.Fast.tw4504869871782542962:Unit:=()
def PySem.W.Fast.tw7875101825088528019:Unit:=()
def PySem.W.Fast.tw16142352763287224245:Unit:=()
def PySem.W.Fast.tw9621175679815632774:Unit:=()
def PySem.W.Fast.tw16744071612929978560:Unit:=()
def PySem.W.Fast.tw10587583363312278578:Unit:=()
def PySem.W.Fast.tw7025663515888316355:Unit:=()
def PySem.W.Fast.tw376771158042142665:Unit:=()
def PySem.W.Fast.tw16300722167655864679:Unit:=()
def PySem.W.Fast.tw16376773118993523033:Unit:=()
def PySem.W.Fast.tw10895408669994596466:Unit:=()
def PySem.W.Fast.tw11219683145784145358:Unit:=()
def PySem.W.Fast.tw15023102073948491820:Unit:=()
def PySem.W.Fast.tw5805048150848307937:Unit:=()
def PySem.W.Fast.tw6664859042826268945:Unit:=()
def PySem.W.Fast.tw10810673784325080824:Unit:=()
def PySem.W.Fast.tw1385993709885735078:Unit:=()
def PySem.W.Fast.tw17954120683869268513:Unit:=()
def PySem.W.Fast.tw5730707857790615721:Unit:=()
def PySem.W.Fast.tw16239007037588953450:Unit:=()
def PySem.W.Fast.tw1134931707901552191:Unit:=()
def PySem.W.Fast.tw11219615493065533146:Unit:=()
def PySem.W.Fast.tw14465249843141440548:Unit:=()
def PySem.W.Fast.tw11838724818072577756:Unit:=()
def PySem.W.Fast.tw2440751216746542832:Unit:=()
def PySem.W.Fast.tw17427369247070879078:Unit:=()
def PySem.W.Fast.tw5491315370092381885:Unit:=()
def PySem.W.Fast.tw13823904992444032402:Unit:=()
def PySem.W.Fast.tw3343702070823079505:Unit:=()
def PySem.W.Fast.tw13279679922596759462:Unit:=()
def PySem.W.Fast.tw13860083805515340166:Unit:=()
def PySem.W.Fast.tw14050650368370960372:Unit:=()
def PySem.W.Fast.tw10928387979313027941:Unit:=()
def PySem.W.Fast.tw2117510685095238788:Unit:=()
def PySem.W.Fast.tw7987659811006271497:Unit:=()
def PySem.W.Fast.tw18272119709938523287:Unit:=()
def PySem.W.Fast.tw13896561048463889129:Unit:=()
def PySem.W.Fast.tw11103583737986687331:Unit:=()
def PySem.W.Fast.tw6588808053725738662:Unit:=()
def PySem.W.Fast.tw315211781970700864:Unit:=()
def PySem.W.Fast.tw15591775209241314651:Unit:=()
def PySem.W.Fast.tw17387254024250318176:Unit:=()
def PySem.W.Fast.tw7092669652085340364:Unit:=()
def PySem.W.Fast.tw16672399249385005248:Unit:=()
def PySem.W.Fast.tw15345799938137654896:Unit:=()
def PySem.W.Fast.tw10322128958243171395:Unit:=()
def PySem.W.Fast.tw5279837280272337228:Unit:=()
def PySem.W.Fast.tw3890244135680652155:Unit:=()
set_option maxRecDepth 100000 in
set_option maxHeartbeats 0 in
theorem PySem.Challenge.cw_leastloss_k04_whole_waiting_holds : PySem.Challenge.rw_leastloss_k04_whole_waiting.Holds := by
 w_on;o_law;k_head;(case hw=>w_witness2)
 k_fill
 refine L3.Cc (tabs:=[(L3.jE,257)]) (l:=PySem.Challenge.rw_leastloss_k04_whole_waiting) (x :="_law_script") (r:=2*16) (k:=16) (f:=37) (G:=L3.G) ⟨rfl,by decide,by decide⟩ L3.PN (by decide) rfl rfl (fun w h Y=>PySem.W.km_in_of Y) (fun w h Y=>List.forall_mem_cons.mpr ⟨PySem.W.km_tabs_of Y 257 (by decide),fun _ h=>nomatch h⟩) ?t2 ?t3 ?F
 case t2=>intro w;refine List.forall_mem_cons.mpr ⟨?_,fun _ h=>nomatch h⟩<;>kernel_rfl
 case t3=>intro w;refine List.forall_mem_cons.mpr ⟨?_,fun _ h=>nomatch h⟩<;>kernel_rfl
 case F =>
 intro w mg fa h KX G hmg
 refine L3.all_mk hmg ?Z (L3.Kf ?F0 ?F1 ?F2 ?F3 ?F4 ?F5 ?F6 ?F7 ?F8 ?F9 ?F10 ?F11 ?F12 ?F13 ?F14 ?F15 ?F16 ?F17 ?F18 ?F19 ?F20 ?F21 ?F22 ?F23 ?F24 ?F25 ?F26 ?F27 ?F28 ?F29 ?F30 ?F31 ?F32 ?F33 ?F34 ?F35 ?F36 ?F37)
 case Z =>
  refine⟨?b_isinstance,?b_str,?b_len,?b_all,?b_tuple,?b_list,?b_reversed,?b_set,?b_any,?b_int,?b_bool,?b_range,?g_NO_NAMES,?g_LONGEST_NAME,?g_LETTERS,?g_DEEPEST,?g_SAYINGS_WITHIN,?g_PAST_WORDS,?g_MOST_LAMPS,?g_MOST_PROMISES,?g_HIGHEST_PRICE,?g_MOST_WISHES,?g_MOST_MUSTS,?g_MOST_PIECES,?c_Table,?a_Table_names,?a_Table_pieces,?a_Table_rows,?a_Table_row_of,?a_Table_first_memory,?a_Table_remembered_rows⟩
  case b_isinstance=>walk_at"fn"
  case b_str=>walk_at"fn"
  case b_len=>walk_at"fn"
  case b_all=>walk_at"fn"
  case b_tuple=>walk_at"fn"
  case b_list=>walk_at"fn"
  case b_reversed=>walk_at"fn"
  case b_set=>walk_at"fn"
  case b_any=>walk_at"fn"
  case b_int=>walk_at"fn"
  case b_bool=>walk_at"fn"
  case b_range=>walk_at"fn"
  case g_NO_NAMES=>refine' L3.NY KX G ?NO_NAMESa ?NO_NAMESl ?NO_NAMESf ?NO_NAMESz;(case NO_NAMESa=>k_is);(case NO_NAMESl=>k_is);(case NO_NAMESf=>kernel_rfl);(case NO_NAMESz=>kernel_rfl)
  case g_LONGEST_NAME=>walk_at"fg"
  case g_LETTERS=>refine' L3.As KX G ?LETTERSa ?LETTERSe;(case LETTERSa=>k_is);(case LETTERSe=>rfl)
  case g_DEEPEST=>walk_at"fg"
  case g_SAYINGS_WITHIN=>refine' L3.XU KX G ?SAYINGS_WITHINa ?SAYINGS_WITHINl ?SAYINGS_WITHINf;(case SAYINGS_WITHINa=>k_is);(case SAYINGS_WITHINl=>k_is);(case SAYINGS_WITHINf=>kernel_rfl)
  case g_PAST_WORDS=>refine' L3.NY KX G ?PAST_WORDSa ?PAST_WORDSl ?PAST_WORDSf ?PAST_WORDSz;(case PAST_WORDSa=>k_is);(case PAST_WORDSl=>k_is);(case PAST_WORDSf=>kernel_rfl);(case PAST_WORDSz=>kernel_rfl)
  case g_MOST_LAMPS=>walk_at"fg"
  case g_MOST_PROMISES=>walk_at"fg"
  case g_HIGHEST_PRICE=>walk_at"fg"
  case g_MOST_WISHES=>walk_at"fg"
  case g_MOST_MUSTS=>walk_at"fg"
  case g_MOST_PIECES=>walk_at"fg"
  case c_Table=>walk_at"fc"
  case a_Table_names=>walk_at"fa"
  case a_Table_pieces=>walk_at"fa"
  case a_Table_rows=>walk_at"fa"
  case a_Table_row_of=>walk_at"fa"
  case a_Table_first_memory=>walk_at"fa"
  case a_Table_remembered_rows=>walk_at"fa"
 case F0=>walk_at"ft"
 case F1=>walk_at"ft"
 case F2=>walk_at"ft"
 case F3=>walk_at"ft"
 case F4=>walk_at"ft"
 case F5=>walk_at"ft"
 case F6=>walk_at"ft"
 case F7=>walk_at"ft"
 case F8=>walk_at"ft"
 case F9=>walk_at"ft"
 case F10=>walk_at"ft"
 case F11=>walk_at"ft"
 case F12=>walk_at"ft"
 case F13=>walk_at"ft"
 case F14=>walk_at"ft"
 case F15=>walk_at"ft"
 case F16=>walk_at"ft"
 case F17=>walk_at"ft"
 case F18=>walk_at"ft"
 case F19=>walk_at"ft"
 case F20=>walk_at"fi"
 case F21=>walk_at"fm"
 case F22=>walk_at"fm"
 case F23=>walk_at"fm"
 case F24=>walk_at"fm"
 case F25=>walk_at"fm"
 case F26=>walk_at"ft"
 case F27=>walk_at"ft"
 case F28=>walk_at"ft"
 case F29=>refine' L3.YI KX G ?a29 ?l29 ?c29 ?k29;(case a29=>k_is);(case l29=>k_is);(case c29=>k_is);(case k29=>k_is)
 case F30=>walk_at"ft"
 case F31=>walk_at"ft"
 case F32=>walk_at"ft"
 case F33=>walk_at"ft"
 case F34=>walk_at"ft"
 case F35=>walk_at"ft"
 case F36=>walk_at"ft"
 case F37=>walk_at"ft"
